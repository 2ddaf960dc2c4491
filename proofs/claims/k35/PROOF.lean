import PyProof.Rows.All
import Wide.All
import OpenK.AllK
import Wide.FinOn
import KE.KStateDown
import HandS.ForMost
import HandS.Walk
import HandS.IsInst
import HandS.TupAny
import HandS.Style
import HandS.More
import HandS.Codes
import HandS.Defaults
import HandS.WordsExc
import HandS.Head0
import HandS.Head1
import HandS.Head2
import HandS.HeadEnd
import HandS.HeadHook1
import HandS.HeadHook2
import HandS.HeadHook3
import HandS.Deep
import HandS.Strs
import HandS.Star
import HandS.CallLocal
import PySem.Challenge.RW_keepsgoing_k35_settling
set_option Elab.async false
set_option linter.all false
set_option maxRecDepth 100000
set_option maxHeartbeats 0
namespace My
open PySem PySem.Spec PyProof.Rows L2
/-! ### the text -/
def topS (i : Nat) : Stmt := PySem.Challenge.pw_keepsgoing_k35_settling.main.body.getD i (.Pass ⟨0, 0, 0, 0⟩)
abbrev s_operands_of : Stmt := topS 2
abbrev s_not : Stmt := topS 4
abbrev s_and : Stmt := topS 5
abbrev s_or : Stmt := topS 6
abbrev s_xor : Stmt := topS 7
abbrev s_p_pick : Stmt := topS 8
abbrev s_p_truth_of : Stmt := topS 10
abbrev s_settled_values : Stmt := topS 11
abbrev s_run : Stmt := topS 12
abbrev s_codes_of : Stmt := topS 14
abbrev s_code : Stmt := topS 15
abbrev s_settle : Stmt := topS 17
abbrev s_begin : Stmt := topS 19
abbrev s_mixed : Stmt := topS 20
abbrev s_draw : Stmt := topS 21
abbrev s_draw_digit : Stmt := topS 22
abbrev s_pick : Stmt := topS 23
abbrev s_rare : Stmt := topS 24
abbrev s_pool : Stmt := topS 25
abbrev s_names : Stmt := topS 26
abbrev s_free_part : Stmt := topS 27
abbrev s_hangs_in : Stmt := topS 28
abbrev s_enter : Stmt := topS 29
abbrev s_side : Stmt := topS 30
abbrev s_linked : Stmt := topS 31
abbrev s_logic : Stmt := topS 32
abbrev s_truth_of : Stmt := topS 33
abbrev s_settled : Stmt := topS 34
abbrev s_alike : Stmt := topS 35
abbrev s_tuples : Stmt := topS 36
abbrev s_law : Stmt := topS 37
theorem sc_operands_of : FnScope ["expr", "word", "_", "part"] ["expr"] (defScope s_operands_of) := ⟨rfl, rfl, rfl, by decide +kernel, rfl, by decide +kernel, by decide +kernel⟩
theorem sc_not : FnScope ["a"] ["a"] (defScope s_not) := ⟨rfl, rfl, rfl, by decide +kernel, rfl, by decide +kernel, by decide +kernel⟩
theorem sc_and : FnScope ["a", "b"] ["a", "b"] (defScope s_and) := ⟨rfl, rfl, rfl, by decide +kernel, rfl, by decide +kernel, by decide +kernel⟩
theorem sc_or : FnScope ["a", "b"] ["a", "b"] (defScope s_or) := ⟨rfl, rfl, rfl, by decide +kernel, rfl, by decide +kernel, by decide +kernel⟩
theorem sc_xor : FnScope ["a", "b"] ["a", "b"] (defScope s_xor) := ⟨rfl, rfl, rfl, by decide +kernel, rfl, by decide +kernel, by decide +kernel⟩
theorem sc_p_pick : FnScope ["a", "b", "c"] ["a", "b", "c"] (defScope s_p_pick) := ⟨rfl, rfl, rfl, by decide +kernel, rfl, by decide +kernel, by decide +kernel⟩
theorem sc_p_truth_of : FnScope ["word", "operands", "rule"] ["word", "operands"] (defScope s_p_truth_of) := ⟨rfl, rfl, rfl, by decide +kernel, rfl, by decide +kernel, by decide +kernel⟩
theorem sc_settled_values : FnScope ["codes", "truths", "known", "changed", "at", "code", "truth"] ["codes", "truths"] (defScope s_settled_values) := ⟨rfl, rfl, rfl, by decide +kernel, rfl, by decide +kernel, by decide +kernel⟩
theorem sc_run : FnScope ["code", "truths", "known", "stack", "word", "number", "operands", "_"] ["code", "truths", "known"] (defScope s_run) := ⟨rfl, rfl, rfl, by decide +kernel, rfl, by decide +kernel, by decide +kernel⟩
theorem sc_codes_of : FnScope ["names", "exprs", "parts", "expr"] ["names", "exprs", "parts"] (defScope s_codes_of) := ⟨rfl, rfl, rfl, by decide +kernel, rfl, by decide +kernel, by decide +kernel⟩
theorem sc_code : FnScope ["names", "expr", "parts", "code", "waiting", "part"] ["names", "expr", "parts"] (defScope s_code) := ⟨rfl, rfl, rfl, by decide +kernel, rfl, by decide +kernel, by decide +kernel⟩
theorem sc_settle : FnScope ["names", "exprs", "parts", "truths"] ["names", "exprs", "parts", "truths"] (defScope s_settle) := ⟨rfl, rfl, rfl, by decide +kernel, rfl, by decide +kernel, by decide +kernel⟩
theorem sc_begin : FnScope ["_law_script", "_law_cell"] ["_law_script"] (defScope s_begin) := ⟨rfl, rfl, rfl, by decide +kernel, rfl, by decide +kernel, by decide +kernel⟩
theorem sc_mixed : FnScope ["_law_d", "_law_cell"] ["_law_d", "_law_cell"] (defScope s_mixed) := ⟨rfl, rfl, rfl, by decide +kernel, rfl, by decide +kernel, by decide +kernel⟩
theorem sc_draw : FnScope ["_law_d", "_law_many", "_law_cell"] ["_law_d", "_law_many"] (defScope s_draw) := ⟨rfl, rfl, rfl, by decide +kernel, rfl, by decide +kernel, by decide +kernel⟩
theorem sc_draw_digit : FnScope ["_law_d", "_law_many", "_law_pair"] ["_law_d", "_law_many"] (defScope s_draw_digit) := ⟨rfl, rfl, rfl, by decide +kernel, rfl, by decide +kernel, by decide +kernel⟩
theorem sc_pick : FnScope ["_law_d", "_law_row"] ["_law_d", "_law_row"] (defScope s_pick) := ⟨rfl, rfl, rfl, by decide +kernel, rfl, by decide +kernel, by decide +kernel⟩
theorem sc_rare : FnScope ["_law_d", "_law_many", "_law_amid"] ["_law_d", "_law_many"] (defScope s_rare) := ⟨rfl, rfl, rfl, by decide +kernel, rfl, by decide +kernel, by decide +kernel⟩
theorem sc_pool : FnScope ["_law_words", "_law_more", "_law_last"] [] (defScope s_pool) := ⟨rfl, rfl, rfl, by decide +kernel, rfl, by decide +kernel, by decide +kernel⟩
theorem sc_names : FnScope ["_law_d", "_law_many", "_law_pool_here", "_law_shift", "_law_found"] ["_law_d", "_law_many"] (defScope s_names) := ⟨rfl, rfl, rfl, by decide +kernel, rfl, by decide +kernel, by decide +kernel⟩
theorem sc_free_part : FnScope ["_law_d", "_law_own", "_law_pool_here", "_law_way", "_law_first", "_law_other", "_law_ring", "_law_arms"] ["_law_d", "_law_own", "_law_pool_here"] (defScope s_free_part) := ⟨rfl, rfl, rfl, by decide +kernel, rfl, by decide +kernel, by decide +kernel⟩
theorem sc_hangs_in : FnScope ["_law_expr", "_law_own", "_law_word", "_law_part"] ["_law_expr", "_law_own"] (defScope s_hangs_in) := ⟨rfl, rfl, rfl, by decide +kernel, rfl, by decide +kernel, by decide +kernel⟩
theorem sc_enter : FnScope ["_law_expr", "_law_own", "_law_found", "_law_part"] ["_law_expr", "_law_own", "_law_found"] (defScope s_enter) := ⟨rfl, rfl, rfl, by decide +kernel, rfl, by decide +kernel, by decide +kernel⟩
theorem sc_side : FnScope ["_law_d", "_law_own", "_law_frees", "_law_deep", "_law_way", "_law_word"] ["_law_d", "_law_own", "_law_frees", "_law_deep"] (defScope s_side) := ⟨rfl, rfl, rfl, by decide +kernel, rfl, by decide +kernel, by decide +kernel⟩
theorem sc_linked : FnScope ["_law_d", "_law_own", "_law_frees", "_law_link", "_law_deep", "_law_inner", "_law_word", "_law_row", "_law_side_here"] ["_law_d", "_law_own", "_law_frees", "_law_link", "_law_deep"] (defScope s_linked) := ⟨rfl, rfl, rfl, by decide +kernel, rfl, by decide +kernel, by decide +kernel⟩
theorem sc_logic : FnScope ["_law_word", "_law_row"] ["_law_word", "_law_row"] (defScope s_logic) := ⟨rfl, rfl, rfl, by decide +kernel, rfl, by decide +kernel, by decide +kernel⟩
theorem sc_truth_of : FnScope ["_law_expr", "_law_own", "_law_known", "_law_parts", "_law_truths", "_law_at", "_law_part"] ["_law_expr", "_law_own", "_law_known", "_law_parts", "_law_truths"] (defScope s_truth_of) := ⟨rfl, rfl, rfl, by decide +kernel, rfl, by decide +kernel, by decide +kernel⟩
theorem sc_settled : FnScope ["_law_own", "_law_exprs", "_law_parts", "_law_truths", "_law_known", "_law_turn", "_law_at", "_law_name"] ["_law_own", "_law_exprs", "_law_parts", "_law_truths"] (defScope s_settled) := ⟨rfl, rfl, rfl, by decide +kernel, rfl, by decide +kernel, by decide +kernel⟩
theorem sc_alike : FnScope ["_law_told", "_law_due", "_law_at"] ["_law_told", "_law_due"] (defScope s_alike) := ⟨rfl, rfl, rfl, by decide +kernel, rfl, by decide +kernel, by decide +kernel⟩
theorem sc_tuples : FnScope ["_law_d", "_law_many", "_law_found", "_law_step", "_law_number", "_law_at"] ["_law_d", "_law_many"] (defScope s_tuples) := ⟨rfl, rfl, rfl, by decide +kernel, rfl, by decide +kernel, by decide +kernel⟩
theorem sc_law : FnScope ["_law_script", "_law_d", "_law_many", "_law_pool_here", "_law_own", "_law_frees", "_law_step", "_law_exprs", "_law_at", "_law_parts", "_law_expr", "_law_rows", "_law_truths", "_law_told"] ["_law_script"] (defScope s_law) := ⟨rfl, rfl, rfl, by decide +kernel, rfl, by decide +kernel, by decide +kernel⟩
abbrev FnP (K : PySem.W.Frag) (x : Str) (st : Stmt) (f : Addr) (fd : FuncData) : Prop := FunD K x x (defArgs st) (defBody st) (defScope st) [] [] f fd
structure Tx (K : PySem.W.Frag) (mg : Str → Option Value) (w : World) where
  f_operands_of : Addr
  fd_operands_of : FuncData
  F_operands_of : FnP K "operands_of" s_operands_of f_operands_of fd_operands_of
  m_operands_of : mg "operands_of" = some (.ref f_operands_of)
  b_operands_of : Binds K fd_operands_of ["expr"] []
  f_not : Addr
  fd_not : FuncData
  F_not : FnP K "_not" s_not f_not fd_not
  m_not : mg "_not" = some (.ref f_not)
  b_not : Binds K fd_not ["a"] []
  f_and : Addr
  fd_and : FuncData
  F_and : FnP K "_and" s_and f_and fd_and
  m_and : mg "_and" = some (.ref f_and)
  b_and : Binds K fd_and ["a", "b"] []
  f_or : Addr
  fd_or : FuncData
  F_or : FnP K "_or" s_or f_or fd_or
  m_or : mg "_or" = some (.ref f_or)
  b_or : Binds K fd_or ["a", "b"] []
  f_xor : Addr
  fd_xor : FuncData
  F_xor : FnP K "_xor" s_xor f_xor fd_xor
  m_xor : mg "_xor" = some (.ref f_xor)
  b_xor : Binds K fd_xor ["a", "b"] []
  f_p_pick : Addr
  fd_p_pick : FuncData
  F_p_pick : FnP K "_pick" s_p_pick f_p_pick fd_p_pick
  m_p_pick : mg "_pick" = some (.ref f_p_pick)
  b_p_pick : Binds K fd_p_pick ["a", "b", "c"] []
  f_p_truth_of : Addr
  fd_p_truth_of : FuncData
  F_p_truth_of : FnP K "truth_of" s_p_truth_of f_p_truth_of fd_p_truth_of
  m_p_truth_of : mg "truth_of" = some (.ref f_p_truth_of)
  b_p_truth_of : Binds K fd_p_truth_of ["word", "operands"] []
  f_settled_values : Addr
  fd_settled_values : FuncData
  F_settled_values : FnP K "settled_values" s_settled_values f_settled_values fd_settled_values
  m_settled_values : mg "settled_values" = some (.ref f_settled_values)
  b_settled_values : Binds K fd_settled_values ["codes", "truths"] []
  f_run : Addr
  fd_run : FuncData
  F_run : FnP K "_run" s_run f_run fd_run
  m_run : mg "_run" = some (.ref f_run)
  b_run : Binds K fd_run ["code", "truths", "known"] []
  f_codes_of : Addr
  fd_codes_of : FuncData
  F_codes_of : FnP K "codes_of" s_codes_of f_codes_of fd_codes_of
  m_codes_of : mg "codes_of" = some (.ref f_codes_of)
  b_codes_of : Binds K fd_codes_of ["names", "exprs", "parts"] []
  f_code : Addr
  fd_code : FuncData
  F_code : FnP K "_code" s_code f_code fd_code
  m_code : mg "_code" = some (.ref f_code)
  b_code : Binds K fd_code ["names", "expr", "parts"] []
  f_settle : Addr
  fd_settle : FuncData
  F_settle : FnP K "settle" s_settle f_settle fd_settle
  m_settle : mg "settle" = some (.ref f_settle)
  b_settle : Binds K fd_settle ["names", "exprs", "parts", "truths"] []
  f_begin : Addr
  fd_begin : FuncData
  F_begin : FnP K "_law_begin" s_begin f_begin fd_begin
  m_begin : mg "_law_begin" = some (.ref f_begin)
  b_begin : Binds K fd_begin ["_law_script"] []
  f_mixed : Addr
  fd_mixed : FuncData
  F_mixed : FnP K "_law_mixed" s_mixed f_mixed fd_mixed
  m_mixed : mg "_law_mixed" = some (.ref f_mixed)
  b_mixed : Binds K fd_mixed ["_law_d", "_law_cell"] []
  f_draw : Addr
  fd_draw : FuncData
  F_draw : FnP K "_law_draw" s_draw f_draw fd_draw
  m_draw : mg "_law_draw" = some (.ref f_draw)
  b_draw : Binds K fd_draw ["_law_d", "_law_many"] []
  f_draw_digit : Addr
  fd_draw_digit : FuncData
  F_draw_digit : FnP K "_law_draw_digit" s_draw_digit f_draw_digit fd_draw_digit
  m_draw_digit : mg "_law_draw_digit" = some (.ref f_draw_digit)
  b_draw_digit : Binds K fd_draw_digit ["_law_d", "_law_many"] []
  f_pick : Addr
  fd_pick : FuncData
  F_pick : FnP K "_law_pick" s_pick f_pick fd_pick
  m_pick : mg "_law_pick" = some (.ref f_pick)
  b_pick : Binds K fd_pick ["_law_d", "_law_row"] []
  f_rare : Addr
  fd_rare : FuncData
  F_rare : FnP K "_law_rare" s_rare f_rare fd_rare
  m_rare : mg "_law_rare" = some (.ref f_rare)
  b_rare : Binds K fd_rare ["_law_d", "_law_many"] []
  f_pool : Addr
  fd_pool : FuncData
  F_pool : FnP K "_law_pool" s_pool f_pool fd_pool
  m_pool : mg "_law_pool" = some (.ref f_pool)
  b_pool : Binds K fd_pool [] []
  f_names : Addr
  fd_names : FuncData
  F_names : FnP K "_law_names" s_names f_names fd_names
  m_names : mg "_law_names" = some (.ref f_names)
  b_names : Binds K fd_names ["_law_d", "_law_many"] []
  f_free_part : Addr
  fd_free_part : FuncData
  F_free_part : FnP K "_law_free_part" s_free_part f_free_part fd_free_part
  m_free_part : mg "_law_free_part" = some (.ref f_free_part)
  b_free_part : Binds K fd_free_part ["_law_d", "_law_own", "_law_pool_here"] []
  f_hangs_in : Addr
  fd_hangs_in : FuncData
  F_hangs_in : FnP K "_law_hangs_in" s_hangs_in f_hangs_in fd_hangs_in
  m_hangs_in : mg "_law_hangs_in" = some (.ref f_hangs_in)
  b_hangs_in : Binds K fd_hangs_in ["_law_expr", "_law_own"] []
  f_enter : Addr
  fd_enter : FuncData
  F_enter : FnP K "_law_enter" s_enter f_enter fd_enter
  m_enter : mg "_law_enter" = some (.ref f_enter)
  b_enter : Binds K fd_enter ["_law_expr", "_law_own", "_law_found"] []
  f_side : Addr
  fd_side : FuncData
  F_side : FnP K "_law_side" s_side f_side fd_side
  m_side : mg "_law_side" = some (.ref f_side)
  b_side : Binds K fd_side ["_law_d", "_law_own", "_law_frees", "_law_deep"] []
  f_linked : Addr
  fd_linked : FuncData
  F_linked : FnP K "_law_linked" s_linked f_linked fd_linked
  m_linked : mg "_law_linked" = some (.ref f_linked)
  b_linked : Binds K fd_linked ["_law_d", "_law_own", "_law_frees", "_law_link", "_law_deep"] []
  f_logic : Addr
  fd_logic : FuncData
  F_logic : FnP K "_law_logic" s_logic f_logic fd_logic
  m_logic : mg "_law_logic" = some (.ref f_logic)
  b_logic : Binds K fd_logic ["_law_word", "_law_row"] []
  f_truth_of : Addr
  fd_truth_of : FuncData
  F_truth_of : FnP K "_law_truth_of" s_truth_of f_truth_of fd_truth_of
  m_truth_of : mg "_law_truth_of" = some (.ref f_truth_of)
  b_truth_of : Binds K fd_truth_of ["_law_expr", "_law_own", "_law_known", "_law_parts", "_law_truths"] []
  f_settled : Addr
  fd_settled : FuncData
  F_settled : FnP K "_law_settled" s_settled f_settled fd_settled
  m_settled : mg "_law_settled" = some (.ref f_settled)
  b_settled : Binds K fd_settled ["_law_own", "_law_exprs", "_law_parts", "_law_truths"] []
  f_alike : Addr
  fd_alike : FuncData
  F_alike : FnP K "_law_alike" s_alike f_alike fd_alike
  m_alike : mg "_law_alike" = some (.ref f_alike)
  b_alike : Binds K fd_alike ["_law_told", "_law_due"] []
  f_tuples : Addr
  fd_tuples : FuncData
  F_tuples : FnP K "_law_tuples" s_tuples f_tuples fd_tuples
  m_tuples : mg "_law_tuples" = some (.ref f_tuples)
  b_tuples : Binds K fd_tuples ["_law_d", "_law_many"] []
  f_law : Addr
  fd_law : FuncData
  F_law : FnP K "law" s_law f_law fd_law
  m_law : mg "law" = some (.ref f_law)
  b_law : Binds K fd_law ["_law_script"] []
  z_abs : mg "abs" = none
  z_bool : mg "bool" = none
  z_divmod : mg "divmod" = none
  z_enumerate : mg "enumerate" = none
  z_int : mg "int" = none
  z_isinstance : mg "isinstance" = none
  z_len : mg "len" = none
  z_range : mg "range" = none
  z_tuple : mg "tuple" = none
  mg_LEAVES : mg "LEAVES" = some (.ref (He.ga K "LEAVES"))
  tp_LEAVES : ∀ H : Hp, SqT K H (He.ga K "LEAVES") [.str "int", .str "truth", .str "mode", .str "name"]
  mg_LOGIC : mg "LOGIC" = some (.ref (He.ga K "LOGIC"))
  kd_LOGIC_not : KDct K w (He.ga K "LOGIC") "not" (.ref f_not)
  kd_LOGIC_and : KDct K w (He.ga K "LOGIC") "and" (.ref f_and)
  kd_LOGIC_or : KDct K w (He.ga K "LOGIC") "or" (.ref f_or)
  kd_LOGIC_xor : KDct K w (He.ga K "LOGIC") "xor" (.ref f_xor)
  kd_LOGIC_pick : KDct K w (He.ga K "LOGIC") "pick" (.ref f_p_pick)



/-! ### promises of defs with so many arguments -/
def sp0 (R : Hp → VK → Prop) : Sp := fun vs H Q _ => vs = [] ∧ R H Q
def sp1 (R : V → Hp → VK → Prop) : Sp := fun vs H Q _ => ∃ x, vs = [x] ∧ R x H Q
def sp2 (R : V → V → Hp → VK → Prop) : Sp := fun vs H Q _ => ∃ x y, vs = [x, y] ∧ R x y H Q
def sp3 (R : V → V → V → Hp → VK → Prop) : Sp := fun vs H Q _ => ∃ x y z, vs = [x, y, z] ∧ R x y z H Q
section
variable {P : Program} {w : World} {K : PySem.W.Frag} {mg : Str → Option Value} {base : Heap} {x : Str} {st : Stmt} {f : Addr} {fd : FuncData} {N ps : List Str} {k : Nat}
theorem okR {sp : Sp} (F : FunD K x x (defArgs st) (defBody st) (defScope st) [] [] f fd) (S : FnScope N ps (defScope st)) (len : ∀ vs H Q E, sp vs H Q E → vs.length = ps.length)
    (body : ∀ (cdv : Value) (A : Around) (outer : List Env) (s : Shared) (H : Hp) (vs : List V) (Q : VK) (E : XK), Room k (A.deeper (envOfC x (defScope st) s.heap.objs.size f cdv)) → sp vs H Q E →
      ∃ t, PSs (cxOf CX0 P w K mg base N x (defScope st) f cdv A outer s H E).nox (defBody st) t ∧ t { nx := fun _ H' => Q .non H', rt := Q } (start N vs) H) : FnOk P w K mg base CX0 (k + 1) f fd ps sp := by
  refine F.ok S len fun cdv A outer s H vs Q E hr h => ?_
  obtain ⟨t, h1, h2⟩ := body cdv A outer s H vs Q E hr h
  exact ⟨t, h1.nox, h2⟩
theorem okR0 {R : Hp → VK → Prop} (F : FunD K x x (defArgs st) (defBody st) (defScope st) [] [] f fd) (S : FnScope N ps (defScope st)) (hl : ps.length = 0)
    (body : ∀ (cdv : Value) (A : Around) (outer : List Env) (s : Shared) (H : Hp) (Q : VK) (E : XK), Room k (A.deeper (envOfC x (defScope st) s.heap.objs.size f cdv)) → R H Q →
      ∃ t, PSs (cxOf CX0 P w K mg base N x (defScope st) f cdv A outer s H E).nox (defBody st) t ∧ t { nx := fun _ H' => Q .non H', rt := Q } (start N []) H) : FnOk P w K mg base CX0 (k + 1) f fd ps (sp0 R) := by
  refine okR F S (fun vs H Q E h => ?_) fun cdv A outer s H vs Q E hr h => ?_
  · obtain ⟨rfl, _⟩ := h
    exact hl.symm
  · obtain ⟨rfl, h⟩ := h
    exact body cdv A outer s H Q E hr h
theorem okR1 {R : V → Hp → VK → Prop} (F : FunD K x x (defArgs st) (defBody st) (defScope st) [] [] f fd) (S : FnScope N ps (defScope st)) (hl : ps.length = 1)
    (body : ∀ (cdv : Value) (A : Around) (outer : List Env) (s : Shared) (H : Hp) (Q : VK) (E : XK) (a : V), Room k (A.deeper (envOfC x (defScope st) s.heap.objs.size f cdv)) → R a H Q →
      ∃ t, PSs (cxOf CX0 P w K mg base N x (defScope st) f cdv A outer s H E).nox (defBody st) t ∧ t { nx := fun _ H' => Q .non H', rt := Q } (start N [a]) H) : FnOk P w K mg base CX0 (k + 1) f fd ps (sp1 R) := by
  refine okR F S (fun vs H Q E h => ?_) fun cdv A outer s H vs Q E hr h => ?_
  · obtain ⟨_, rfl, _⟩ := h
    exact hl.symm
  · obtain ⟨a, rfl, h⟩ := h
    exact body cdv A outer s H Q E a hr h
theorem okR2 {R : V → V → Hp → VK → Prop} (F : FunD K x x (defArgs st) (defBody st) (defScope st) [] [] f fd) (S : FnScope N ps (defScope st)) (hl : ps.length = 2)
    (body : ∀ (cdv : Value) (A : Around) (outer : List Env) (s : Shared) (H : Hp) (Q : VK) (E : XK) (a b : V), Room k (A.deeper (envOfC x (defScope st) s.heap.objs.size f cdv)) → R a b H Q →
      ∃ t, PSs (cxOf CX0 P w K mg base N x (defScope st) f cdv A outer s H E).nox (defBody st) t ∧ t { nx := fun _ H' => Q .non H', rt := Q } (start N [a, b]) H) : FnOk P w K mg base CX0 (k + 1) f fd ps (sp2 R) := by
  refine okR F S (fun vs H Q E h => ?_) fun cdv A outer s H vs Q E hr h => ?_
  · obtain ⟨_, _, rfl, _⟩ := h
    exact hl.symm
  · obtain ⟨a, b, rfl, h⟩ := h
    exact body cdv A outer s H Q E a b hr h
theorem okR3 {R : V → V → V → Hp → VK → Prop} (F : FunD K x x (defArgs st) (defBody st) (defScope st) [] [] f fd) (S : FnScope N ps (defScope st)) (hl : ps.length = 3)
    (body : ∀ (cdv : Value) (A : Around) (outer : List Env) (s : Shared) (H : Hp) (Q : VK) (E : XK) (a b c : V), Room k (A.deeper (envOfC x (defScope st) s.heap.objs.size f cdv)) → R a b c H Q →
      ∃ t, PSs (cxOf CX0 P w K mg base N x (defScope st) f cdv A outer s H E).nox (defBody st) t ∧ t { nx := fun _ H' => Q .non H', rt := Q } (start N [a, b, c]) H) : FnOk P w K mg base CX0 (k + 1) f fd ps (sp3 R) := by
  refine okR F S (fun vs H Q E h => ?_) fun cdv A outer s H vs Q E hr h => ?_
  · obtain ⟨_, _, _, rfl, _⟩ := h
    exact hl.symm
  · obtain ⟨a, b, c, rfl, h⟩ := h
    exact body cdv A outer s H Q E a b c hr h
end
/-! ### heaps: all but the object at d stays -/
def Keep (d : Addr) (H H' : Hp) : Prop := ∀ b o, H b = some o → b ≠ d → H' b = some o
theorem Keep.refl (d : Addr) (H : Hp) : Keep d H H := fun _ _ h _ => h
theorem Keep.trans {d : Addr} {H H1 H2 : Hp} (a : Keep d H H1) (b : Keep d H1 H2) : Keep d H H2 := fun c o h n => b c o (a c o h n) n
theorem Keep.of {d : Addr} {H H1 : Hp} (a : Same H H1) : Keep d H H1 := fun c o h _ => a c o h
theorem Keep.new {d p : Addr} {H : Hp} {o : HO} (h : H p = none) : Keep d H (upd H p o) := fun b u e _ => by
  rw [upd_ne (ne_of_none e h)]
  exact e
theorem Keep.at {d : Addr} {H : Hp} {o : HO} : Keep d H (upd H d o) := fun b u e n => by
  rw [upd_ne n]
  exact e
theorem same_new {H : Hp} {p : Addr} {o : HO} (h : H p = none) : Same H (upd H p o) := fun b u e => by
  rw [upd_ne (ne_of_none e h)]
  exact e
theorem upd_else {H : Hp} {a b : Addr} {o u : HO} (h : H b = some u) (n : b ≠ a) : upd H a o b = some u := by
  rw [upd_ne n]
  exact h
theorem sl (n : Nat) (h : n ≤ 1000 := by decide) : n ≤ sizeLine := Nat.le_of_lt (small1000 h)
/-- a list's item by a written place -/
theorem at_n {xs : List V} {v : V} (j : Nat) (h : xs[j]? = some v) : atI xs (j : Int) = some v := atI_nat h
theorem yes {σ : L2.St} {H : Hp} {A B : Hp → Prop} (h : A H) : tYes σ H fun b H' => if b = true then A H' else B H' := by
  show if true = true then A H else B H
  rw [if_pos rfl]
  exact h

/-! ### the law's draws: d holds the script's numbers (a list at c), a place and three numbers -/
def Dr (d c : Addr) (H : Hp) : Prop := ∃ (cells : List Int) (i : Nat) (big seed cnt : Int), H d = some (.lst [.ref c, .int i, .int big, .int seed, .int cnt]) ∧ H c = some (.lst (cells.map V.int)) ∧ c ≠ d
theorem Dr.same {d c : Addr} {H H' : Hp} (h : Dr d c H) (s : Same H H') : Dr d c H' := by
  obtain ⟨cells, i, big, seed, cnt, h1, h2, h3⟩ := h
  exact ⟨cells, i, big, seed, cnt, s _ _ h1, s _ _ h2, h3⟩
theorem Dr.new {d c p : Addr} {H : Hp} {o : HO} (h : Dr d c H) (n : H p = none) : Dr d c (upd H p o) := h.same (same_new n)
theorem Dr.there {d c : Addr} {H : Hp} (h : Dr d c H) : ∃ xs, H d = some (.lst xs) := by
  obtain ⟨cells, i, big, seed, cnt, h1, h2, h3⟩ := h
  exact ⟨_, h1⟩
theorem Dr.dne {d c p : Addr} {H : Hp} (h : Dr d c H) (n : H p = none) : p ≠ d := by
  obtain ⟨_, h1⟩ := h.there
  exact (ne_of_none h1 n).symm
theorem Dr.cne {d c p : Addr} {H : Hp} (h : Dr d c H) (n : H p = none) : p ≠ c := by
  obtain ⟨cells, i, big, seed, cnt, h1, h2, h3⟩ := h
  exact (ne_of_none h2 n).symm
/-- another object than d and c is written -/
theorem Dr.else {d c p : Addr} {H : Hp} {o : HO} (h : Dr d c H) (n1 : p ≠ d) (n2 : p ≠ c) : Dr d c (upd H p o) := by
  obtain ⟨cells, i, big, seed, cnt, h1, h2, h3⟩ := h
  exact ⟨cells, i, big, seed, cnt, upd_else h1 n1.symm, upd_else h2 n2.symm, h3⟩
def rBegin (K : PySem.W.Frag) : V → Hp → VK → Prop := fun x H Q => ∃ (a : Addr) (ns : List Int), x = .ref a ∧ SqL K H a (ns.map V.int) ∧ ns.length ≤ 63 ∧
  ∀ (d c : Addr) (H' : Hp), Dr d c H' → Same H H' → Q (.ref d) H'
def rMixed : V → V → Hp → VK → Prop := fun x y H Q => ∃ (d c : Addr) (z : Int), x = .ref d ∧ y = .int z ∧ Dr d c H ∧ ∀ (r : Int) (H' : Hp), Dr d c H' → Keep d H H' → Q (.int r) H'
def rDraw : V → V → Hp → VK → Prop := fun x y H Q => ∃ (d c : Addr) (m : Int), x = .ref d ∧ y = .int m ∧ Dr d c H ∧ 0 < m ∧ m < 1000000000 ∧ ∀ (r : Int) (H' : Hp), 0 ≤ r → r < m → Dr d c H' → Keep d H H' → Q (.int r) H'
def rRare : V → V → Hp → VK → Prop := fun x y H Q => ∃ (d c : Addr) (m : Int), x = .ref d ∧ y = .int m ∧ Dr d c H ∧ 4 < m ∧ m < 1000000000 ∧ ∀ (r : Bool) (H' : Hp), Dr d c H' → Keep d H H' → Q (.bl r) H'
section
variable {P : Program} {w : World} {K : PySem.W.Frag} {mg : Str → Option Value} {base : Heap}
theorem ok_begin (T : Tx K mg w) : FnOk P w K mg base CX0 1 T.f_begin T.fd_begin ["_law_script"] (sp1 (rBegin K)) := by
  refine okR1 T.F_begin sc_begin rfl fun cdv A outer s H Q E x hr h => ?_
  obtain ⟨a, ns, rfl, hS, h63, q⟩ := h
  refine ⟨_, pss_one (ps_ret (pe_lst (pa_cons (pe_lc (own := [("_law_cell", 1)]) (g := gName 1) (tt := tYes) rfl sc_begin.nd (pi_list (pv 0)) (blkOk_by (N := ["_law_script", "_law_cell"]) (sc := defScope s_begin) (by decide +kernel)) (fun _ _ _ _ _ => pg_name (i := 1) sc_begin.nd rfl (Or.inl rfl)) (fun _ _ _ _ _ => pts_nil) (fun _ _ _ _ _ => (pe_callTy call_int1 (by rfl) T.z_int (by decide +kernel) (pa_cons (pv 1) pa_nil)))) (pa_cons pe_int (pa_cons pe_int (pa_cons pe_int (pa_cons pe_int pa_nil))))))), ?_⟩
  refine ⟨_, rfl, a, rfl, ⟨_, hS⟩, fun D hD => lc_list (K := K) (a := a) (xs := ns.map V.int) (fun i H' => H' = upd H D (.lst ((ns.take i).map V.int))) rfl ?_ ?_ ?_⟩
  · rintro i H' _ rfl
    exact (same_new hD).seq hS
  · rintro i x H' hi rfl
    rw [List.getElem?_map] at hi
    obtain ⟨z, hz, rfl⟩ := Option.map_eq_some_iff.mp hi
    refine ⟨rfl, yes ?_⟩
    refine ⟨_, rfl, .inl ⟨_, rfl, ?_⟩⟩
    refine ⟨_, upd_same, ?_, ?_⟩
    · rw [List.length_map, List.length_take]
      exact small1000 (by omega)
    · rw [upd_upd, List.take_add_one, hz, List.map_append] <;> rfl
  · rintro H' rfl
    rw [show (List.map V.int ns).length = ns.length from List.length_map _, List.take_length]
    refine ⟨sl 5, fun p hp => ?_⟩
    have hDp : D ≠ p := ne_of_none upd_same hp
    exact q p D _ ⟨ns, 0, 0, 1234577, 0, upd_same, upd_else upd_same hDp, hDp⟩ ((same_new hD).trans (same_new hp))
theorem ok_mixed (T : Tx K mg w) : FnOk P w K mg base CX0 1 T.f_mixed T.fd_mixed ["_law_d", "_law_cell"] (sp2 rMixed) := by
  refine okR2 T.F_mixed sc_mixed rfl fun cdv A outer s H Q E x y hr h => ?_
  obtain ⟨d, c, z, rfl, rfl, ⟨cells, i, big, seed, cnt, h1, h2, hn⟩, q⟩ := h
  refine ⟨_, pss_cons (ps_asg (pe_op op_add (pe_ix ix_list (pv 0) pe_int (fun _ _ => rfl)) pe_int) (pg_sub (pv 0) pe_int set_list))
      (pss_cons (ps_asg (pe_op op_mod (pe_callTy call_int1 (by rfl) T.z_int (by decide +kernel) (pa_cons (pe_op op_add (pe_op op_add (pe_op op_mul (pe_ix ix_list (pv 0) pe_int (fun _ _ => rfl)) pe_int) (pe_op op_mul (pe_op op_add (pv 1) (pe_ix ix_list (pv 0) pe_int (fun _ _ => rfl))) pe_int)) pe_int) pa_nil)) pe_int) (pg_sub (pv 0) pe_int set_list))
      (pss_cons (ps_asg (pe_op op_mod (pe_callTy call_int1 (by rfl) T.z_int (by decide +kernel) (pa_cons (pe_op op_add (pe_op op_add (pe_op op_mul (pe_ix ix_list (pv 0) pe_int (fun _ _ => rfl)) pe_int) (pe_op op_mul (pe_ix ix_list (pv 0) pe_int (fun _ _ => rfl)) pe_int)) pe_int) pa_nil)) pe_int) (pg_sub (pv 0) pe_int set_list))
      (pss_one (ps_ret (pe_op op_fdiv (pe_ix ix_list (pv 0) pe_int (fun _ _ => rfl)) pe_int))))), ?_⟩
  refine ⟨_, rfl, d, _, _, _, rfl, rfl, SqL.of h1, at_n 4 rfl, _, _, rfl, rfl, _, rfl, d, _, _, 4, rfl, rfl, h1, rfl, ?_⟩
  refine ⟨_, rfl, d, _, _, _, rfl, rfl, SqL.of upd_same, at_n 3 rfl, _, _, rfl, rfl, .inr (by decide), _, rfl, _, rfl, d, _, _, _, rfl, rfl, SqL.of upd_same, at_n 4 rfl, _, _, rfl, rfl, _, _, rfl, rfl, .inr (by decide), _, _, rfl, rfl, _, _, rfl, rfl, .inl ⟨_, rfl, ?_⟩⟩
  refine ⟨_, _, rfl, rfl, (by show (0 : Int) < 2147483647; decide), _, rfl, d, _, _, 3, rfl, rfl, upd_same, rfl, ?_⟩
  rw [upd_upd]
  refine ⟨_, rfl, d, _, _, _, rfl, rfl, SqL.of upd_same, at_n 3 rfl, _, _, rfl, rfl, .inr (by decide), _, rfl, d, _, _, _, rfl, rfl, SqL.of upd_same, at_n 4 rfl, _, _, rfl, rfl, .inr (by decide), _, _, rfl, rfl, _, _, rfl, rfl, .inl ⟨_, rfl, ?_⟩⟩
  refine ⟨_, _, rfl, rfl, (by show (0 : Int) < 2147483629; decide), _, rfl, d, _, _, 3, rfl, rfl, upd_same, rfl, ?_⟩
  rw [upd_upd]
  refine ⟨_, rfl, d, _, _, _, rfl, rfl, SqL.of upd_same, at_n 3 rfl, _, _, rfl, rfl, ⟨by decide, by decide⟩, ?_⟩
  exact q _ _ ⟨cells, i, big, _, _, upd_same, upd_else h2 hn, hn⟩ Keep.at
theorem ok_draw_digit (T : Tx K mg w) : FnOk P w K mg base CX0 1 T.f_draw_digit T.fd_draw_digit ["_law_d", "_law_many"] (sp2 rDraw) := by
  refine okR2 T.F_draw_digit sc_draw_digit rfl fun cdv A outer s H Q E x y hr h => ?_
  obtain ⟨d, c, m, rfl, rfl, ⟨cells, i, big, seed, cnt, h1, h2, hn⟩, m0, m1, q⟩ := h
  refine ⟨_, pss_cons (ps_set (i := 2) sc_draw_digit.nd rfl (Or.inl rfl) (pe_callB call_divmod (by rfl) T.z_divmod (by decide +kernel) (pa_cons (pe_ix ix_list (pv 0) pe_int (fun _ _ => rfl)) (pa_cons (pv 1) pa_nil))))
      (pss_cons (ps_asg (pe_ix ix_tup (pv 2) pe_int (fun _ _ => rfl)) (pg_sub (pv 0) pe_int set_list))
      (pss_one (ps_ret (pe_ix ix_tup (pv 2) pe_int (fun _ _ => rfl))))), ?_⟩
  refine ⟨_, rfl, d, _, _, _, rfl, rfl, SqL.of h1, at_n 2 rfl, _, rfl, _, _, rfl, ⟨m0, by omega⟩, fun p hp => ?_⟩
  have hdp : d ≠ p := ne_of_none h1 hp
  have hcp : c ≠ p := ne_of_none h2 hp
  refine ⟨_, rfl, p, _, _, _, rfl, rfl, SqT.of upd_same, at_n 0 rfl, _, rfl, d, _, _, 2, rfl, rfl, upd_else h1 hdp, rfl, ?_⟩
  refine ⟨_, rfl, p, _, _, _, rfl, rfl, SqT.of (upd_else upd_same hdp.symm), at_n 1 rfl, ?_⟩
  refine q _ _ (Int.emod_nonneg _ (by omega)) (Int.emod_lt_of_pos _ m0) ⟨cells, i, _, seed, cnt, upd_same, upd_else (upd_else h2 hcp) hn, hn⟩ ((Keep.new hp).trans Keep.at)
theorem ok_draw (T : Tx K mg w) : FnOk P w K mg base CX0 2 T.f_draw T.fd_draw ["_law_d", "_law_many"] (sp2 rDraw) := by
  refine okR2 T.F_draw sc_draw rfl fun cdv A outer s H Q E x y hr h => ?_
  obtain ⟨d, c, m, rfl, rfl, ⟨cells, i, big, seed, cnt, h1, h2, hn⟩, m0, m1, q⟩ := h
  have dr : Dr d c H := ⟨cells, i, big, seed, cnt, h1, h2, hn⟩
  refine ⟨_, pss_cons (ps_if (pt_cmpR op_gt (pe_ix ix_list (pv 0) pe_int (fun _ _ => rfl)) pe_int (nomark _)) (pss_one (ps_ret (pe_call (ok_draw_digit T) (hr.mono (by decide)) rfl T.m_draw_digit T.F_draw_digit.kp T.b_draw_digit .nil pass0 (pa_cons (pv 0) (pa_cons (pv 1) pa_nil))))) pss_nil)
      (pss_cons (ps_if (pt_cmpR op_lt (pe_ix ix_list (pv 0) pe_int (fun _ _ => rfl)) (pe_callB call_len_seq (by rfl) T.z_len (by decide +kernel) (pa_cons (pe_ix ix_list (pv 0) pe_int (fun _ _ => rfl)) pa_nil)) (nomark _)) (pss_cons (ps_set (i := 2) sc_draw.nd rfl (Or.inl rfl) (pe_ix ix_list (pe_ix ix_list (pv 0) pe_int (fun _ _ => rfl)) (pe_ix ix_list (pv 0) pe_int (fun _ _ => rfl)) (fun _ _ => rfl)))
      (pss_cons (ps_asg (pe_op op_add (pe_ix ix_list (pv 0) pe_int (fun _ _ => rfl)) pe_int) (pg_sub (pv 0) pe_int set_list))
      (pss_cons (ps_if (pt_cmpR op_ge (pe_callB call_abs (by rfl) T.z_abs (by decide +kernel) (pa_cons (pv 2) pa_nil)) (pe_op op_pow pe_int pe_int) (nomark _)) (pss_cons (ps_asg (pe_op op_and (pe_op op_fdiv (pe_callB call_abs (by rfl) T.z_abs (by decide +kernel) (pa_cons (pv 2) pa_nil)) pe_int) (pe_op op_sub (pe_op op_shl pe_int pe_int) pe_int)) (pg_sub (pv 0) pe_int set_list))
      (pss_one (ps_ret (pe_call (ok_draw_digit T) (hr.mono (by decide)) rfl T.m_draw_digit T.F_draw_digit.kp T.b_draw_digit .nil pass0 (pa_cons (pv 0) (pa_cons (pv 1) pa_nil)))))) pss_nil)
      (pss_one (ps_ret (pe_op op_mod (pe_callTy call_int1 (by rfl) T.z_int (by decide +kernel) (pa_cons (pe_call (ok_mixed T) (hr.mono (by decide)) rfl T.m_mixed T.F_mixed.kp T.b_mixed .nil pass0 (pa_cons (pv 0) (pa_cons (pv 2) pa_nil))) pa_nil)) (pv 1))))))) pss_nil)
      (pss_one (ps_ret (pe_op op_mod (pe_callTy call_int1 (by rfl) T.z_int (by decide +kernel) (pa_cons (pe_call (ok_mixed T) (hr.mono (by decide)) rfl T.m_mixed T.F_mixed.kp T.b_mixed .nil pass0 (pa_cons (pv 0) (pa_cons pe_int pa_nil))) pa_nil)) (pv 1))))), ?_⟩
  -- if d[2] > 0
  refine ⟨_, rfl, d, _, _, _, rfl, rfl, SqL.of h1, at_n 2 rfl, _, _, rfl, rfl, _, rfl, ite2 (fun _ => ?_) (fun _ => ?_)⟩
  · exact ⟨_, rfl, _, rfl, _, _, rfl, d, c, m, rfl, rfl, dr, m0, m1, q⟩
  -- if d[1] < len(d[0])
  refine ⟨_, rfl, d, _, _, _, rfl, rfl, SqL.of h1, at_n 1 rfl, _, rfl, d, _, _, _, rfl, rfl, SqL.of h1, at_n 0 rfl, c, _, rfl, .inl (SqL.of h2), _, _, rfl, rfl, _, rfl, ite2 (fun hc => ?_) (fun _ => ?_)⟩
  · have hi : i < cells.length := by
      have e : (i : Int) < ((cells.map V.int).length : Int) := of_decide_eq_true hc
      rw [List.length_map] at e
      omega
    obtain ⟨z, hz⟩ : ∃ z, cells[i]? = some z := ⟨cells[i], List.getElem?_eq_getElem hi⟩
    have hz' : (cells.map V.int)[i]? = some (.int z) := by
      rw [List.getElem?_map, hz]
      rfl
    -- cell = d[0][d[1]]; d[1] = d[1] + 1
    refine ⟨_, rfl, d, _, _, _, rfl, rfl, SqL.of h1, at_n 0 rfl, _, rfl, d, _, _, _, rfl, rfl, SqL.of h1, at_n 1 rfl, c, _, _, _, rfl, rfl, SqL.of h2, at_n i hz', ?_⟩
    refine ⟨_, rfl, d, _, _, _, rfl, rfl, SqL.of h1, at_n 1 rfl, _, _, rfl, rfl, _, rfl, d, _, _, 1, rfl, rfl, h1, rfl, ?_⟩
    have dr1 : Dr d c (upd H d (.lst [.ref c, .int (i + 1), .int big, .int seed, .int cnt])) := ⟨cells, i + 1, big, seed, cnt, upd_same, upd_else h2 hn, hn⟩
    -- if abs(cell) >= 10 ** 18
    refine ⟨_, rfl, _, rfl, _, _, rfl, rfl, ⟨by decide, by decide, by decide⟩, _, _, rfl, rfl, _, rfl, ite2 (fun _ => ?_) (fun _ => ?_)⟩
    · refine ⟨_, rfl, _, rfl, _, _, rfl, rfl, ⟨by decide, by decide⟩, _, _, rfl, rfl, ⟨by decide, by decide, by decide⟩, _, _, rfl, rfl, _, _, rfl, rfl, _, rfl, d, _, _, 2, rfl, rfl, upd_same, rfl, ?_⟩
      rw [upd_upd]
      refine ⟨_, rfl, _, rfl, _, _, rfl, d, c, m, rfl, rfl, ⟨cells, i + 1, _, seed, cnt, upd_same, upd_else h2 hn, hn⟩, m0, m1, fun r H' r0 r1 dr' kp => ?_⟩
      exact q r H' r0 r1 dr' (Keep.at.trans kp)
    · refine ⟨_, rfl, _, rfl, _, _, rfl, d, c, z, rfl, rfl, dr1, fun r H' dr' kp => .inl ⟨_, rfl, ?_⟩⟩
      exact ⟨_, rfl, _, _, rfl, rfl, m0, q _ _ (Int.emod_nonneg _ (by omega)) (Int.emod_lt_of_pos _ m0) dr' (Keep.at.trans kp)⟩
  · refine ⟨_, rfl, _, _, rfl, d, c, 7, rfl, rfl, dr, fun r H' dr' kp => .inl ⟨_, rfl, ?_⟩⟩
    exact ⟨_, rfl, _, _, rfl, rfl, m0, q _ _ (Int.emod_nonneg _ (by omega)) (Int.emod_lt_of_pos _ m0) dr' kp⟩
end

/-! ### data of tuples, in a heap -/
mutual
def Td (H : Hp) : PyData → V → Prop
  | .none, v => v = .non
  | .bool b, v => v = .bl b
  | .int i, v => v = .int i
  | .str x, v => v = .str x
  | .tuple ds, v => ∃ a xs, v = .ref a ∧ H a = some (.tup xs) ∧ TdAll H ds xs
  | .list _, _ => False
  | .dict _, _ => False
def TdAll (H : Hp) : List PyData → List V → Prop
  | [], xs => xs = []
  | d :: ds, xs => ∃ v r, xs = v :: r ∧ Td H d v ∧ TdAll H ds r
end
/-- tuples stay -/
def TS (H H' : Hp) : Prop := ∀ b xs, H b = some (.tup xs) → H' b = some (.tup xs)
theorem TS.refl (H : Hp) : TS H H := fun _ _ e => e
theorem TS.of {H H' : Hp} (s : Same H H') : TS H H' := fun b xs e => s b _ e
theorem TS.keep {d : Addr} {H H' : Hp} (k : Keep d H H') (h : ∃ xs, H d = some (.lst xs)) : TS H H' := fun b xs e => by
  obtain ⟨ys, h⟩ := h
  refine k b _ e ?_
  rintro rfl
  rw [h] at e
  cases e
theorem TS.trans {H H1 H2 : Hp} (a : TS H H1) (b : TS H1 H2) : TS H H2 := fun c o h => b c o (a c o h)
theorem TS.wr {H : Hp} {l : Addr} {xs : List V} {o : HO} (h : H l = some (.lst xs)) : TS H (upd H l o) := fun b ys e => by
  refine upd_else e ?_
  rintro rfl
  rw [h] at e
  cases e
theorem TS.dict {H : Hp} {l : Addr} {xs : List (Key × V)} {o : HO} (h : H l = some (.dK xs)) : TS H (upd H l o) := fun b ys e => by
  refine upd_else e ?_
  rintro rfl
  rw [h] at e
  cases e
theorem TS.new {H : Hp} {p : Addr} {o : HO} (h : H p = none) : TS H (upd H p o) := TS.of (same_new h)
theorem TS.dr {d c : Addr} {H H' : Hp} (dr : Dr d c H) (k : Keep d H H') : TS H H' := TS.keep k dr.there
mutual
theorem Td.mono {H H' : Hp} (s : TS H H') : ∀ (d : PyData) (v : V), Td H d v → Td H' d v
  | .none, _, h => h
  | .bool _, _, h => h
  | .int _, _, h => h
  | .str _, _, h => h
  | .tuple ds, _, ⟨a, xs, e, h1, h2⟩ => ⟨a, xs, e, s _ _ h1, TdAll.mono s ds xs h2⟩
  | .list _, _, h => h
  | .dict _, _, h => h
theorem TdAll.mono {H H' : Hp} (s : TS H H') : ∀ (ds : List PyData) (xs : List V), TdAll H ds xs → TdAll H' ds xs
  | [], _, h => h
  | d :: ds, _, ⟨v, r, e, h1, h2⟩ => ⟨v, r, e, Td.mono s d v h1, TdAll.mono s ds r h2⟩
end
mutual
theorem Td.dp {K : PySem.W.Frag} {H : Hp} : ∀ (d : PyData) (v : V), Td H d v → Dp K H v d
  | .none, _, h => by cases h; exact .non
  | .bool b, _, h => by cases h; exact .bl b
  | .int i, _, h => by cases h; exact .int i
  | .str x, _, h => by cases h; exact .str x
  | .tuple ds, _, ⟨a, xs, e, h1, h2⟩ => by subst e; exact .tup (SqT.of h1) (TdAll.dp ds xs h2)
  | .list _, _, h => h.elim
  | .dict _, _, h => h.elim
theorem TdAll.dp {K : PySem.W.Frag} {H : Hp} : ∀ (ds : List PyData) (xs : List V), TdAll H ds xs → DpAll K H xs ds
  | [], _, h => by cases h; exact .nil
  | d :: ds, _, ⟨v, r, e, h1, h2⟩ => by subst e; exact .cons (Td.dp d v h1) (TdAll.dp ds r h2)
end
theorem TdAll.len {H : Hp} : ∀ (ds : List PyData) (xs : List V), TdAll H ds xs → xs.length = ds.length
  | [], _, h => by cases h; rfl
  | _ :: ds, _, ⟨v, r, e, _, h2⟩ => by subst e; exact congrArg Nat.succ (TdAll.len ds r h2)
theorem TdAll.app {H : Hp} : ∀ (ds es : List PyData) (xs ys : List V), TdAll H ds xs → TdAll H es ys → TdAll H (ds ++ es) (xs ++ ys)
  | [], _, _, _, h, k => by cases h; exact k
  | _ :: ds, es, _, ys, ⟨v, r, e, h1, h2⟩, k => by subst e; exact ⟨v, r ++ ys, rfl, h1, TdAll.app ds es r ys h2 k⟩
theorem TdAll.tk {H : Hp} : ∀ (n : Nat) (ds : List PyData) (xs : List V), TdAll H ds xs → TdAll H (ds.take n) (xs.take n)
  | 0, _, _, _ => by simp only [List.take_zero]; exact rfl
  | _ + 1, [], _, h => by cases h; exact rfl
  | n + 1, _ :: ds, _, ⟨v, r, e, h1, h2⟩ => by subst e; exact ⟨v, r.take n, rfl, h1, TdAll.tk n ds r h2⟩
theorem TdAll.dr {H : Hp} : ∀ (n : Nat) (ds : List PyData) (xs : List V), TdAll H ds xs → TdAll H (ds.drop n) (xs.drop n)
  | 0, _, _, h => h
  | _ + 1, [], _, h => by cases h; exact rfl
  | n + 1, _ :: ds, _, ⟨v, r, e, h1, h2⟩ => by subst e; exact TdAll.dr n ds r h2
theorem TdAll.at {H : Hp} : ∀ (i : Nat) (ds : List PyData) (xs : List V) (d : PyData), TdAll H ds xs → ds[i]? = some d → ∃ v, xs[i]? = some v ∧ Td H d v
  | _, [], _, _, _, e => by simp at e
  | 0, _ :: ds, _, d, ⟨v, r, e, h1, h2⟩, k => by
    subst e
    simp at k
    subst k
    exact ⟨v, rfl, h1⟩
  | i + 1, _ :: ds, _, d, ⟨v, r, e, h1, h2⟩, k => by
    subst e
    obtain ⟨u, e1, e2⟩ := TdAll.at i ds r d h2 (by simpa using k)
    exact ⟨u, by simpa using e1, e2⟩
mutual
def plainD : PyData → Bool
  | .none => true
  | .bool _ => false
  | .int _ => true
  | .str x => PyData.strOk x
  | .tuple ds => plainAll ds
  | .list _ => false
  | .dict _ => false
def plainAll : List PyData → Bool
  | [] => true
  | d :: ds => plainD d && plainAll ds
end
mutual
theorem plain_lay : ∀ d : PyData, plainD d = true → PyData.canLay0 d = true
  | .none, _ => rfl
  | .bool _, h => by cases h
  | .int _, _ => rfl
  | .str _, h => h
  | .tuple ds, h => plain_layAll ds h
  | .list _, h => by cases h
  | .dict _, h => by cases h
theorem plain_layAll : ∀ ds : List PyData, plainAll ds = true → PyData.canLayAll0 ds = true
  | [], _ => rfl
  | d :: ds, h => by
    have h' := Bool.and_eq_true_iff.mp h
    show (PyData.canLay0 d && PyData.canLayAll0 ds) = true
    rw [plain_lay d h'.1, plain_layAll ds h'.2]
    rfl
end
mutual
theorem eqv_eq : ∀ d e : PyData, plainD d = true → plainD e = true → PyData.eqv d e = true → d = e
  | .none, e, _, he, h => by cases e <;> first | rfl | cases h
  | .bool _, _, hd, _, _ => by cases hd
  | .int i, e, _, he, h => by
    cases e <;> first | cases h | cases he | skip
    have := beq_iff_eq.mp (show (i == _) = true from h)
    rw [this]
  | .str x, e, _, _, h => by
    cases e <;> first | cases h | skip
    have := beq_iff_eq.mp (show (x == _) = true from h)
    rw [this]
  | .tuple ds, e, hd, he, h => by
    cases e <;> first | cases h | skip
    exact congrArg PyData.tuple (eqvAll_eq ds _ hd he h)
  | .list _, _, hd, _, _ => by cases hd
  | .dict _, _, hd, _, _ => by cases hd
theorem eqvAll_eq : ∀ ds es : List PyData, plainAll ds = true → plainAll es = true → PyData.eqvAll ds es = true → ds = es
  | [], [], _, _, _ => rfl
  | [], _ :: _, _, _, h => by cases h
  | _ :: _, [], _, _, h => by cases h
  | d :: ds, e :: es, hd, he, h => by
    have h1 := Bool.and_eq_true_iff.mp hd
    have h2 := Bool.and_eq_true_iff.mp he
    have h3 := Bool.and_eq_true_iff.mp (show (PyData.eqv d e && PyData.eqvAll ds es) = true from h)
    rw [eqv_eq d e h1.1 h2.1 h3.1, eqvAll_eq ds es h1.2 h2.2 h3.2]
end
theorem eqv_iff {d e : PyData} (hd : plainD d = true) (he : plainD e = true) : PyData.eqv d e = true ↔ d = e :=
  ⟨eqv_eq d e hd he, fun h => by rw [h]; exact SeqAt.eqv_refl e (plain_lay e he)⟩
theorem eqvAll_iff {d e : List PyData} (hd : plainAll d = true) (he : plainAll e = true) : PyData.eqvAll d e = true ↔ d = e :=
  ⟨eqvAll_eq d e hd he, fun h => by
    have h2 := SeqAt.eqv_refl (.tuple e) (plain_layAll e he)
    rw [h]
    exact h2⟩

/-! ### slices and sums of tuples, as data -/
def cutD (ds : List PyData) (lo hi : Option Int) : List PyData := (ds.drop (HT.sIx ds.length 0 lo)).take (HT.sIx ds.length ds.length hi - HT.sIx ds.length 0 lo)
theorem slD {K : PySem.W.Frag} {H : Hp} {v : V} {ds : List PyData} {lo hi : Option Int} {Q : VK} (h : Td H (.tuple ds) v)
    (q : ∀ (p : V) (H' : Hp), Same H H' → Td H' (.tuple (cutD ds lo hi)) p → Q p H') : rSlA K v lo hi H Q := by
  obtain ⟨a, xs, rfl, ha, hx⟩ := h
  have hl := TdAll.len _ _ hx
  refine ⟨a, xs, rfl, SqT.of ha, fun w => ?_, fun _ p hp => ?_⟩
  · rw [hl] at w
    refine q (.ref a) H (Same.refl _) ⟨a, xs, rfl, ha, ?_⟩
    have e : cutD ds lo hi = ds := by
      unfold cutD
      rw [w.1, w.2, List.drop_zero, Nat.sub_zero, List.take_length]
    rw [e]
    exact hx
  · refine q (.ref p) _ (same_new hp) ⟨p, _, rfl, upd_same, ?_⟩
    have e : cutV xs lo hi = (xs.drop (HT.sIx ds.length 0 lo)).take (HT.sIx ds.length ds.length hi - HT.sIx ds.length 0 lo) := by
      unfold cutV
      rw [hl]
    rw [e]
    exact TdAll.mono (TS.new hp) _ _ (TdAll.tk _ _ _ (TdAll.dr _ _ _ hx))
theorem nil_of_len {α β : Type} {xs : List α} {ds : List β} (h : xs.length = ds.length) (e : xs = []) : ds = [] := by
  subst e
  cases ds with
  | nil => rfl
  | cons _ _ => cases h
theorem catD {K : PySem.W.Frag} {H : Hp} {x y : V} {ds es : List PyData} {Q : VK} (hx : Td H (.tuple ds) x) (hy : Td H (.tuple es) y) (hz : ds.length + es.length ≤ 1000)
    (q : ∀ (p : V) (H' : Hp), Same H H' → Td H' (.tuple (ds ++ es)) p → Q p H') : rCatA K x y H Q := by
  obtain ⟨a, xs, rfl, ha, h1⟩ := hx
  obtain ⟨b, ys, rfl, hb, h2⟩ := hy
  have l1 := TdAll.len _ _ h1
  have l2 := TdAll.len _ _ h2
  refine ⟨a, b, xs, ys, rfl, rfl, SqT.of ha, SqT.of hb, Nat.le_of_lt (small1000 (by omega)), fun e => ?_, fun _ e => ?_, fun _ _ p hp => ?_⟩
  · rw [nil_of_len l1 e] at q
    exact q _ H (Same.refl _) ⟨b, ys, rfl, hb, h2⟩
  · rw [nil_of_len l2 e, List.append_nil] at q
    exact q _ H (Same.refl _) ⟨a, xs, rfl, ha, h1⟩
  · exact q _ _ (same_new hp) ⟨p, _, rfl, upd_same, TdAll.mono (TS.new hp) _ _ (TdAll.app _ _ _ _ h1 h2)⟩
theorem slFD {K : PySem.W.Frag} {σ : L2.St} {H : Hp} {v : V} {ds : List PyData} {lo : Option Int} {Q : VK} (h : Td H (.tuple ds) v)
    (q : ∀ (p : V) (H' : Hp), Same H H' → Td H' (.tuple (cutD ds lo none)) p → Q p H') : tNoPart σ H fun u H' => rSlA K v lo u H' Q := slD h q
theorem cut_tail (d : PyData) (ks : List PyData) : cutD (d :: ks) (some 1) none = ks := by
  unfold cutD
  rw [show (some (1 : Int)) = some (((1 : Nat) : Int)) from rfl, HT.sIx_nat, List.length_cons, Nat.min_eq_left (by omega)]
  show ((ks.take (ks.length + 1 - 1))) = ks
  rw [Nat.add_sub_cancel, List.take_length]
theorem or_both {a : Bool} {A B T : Prop} (hA : A) (hT : A → ¬ a = true → T) : if a = true then (if true = true then A else B) else T := by
  by_cases h : a = true
  · rw [if_pos h, if_pos rfl]
    exact hA
  · rw [if_neg h]
    exact hT hA h

/-! ### tuples whose one object is known (so that their methods can be called) -/
section
variable {X : Cx}
def Fz (H : Hp) (p : Addr) (ys : List V) : Prop := ∃ o : Obj, H p = some (.frz o (.tup ys)) ∧ o.dict = none
theorem Fz.sq {K : PySem.W.Frag} {H : Hp} {p : Addr} {ys : List V} (h : Fz H p ys) : SqT K H p ys := by
  obtain ⟨o, h, _⟩ := h
  exact .inl (.inr ⟨o, h⟩)
theorem Fz.same {H H' : Hp} {p : Addr} {ys : List V} (h : Fz H p ys) (s : Same H H') : Fz H' p ys := by
  obtain ⟨o, h, d⟩ := h
  exact ⟨o, s _ _ h, d⟩
theorem call_tuple_fz : CallR X (.type "tuple") (fun xs H Q => ∃ p ys, xs = [.ref p] ∧ SqL X.K H p ys ∧ ∀ l o, H l = none → Fz (upd H l o) l ys → Q (.ref l) (upd H l o)) := by
  intro pins s σ H xs us Q I r h
  obtain ⟨p, ys, rfl, hq, q⟩ := h
  obtain ⟨u, rfl, rx⟩ := vals1 r
  cases rx
  obtain ⟨its, r', pl, hz⟩ := I.list hq
  have hlen := r'.length
  refine call_tuple_list pl.isList (fun h' kp => ?_) (by simp only [List.size_toArray] <;> omega)
  have I1 : Inv X pins σ H { s with heap := h' } := I.kept (t' := s.toks) kp
  have I2 : Inv X pins σ (upd H h'.objs.size (.frz { cls := .type "tuple", data := .seq its.toArray } (.tup ys))) { s with heap := h'.push { cls := .type "tuple", data := .seq its.toArray } } :=
    I1.laid (t' := s.toks) (fun b o e => Heap.get?_push_of_some _ e) (Nat.le_refl _) (show ObjOk X.prog X.w _ _ _ (.frz _ (.tup ys)) from ⟨Heap.get?_push_size _ rfl, hz, its, r', IsTup.new _ _⟩)
  exact ⟨.ref h'.objs.size, _, I2, rfl, q _ _ (I1.hok.fresh (Nat.le_refl _)) ⟨_, upd_same, rfl⟩⟩
def tBMT (r : V → List V → Hp → VK → Prop) (to : TE) (t : TA) : TE := fun σ H Q => to σ H fun x H1 => ∃ p ys, x = .ref p ∧ Fz H1 p ys ∧ t σ H1 fun vs H2 => r x vs H2 Q
theorem pe_bmT {name : Str} {id : String} {r : V → List V → Hp → VK → Prop} {o e : Expr} {es : List Expr} {to : TE} {t : TA} {apos cpos : Pos} (slot : Slot "tuple" name id) (hty : typeOf (.builtin id) = pure (.type "method_descriptor")) (hm : MtR X id r) (ho : PE X o to) (ha : PA X (e :: es) t)
    (hbase : attributeBase o name X.env (eval o X.env) = eval o X.env := by rfl)
    (hfew : ((backTo cpos (starEach (e :: es) X.env)).all (fun x => !x.1) && (backToKw cpos (keywordEach [] X.env)).all (fun x => x.1.isSome)
      && decide ((e :: es).length + ([] : List Keyword).length + (if ([] : List Keyword).isEmpty then 0 else 1) < 30)) = true := by rfl)
    (hline : (apos.endLine == cpos.line) = true := by rfl) (hs : starEach (e :: es) X.env = (false, eval e X.env) :: starEach es X.env := by rfl) (hplain : (backTo cpos (starEach es X.env)).any (·.1) = false := by rfl) :
    PE X (.Call (.Attribute o name apos) (e :: es) [] cpos) (tBMT r to t) := by
  refine ⟨fun pins s σ H Q I h => ?_⟩
  refine wpAny_Call_method_late hbase hfew hline rfl (thn (ho.run pins s σ H _ I h) fun v s1 ⟨x, H1, I1, r1, p, ys, ex, fz, q1⟩ => ?_)
  subst ex
  obtain ⟨ob, hob, hdn⟩ := fz
  obtain rfl : v = Value.ref p := r1
  obtain ⟨e1, _, its, rv, o2, e2, hc, _⟩ := I1.hok p _ hob
  refine ⟨"tuple", id, PySem.F.plainAttrs_tuple, slot, hty, ⟨o2, e2, hc⟩, (fun a ea => by cases ea; exact ⟨ob, e1, hdn⟩), ?_⟩
  have hA := ha.run cpos pins s1 σ H1 _ I1 q1
  rw [hs] at hA ⊢
  refine Calls.callWith_builtin (by show (false || (backTo cpos (starEach es X.env)).any (·.1)) = false; rw [hplain] <;> rfl) (Calls.evalArgs_plain ?_)
  exact thn hA fun us s2 ⟨vs, H2, I2, r2, q2⟩ => hm pins s2 σ H2 (.ref p) vs (.ref p) us Q I2 rfl r2 q2
end

/-! ### rules of our own: tuples of data looked through, lists that take a tuple's items, a local def called with a star -/
section
variable {X : Cx}
def rInT (K : PySem.W.Frag) : R2 := fun x y H Q => ∃ d ds, Dp K H x d ∧ Dp K H y (.tuple ds) ∧ SeqAt.shaped d = true ∧ SeqAt.shaped (.tuple ds) = true ∧ Q (.bl (ds.any fun z => PyData.eqv z d)) H
theorem op_inT (hu : X.A.units + 65 < cLine) : OpR X (compareOp .In) (rInT X.K) := by
  intro pins s σ H x y v u Q I rx ry h
  obtain ⟨d, ds, hd, he, sd, se, q⟩ := h
  obtain ⟨as, r1⟩ := Dp.reads I d x v hd rx
  obtain ⟨bs, r2⟩ := Dp.reads I (.tuple ds) y u he ry
  exact SeqAt.in_tuple_reads r2 r1 (SeqAt.canLay_of_shaped se) (SeqAt.canLay_of_shaped sd) (room_in_shaped sd hu) ⟨.bl _, H, I, rfl, q⟩
def rIndexT (K : PySem.W.Frag) : V → List V → Hp → VK → Prop := fun x xs H Q => ∃ (a : Addr) (y : V) (d : PyData) (ds : List PyData) (j : Nat) (z : PyData), x = V.ref a ∧ xs = [y] ∧ Dp K H (V.ref a) (.tuple ds) ∧ Dp K H y d ∧
  SeqAt.shaped (.tuple ds) = true ∧ SeqAt.shaped d = true ∧ ds[j]? = some z ∧ PyData.eqv z d = true ∧ (∀ (m : Nat) (z' : PyData), m < j → ds[m]? = some z' → PyData.eqv z' d = false) ∧ Q (.int (j : Nat)) H
theorem mt_indexT (hu : X.A.units + 65 < cLine) : MtR X "tuple.index" (rIndexT X.K) := by
  intro pins s σ H x xs v us Q I rx rxs h
  obtain ⟨a, y, d, ds, j, z, rfl, rfl, hl, hy, sl, sd, hz, hzj, hno, q⟩ := h
  cases rx
  cases rxs with
  | cons ry rt =>
    rename_i uy ut
    cases rt
    obtain ⟨bs, r1⟩ := Dp.reads I d y uy hy ry
    have hxs : PyData.canLayAll0 ds = true := SeqAt.canLay_of_shaped sl
    have hroom : X.A.units + 1 + min (PyData.depthAll ds) d.depth < cLine := room_in_shaped sd hu
    cases hl with
    | tup hs ha =>
      obtain ⟨its, rv, ⟨⟨cls, dd, data, sls⟩, ho, hc, n, hdt⟩, hlen⟩ := I.tuple hs
      simp only at hc hdt
      subst hc hdt
      obtain ⟨as, h4⟩ := Dp.readsAll I ds _ its ha rv
      have hn : its.length = ds.length := SeqAt.ReadsAll.length ds its as h4
      have hmap : its.map (SeqAt.readOf s.heap) = ds := SeqAt.readsAll_map ds its as hxs h4
      obtain ⟨hjd, _⟩ := List.getElem?_eq_some_iff.mp hz
      have hjl : j < its.length := by omega
      have hj : j < its.toArray.size := by simpa using hjl
      have at_ : ∀ (m : Nat) (hm : m < its.toArray.size) (z' : PyData), ds[m]? = some z' → SeqAt.readOf s.heap its.toArray[m] = z' := by
        intro m hm z' hz'
        have hml : m < its.length := by simpa using hm
        rw [← hmap, List.getElem?_map, List.getElem?_eq_getElem hml] at hz'
        have e1 : SeqAt.readOf s.heap its[m] = z' := Option.some.inj (show some (SeqAt.readOf s.heap its[m]) = some z' from hz')
        simpa using e1
      refine call_meets PySem.F.slot_tuple_index ⟨_, ho, rfl⟩ PySem.F.entry_tuple_index (PySem.F.args_tuple_index_2 _ _)
        (TI.tuple_indexAt a its.toArray n dd sls uy (fun u => PyData.eqv (SeqAt.readOf s.heap u) d) j hj ?_ ?_) ⟨ho, SeqAt.items_eqAt (vs := its.toArray) (show ReadsAll s.heap its.toArray.toList ds as from h4) r1 hxs (SeqAt.canLay_of_shaped sd) hroom, ?_⟩
      · show PyData.eqv (SeqAt.readOf s.heap its.toArray[j]) d = true
        rw [at_ j hj z hz]
        exact hzj
      · intro m hm hmj
        have hmd : m < ds.length := by omega
        have hz' : ds[m]? = some ds[m] := List.getElem?_eq_getElem hmd
        show PyData.eqv (SeqAt.readOf s.heap its.toArray[m]) d = false
        rw [at_ m hm _ hz']
        exact hno m _ hmj hz'
      · exact ⟨.int (j : Nat), H, I.tok _, ⟨_, rfl⟩, q⟩
end
end My
namespace MyM
open PySem PySem.Spec PyProof.Rows
open AutoSeq1 MeetsSeq MeetsSeq2 MeetsSeq3 SeqRoads2
theorem extendT (l : Addr) (items : Array Value) (n : Nat) (b : Addr) (items2 : Array Value) (n2 : Nat) (dd : Option Addr) (sl : Array (Option Value)) (hs0 : ¬(!items.isEmpty && Builtin.List.listTooLong (items.size + items2.size)) = true) (hs1 : items.size ≤ sizeLine) (hs2 : items.size + items2.size ≤ sizeLine + 1) :
    Meets (Builtin.«list.extend» ⟨[.ref l, .ref b], []⟩) (fun _ R s => s.heap.get? l = some { cls := .type "list", dict := none, data := .seq items n, slots := #[] } ∧ s.heap.get? b = some { cls := .type "tuple", dict := dd, data := .seq items2 n2, slots := sl } ∧ R (.ok (.ret Value.none)) { s with heap := s.heap.update l (Obj.mapSeq fun x => x ++ items2), toks := s.toks }) :=
  .of_wp fun prog w A R s h => by
    obtain ⟨hp, g, d, tk, os⟩ := s; obtain ⟨hl, hb, h⟩ := h; have f1 := idx_int; have f2 := AutoSeq1.sub_tuple_tuple; have f3 := AutoSeq1.sub_list_list; have f4 := AutoSeq1.sub_tuple_list; have f5 := AutoSeq1.sub_list_tuple
    have hz' : (items ++ items2).size ≤ sizeLine + 1 := by rw [Array.size_append]; exact hs2
    wp_walk using (wpAny_updateSeq hl rfl (hz := hs1) (_hz' := hz')), wpAny_loadPart' hl, wpAny_loadPart' hb; exact ⟨_, rfl, h⟩
end MyM
namespace My
open PySem PySem.Spec PyProof.Rows L2
section
variable {X : Cx}
def rExtendT (K : PySem.W.Frag) : V → List V → Hp → VK → Prop := fun x vs H Q => ∃ l b xs zs, x = .ref l ∧ vs = [.ref b] ∧ H l = some (.lst xs) ∧ SqT K H b zs ∧ xs.length + zs.length ≤ sizeLine ∧ Q .non (upd H l (.lst (xs ++ zs)))
theorem mt_extendT : MtR X "list.extend" (rExtendT X.K) := by
  intro pins s σ H x vs v us Q I rx rv h
  obtain ⟨l, b, xs, zs, rfl, rfl, hH, hB, hz, q⟩ := h
  cases rx
  obtain ⟨u, rfl, ru⟩ := rv.one
  cases ru
  obtain ⟨z, its, n, r, hl, e⟩ := I.lstM hH
  obtain ⟨its2, r2, ⟨⟨cls, dd, data, sls⟩, e2, hc, n2, hdt⟩, z2⟩ := I.tuple hB
  simp only at hc hdt
  subst hc hdt
  have hl2 := r2.length
  have hsz : its.toArray.size + its2.toArray.size ≤ sizeLine := by rw [List.size_toArray, List.size_toArray]; omega
  have hlong : ¬ (!its.toArray.isEmpty && Builtin.List.listTooLong (its.toArray.size + its2.toArray.size)) = true := by
    rw [notLongL hsz, Bool.and_false]
    exact Bool.false_ne_true
  refine call_meets F.slot_list_extend ⟨_, e, rfl⟩ F.entry_list_extend (F.args_list_extend_2 _ _)
    (MyM.extendT l its.toArray n b its2.toArray n2 dd sls hlong (by rw [List.size_toArray]; omega) (by omega)) ⟨e, e2, ?_⟩
  refine ⟨.non, _, I.lset (its' := its ++ its2) hH e (by simp) (r.append r2) ?_, rfl, q⟩
  rw [List.length_append]
  omega
def tCallLS (X : Cx) (k i : Nat) (te : TE) : TE := fun σ H Q => ∃ f sp, σ[i]? = some (some (.ref f)) ∧ Held X.prog X.w X.K X.mg X.base k f sp ∧ te σ H fun y H1 => ∃ a xs, y = .ref a ∧ (SqT X.K H1 a xs ∨ SqL X.K H1 a xs) ∧ sp xs H1 Q (fun _ _ _ => False)
theorem pe_callLS {k i : Nat} {x : Str} {p pos sp_ : Pos} {e : Expr} {te : TE} (hr : Room k X.A) (hN : X.N[i]? = some x) (hv : Vis X.env.scope x) (he : PE X e te)
    (hdb : (x == ("__debug__" : Str)) = false := by decide) (hcd : (x == ("__classdict__" : Str)) = false := by decide)
    (hst : starEach [.Starred e sp_] X.env = [(true, eval e X.env)] := by rfl) : PE X (.Call (.Name x p) [.Starred e sp_] [] pos) (tCallLS X k i te) := by
  refine ⟨fun pins s σ H Q I h => ?_⟩
  obtain ⟨f, sp, hs, ⟨fd, ps, F, hk, hb⟩, ht⟩ := h
  refine wpAny_Call_Name_kw (thn ((pe_var (pos := p) hN hv hdb hcd).run pins s σ H (fun v H1 => v = .ref f ∧ H1 = H) I ⟨.ref f, hs, rfl, rfl⟩) fun u s1 ⟨v, H1, I1, r1, q1⟩ => ?_)
  obtain ⟨rfl, rfl⟩ := q1
  cases r1
  refine PySem.W.callWith_S (h₀ := X.base) I1.ok.mod.kin hk (thn (he.run pins s1 σ _ _ I1 ht) fun v s2 ⟨y, H2, I2, ry, a, xs, ey, hxs, q⟩ => ?_) hst
  subst ey
  obtain rfl : v = Value.ref a := ry
  refine StX.star_any I2 hxs fun us s3 I3 rv => ⟨I3.kIn, ?_⟩
  have e0 : xs ++ [] = xs := List.append_nil xs
  exact run_fn (dvs := []) (ds := []) (E := fun _ _ _ => False) F hr hb .nil (fun _ _ _ _ _ _ _ z => z.elim) I3 rv (by rw [e0]; exact q)
end
theorem u65 {k : Nat} {A : Around} (r : Room k A) : A.units + 65 < cLine := by
  have := r.un
  omega

/-! ### exprs of knots -/
inductive E where
  | nm (x : Str) | tr (b : Int) | un (a : E) | bi (w : Str) (a b : E) | pk (a b c : E) | ot (w : Str) (ds : List PyData)
def E.d : E → PyData
  | .nm x => .tuple [.str "name", .str x]
  | .tr b => .tuple [.str "truth", .int b]
  | .un a => .tuple [.str "not", a.d]
  | .bi w a b => .tuple [.str w, a.d, b.d]
  | .pk a b c => .tuple [.str "pick", a.d, b.d, c.d]
  | .ot w ds => .tuple (.str w :: ds)
def bins : List Str := ["and", "or", "xor"]
def inner : List Str := ["not", "and", "or", "xor", "pick", "name", "truth"]
def E.ok : E → Prop
  | .nm x => PyData.strOk x = true
  | .tr b => b = 0 ∨ b = 1
  | .un a => a.ok
  | .bi w a b => w ∈ bins ∧ a.ok ∧ b.ok
  | .pk a b c => a.ok ∧ b.ok ∧ c.ok
  | .ot w ds => w ∉ inner ∧ PyData.strOk w = true ∧ plainAll ds = true ∧ PyData.depthAll ds ≤ 9
def E.dp : E → Nat
  | .nm _ => 0
  | .tr _ => 0
  | .un a => a.dp + 1
  | .bi _ a b => max a.dp b.dp + 1
  | .pk a b c => max a.dp (max b.dp c.dp) + 1
  | .ot _ _ => 0
def E.sz : E → Nat
  | .nm _ => 1
  | .tr _ => 1
  | .un a => a.sz + 1
  | .bi _ a b => a.sz + b.sz + 1
  | .pk a b c => a.sz + b.sz + c.sz + 1
  | .ot _ _ => 1
theorem E.sz_pos (e : E) : 0 < e.sz := by cases e <;> simp only [E.sz] <;> omega
theorem bins_ok {w : Str} (h : w ∈ bins) : PyData.strOk w = true := by
  have : (bins.all PyData.strOk) = true := by decide +kernel
  exact List.all_eq_true.mp this w h
theorem ok_str {w : Str} : PyData.strOk w = true → plainD (.str w) = true := fun h => h
theorem E.plain : ∀ e : E, e.ok → plainD e.d = true
  | .nm x, h => by
    show (PyData.strOk "name" && (PyData.strOk x && true)) = true
    rw [show PyData.strOk x = true from h]
    decide +kernel
  | .tr b, _ => by
    show (PyData.strOk "truth" && (true && true)) = true
    decide +kernel
  | .un a, h => by
    show (PyData.strOk "not" && (plainD a.d && true)) = true
    rw [E.plain a h]
    decide +kernel
  | .bi w a b, ⟨hw, ha, hb⟩ => by
    show (PyData.strOk w && (plainD a.d && (plainD b.d && true))) = true
    rw [E.plain a ha, E.plain b hb, bins_ok hw]
    rfl
  | .pk a b c, ⟨ha, hb, hc⟩ => by
    show (PyData.strOk "pick" && (plainD a.d && (plainD b.d && (plainD c.d && true)))) = true
    rw [E.plain a ha, E.plain b hb, E.plain c hc]
    decide +kernel
  | .ot w ds, ⟨_, hw, hd, _⟩ => by
    show (PyData.strOk w && plainAll ds) = true
    rw [hw, hd]
    rfl
theorem E.depth : ∀ e : E, e.ok → PyData.depth e.d ≤ e.dp + 10
  | .nm x, _ => by simp only [E.d, PyData.depth, PyData.depthAll, E.dp]; omega
  | .tr b, _ => by simp only [E.d, PyData.depth, PyData.depthAll, E.dp]; omega
  | .un a, h => by
    have := E.depth a h
    simp only [E.d, PyData.depth, PyData.depthAll, E.dp]
    omega
  | .bi w a b, ⟨_, ha, hb⟩ => by
    have := E.depth a ha
    have := E.depth b hb
    simp only [E.d, PyData.depth, PyData.depthAll, E.dp]
    omega
  | .pk a b c, ⟨ha, hb, hc⟩ => by
    have := E.depth a ha
    have := E.depth b hb
    have := E.depth c hc
    simp only [E.d, PyData.depth, PyData.depthAll, E.dp]
    omega
  | .ot w ds, ⟨_, _, _, hd⟩ => by
    simp only [E.d, PyData.depth, PyData.depthAll, E.dp]
    omega
theorem E.shaped {e : E} (h : e.ok) (h2 : e.dp ≤ 40) : SeqAt.shaped e.d = true := by
  have h3 := E.depth e h
  show (e.d.canLay0 && decide (e.d.depth ≤ 64)) = true
  rw [plain_lay _ (E.plain e h), decide_eq_true (by omega)]
  rfl
def goodE (e : E) : Prop := e.ok ∧ e.dp ≤ 12
theorem plainMap : ∀ {es : List E}, (∀ e ∈ es, goodE e) → plainAll (es.map E.d) = true
  | [], _ => rfl
  | e :: r, h => by
    show (plainD e.d && plainAll (r.map E.d)) = true
    rw [E.plain e (h e (by simp)).1, plainMap fun x hx => h x (by simp [hx])]
    rfl
theorem depthMap : ∀ {es : List E}, (∀ e ∈ es, goodE e) → PyData.depthAll (es.map E.d) ≤ 22
  | [], _ => by simp [PyData.depthAll]
  | e :: r, h => by
    have h1 := E.depth e (h e (by simp)).1
    have h2 := (h e (by simp)).2
    have h3 := depthMap (es := r) fun x hx => h x (by simp [hx])
    simp only [List.map_cons, PyData.depthAll]
    omega
theorem shapedTup {es : List E} (h : ∀ e ∈ es, goodE e) : SeqAt.shaped (.tuple (es.map E.d)) = true := by
  have h3 := depthMap h
  show (PyData.canLay0 (.tuple (es.map E.d)) && decide (PyData.depth (.tuple (es.map E.d)) ≤ 64)) = true
  rw [show PyData.canLay0 (.tuple (es.map E.d)) = true from plain_layAll _ (plainMap h), decide_eq_true (by simp only [PyData.depth]; omega)]
  rfl
theorem shapedLst {es : List E} (h : ∀ e ∈ es, goodE e) : SeqAt.shaped (.list (es.map E.d)) = true := by
  have h3 := depthMap h
  show (PyData.canLay0 (.list (es.map E.d)) && decide (PyData.depth (.list (es.map E.d)) ≤ 64)) = true
  rw [show PyData.canLay0 (.list (es.map E.d)) = true from plain_layAll _ (plainMap h), decide_eq_true (by simp only [PyData.depth]; omega)]
  rfl
/-! ### places of exprs and names -/
def ixOf : List E → E → Option Nat
  | [], _ => none
  | p :: r, e => if PyData.eqv p.d e.d = true then some 0 else (ixOf r e).map (· + 1)
theorem ixOf_some : ∀ {ps : List E} {e : E} {j : Nat}, ixOf ps e = some j → ∃ p, ps[j]? = some p ∧ PyData.eqv p.d e.d = true ∧ ∀ m q, m < j → ps[m]? = some q → PyData.eqv q.d e.d = false
  | [], _, _, h => by cases h
  | p :: r, e, j, h => by
    unfold ixOf at h
    by_cases hp : PyData.eqv p.d e.d = true
    · rw [if_pos hp] at h
      cases h
      exact ⟨p, rfl, hp, fun m q hm => absurd hm (Nat.not_lt_zero _)⟩
    · rw [if_neg hp] at h
      obtain ⟨i, hi, rfl⟩ := Option.map_eq_some_iff.mp h
      obtain ⟨q, h1, h2, h3⟩ := ixOf_some hi
      refine ⟨q, h1, h2, fun m x hm hx => ?_⟩
      cases m with
      | zero =>
        cases hx
        exact Bool.eq_false_iff.mpr hp
      | succ m => exact h3 m x (by omega) hx
theorem ixOf_none : ∀ {ps : List E} {e : E}, ixOf ps e = none → ∀ p ∈ ps, PyData.eqv p.d e.d = false
  | [], _, _, _, hp => by cases hp
  | p :: r, e, h, q, hq => by
    unfold ixOf at h
    by_cases hp : PyData.eqv p.d e.d = true
    · rw [if_pos hp] at h
      cases h
    · rw [if_neg hp] at h
      rcases List.mem_cons.mp hq with rfl | hq
      · exact Bool.eq_false_iff.mpr hp
      · exact ixOf_none (Option.map_eq_none_iff.mp h) q hq
theorem ixOf_any (ps : List E) (e : E) : (ps.map E.d).any (fun z => PyData.eqv z e.d) = (ixOf ps e).isSome := by
  induction ps with
  | nil => rfl
  | cons p r ih =>
    unfold ixOf
    rw [List.map_cons, List.any_cons, ih]
    by_cases hp : PyData.eqv p.d e.d = true
    · rw [if_pos hp, hp]
      rfl
    · rw [if_neg hp, Bool.eq_false_iff.mpr hp]
      cases ixOf r e <;> rfl
theorem ixOf_app {ps qs : List E} {e : E} (h : (ixOf ps e).isSome = true) : (ixOf (ps ++ qs) e).isSome = true := by
  rw [← ixOf_any] at h ⊢
  rw [List.map_append, List.any_append, h]
  rfl
theorem eqv_self {e : E} (h : e.ok) : PyData.eqv e.d e.d = true := (eqv_iff (E.plain e h) (E.plain e h)).mpr rfl
theorem ixOf_last {ps : List E} {e : E} (h : e.ok) : (ixOf (ps ++ [e]) e).isSome = true := by
  rw [← ixOf_any, List.map_append, List.any_append]
  have : ([e].map E.d).any (fun z => PyData.eqv z e.d) = true := by
    show (PyData.eqv e.d e.d || false) = true
    rw [eqv_self h]
    rfl
  rw [this, Bool.or_true]
theorem ixOf_lt {ps : List E} {e : E} {j : Nat} (h : ixOf ps e = some j) : j < ps.length := by
  obtain ⟨p, h1, _⟩ := ixOf_some h
  exact (List.getElem?_eq_some_iff.mp h1).1
def ixS : List Str → Str → Option Nat
  | [], _ => none
  | y :: r, x => if y = x then some 0 else (ixS r x).map (· + 1)
theorem ixS_mem : ∀ {ys : List Str} {x : Str}, x ∈ ys → ∃ j, ixS ys x = some j ∧ ys[j]? = some x ∧ ∀ m, m < j → ys[m]? ≠ some x
  | y :: r, x, h => by
    unfold ixS
    by_cases hy : y = x
    · rw [if_pos hy]
      exact ⟨0, rfl, by rw [hy]; rfl, fun m hm => absurd hm (Nat.not_lt_zero _)⟩
    · rw [if_neg hy]
      have hr : x ∈ r := by
        rcases List.mem_cons.mp h with e | e
        · exact absurd e.symm hy
        · exact e
      obtain ⟨j, e, h1, h2⟩ := ixS_mem hr
      refine ⟨j + 1, by rw [e]; rfl, h1, fun m hm => ?_⟩
      cases m with
      | zero => exact fun z => hy (Option.some.inj z)
      | succ m => exact h2 m (by omega)
/-! ### truths that may be unknown -/
abbrev O := Option Int
def ov : O → V
  | none => .non
  | some i => .int i
def oD : O → PyData
  | none => .none
  | some i => .int i
theorem ov_dp {K : PySem.W.Frag} {H : Hp} (o : O) : Dp K H (ov o) (oD o) := by
  cases o with
  | none => exact .non
  | some i => exact .int i
theorem oD_shaped (o : O) : SeqAt.shaped (oD o) = true := by cases o <;> rfl
theorem oD_plain (o : O) : plainD (oD o) = true := by cases o <;> rfl
theorem oD_inj {a b : O} (h : oD a = oD b) : a = b := by
  cases a <;> cases b <;> cases h <;> rfl
theorem oD_eqv (a b : O) : PyData.eqv (oD a) (oD b) = decide (a = b) := by
  by_cases h : a = b
  · rw [h, decide_eq_true rfl]
    exact (eqv_iff (oD_plain b) (oD_plain b)).mpr rfl
  · rw [decide_eq_false h]
    exact Bool.eq_false_iff.mpr fun z => h (oD_inj ((eqv_iff (oD_plain a) (oD_plain b)).mp z))
def bit (o : O) : Prop := o = none ∨ o = some 0 ∨ o = some 1
def lnot : O → O
  | none => none
  | some a => some (1 - a)
def land (a b : O) : O := if a = some 0 ∨ b = some 0 then some 0 else if a = some 1 ∧ b = some 1 then some 1 else none
def lor (a b : O) : O := if a = some 1 ∨ b = some 1 then some 1 else if a = some 0 ∧ b = some 0 then some 0 else none
def lxor : O → O → O
  | some a, some b => some (if a = b then 0 else 1)
  | _, _ => none
def lpick (a b c : O) : O := match a with
  | none => if b = c then b else none
  | some a => if a = 1 then b else c
def lbi (w : Str) (a b : O) : O := if w = "and" then land a b else if w = "or" then lor a b else lxor a b
theorem bit_not {a : O} (h : bit a) : bit (lnot a) := by
  rcases h with rfl | rfl | rfl <;> unfold lnot bit <;> simp
theorem bit_bi {w : Str} {a b : O} (ha : bit a) (hb : bit b) : bit (lbi w a b) := by
  have k : ∀ o : O, bit o ↔ o = none ∨ o = some 0 ∨ o = some 1 := fun o => Iff.rfl
  unfold lbi
  rw [k]
  rcases ha with rfl | rfl | rfl <;> rcases hb with rfl | rfl | rfl <;> by_cases h1 : w = "and" <;> by_cases h2 : w = "or" <;> simp only [h1, h2, if_true, if_false] <;> decide
theorem bit_pick {a b c : O} (hb : bit b) (hc : bit c) : bit (lpick a b c) := by
  unfold lpick
  cases a with
  | none =>
    by_cases h : b = c
    · simp only [h, if_true]
      exact hc
    · simp only [h, if_false]
      exact .inl rfl
  | some a =>
    by_cases h : a = 1
    · simp only [h, if_true]
      exact hb
    · simp only [h, if_false]
      exact hc
/-- known or not yet -/
def le (a b : O) : Prop := a = none ∨ a = b
theorem le_refl (a : O) : le a a := .inr rfl
theorem le_trans {a b c : O} (h : le a b) (k : le b c) : le a c := by
  rcases h with h | h
  · exact .inl h
  · rw [h]
    exact k
theorem mono_not {a a' : O} (h : le a a') : le (lnot a) (lnot a') := by
  rcases h with rfl | rfl
  · exact .inl rfl
  · exact .inr rfl
theorem mono_bi {w : Str} {a a' b b' : O} (ha : bit a') (hb : bit b') (h : le a a') (k : le b b') : le (lbi w a b) (lbi w a' b') := by
  have t : ∀ o p : O, le o p ↔ o = none ∨ o = p := fun o p => Iff.rfl
  rcases h with rfl | rfl
  · rcases k with rfl | rfl
    · unfold lbi
      rw [t]
      by_cases h1 : w = "and" <;> by_cases h2 : w = "or" <;> simp only [h1, h2, if_true, if_false] <;> exact .inl rfl
    · unfold lbi
      rw [t]
      rcases ha with rfl | rfl | rfl <;> rcases hb with rfl | rfl | rfl <;> by_cases h1 : w = "and" <;> by_cases h2 : w = "or" <;> simp only [h1, h2, if_true, if_false] <;> decide
  · rcases k with rfl | rfl
    · unfold lbi
      rw [t]
      rcases ha with rfl | rfl | rfl <;> rcases hb with rfl | rfl | rfl <;> by_cases h1 : w = "and" <;> by_cases h2 : w = "or" <;> simp only [h1, h2, if_true, if_false] <;> decide
    · exact .inr rfl
theorem mono_pick {a a' b b' c c' : O} (h : le a a') (k : le b b') (l : le c c') : le (lpick a b c) (lpick a' b' c') := by
  rcases h with rfl | rfl
  · unfold lpick
    by_cases e : b = c
    · simp only [e, if_true]
      subst e
      rcases l with rfl | rfl
      · exact .inl rfl
      · rcases k with rfl | rfl
        · exact .inl rfl
        · cases a' with
          | none => simp only [if_true]; exact .inr rfl
          | some z => by_cases hz : z = 1 <;> simp only [hz, if_true, if_false] <;> exact .inr rfl
    · simp only [e, if_false]
      exact .inl rfl
  · unfold lpick
    cases a with
    | none =>
      by_cases e : b = c
      · simp only [e, if_true]
        subst e
        rcases l with rfl | rfl
        · exact .inl rfl
        · rcases k with rfl | rfl
          · exact .inl rfl
          · simp only [if_true]
            exact .inr rfl
      · simp only [e, if_false]
        exact .inl rfl
    | some z => by_cases hz : z = 1 <;> simp only [hz, if_true, if_false] <;> assumption
/-! ### what an expr has -/
def orP (ps : List E) (ts : List Int) (e : E) (r : O) : O := match ixOf ps e with
  | some j => some (ts.getD j 0)
  | none => r
def val (own : List Str) (ps : List E) (ts : List Int) (kn : List O) : E → O
  | .nm x => orP ps ts (.nm x) ((kn[(ixS own x).getD 0]?).getD none)
  | .tr b => orP ps ts (.tr b) (some b)
  | .un a => orP ps ts (.un a) (lnot (val own ps ts kn a))
  | .bi w a b => orP ps ts (.bi w a b) (lbi w (val own ps ts kn a) (val own ps ts kn b))
  | .pk a b c => orP ps ts (.pk a b c) (lpick (val own ps ts kn a) (val own ps ts kn b) (val own ps ts kn c))
  | .ot w ds => orP ps ts (.ot w ds) none
def bitsI (ts : List Int) : Prop := ∀ t ∈ ts, t = 0 ∨ t = 1
def bitsO (kn : List O) : Prop := ∀ o ∈ kn, bit o
theorem getD_bit {ts : List Int} (h : bitsI ts) (j : Nat) : ts.getD j 0 = 0 ∨ ts.getD j 0 = 1 := by
  rw [List.getD_eq_getElem?_getD]
  cases e : ts[j]? with
  | none => exact .inl rfl
  | some t => exact h t (List.mem_of_getElem? e)
theorem orP_bit {ps : List E} {ts : List Int} {e : E} {r : O} (h : bitsI ts) (hr : bit r) : bit (orP ps ts e r) := by
  unfold orP
  cases ixOf ps e with
  | none => exact hr
  | some j =>
    rcases getD_bit h j with z | z
    · simp only [z]
      exact .inr (.inl rfl)
    · simp only [z]
      exact .inr (.inr rfl)
theorem orP_mono {ps : List E} {ts : List Int} {e : E} {r r' : O} (h : le r r') : le (orP ps ts e r) (orP ps ts e r') := by
  unfold orP
  cases ixOf ps e with
  | none => exact h
  | some j => exact .inr rfl
theorem kn_bit {kn : List O} (h : bitsO kn) (j : Nat) : bit ((kn[j]?).getD none) := by
  cases e : kn[j]? with
  | none => exact .inl rfl
  | some o => exact h o (List.mem_of_getElem? e)
theorem val_bit {own : List Str} {ps : List E} {ts : List Int} {kn : List O} (h : bitsI ts) (hk : bitsO kn) : ∀ e : E, e.ok → bit (val own ps ts kn e)
  | .nm x, _ => orP_bit h (kn_bit hk _)
  | .tr b, hb => orP_bit h (by rcases hb with z | z <;> rw [z] <;> unfold bit <;> simp)
  | .un a, ha => orP_bit h (bit_not (val_bit h hk a ha))
  | .bi w a b, ⟨_, ha, hb⟩ => orP_bit h (bit_bi (val_bit h hk a ha) (val_bit h hk b hb))
  | .pk a b c, ⟨ha, hb, hc⟩ => orP_bit h (bit_pick (val_bit h hk b hb) (val_bit h hk c hc))
  | .ot w ds, _ => orP_bit h (.inl rfl)
def leL (s t : List O) : Prop := s.length = t.length ∧ ∀ (i : Nat) (a b : O), s[i]? = some a → t[i]? = some b → le a b
theorem leL_refl (s : List O) : leL s s := ⟨rfl, fun i a b h k => by rw [h] at k; cases k; exact le_refl _⟩
theorem leL_trans {s t u : List O} (h : leL s t) (k : leL t u) : leL s u := ⟨h.1.trans k.1, fun i a b e f => by
  have hi : i < t.length := by
    have := (List.getElem?_eq_some_iff.mp e).1
    rw [← h.1]
    exact this
  exact le_trans (h.2 i a _ e (List.getElem?_eq_getElem hi)) (k.2 i _ b (List.getElem?_eq_getElem hi) f)⟩
theorem leL_get {s t : List O} (h : leL s t) (j : Nat) : le ((s[j]?).getD none) ((t[j]?).getD none) := by
  cases e : s[j]? with
  | none => exact .inl rfl
  | some a =>
    have hi : j < t.length := by
      have := (List.getElem?_eq_some_iff.mp e).1
      rw [← h.1]
      exact this
    have f := List.getElem?_eq_getElem hi
    rw [f]
    exact h.2 j a _ e f
theorem val_mono {own : List Str} {ps : List E} {ts : List Int} {s t : List O} (h : bitsI ts) (ht : bitsO t) (l : leL s t) : ∀ e : E, e.ok → le (val own ps ts s e) (val own ps ts t e)
  | .nm x, _ => orP_mono (leL_get l _)
  | .tr b, _ => orP_mono (le_refl _)
  | .un a, ha => orP_mono (mono_not (val_mono h ht l a ha))
  | .bi w a b, ⟨_, ha, hb⟩ => orP_mono (mono_bi (val_bit h ht a ha) (val_bit h ht b hb) (val_mono h ht l a ha) (val_mono h ht l b hb))
  | .pk a b c, ⟨ha, hb, hc⟩ => orP_mono (mono_pick (val_mono h ht l a ha) (val_mono h ht l b hb) (val_mono h ht l c hc))
  | .ot w ds, _ => orP_mono (le_refl _)
/-! ### rounds -/
structure St0 where
  own : List Str
  ps : List E
  ts : List Int
  es : List E
structure St0.good (z : St0) : Prop where
  ts : bitsI z.ts
  es : ∀ e ∈ z.es, e.ok
def St0.one (z : St0) (kn : List O) (i : Nat) : List O := match z.es[i]? with
  | some e => kn.set i (val z.own z.ps z.ts kn e)
  | none => kn
def St0.upto (z : St0) (kn : List O) : Nat → List O
  | 0 => kn
  | i + 1 => z.one (z.upto kn i) i
def St0.round (z : St0) (kn : List O) : List O := z.upto kn z.es.length
def St0.iter (z : St0) : Nat → List O
  | 0 => List.replicate z.es.length none
  | j + 1 => z.round (z.iter j)
def St0.Pre (z : St0) (kn : List O) : Prop := kn.length = z.es.length ∧ bitsO kn ∧ ∀ (i : Nat) (e : E) (o : O), z.es[i]? = some e → kn[i]? = some o → le o (val z.own z.ps z.ts kn e)
theorem St0.one_pre {z : St0} (g : z.good) {kn : List O} (h : z.Pre kn) (i : Nat) : z.Pre (z.one kn i) ∧ leL kn (z.one kn i) := by
  obtain ⟨h1, h2, h3⟩ := h
  unfold St0.one
  cases e : z.es[i]? with
  | none => exact ⟨⟨h1, h2, h3⟩, leL_refl _⟩
  | some x =>
    have hx := g.es x (List.mem_of_getElem? e)
    have hi : i < kn.length := by
      rw [h1]
      exact (List.getElem?_eq_some_iff.mp e).1
    have hb := val_bit (own := z.own) (ps := z.ps) g.ts h2 x hx
    have hl : leL kn (kn.set i (val z.own z.ps z.ts kn x)) := by
      refine ⟨by rw [List.length_set], fun j a b ha hb => ?_⟩
      rw [List.getElem?_set] at hb
      by_cases hj : i = j
      · subst hj
        rw [if_pos rfl, if_pos hi] at hb
        cases hb
        exact h3 i x a e ha
      · rw [if_neg hj, ha] at hb
        cases hb
        exact le_refl _
    have hbits : bitsO (kn.set i (val z.own z.ps z.ts kn x)) := fun o ho => by
      rcases List.mem_or_eq_of_mem_set ho with k | k
      · exact h2 o k
      · rw [k]
        exact hb
    refine ⟨⟨by rw [List.length_set]; exact h1, hbits, fun j y o hy ho => ?_⟩, hl⟩
    have hm := val_mono (own := z.own) (ps := z.ps) g.ts hbits hl y (g.es y (List.mem_of_getElem? hy))
    rw [List.getElem?_set] at ho
    by_cases hj : i = j
    · subst hj
      rw [if_pos rfl, if_pos hi] at ho
      cases ho
      rw [e] at hy
      cases hy
      exact hm
    · rw [if_neg hj] at ho
      exact le_trans (h3 j y o hy ho) hm
theorem St0.upto_pre {z : St0} (g : z.good) {kn : List O} (h : z.Pre kn) : ∀ i, z.Pre (z.upto kn i) ∧ leL kn (z.upto kn i)
  | 0 => ⟨h, leL_refl _⟩
  | i + 1 => by
    obtain ⟨a, b⟩ := St0.upto_pre g h i
    obtain ⟨c, d⟩ := St0.one_pre g a i
    exact ⟨c, leL_trans b d⟩
theorem St0.round_pre {z : St0} (g : z.good) {kn : List O} (h : z.Pre kn) : z.Pre (z.round kn) ∧ leL kn (z.round kn) := St0.upto_pre g h _
theorem rep_get {n i : Nat} {o : O} (h : (List.replicate n (none : O))[i]? = some o) : o = none := by
  have := List.mem_of_getElem? h
  exact (List.mem_replicate.mp this).2
theorem St0.iter_pre {z : St0} (g : z.good) : ∀ j, z.Pre (z.iter j)
  | 0 => ⟨List.length_replicate, fun o ho => .inl (List.mem_replicate.mp ho).2, fun i e o _ ho => .inl (rep_get ho)⟩
  | j + 1 => (St0.round_pre g (St0.iter_pre g j)).1
def nones : List O → Nat
  | [] => 0
  | none :: r => nones r + 1
  | some _ :: r => nones r
theorem nones_le : ∀ s : List O, nones s ≤ s.length
  | [] => Nat.le_refl _
  | none :: r => Nat.succ_le_succ (nones_le r)
  | some _ :: r => Nat.le_succ_of_le (nones_le r)
theorem leL_tail {a b : O} {s t : List O} (h : leL (a :: s) (b :: t)) : le a b ∧ leL s t :=
  ⟨h.2 0 a b rfl rfl, by have := h.1; simp only [List.length_cons] at this; omega, fun i x y hx hy => h.2 (i + 1) x y hx hy⟩
theorem nones_down : ∀ {s t : List O}, leL s t → nones t ≤ nones s ∧ (nones t = nones s → s = t)
  | [], [], _ => ⟨Nat.le_refl _, fun _ => rfl⟩
  | [], _ :: _, h => by cases h.1
  | _ :: _, [], h => by cases h.1
  | a :: s, b :: t, h => by
    obtain ⟨h1, h2⟩ := leL_tail h
    obtain ⟨i1, i2⟩ := nones_down h2
    cases a with
    | none =>
      cases b with
      | none => exact ⟨Nat.succ_le_succ i1, fun e => by rw [i2 (Nat.succ.inj e)]⟩
      | some y => exact ⟨Nat.le_succ_of_le i1, fun e => by have e' : nones t = nones s + 1 := e; omega⟩
    | some x =>
      rcases h1 with z | z
      · cases z
      · subst z
        exact ⟨i1, fun e => by rw [i2 e]⟩
theorem nones_rep : ∀ n, nones (List.replicate n (none : O)) = n
  | 0 => rfl
  | n + 1 => congrArg Nat.succ (nones_rep n)
theorem nones_lt {s t : List O} (h : leL s t) (n : s ≠ t) : nones t < nones s := by
  obtain ⟨a, b⟩ := nones_down h
  rcases Nat.lt_or_ge (nones t) (nones s) with c | c
  · exact c
  · exact absurd (b (by omega)) n
theorem St0.fix_stays {z : St0} {j : Nat} (h : z.round (z.iter j) = z.iter j) : ∀ k, z.iter (j + k) = z.iter j
  | 0 => rfl
  | k + 1 => by
    show z.round (z.iter (j + k)) = _
    rw [St0.fix_stays h k, h]
theorem St0.count {z : St0} (g : z.good) : ∀ j, (∃ i, i ≤ j ∧ z.round (z.iter i) = z.iter i) ∨ nones (z.iter j) + j ≤ z.es.length
  | 0 => .inr (by show nones (List.replicate _ _) + 0 ≤ _; rw [nones_rep]; exact Nat.le_refl _)
  | j + 1 => by
    rcases St0.count g j with ⟨i, hi, h⟩ | h
    · exact .inl ⟨i, by omega, h⟩
    · by_cases e : z.round (z.iter j) = z.iter j
      · exact .inl ⟨j, by omega, e⟩
      · have := nones_lt (St0.round_pre g (St0.iter_pre g j)).2 (fun q => e q.symm)
        refine .inr ?_
        show nones (z.round (z.iter j)) + (j + 1) ≤ _
        omega
theorem St0.lim_fix {z : St0} (g : z.good) : z.round (z.iter z.es.length) = z.iter z.es.length := by
  rcases St0.count g z.es.length with ⟨i, hi, h⟩ | h
  · have e := St0.fix_stays h (z.es.length - i)
    rw [show i + (z.es.length - i) = z.es.length by omega] at e
    rw [e, h]
  · have h0 : nones (z.iter z.es.length) = 0 := by omega
    have l := (St0.round_pre g (St0.iter_pre g z.es.length)).2
    have d := nones_down l
    exact (d.2 (by omega)).symm
theorem St0.lim {z : St0} (g : z.good) {j : Nat} (h : z.round (z.iter j) = z.iter j) : z.iter j = z.iter z.es.length := by
  rcases Nat.le_total j z.es.length with k | k
  · have e := St0.fix_stays h (z.es.length - j)
    rw [show j + (z.es.length - j) = z.es.length by omega] at e
    exact e.symm
  · have e := St0.fix_stays (St0.lim_fix g) (j - z.es.length)
    rw [show z.es.length + (j - z.es.length) = j by omega] at e
    exact e
/-! ### the parts that enter -/
def leafIn (e : E) (f : List E) : List E := if (ixOf f e).isSome = true then f else f ++ [e]
def E.hangs (own : List Str) : E → Bool
  | .nm x => decide (x ∈ own)
  | .tr _ => false
  | .un a => a.hangs own
  | .bi _ a b => a.hangs own || b.hangs own
  | .pk a b c => a.hangs own || (b.hangs own || c.hangs own)
  | .ot _ _ => false
def E.enter (own : List Str) : E → List E → List E
  | .nm x, f => if (E.nm x).hangs own = true then f else leafIn (.nm x) f
  | .tr _, f => f
  | .un a, f => if (E.un a).hangs own = true then a.enter own f else leafIn (.un a) f
  | .bi w a b, f => if (E.bi w a b).hangs own = true then b.enter own (a.enter own f) else leafIn (.bi w a b) f
  | .pk a b c, f => if (E.pk a b c).hangs own = true then c.enter own (b.enter own (a.enter own f)) else leafIn (.pk a b c) f
  | .ot w ds, f => leafIn (.ot w ds) f
def E.cov (own : List Str) (ps : List E) : E → Prop
  | .nm x => (ixOf ps (.nm x)).isSome = true ∨ x ∈ own
  | .tr _ => True
  | .un a => (ixOf ps (.un a)).isSome = true ∨ a.cov own ps
  | .bi w a b => (ixOf ps (.bi w a b)).isSome = true ∨ (a.cov own ps ∧ b.cov own ps)
  | .pk a b c => (ixOf ps (.pk a b c)).isSome = true ∨ (a.cov own ps ∧ b.cov own ps ∧ c.cov own ps)
  | .ot w ds => (ixOf ps (.ot w ds)).isSome = true
theorem E.cov_app {own : List Str} {ps qs : List E} : ∀ e : E, e.cov own ps → e.cov own (ps ++ qs)
  | .nm x, h => h.imp ixOf_app id
  | .tr _, _ => trivial
  | .un a, h => h.imp ixOf_app (E.cov_app a)
  | .bi w a b, h => h.imp ixOf_app fun ⟨x, y⟩ => ⟨E.cov_app a x, E.cov_app b y⟩
  | .pk a b c, h => h.imp ixOf_app fun ⟨x, y, u⟩ => ⟨E.cov_app a x, E.cov_app b y, E.cov_app c u⟩
  | .ot w ds, h => ixOf_app h
theorem leaf_app (e : E) (f : List E) : ∃ g, leafIn e f = f ++ g := by
  unfold leafIn
  by_cases h : (ixOf f e).isSome = true
  · rw [if_pos h]
    exact ⟨[], by simp⟩
  · rw [if_neg h]
    exact ⟨[e], rfl⟩
theorem leaf_len (e : E) (f : List E) : (leafIn e f).length ≤ f.length + 1 := by
  unfold leafIn
  by_cases h : (ixOf f e).isSome = true
  · rw [if_pos h]
    omega
  · rw [if_neg h, List.length_append]
    exact Nat.le_refl _
theorem leaf_good {e : E} {f : List E} (he : goodE e) (hf : ∀ x ∈ f, goodE x) : ∀ x ∈ leafIn e f, goodE x := fun x hx => by
  unfold leafIn at hx
  by_cases h : (ixOf f e).isSome = true
  · rw [if_pos h] at hx
    exact hf x hx
  · rw [if_neg h] at hx
    rcases List.mem_append.mp hx with k | k
    · exact hf x k
    · rw [List.mem_singleton.mp k]
      exact he
theorem leaf_in {e : E} {f : List E} (he : e.ok) : (ixOf (leafIn e f) e).isSome = true := by
  unfold leafIn
  by_cases h : (ixOf f e).isSome = true
  · rw [if_pos h]
    exact h
  · rw [if_neg h]
    exact ixOf_last he
theorem E.enter_app (own : List Str) : ∀ (e : E) (f : List E), ∃ g, e.enter own f = f ++ g
  | .nm x, f => by
    unfold E.enter
    by_cases h : (E.nm x).hangs own = true
    · rw [if_pos h]; exact ⟨[], by simp⟩
    · rw [if_neg h]; exact leaf_app _ _
  | .tr _, f => ⟨[], by unfold E.enter; simp⟩
  | .un a, f => by
    unfold E.enter
    by_cases h : (E.un a).hangs own = true
    · rw [if_pos h]; exact E.enter_app own a f
    · rw [if_neg h]; exact leaf_app _ _
  | .bi w a b, f => by
    unfold E.enter
    by_cases h : (E.bi w a b).hangs own = true
    · rw [if_pos h]
      obtain ⟨g, e⟩ := E.enter_app own a f
      obtain ⟨k, e2⟩ := E.enter_app own b (a.enter own f)
      exact ⟨g ++ k, by rw [e2, e, List.append_assoc]⟩
    · rw [if_neg h]; exact leaf_app _ _
  | .pk a b c, f => by
    unfold E.enter
    by_cases h : (E.pk a b c).hangs own = true
    · rw [if_pos h]
      obtain ⟨g, e⟩ := E.enter_app own a f
      obtain ⟨k, e2⟩ := E.enter_app own b (a.enter own f)
      obtain ⟨l, e3⟩ := E.enter_app own c (b.enter own (a.enter own f))
      exact ⟨g ++ (k ++ l), by rw [e3, e2, e, List.append_assoc, List.append_assoc]⟩
    · rw [if_neg h]; exact leaf_app _ _
  | .ot w ds, f => leaf_app _ _
theorem goodE_un {a : E} (h : goodE (.un a)) : goodE a := ⟨h.1, by have := h.2; simp only [E.dp] at this; omega⟩
theorem goodE_bi {w : Str} {a b : E} (h : goodE (.bi w a b)) : goodE a ∧ goodE b := ⟨⟨h.1.2.1, by have := h.2; simp only [E.dp] at this; omega⟩, ⟨h.1.2.2, by have := h.2; simp only [E.dp] at this; omega⟩⟩
theorem goodE_pk {a b c : E} (h : goodE (.pk a b c)) : goodE a ∧ goodE b ∧ goodE c := ⟨⟨h.1.1, by have := h.2; simp only [E.dp] at this; omega⟩, ⟨h.1.2.1, by have := h.2; simp only [E.dp] at this; omega⟩, ⟨h.1.2.2, by have := h.2; simp only [E.dp] at this; omega⟩⟩
theorem E.enter_good (own : List Str) : ∀ (e : E) (f : List E), goodE e → (∀ x ∈ f, goodE x) → ∀ x ∈ e.enter own f, goodE x
  | .nm x, f, he, hf => by
    unfold E.enter
    by_cases h : (E.nm x).hangs own = true
    · rw [if_pos h]; exact hf
    · rw [if_neg h]; exact leaf_good he hf
  | .tr _, f, he, hf => hf
  | .un a, f, he, hf => by
    unfold E.enter
    by_cases h : (E.un a).hangs own = true
    · rw [if_pos h]; exact E.enter_good own a f (goodE_un he) hf
    · rw [if_neg h]; exact leaf_good he hf
  | .bi w a b, f, he, hf => by
    unfold E.enter
    by_cases h : (E.bi w a b).hangs own = true
    · rw [if_pos h]; exact E.enter_good own b _ (goodE_bi he).2 (E.enter_good own a f (goodE_bi he).1 hf)
    · rw [if_neg h]; exact leaf_good he hf
  | .pk a b c, f, he, hf => by
    unfold E.enter
    by_cases h : (E.pk a b c).hangs own = true
    · rw [if_pos h]; exact E.enter_good own c _ (goodE_pk he).2.2 (E.enter_good own b _ (goodE_pk he).2.1 (E.enter_good own a f (goodE_pk he).1 hf))
    · rw [if_neg h]; exact leaf_good he hf
  | .ot w ds, f, he, hf => leaf_good he hf
theorem E.enter_len (own : List Str) : ∀ (e : E) (f : List E), (e.enter own f).length ≤ f.length + e.sz
  | .nm x, f => by
    unfold E.enter
    by_cases h : (E.nm x).hangs own = true
    · rw [if_pos h]; omega
    · rw [if_neg h]; exact leaf_len _ _
  | .tr _, f => by unfold E.enter; omega
  | .un a, f => by
    unfold E.enter
    have := E.enter_len own a f
    have := leaf_len (.un a) f
    simp only [E.sz]
    by_cases h : (E.un a).hangs own = true
    · rw [if_pos h]; omega
    · rw [if_neg h]; omega
  | .bi w a b, f => by
    unfold E.enter
    have := E.enter_len own a f
    have := E.enter_len own b (a.enter own f)
    have := leaf_len (.bi w a b) f
    simp only [E.sz]
    by_cases h : (E.bi w a b).hangs own = true
    · rw [if_pos h]; omega
    · rw [if_neg h]; omega
  | .pk a b c, f => by
    unfold E.enter
    have := E.enter_len own a f
    have := E.enter_len own b (a.enter own f)
    have := E.enter_len own c (b.enter own (a.enter own f))
    have := leaf_len (.pk a b c) f
    simp only [E.sz]
    by_cases h : (E.pk a b c).hangs own = true
    · rw [if_pos h]; omega
    · rw [if_neg h]; omega
  | .ot w ds, f => leaf_len _ _
theorem E.enter_cov (own : List Str) : ∀ (e : E) (f : List E), e.ok → e.cov own (e.enter own f)
  | .nm x, f, ho => by
    unfold E.enter
    by_cases h : (E.nm x).hangs own = true
    · exact .inr (of_decide_eq_true h)
    · rw [if_neg h]; exact .inl (leaf_in ho)
  | .tr _, f, _ => trivial
  | .un a, f, ho => by
    unfold E.enter
    by_cases h : (E.un a).hangs own = true
    · rw [if_pos h]; exact .inr (E.enter_cov own a f ho)
    · rw [if_neg h]; exact .inl (leaf_in (e := .un a) ho)
  | .bi w a b, f, ho => by
    unfold E.enter
    by_cases h : (E.bi w a b).hangs own = true
    · rw [if_pos h]
      obtain ⟨g, e⟩ := E.enter_app own b (a.enter own f)
      refine .inr ⟨?_, E.enter_cov own b _ ho.2.2⟩
      rw [e]
      exact E.cov_app a (E.enter_cov own a f ho.2.1)
    · rw [if_neg h]; exact .inl (leaf_in (e := .bi w a b) ho)
  | .pk a b c, f, ho => by
    unfold E.enter
    by_cases h : (E.pk a b c).hangs own = true
    · rw [if_pos h]
      obtain ⟨g, e⟩ := E.enter_app own b (a.enter own f)
      obtain ⟨k, e2⟩ := E.enter_app own c (b.enter own (a.enter own f))
      refine .inr ⟨?_, ?_, E.enter_cov own c _ ho.2.2⟩
      · rw [e2, e]
        exact E.cov_app a (E.cov_app a (E.enter_cov own a f ho.1))
      · rw [e2]
        exact E.cov_app b (E.enter_cov own b _ ho.2.1)
    · rw [if_neg h]; exact .inl (leaf_in (e := .pk a b c) ho)
  | .ot w ds, f, ho => leaf_in ho
/-! ### codes -/
inductive C where
  | en (j : Nat) | tr (b : Int) | nm (j : Nat) | op (w : Str) (n : Nat)
def C.d : C → PyData
  | .en j => .tuple [.str "enter", .int j]
  | .tr b => .tuple [.str "truth", .int b]
  | .nm j => .tuple [.str "name", .int j]
  | .op w n => .tuple [.str w, .int n]
def orC (ps : List E) (e : E) (r : List C) : List C := match ixOf ps e with
  | some j => [.en j]
  | none => r
def cod (own : List Str) (ps : List E) : E → List C
  | .nm x => orC ps (.nm x) [.nm ((ixS own x).getD 0)]
  | .tr b => orC ps (.tr b) [.tr b]
  | .un a => orC ps (.un a) (cod own ps a ++ [.op "not" 1])
  | .bi w a b => orC ps (.bi w a b) (cod own ps a ++ (cod own ps b ++ [.op w 2]))
  | .pk a b c => orC ps (.pk a b c) (cod own ps a ++ (cod own ps b ++ (cod own ps c ++ [.op "pick" 3])))
  | .ot w ds => orC ps (.ot w ds) []
theorem cod_len (own : List Str) (ps : List E) : ∀ e : E, (cod own ps e).length ≤ e.sz
  | .nm x => by
    unfold cod orC
    cases ixOf ps (.nm x) <;> exact Nat.le_refl _
  | .tr b => by
    unfold cod orC
    cases ixOf ps (.tr b) <;> exact Nat.le_refl _
  | .un a => by
    have := cod_len own ps a
    unfold cod orC
    cases ixOf ps (.un a) <;> simp only [E.sz, List.length_append, List.length_cons, List.length_nil] <;> omega
  | .bi w a b => by
    have := cod_len own ps a
    have := cod_len own ps b
    unfold cod orC
    cases ixOf ps (.bi w a b) <;> simp only [E.sz, List.length_append, List.length_cons, List.length_nil] <;> omega
  | .pk a b c => by
    have := cod_len own ps a
    have := cod_len own ps b
    have := cod_len own ps c
    unfold cod orC
    cases ixOf ps (.pk a b c) <;> simp only [E.sz, List.length_append, List.length_cons, List.length_nil] <;> omega
  | .ot w ds => by
    unfold cod orC
    cases ixOf ps (.ot w ds) <;> simp only [E.sz, List.length_cons, List.length_nil] <;> omega
/-- the stack's way through a code ends with v at its bottom -/
def Runs (ts : List Int) (kn : List O) (v : O) : List C → List O → Prop
  | [], st => st[0]? = some v
  | .en j :: r, st => ∃ t, ts[j]? = some t ∧ Runs ts kn v r (st ++ [some t])
  | .tr b :: r, st => Runs ts kn v r (st ++ [some b])
  | .nm j :: r, st => ∃ o, kn[j]? = some o ∧ Runs ts kn v r (st ++ [o])
  | .op w n :: r, st => ∃ s a b c : List O, st = s ++ a ++ b ++ c ∧
      ((w = "not" ∧ n = 1 ∧ ∃ x, a = [] ∧ b = [] ∧ c = [x] ∧ Runs ts kn v r (s ++ [lnot x])) ∨
       (w ∈ bins ∧ n = 2 ∧ ∃ x y, a = [] ∧ b = [x] ∧ c = [y] ∧ bit x ∧ bit y ∧ Runs ts kn v r (s ++ [lbi w x y])) ∨
       (w = "pick" ∧ n = 3 ∧ ∃ x y u, a = [x] ∧ b = [y] ∧ c = [u] ∧ Runs ts kn v r (s ++ [lpick x y u])))
theorem runs_cod {own : List Str} {ps : List E} {ts : List Int} {kn : List O} {v : O} (hl : ps.length = ts.length) (ht : bitsI ts) (hk : bitsO kn) (hkn : kn.length = own.length) :
    ∀ (e : E) (r : List C) (st : List O), e.ok → e.cov own ps → Runs ts kn v r (st ++ [val own ps ts kn e]) → Runs ts kn v (cod own ps e ++ r) st := by
  have en : ∀ (e : E) (j : Nat) (r : List C) (st : List O) (q : O), ixOf ps e = some j → Runs ts kn v r (st ++ [orP ps ts e q]) → Runs ts kn v (.en j :: r) st := fun e j r st q h k => by
    have hj : j < ts.length := by
      rw [← hl]
      exact ixOf_lt h
    unfold orP at k
    rw [h] at k
    refine ⟨ts[j], List.getElem?_eq_getElem hj, ?_⟩
    have e1 : ts.getD j 0 = ts[j] := by rw [List.getD_eq_getElem?_getD, List.getElem?_eq_getElem hj] <;> rfl
    have k2 : Runs ts kn v r (st ++ [some (ts.getD j 0)]) := k
    rw [e1] at k2
    exact k2
  intro e
  induction e with
  | nm x =>
    intro r st ho hc k
    unfold cod orC
    cases h : ixOf ps (.nm x) with
    | some j => exact en _ j r st _ h k
    | none =>
      have hx : x ∈ own := by
        rcases hc with z | z
        · rw [h] at z
          cases z
        · exact z
      obtain ⟨j, e1, e2, _⟩ := ixS_mem hx
      have hj : j < kn.length := by
        rw [hkn]
        exact (List.getElem?_eq_some_iff.mp e2).1
      unfold val orP at k
      rw [h, e1] at k
      have k' : Runs ts kn v r (st ++ [(kn[j]?).getD none]) := k
      rw [List.getElem?_eq_getElem hj] at k'
      show Runs ts kn v (.nm ((ixS own x).getD 0) :: r) st
      rw [e1]
      exact ⟨kn[j], List.getElem?_eq_getElem hj, k'⟩
  | tr b =>
    intro r st ho hc k
    unfold cod orC
    cases h : ixOf ps (.tr b) with
    | some j => exact en _ j r st _ h k
    | none =>
      unfold val orP at k
      rw [h] at k
      exact k
  | un a iha =>
    intro r st ho hc k
    unfold cod orC
    cases h : ixOf ps (.un a) with
    | some j => exact en _ j r st _ h k
    | none =>
      have hc' : a.cov own ps := by
        rcases hc with z | z
        · rw [h] at z
          cases z
        · exact z
      unfold val orP at k
      rw [h] at k
      show Runs ts kn v ((cod own ps a ++ [.op "not" 1]) ++ r) st
      rw [List.append_assoc]
      refine iha _ st ho hc' ?_
      exact ⟨st, [], [], [val own ps ts kn a], by simp, .inl ⟨rfl, rfl, _, rfl, rfl, rfl, k⟩⟩
  | bi w a b iha ihb =>
    intro r st ho hc k
    unfold cod orC
    cases h : ixOf ps (.bi w a b) with
    | some j => exact en _ j r st _ h k
    | none =>
      have hc' : a.cov own ps ∧ b.cov own ps := by
        rcases hc with z | z
        · rw [h] at z
          cases z
        · exact z
      unfold val orP at k
      rw [h] at k
      show Runs ts kn v ((cod own ps a ++ (cod own ps b ++ [.op w 2])) ++ r) st
      rw [List.append_assoc, List.append_assoc]
      refine iha _ st ho.2.1 hc'.1 (ihb _ _ ho.2.2 hc'.2 ?_)
      exact ⟨st, [], [val own ps ts kn a], [val own ps ts kn b], by simp, .inr (.inl ⟨ho.1, rfl, _, _, rfl, rfl, rfl, val_bit ht hk a ho.2.1, val_bit ht hk b ho.2.2, k⟩)⟩
  | pk a b c iha ihb ihc =>
    intro r st ho hc k
    unfold cod orC
    cases h : ixOf ps (.pk a b c) with
    | some j => exact en _ j r st _ h k
    | none =>
      have hc' : a.cov own ps ∧ b.cov own ps ∧ c.cov own ps := by
        rcases hc with z | z
        · rw [h] at z
          cases z
        · exact z
      unfold val orP at k
      rw [h] at k
      show Runs ts kn v ((cod own ps a ++ (cod own ps b ++ (cod own ps c ++ [.op "pick" 3]))) ++ r) st
      rw [List.append_assoc, List.append_assoc, List.append_assoc]
      refine iha _ st ho.1 hc'.1 (ihb _ _ ho.2.1 hc'.2.1 (ihc _ _ ho.2.2 hc'.2.2 ?_))
      exact ⟨st, [val own ps ts kn a], [val own ps ts kn b], [val own ps ts kn c], by simp, .inr (.inr ⟨rfl, rfl, _, _, _, rfl, rfl, rfl, k⟩)⟩
  | ot w ds =>
    intro r st ho hc k
    unfold cod orC
    cases h : ixOf ps (.ot w ds) with
    | some j => exact en _ j r st _ h k
    | none =>
      have z : (ixOf ps (.ot w ds)).isSome = true := hc
      rw [h] at z
      cases z
theorem runs_whole {own : List Str} {ps : List E} {ts : List Int} {kn : List O} (hl : ps.length = ts.length) (ht : bitsI ts) (hk : bitsO kn) (hkn : kn.length = own.length) {e : E} (ho : e.ok) (hc : e.cov own ps) :
    Runs ts kn (val own ps ts kn e) (cod own ps e) [] := by
  have := runs_cod (v := val own ps ts kn e) hl ht hk hkn e [] [] ho hc (by show ([] ++ [_])[0]? = _; rfl)
  rwa [List.append_nil] at this

/-! ### texts as lists of codes -/
def tx (l : List Nat) : Str := ⟨l.toArray⟩
theorem tx_cps (l : List Nat) : (tx l).cps.toList = l := rfl
theorem tx_len (l : List Nat) : (tx l).length = l.length := by
  show l.toArray.size = l.length
  exact List.size_toArray
theorem len_cps (z : Str) : z.length = z.cps.toList.length := by
  show z.cps.size = _
  rw [Array.length_toList]
theorem tx_eta (z : Str) : tx z.cps.toList = z := by
  obtain ⟨a⟩ := z
  show (⟨a.toList.toArray⟩ : Str) = ⟨a⟩
  rw [Array.toArray_toList]
theorem tx_app (a b : List Nat) : tx a ++ tx b = tx (a ++ b) := by
  show (⟨a.toArray ++ b.toArray⟩ : Str) = ⟨(a ++ b).toArray⟩
  rw [List.append_toArray]
theorem tx_inj {a b : List Nat} (h : tx a = tx b) : a = b := by
  have e : (tx a).cps.toList = (tx b).cps.toList := by rw [h]
  exact e
theorem tx_one (c : Nat) : (⟨#[c]⟩ : Str) = tx [c] := rfl
theorem app_len (a b : Str) : (a ++ b).length = a.length + b.length := by
  show (a.cps ++ b.cps).size = _
  rw [Array.size_append]
  rfl
theorem app_cps (a b : Str) : (a ++ b).cps.toList = a.cps.toList ++ b.cps.toList := by
  show (a.cps ++ b.cps).toList = _
  rw [Array.toList_append]
theorem str_ext {a b : Str} (h : a.cps.toList = b.cps.toList) : a = b := by
  rw [← tx_eta a, ← tx_eta b, h]
theorem sgn (z : Str) (i : Nat) {c : Nat} (h : z.cps.toList[i]? = some c) : atI z.cps.toList (i : Int) = some c := atI_nat h
theorem cut_tx (z : Str) (i j : Nat) (hij : i ≤ j) (hj : i ≤ z.length) : cutS z (some (i : Int)) (some (j : Int)) = tx ((z.cps.toList.drop i).take (j - i)) := by
  unfold cutS
  rw [HT.sIx_nat, HT.sIx_nat, Nat.min_eq_left hj]
  refine congrArg (fun q => (⟨q⟩ : Str)) ?_
  refine congrArg List.toArray ?_
  by_cases h : j ≤ z.length
  · rw [Nat.min_eq_left h]
  · rw [Nat.min_eq_right (by omega), List.take_of_length_le (by rw [List.length_drop, len_cps]; exact Nat.le_refl _), List.take_of_length_le (by rw [List.length_drop, ← len_cps]; omega)]
theorem inV_str (x : Str) (xs : List Str) : inV (.str x) (xs.map V.str) = decide (x ∈ xs) := by
  induction xs with
  | nil => rfl
  | cons y r ih =>
    have e : inV (.str x) ((y :: r).map V.str) = ((y == x) || inV (.str x) (r.map V.str)) := rfl
    rw [e, ih]
    by_cases h : y = x
    · rw [h]
      simp
    · have h2 : ¬ x = y := fun q => h q.symm
      simp [h, h2]
/-- every code is one that a text may have -/
def okB (z : Str) : Bool := z.cps.toList.all fun c => decide (c < 1114112)
theorem okB_app {a b : Str} (h1 : okB a = true) (h2 : okB b = true) : okB (a ++ b) = true := by
  unfold okB at *
  rw [app_cps, List.all_append, h1, h2]
  rfl
theorem okB_mem {z : Str} (h : okB z = true) {c : Nat} (hc : c ∈ z.cps.toList) : okB ⟨#[c]⟩ = true := by
  unfold okB at h
  have h2 := List.all_eq_true.mp h c hc
  show ([c].all fun c => decide (c < 1114112)) = true
  rw [List.all_cons, h2]
  rfl

/-! ### the program: logic of three values -/
def rO1 (f : O → O) : V → Hp → VK → Prop := fun x H Q => ∃ a : O, x = ov a ∧ Q (ov (f a)) H
def rO2 (f : O → O → O) : V → V → Hp → VK → Prop := fun x y H Q => ∃ a b : O, x = ov a ∧ y = ov b ∧ bit a ∧ bit b ∧ Q (ov (f a b)) H
def rO3 (f : O → O → O → O) : V → V → V → Hp → VK → Prop := fun x y z H Q => ∃ a b c : O, x = ov a ∧ y = ov b ∧ z = ov c ∧ Q (ov (f a b c)) H
theorem eq_num {a : O} {i : Int} : PyData.eqv (oD a) (.int i) = decide (a = some i) := oD_eqv a (some i)
theorem ov_non {a : O} : decide (ov a = V.non) = decide (a = none) := by
  cases a with
  | none => rfl
  | some i => rfl
def ops5 : List Str := ["not", "and", "or", "xor", "pick"]
theorem no_op {w : Str} {l : List Str} (h : w ∈ ops5) (hd : (ops5.all fun x => !(decide (x ∈ l))) = true) : ¬ w ∈ l := fun z => by
  have := List.all_eq_true.mp hd w h
  rw [decide_eq_true z] at this
  cases this
theorem no_str {w x : Str} (h : ¬ w = x) : ¬ decide (V.str w = V.str x) = true := fun z => h (V.str.inj (of_decide_eq_true z))
theorem is_str {w x : Str} (h : decide (V.str w = V.str x) = true) : w = x := V.str.inj (of_decide_eq_true h)
theorem wd_ne {w x : Str} (h : w ∈ ops5) (hd : (ops5.all fun y => !(decide (y = x))) = true) : ¬ w = x := fun z => by
  have := List.all_eq_true.mp hd w h
  rw [decide_eq_true z] at this
  cases this
/-- the operands of an operation -/
def rOpnds : V → Hp → VK → Prop := fun x H Q => ∃ (w : Str) (ks : List PyData), Td H (.tuple (.str w :: ks)) x ∧ w ∈ ops5 ∧ ∀ (v : V) (H' : Hp), Same H H' → Td H' (.tuple ks) v → Q v H'
section
variable {P : Program} {w : World} {K : PySem.W.Frag} {mg : Str → Option Value} {base : Heap}
theorem ok_operands_of (T : Tx K mg w) : FnOk P w K mg base CX0 1 T.f_operands_of T.fd_operands_of ["expr"] (sp1 rOpnds) := by
  refine okR1 T.F_operands_of sc_operands_of rfl fun cdv A outer s H Q E x hr h => ?_
  obtain ⟨w, ks, hx, hw, q⟩ := h
  obtain ⟨a, xs, rfl, ha, v, r, rfl, hv, hr'⟩ := id hx
  obtain rfl : v = .str w := hv
  refine ⟨_, pss_cons (ps_set (i := 1) sc_operands_of.nd rfl (Or.inl rfl) (pe_ix ix_tup (pv 0) pe_int (fun _ _ => rfl)))
      (pss_cons (ps_if (pt_cmpR op_in_seq (pv 1) (pe_glob (v := .ref (He.ga K "LEAVES")) rfl T.mg_LEAVES rfl) (by rfl)) (pss_one ps_never) pss_nil)
      (pss_cons (ps_if (pt_cmpR op_in_seq (pv 1) (pe_tup (pa_cons pe_str (pa_cons pe_str (pa_cons pe_str pa_nil)))) (by rfl)) (pss_one ps_never) pss_nil)
      (pss_cons (ps_if (pt_cmpR op_in_seq (pv 1) (pe_tup (pa_cons pe_str (pa_cons pe_str pa_nil))) (by rfl)) (pss_one ps_never) pss_nil)
      (pss_cons (ps_if (pt_cmpR op_eq (pv 1) pe_str (nomark _)) (pss_one ps_never) pss_nil)
      (pss_cons (ps_if (pt_cmpR op_eq (pv 1) pe_str (nomark _)) (pss_one ps_never) pss_nil)
      (pss_one (ps_ret (pe_slice sl_tupA (pv 0) (po_some pe_int) po_none)))))))), ?_⟩
  refine ⟨_, rfl, a, _, _, _, rfl, rfl, SqT.of ha, at_n 0 rfl, ?_⟩
  have nin : ∀ l : List Str, (ops5.all fun x => !(decide (x ∈ l))) = true → ¬ inV (.str w) (l.map V.str) = true := fun l hd z => by
    rw [inV_str] at z
    exact no_op hw hd (of_decide_eq_true z)
  refine ⟨_, rfl, _, _, rfl, .inr (T.tp_LEAVES H), rfl, rfl, _, rfl, ite2 (fun h => absurd h (nin ["int", "truth", "mode", "name"] (by decide +kernel))) (fun _ => ?_)⟩
  refine ⟨_, rfl, sl 3, fun t1 h1 => ⟨_, _, rfl, .inr (SqT.of upd_same), rfl, rfl, _, rfl, ite2 (fun h => absurd h (nin ["last", "when", "as"] (by decide +kernel))) (fun _ => ?_)⟩⟩
  refine ⟨_, rfl, sl 2, fun t2 h2 => ⟨_, _, rfl, .inr (SqT.of upd_same), rfl, rfl, _, rfl, ite2 (fun h => absurd h (nin ["then", "held"] (by decide +kernel))) (fun _ => ?_)⟩⟩
  refine ⟨_, rfl, rfl, _, rfl, ite2 (fun h => absurd h (no_str (wd_ne hw (by decide +kernel)))) (fun _ => ?_)⟩
  refine ⟨_, rfl, rfl, _, rfl, ite2 (fun h => absurd h (no_str (wd_ne hw (by decide +kernel)))) (fun _ => ?_)⟩
  have s2 : Same H (upd (upd H t1 (.tup [V.str "last", V.str "when", V.str "as"])) t2 (.tup [V.str "then", V.str "held"])) := (same_new h1).trans (same_new h2)
  refine ⟨_, rfl, _, rfl, slFD (Td.mono (TS.of s2) _ _ hx) fun p H' s3 hp => ?_⟩
  rw [cut_tail] at hp
  exact q p H' (s2.trans s3) hp
theorem ok_not (T : Tx K mg w) : FnOk P w K mg base CX0 1 T.f_not T.fd_not ["a"] (sp1 (rO1 lnot)) := by
  refine okR1 T.F_not sc_not rfl fun cdv A outer s H Q E x hr h => ?_
  obtain ⟨a, rfl, q⟩ := h
  refine ⟨_, pss_one (ps_ret (pe_ifExp (pt_cmpR op_isN (pv 0) pe_non (nomark _)) pe_non (pe_op op_sub pe_int (pv 0)))), ?_⟩
  cases a with
  | none => exact ⟨_, rfl, rfl, _, rfl, iteT q⟩
  | some i => exact ⟨_, rfl, rfl, _, rfl, iteF ⟨_, rfl, _, _, rfl, rfl, q⟩⟩
theorem ok_and (T : Tx K mg w) : FnOk P w K mg base CX0 1 T.f_and T.fd_and ["a", "b"] (sp2 (rO2 land)) := by
  refine okR2 T.F_and sc_and rfl fun cdv A outer s H Q E x y hr h => ?_
  obtain ⟨a, b, rfl, rfl, _, _, q⟩ := h
  refine ⟨_, pss_cons (ps_if (PW.pt (pw_or (pt_cmpR (op_eqD hr.units) (pv 0) pe_int (nomark _)) (pw_or1 (pt_cmpR (op_eqD hr.units) (pv 1) pe_int (nomark _))))) (pss_one (ps_ret pe_int)) pss_nil)
      (pss_one (ps_ret (pe_ifExp (PW.pt (pw_and (pt_cmpR (op_eqD hr.units) (pv 0) pe_int (nomark _)) (pw_and1 (pt_cmpR (op_eqD hr.units) (pv 1) pe_int (nomark _))))) pe_int pe_non))), ?_⟩
  unfold land at q
  refine ⟨_, rfl, oD a, .int 0, ov_dp a, .int 0, oD_shaped a, rfl, _, rfl, ?_⟩
  rw [eq_num]
  refine ite2 (fun h1 => iteT ?_) (fun h1 => ⟨_, rfl, oD b, .int 0, ov_dp b, .int 0, oD_shaped b, rfl, _, rfl, ?_⟩)
  · rw [if_pos (.inl (of_decide_eq_true h1))] at q
    exact q
  rw [eq_num]
  refine ite2 (fun h2 => ?_) (fun h2 => ?_)
  · rw [if_pos (.inr (of_decide_eq_true h2))] at q
    exact q
  have n1 : ¬ a = some 0 := fun z => h1 (decide_eq_true z)
  have n2 : ¬ b = some 0 := fun z => h2 (decide_eq_true z)
  rw [if_neg (fun z => z.elim n1 n2)] at q
  refine ⟨_, rfl, oD a, .int 1, ov_dp a, .int 1, oD_shaped a, rfl, _, rfl, ?_⟩
  rw [eq_num]
  refine ite2 (fun h3 => ⟨_, rfl, oD b, .int 1, ov_dp b, .int 1, oD_shaped b, rfl, _, rfl, ?_⟩) (fun h3 => iteF ?_)
  · rw [eq_num]
    refine ite2 (fun h4 => ?_) (fun h4 => ?_)
    · rw [if_pos ⟨of_decide_eq_true h3, of_decide_eq_true h4⟩] at q
      exact q
    · rw [if_neg (fun z => h4 (decide_eq_true z.2))] at q
      exact q
  · rw [if_neg (fun z => h3 (decide_eq_true z.1))] at q
    exact q
theorem ok_or (T : Tx K mg w) : FnOk P w K mg base CX0 1 T.f_or T.fd_or ["a", "b"] (sp2 (rO2 lor)) := by
  refine okR2 T.F_or sc_or rfl fun cdv A outer s H Q E x y hr h => ?_
  obtain ⟨a, b, rfl, rfl, _, _, q⟩ := h
  refine ⟨_, pss_cons (ps_if (PW.pt (pw_or (pt_cmpR (op_eqD hr.units) (pv 0) pe_int (nomark _)) (pw_or1 (pt_cmpR (op_eqD hr.units) (pv 1) pe_int (nomark _))))) (pss_one (ps_ret pe_int)) pss_nil)
      (pss_one (ps_ret (pe_ifExp (PW.pt (pw_and (pt_cmpR (op_eqD hr.units) (pv 0) pe_int (nomark _)) (pw_and1 (pt_cmpR (op_eqD hr.units) (pv 1) pe_int (nomark _))))) pe_int pe_non))), ?_⟩
  unfold lor at q
  refine ⟨_, rfl, oD a, .int 1, ov_dp a, .int 1, oD_shaped a, rfl, _, rfl, ?_⟩
  rw [eq_num]
  refine ite2 (fun h1 => iteT ?_) (fun h1 => ⟨_, rfl, oD b, .int 1, ov_dp b, .int 1, oD_shaped b, rfl, _, rfl, ?_⟩)
  · rw [if_pos (.inl (of_decide_eq_true h1))] at q
    exact q
  rw [eq_num]
  refine ite2 (fun h2 => ?_) (fun h2 => ?_)
  · rw [if_pos (.inr (of_decide_eq_true h2))] at q
    exact q
  have n1 : ¬ a = some 1 := fun z => h1 (decide_eq_true z)
  have n2 : ¬ b = some 1 := fun z => h2 (decide_eq_true z)
  rw [if_neg (fun z => z.elim n1 n2)] at q
  refine ⟨_, rfl, oD a, .int 0, ov_dp a, .int 0, oD_shaped a, rfl, _, rfl, ?_⟩
  rw [eq_num]
  refine ite2 (fun h3 => ⟨_, rfl, oD b, .int 0, ov_dp b, .int 0, oD_shaped b, rfl, _, rfl, ?_⟩) (fun h3 => iteF ?_)
  · rw [eq_num]
    refine ite2 (fun h4 => ?_) (fun h4 => ?_)
    · rw [if_pos ⟨of_decide_eq_true h3, of_decide_eq_true h4⟩] at q
      exact q
    · rw [if_neg (fun z => h4 (decide_eq_true z.2))] at q
      exact q
  · rw [if_neg (fun z => h3 (decide_eq_true z.1))] at q
    exact q
theorem ok_xor (T : Tx K mg w) : FnOk P w K mg base CX0 1 T.f_xor T.fd_xor ["a", "b"] (sp2 (rO2 lxor)) := by
  refine okR2 T.F_xor sc_xor rfl fun cdv A outer s H Q E x y hr h => ?_
  obtain ⟨a, b, rfl, rfl, ba, bb, q⟩ := h
  refine ⟨_, pss_one (ps_ret (pe_ifExp (PW.pt (pw_or (pt_cmpR op_isN (pv 0) pe_non (nomark _)) (pw_or1 (pt_cmpR op_isN (pv 1) pe_non (nomark _))))) pe_non (pe_op op_xor (pv 0) (pv 1)))), ?_⟩
  rcases ba with rfl | rfl | rfl
  · exact ⟨_, rfl, rfl, _, rfl, iteT (iteT q)⟩
  · rcases bb with rfl | rfl | rfl
    · exact ⟨_, rfl, rfl, _, rfl, iteF ⟨_, rfl, rfl, _, rfl, iteT q⟩⟩
    · exact ⟨_, rfl, rfl, _, rfl, iteF ⟨_, rfl, rfl, _, rfl, iteF ⟨_, rfl, _, rfl, _, _, rfl, rfl, q⟩⟩⟩
    · exact ⟨_, rfl, rfl, _, rfl, iteF ⟨_, rfl, rfl, _, rfl, iteF ⟨_, rfl, _, rfl, _, _, rfl, rfl, q⟩⟩⟩
  · rcases bb with rfl | rfl | rfl
    · exact ⟨_, rfl, rfl, _, rfl, iteF ⟨_, rfl, rfl, _, rfl, iteT q⟩⟩
    · exact ⟨_, rfl, rfl, _, rfl, iteF ⟨_, rfl, rfl, _, rfl, iteF ⟨_, rfl, _, rfl, _, _, rfl, rfl, q⟩⟩⟩
    · exact ⟨_, rfl, rfl, _, rfl, iteF ⟨_, rfl, rfl, _, rfl, iteF ⟨_, rfl, _, rfl, _, _, rfl, rfl, q⟩⟩⟩
theorem ok_p_pick (T : Tx K mg w) : FnOk P w K mg base CX0 1 T.f_p_pick T.fd_p_pick ["a", "b", "c"] (sp3 (rO3 lpick)) := by
  refine okR3 T.F_p_pick sc_p_pick rfl fun cdv A outer s H Q E x y z hr h => ?_
  obtain ⟨a, b, c, rfl, rfl, rfl, q⟩ := h
  refine ⟨_, pss_cons (ps_if (pt_cmpR op_isN (pv 0) pe_non (nomark _)) (pss_one (ps_ret (pe_ifExp (pt_cmpR (op_eqD hr.units) (pv 1) (pv 2) (nomark _)) (pv 1) pe_non))) pss_nil)
      (pss_one (ps_ret (pe_ifExp (pt_cmpR (op_eqD hr.units) (pv 0) pe_int (nomark _)) (pv 1) (pv 2)))), ?_⟩
  unfold lpick at q
  cases a with
  | none =>
    refine ⟨_, rfl, rfl, _, rfl, iteT ⟨_, rfl, _, rfl, oD b, oD c, ov_dp b, ov_dp c, oD_shaped b, oD_shaped c, _, rfl, ?_⟩⟩
    rw [oD_eqv]
    refine ite2 (fun h1 => ⟨_, rfl, ?_⟩) (fun h1 => ?_)
    · have e := of_decide_eq_true h1
      simp only [e, if_true] at q ⊢
      exact q
    · have e : ¬ b = c := fun z => h1 (decide_eq_true z)
      simp only [e, if_false] at q
      exact q
  | some i =>
    refine ⟨_, rfl, rfl, _, rfl, iteF ⟨_, rfl, .int i, .int 1, .int i, .int 1, rfl, rfl, _, rfl, ?_⟩⟩
    rw [show PyData.eqv (.int i) (.int 1) = decide (some i = some 1) from eq_num (a := some i)]
    refine ite2 (fun h1 => ⟨_, rfl, ?_⟩) (fun h1 => ⟨_, rfl, ?_⟩)
    · have e : i = 1 := Option.some.inj (of_decide_eq_true h1)
      simp only [e, if_true] at q
      exact q
    · have e : ¬ i = 1 := fun z => h1 (by rw [z] <;> exact decide_eq_true rfl)
      simp only [e, if_false] at q
      exact q
end

/-- a word's truth of some operands -/
def Lo (w : Str) (ops : List O) (r : O) : Prop := (w = "not" ∧ ∃ o, ops = [o] ∧ r = lnot o) ∨ (w ∈ bins ∧ ∃ o p, ops = [o, p] ∧ bit o ∧ bit p ∧ r = lbi w o p) ∨ (w = "pick" ∧ ∃ o p q, ops = [o, p, q] ∧ r = lpick o p q)
theorem Lo.op {w : Str} {ops : List O} {r : O} (h : Lo w ops r) : w ∈ ops5 := by
  rcases h with ⟨rfl, _⟩ | ⟨h, _⟩ | ⟨rfl, _⟩
  · decide +kernel
  · have e : (bins.all fun x => decide (x ∈ ops5)) = true := by decide +kernel
    exact of_decide_eq_true (List.all_eq_true.mp e w h)
  · decide +kernel
theorem Lo.len {w : Str} {ops : List O} {r : O} (h : Lo w ops r) : 1 ≤ ops.length ∧ ops.length ≤ 3 := by
  rcases h with ⟨_, _, rfl, _⟩ | ⟨_, _, _, rfl, _⟩ | ⟨_, _, _, _, rfl, _⟩ <;> simp
def rTruth : V → V → Hp → VK → Prop := fun x y H Q => ∃ (w : Str) (a : Addr) (ops : List O) (r : O), x = .str w ∧ y = .ref a ∧ H a = some (.lst (ops.map ov)) ∧ Lo w ops r ∧ Q (ov r) H
/-- a code, as it stands -/
def CodeAt (H : Hp) (a : Addr) (c : List C) : Prop := ∃ cs, H a = some (.lst cs) ∧ TdAll H (c.map C.d) cs
def rRun : V → V → V → Hp → VK → Prop := fun x y z H Q => ∃ (a t k : Addr) (c : List C) (ts : List Int) (kn : List O) (v : O), x = .ref a ∧ y = .ref t ∧ z = .ref k ∧ CodeAt H a c ∧ H t = some (.tup (ts.map V.int)) ∧ H k = some (.lst (kn.map ov)) ∧ c.length ≤ 100 ∧ Runs ts kn v c [] ∧
  ∀ H', Same H H' → Q (ov v) H'
theorem ovs_at {st : List O} {j : Nat} {o : O} (h : st[j]? = some o) : (st.map ov)[j]? = some (ov o) := by
  rw [List.getElem?_map, h]
  rfl
theorem mid_of {s a b c : List O} {r : O} {w : Str} (h : Lo w (a ++ b ++ c) r) : s ++ a ++ b ++ c = s ++ (a ++ b ++ c) := by simp only [List.append_assoc]
theorem pop_st {s ops : List O} {i : Nat} (hi : i < ops.length) : ∃ o, ops[ops.length - 1 - i]? = some o ∧ (s ++ ops.take (ops.length - i))[(s ++ ops.take (ops.length - i)).length - 1]? = some o ∧ (s ++ ops.take (ops.length - i)).dropLast = s ++ ops.take (ops.length - (i + 1)) ∧
    (ops.drop (ops.length - (i + 1))).reverse = (ops.drop (ops.length - i)).reverse ++ [o] := by
  have hj : ops.length - 1 - i < ops.length := by omega
  have e : ops.take (ops.length - i) = ops.take (ops.length - (i + 1)) ++ [ops[ops.length - 1 - i]] := by
    rw [show ops.length - i = (ops.length - 1 - i) + 1 by omega, List.take_add_one, List.getElem?_eq_getElem hj, show ops.length - (i + 1) = ops.length - 1 - i by omega]
    rfl
  refine ⟨ops[ops.length - 1 - i], List.getElem?_eq_getElem hj, ?_, ?_, ?_⟩
  · rw [e, ← List.append_assoc, List.length_append, List.length_singleton, Nat.add_sub_cancel, List.getElem?_append_right (Nat.le_refl _), Nat.sub_self]
    rfl
  · rw [e, ← List.append_assoc, List.dropLast_concat]
  · have e2 : ops.drop (ops.length - (i + 1)) = ops[ops.length - 1 - i] :: ops.drop (ops.length - i) := by
      rw [show ops.length - (i + 1) = ops.length - 1 - i by omega, List.drop_eq_getElem_cons hj, show ops.length - 1 - i + 1 = ops.length - i by omega]
    rw [e2, List.reverse_cons]
section
variable {P : Program} {w : World} {K : PySem.W.Frag} {mg : Str → Option Value} {base : Heap}
theorem ok_p_truth_of (T : Tx K mg w) : FnOk P w K mg base CX0 2 T.f_p_truth_of T.fd_p_truth_of ["word", "operands"] (sp2 rTruth) := by
  refine okR2 T.F_p_truth_of sc_p_truth_of rfl fun cdv A outer s H Q E x y hr h => ?_
  obtain ⟨w0, a, ops, r, rfl, rfl, ha, lo, q⟩ := h
  refine ⟨_, pss_cons (ps_set (i := 2) sc_p_truth_of.nd rfl (Or.inl rfl) (pe_ix ix_kdict (pe_glob (v := .ref (He.ga K "LOGIC")) rfl T.mg_LOGIC rfl) (pv 0) (fun _ _ => rfl)))
      (pss_one (ps_ret (pe_callLS (i := 2) hr rfl (Or.inl rfl) (pv 1)))), ?_⟩
  rcases lo with ⟨rfl, o, rfl, rfl⟩ | ⟨hw, o, p, rfl, bo, bp, rfl⟩ | ⟨rfl, o, p, u, rfl, rfl⟩
  · exact ⟨_, rfl, _, _, _, rfl, rfl, T.kd_LOGIC_not, _, _, rfl, ⟨⟨_, _, ok_not T, T.F_not.kp, T.b_not⟩⟩, _, rfl, a, _, rfl, .inr (SqL.of ha), _, rfl, o, rfl, q⟩
  · have hw' : w0 = "and" ∨ w0 = "or" ∨ w0 = "xor" := by
      rcases List.mem_cons.mp hw with h | h
      · exact .inl h
      · rcases List.mem_cons.mp h with h | h
        · exact .inr (.inl h)
        · exact .inr (.inr (List.mem_singleton.mp h))
    rcases hw' with rfl | rfl | rfl
    · exact ⟨_, rfl, _, _, _, rfl, rfl, T.kd_LOGIC_and, _, _, rfl, ⟨⟨_, _, ok_and T, T.F_and.kp, T.b_and⟩⟩, _, rfl, a, _, rfl, .inr (SqL.of ha), _, _, rfl, o, p, rfl, rfl, bo, bp, q⟩
    · exact ⟨_, rfl, _, _, _, rfl, rfl, T.kd_LOGIC_or, _, _, rfl, ⟨⟨_, _, ok_or T, T.F_or.kp, T.b_or⟩⟩, _, rfl, a, _, rfl, .inr (SqL.of ha), _, _, rfl, o, p, rfl, rfl, bo, bp, q⟩
    · exact ⟨_, rfl, _, _, _, rfl, rfl, T.kd_LOGIC_xor, _, _, rfl, ⟨⟨_, _, ok_xor T, T.F_xor.kp, T.b_xor⟩⟩, _, rfl, a, _, rfl, .inr (SqL.of ha), _, _, rfl, o, p, rfl, rfl, bo, bp, q⟩
  · exact ⟨_, rfl, _, _, _, rfl, rfl, T.kd_LOGIC_pick, _, _, rfl, ⟨⟨_, _, ok_p_pick T, T.F_p_pick.kp, T.b_p_pick⟩⟩, _, rfl, a, _, rfl, .inr (SqL.of ha), _, _, _, rfl, o, p, u, rfl, rfl, rfl, q⟩
theorem ok_run (T : Tx K mg w) : FnOk P w K mg base CX0 3 T.f_run T.fd_run ["code", "truths", "known"] (sp3 rRun) := by
  refine okR3 T.F_run sc_run rfl fun cdv A outer s H Q E x y z hr h => ?_
  obtain ⟨a, t, k, c, ts, kn, v, rfl, rfl, rfl, ⟨cs, ha, hcs⟩, ht, hk, hlen, hrun, q⟩ := h
  refine ⟨_, pss_cons (ps_set (i := 3) sc_run.nd rfl (Or.inr rfl) (pe_lst pa_nil))
      (pss_cons (ps_for PassesOwn.never rfl (pi_list (pv 0)) (pg_tup rfl (pgs_cons (pg_name (i := 4) sc_run.nd rfl (Or.inl rfl)) (pgs_cons (pg_name (i := 5) sc_run.nd rfl (Or.inl rfl)) pgs_nil)))
      (pss_one (ps_if (pt_cmpR op_eq (pv 4) pe_str (nomark _)) (pss_one (ps_expr (pe_bm PySem.F.plainAttrs_list PySem.F.slot_list_append PySem.F.type_list_append mt_append (pv 3) (pa_cons (pe_ix ix_tup (pv 1) (pv 5) (fun _ _ => rfl)) pa_nil)))) (pss_one (ps_if (pt_cmpR op_eq (pv 4) pe_str (nomark _)) (pss_one (ps_expr (pe_bm PySem.F.plainAttrs_list PySem.F.slot_list_append PySem.F.type_list_append mt_append (pv 3) (pa_cons (pv 5) pa_nil)))) (pss_one (ps_if (pt_cmpR op_eq (pv 4) pe_str (nomark _)) (pss_one (ps_expr (pe_bm PySem.F.plainAttrs_list PySem.F.slot_list_append PySem.F.type_list_append mt_append (pv 3) (pa_cons (pe_ix ix_list (pv 2) (pv 5) (fun _ _ => rfl)) pa_nil)))) (pss_cons (ps_setLc (i := 6) (own := [("_", 7)]) (g := gName 7) (tt := tYes) rfl sc_run.nd rfl rfl (sw_true rfl rfl rfl (by decide +kernel)) (pi_range1 rfl T.z_range (pa_cons (pv 5) pa_nil)) (blkOk_by (N := ["code", "truths", "known", "stack", "word", "number", "operands", "_"]) (sc := defScope s_run) (by decide +kernel)) (fun _ _ _ _ _ => pg_name (i := 7) sc_run.nd rfl (Or.inl rfl)) (fun _ _ _ _ _ => pts_nil) (fun _ _ _ _ _ => (show PE _ _ (tBM0 K "list" rPop _) from pe_bm0 PySem.F.plainAttrs_list PySem.F.slot_list_pop PySem.F.type_list_pop mt_pop (pv 3))))
      (pss_cons (ps_expr (pe_bm0 PySem.F.plainAttrs_list PySem.F.slot_list_reverse PySem.F.type_list_reverse mt_reverse (pv 6)))
      (pss_one (ps_expr (pe_bm PySem.F.plainAttrs_list PySem.F.slot_list_append PySem.F.type_list_append mt_append (pv 3) (pa_cons (pe_call (ok_p_truth_of T) (hr.mono (by decide)) rfl T.m_p_truth_of T.F_p_truth_of.kp T.b_p_truth_of .nil pass0 (pa_cons (pv 4) (pa_cons (pv 6) pa_nil))) pa_nil)))))))))))))
      (pss_one (ps_ret (pe_ix ix_list (pv 3) pe_int (fun _ _ => rfl))))), ?_⟩
  refine ⟨sl 0, fun S hS => ?_⟩
  have lcs := TdAll.len _ _ hcs
  rw [List.length_map] at lcs
  refine ⟨_, rfl, a, rfl, ⟨_, SqL.of (same_new hS _ _ ha)⟩, for_list (K := K) (a := a) (xs := cs) (fun i σ H' => ∃ (st : List O) (v4 v5 v6 : Option V), σ = [some (.ref a), some (.ref t), some (.ref k), some (.ref S), v4, v5, v6, none] ∧ Same H H' ∧ H' S = some (.lst (st.map ov)) ∧ st.length ≤ i ∧ Runs ts kn v (c.drop i) st)
    ⟨[], none, none, none, rfl, same_new hS, upd_same, Nat.le_refl _, hrun⟩ ?_ ?_ ?_⟩
  · rintro i σ H' _ ⟨st, v4, v5, v6, rfl, sm, hst, _, _⟩
    exact SqL.of (sm _ _ ha)
  · rintro i x σ H' hx ⟨st, v4, v5, v6, rfl, sm, hst, sl1, rn⟩
    have hi : i < c.length := by
      have := (List.getElem?_eq_some_iff.mp hx).1
      omega
    have hci : c[i]? = some c[i] := List.getElem?_eq_getElem hi
    obtain ⟨xv, hx2, hd⟩ := TdAll.at i _ _ (C.d c[i]) hcs (by rw [List.getElem?_map, hci] <;> rfl)
    rw [hx] at hx2
    cases hx2
    rw [List.drop_eq_getElem_cons hi] at rn
    generalize c[i] = ci at hd rn
    have hd' := Td.mono (TS.of sm) _ _ hd
    have app : ∀ (o : O) (H2 : Hp), Same H H2 → H2 S = some (.lst (st.map ov)) → Same H (upd H2 S (.lst (st.map ov ++ [ov o]))) := fun o H2 s2 h2 b u e => by
      have n : b ≠ S := ne_of_none e hS
      exact upd_else (s2 _ _ e) n
    cases ci with
    | en j =>
      obtain ⟨tt, hj, rn⟩ := rn
      obtain ⟨b, xs, rfl, hb, _, _, rfl, rfl, _, _, rfl, rfl, rfl⟩ := hd'
      refine ⟨b, _, rfl, SqT.of hb, rfl, _, _, rfl, _, _, rfl, rfl, ?_⟩
      refine ⟨_, rfl, rfl, _, rfl, iteT ?_⟩
      refine ⟨_, rfl, .inl ⟨rfl, _, SqL.of hst⟩, _, rfl, _, rfl, t, _, _, _, rfl, rfl, SqT.of (sm _ _ ht), at_n j (by rw [List.getElem?_map, hj] <;> rfl), S, _, _, rfl, rfl, hst, small1000 (by rw [List.length_map]; omega), ?_⟩
      exact ⟨st ++ [some tt], _, _, v6, rfl, app (some tt) _ sm hst, by rw [upd_same, List.map_append] <;> rfl, by rw [List.length_append]; exact Nat.add_le_add_right sl1 1, rn⟩
    | tr b0 =>
      obtain ⟨b, xs, rfl, hb, _, _, rfl, rfl, _, _, rfl, rfl, rfl⟩ := hd'
      refine ⟨b, _, rfl, SqT.of hb, rfl, _, _, rfl, _, _, rfl, rfl, ?_⟩
      refine ⟨_, rfl, rfl, _, rfl, iteF ⟨_, rfl, rfl, _, rfl, iteT ?_⟩⟩
      refine ⟨_, rfl, .inl ⟨rfl, _, SqL.of hst⟩, _, rfl, S, _, _, rfl, rfl, hst, small1000 (by rw [List.length_map]; omega), ?_⟩
      exact ⟨st ++ [some b0], _, _, v6, rfl, app (some b0) _ sm hst, by rw [upd_same, List.map_append] <;> rfl, by rw [List.length_append]; exact Nat.add_le_add_right sl1 1, rn⟩
    | nm j =>
      obtain ⟨o, hj, rn⟩ := rn
      obtain ⟨b, xs, rfl, hb, _, _, rfl, rfl, _, _, rfl, rfl, rfl⟩ := hd'
      refine ⟨b, _, rfl, SqT.of hb, rfl, _, _, rfl, _, _, rfl, rfl, ?_⟩
      refine ⟨_, rfl, rfl, _, rfl, iteF ⟨_, rfl, rfl, _, rfl, iteF ⟨_, rfl, rfl, _, rfl, iteT ?_⟩⟩⟩
      refine ⟨_, rfl, .inl ⟨rfl, _, SqL.of hst⟩, _, rfl, _, rfl, k, _, _, _, rfl, rfl, SqL.of (sm _ _ hk), at_n j (ovs_at hj), S, _, _, rfl, rfl, hst, small1000 (by rw [List.length_map]; omega), ?_⟩
      exact ⟨st ++ [o], _, _, v6, rfl, app o _ sm hst, by rw [upd_same, List.map_append] <;> rfl, by rw [List.length_append]; exact Nat.add_le_add_right sl1 1, rn⟩
    | op w0 n =>
      obtain ⟨s0, l1, l2, l3, est, rn⟩ := rn
      obtain ⟨r, lo, hn, rn2⟩ : ∃ r, Lo w0 (l1 ++ l2 ++ l3) r ∧ n = (l1 ++ l2 ++ l3).length ∧ Runs ts kn v (c.drop (i + 1)) (s0 ++ [r]) := by
        rcases rn with ⟨rfl, rfl, x, rfl, rfl, rfl, rn⟩ | ⟨hb, rfl, x, y, rfl, rfl, rfl, bx, by_, rn⟩ | ⟨rfl, rfl, x, y, u, rfl, rfl, rfl, rn⟩
        · exact ⟨_, .inl ⟨rfl, x, rfl, rfl⟩, rfl, rn⟩
        · exact ⟨_, .inr (.inl ⟨hb, x, y, rfl, bx, by_, rfl⟩), rfl, rn⟩
        · exact ⟨_, .inr (.inr ⟨rfl, x, y, u, rfl, rfl⟩), rfl, rn⟩
      rw [mid_of lo] at est
      generalize l1 ++ l2 ++ l3 = ops at lo hn est
      subst est
      subst hn
      obtain ⟨n1, n3⟩ := lo.len
      have hop := lo.op
      rw [List.length_append] at sl1
      obtain ⟨b, xs, rfl, hb, _, _, rfl, rfl, _, _, rfl, rfl, rfl⟩ := hd'
      refine ⟨b, _, rfl, SqT.of hb, rfl, _, _, rfl, _, _, rfl, rfl, ?_⟩
      refine ⟨_, rfl, rfl, _, rfl, ite2 (fun h => absurd h (no_str (wd_ne hop (by decide +kernel)))) (fun _ => ?_)⟩
      refine ⟨_, rfl, rfl, _, rfl, ite2 (fun h => absurd h (no_str (wd_ne hop (by decide +kernel)))) (fun _ => ?_)⟩
      refine ⟨_, rfl, rfl, _, rfl, ite2 (fun h => absurd h (no_str (wd_ne hop (by decide +kernel)))) (fun _ => ?_)⟩
      refine ⟨_, rfl, (ops.length : Int), rfl, by omega, by omega, fun D hD => ?_⟩
      have SD : S ≠ D := ne_of_none hst hD
      refine lc_range (lo := 0) (n := (ops.length : Int).toNat) (fun j H2 => Same H H2 ∧ H2 S = some (.lst ((s0 ++ ops.take (ops.length - j)).map ov)) ∧ H2 D = some (.lst ((ops.drop (ops.length - j)).reverse.map ov))) ⟨sm.trans (same_new hD), ?_, ?_⟩ ?_ ?_
      · rw [Nat.sub_zero, List.take_length]
        exact upd_else hst SD
      · rw [Nat.sub_zero, List.drop_length]
        exact upd_same
      · rintro j H2 hj ⟨s2, h2, d2⟩
        have hj' : j < ops.length := by
          rw [Int.toNat_natCast] at hj
          exact hj
        obtain ⟨o, o1, o2, o3, o4⟩ := pop_st (s := s0) hj'
        refine ⟨rfl, yes ⟨_, rfl, .inl ⟨rfl, _, SqL.of h2⟩, S, _, _, rfl, rfl, h2, by rw [List.length_map]; exact ovs_at o2, ?_⟩⟩
        rw [← List.map_dropLast, o3]
        refine ⟨_, upd_else d2 SD.symm, small1000 (by rw [List.length_map, List.length_reverse, List.length_drop]; omega), ?_, ?_, ?_⟩
        · intro b u e
          have n : b ≠ S := ne_of_none e hS
          have n2 : b ≠ D := ne_of_none (sm _ _ e) hD
          exact upd_else (upd_else (s2 _ _ e) n) n2
        · exact upd_else upd_same SD
        · rw [upd_same, o4, List.map_append]
          rfl
      rintro H2 ⟨s2, h2, d2⟩
      rw [Int.toNat_natCast, Nat.sub_self, List.take_zero, List.append_nil] at h2
      rw [Int.toNat_natCast, Nat.sub_self, List.drop_zero] at d2
      -- operands.reverse()
      refine ⟨_, rfl, .inl ⟨rfl, _, SqL.of d2⟩, D, _, rfl, rfl, d2, ?_⟩
      rw [← List.map_reverse, List.reverse_reverse]
      have nD : ∀ b u, H b = some u → b ≠ D := fun b u e => ne_of_none (sm _ _ e) hD
      refine ⟨_, rfl, .inl ⟨rfl, _, SqL.of (upd_else h2 SD)⟩, _, rfl, _, rfl, _, _, rfl, w0, D, ops, r, rfl, rfl, upd_same, lo, ?_⟩
      refine ⟨S, _, _, rfl, rfl, upd_else h2 SD, small1000 (by rw [List.length_map]; omega), ?_⟩
      refine ⟨s0 ++ [r], _, _, _, rfl, fun b u e => upd_else (upd_else (s2 _ _ e) (nD b u e)) (ne_of_none e hS), by rw [upd_same, List.map_append] <;> rfl, by rw [List.length_append]; exact (by show s0.length + 1 ≤ i + 1; omega), rn2⟩
  · rintro σ H' ⟨st, v4, v5, v6, rfl, sm, hst, sl1, rn⟩
    rw [lcs, List.drop_length] at rn
    have rn' : st[0]? = some v := rn
    exact ⟨_, rfl, S, _, _, _, rfl, rfl, SqL.of hst, at_n 0 (ovs_at rn'), q H' sm⟩
end

/-! ### the program: codes -/
theorem TdAll.snoc {H : Hp} {d : PyData} : ∀ {ds : List PyData} {xs : List V}, TdAll H (ds ++ [d]) xs → ∃ ys v, xs = ys ++ [v] ∧ TdAll H ds ys ∧ Td H d v
  | [], xs, ⟨v, r, e, h1, h2⟩ => by
    cases h2
    subst e
    exact ⟨[], v, rfl, rfl, h1⟩
  | _ :: ds, xs, ⟨v, r, e, h1, h2⟩ => by
    obtain ⟨ys, u, e2, h3, h4⟩ := TdAll.snoc (ds := ds) h2
    subst e e2
    exact ⟨v :: ys, u, rfl, ⟨v, ys, rfl, h1, h3⟩, h4⟩
theorem TdAll.rev {H : Hp} : ∀ {ds : List PyData} {xs : List V}, TdAll H ds xs → TdAll H ds.reverse xs.reverse
  | [], _, h => by cases h; exact rfl
  | d :: ds, _, ⟨v, r, e, h1, h2⟩ => by
    subst e
    rw [List.reverse_cons, List.reverse_cons]
    exact TdAll.app _ _ _ _ (TdAll.rev h2) ⟨v, [], rfl, h1, rfl⟩
def szs : List E → Nat
  | [] => 0
  | e :: r => e.sz + szs r
theorem szs_app : ∀ a b : List E, szs (a ++ b) = szs a + szs b
  | [], b => by show szs b = 0 + szs b; omega
  | e :: a, b => by
    show e.sz + szs (a ++ b) = e.sz + szs a + szs b
    rw [szs_app a b]
    omega
theorem szs_len : ∀ a : List E, a.length ≤ szs a
  | [] => Nat.le_refl _
  | e :: a => by
    have := szs_len a
    have := e.sz_pos
    show a.length + 1 ≤ e.sz + szs a
    omega
def IsOp (e : E) (w : Str) (ks : List E) : Prop := (∃ a, e = .un a ∧ w = "not" ∧ ks = [a]) ∨ (∃ a b, e = .bi w a b ∧ ks = [a, b]) ∨ (∃ a b c, e = .pk a b c ∧ w = "pick" ∧ ks = [a, b, c])
theorem E.ways (e : E) : (∃ x, e = .nm x) ∨ (∃ b, e = .tr b) ∨ (∃ w ds, e = .ot w ds) ∨ ∃ w ks, IsOp e w ks := by
  cases e with
  | nm x => exact .inl ⟨x, rfl⟩
  | tr b => exact .inr (.inl ⟨b, rfl⟩)
  | ot w ds => exact .inr (.inr (.inl ⟨w, ds, rfl⟩))
  | un a => exact .inr (.inr (.inr ⟨_, _, .inl ⟨a, rfl, rfl, rfl⟩⟩))
  | bi w a b => exact .inr (.inr (.inr ⟨_, _, .inr (.inl ⟨a, b, rfl, rfl⟩)⟩))
  | pk a b c => exact .inr (.inr (.inr ⟨_, _, .inr (.inr ⟨a, b, c, rfl, rfl, rfl⟩)⟩))
theorem IsOp.dd {e : E} {w : Str} {ks : List E} (h : IsOp e w ks) : e.d = .tuple (.str w :: ks.map E.d) := by
  rcases h with ⟨a, rfl, rfl, rfl⟩ | ⟨a, b, rfl, rfl⟩ | ⟨a, b, c, rfl, rfl, rfl⟩ <;> rfl
theorem bins_ops {w : Str} (h : w ∈ bins) : w ∈ ops5 := by
  have e : (bins.all fun x => decide (x ∈ ops5)) = true := by decide +kernel
  exact of_decide_eq_true (List.all_eq_true.mp e w h)
theorem IsOp.wd {e : E} {w : Str} {ks : List E} (h : IsOp e w ks) (ho : e.ok) : w ∈ ops5 := by
  rcases h with ⟨a, rfl, rfl, rfl⟩ | ⟨a, b, rfl, rfl⟩ | ⟨a, b, c, rfl, rfl, rfl⟩
  · decide +kernel
  · exact bins_ops ho.1
  · decide +kernel
theorem IsOp.good {e : E} {w : Str} {ks : List E} (h : IsOp e w ks) (ho : goodE e) : ∀ k ∈ ks, goodE k := by
  rcases h with ⟨a, rfl, rfl, rfl⟩ | ⟨a, b, rfl, rfl⟩ | ⟨a, b, c, rfl, rfl, rfl⟩
  · intro k hk
    rw [List.mem_singleton.mp hk]
    exact goodE_un ho
  · intro k hk
    rcases List.mem_cons.mp hk with rfl | hk
    · exact (goodE_bi ho).1
    · rw [List.mem_singleton.mp hk]
      exact (goodE_bi ho).2
  · intro k hk
    rcases List.mem_cons.mp hk with rfl | hk
    · exact (goodE_pk ho).1
    rcases List.mem_cons.mp hk with rfl | hk
    · exact (goodE_pk ho).2.1
    · rw [List.mem_singleton.mp hk]
      exact (goodE_pk ho).2.2
theorem IsOp.cov {e : E} {w : Str} {ks : List E} {own : List Str} {ps : List E} (h : IsOp e w ks) (hc : e.cov own ps) (hn : ixOf ps e = none) : ∀ k ∈ ks, k.cov own ps := by
  rcases h with ⟨a, rfl, rfl, rfl⟩ | ⟨a, b, rfl, rfl⟩ | ⟨a, b, c, rfl, rfl, rfl⟩
  · intro k hk
    rw [List.mem_singleton.mp hk]
    rcases hc with z | z
    · rw [hn] at z
      cases z
    · exact z
  · intro k hk
    rcases hc with z | z
    · rw [hn] at z
      cases z
    rcases List.mem_cons.mp hk with rfl | hk
    · exact z.1
    · rw [List.mem_singleton.mp hk]
      exact z.2
  · intro k hk
    rcases hc with z | z
    · rw [hn] at z
      cases z
    rcases List.mem_cons.mp hk with rfl | hk
    · exact z.1
    rcases List.mem_cons.mp hk with rfl | hk
    · exact z.2.1
    · rw [List.mem_singleton.mp hk]
      exact z.2.2
theorem IsOp.size {e : E} {w : Str} {ks : List E} (h : IsOp e w ks) : szs ks + 1 = e.sz ∧ ks.length ≤ 3 := by
  rcases h with ⟨a, rfl, rfl, rfl⟩ | ⟨a, b, rfl, rfl⟩ | ⟨a, b, c, rfl, rfl, rfl⟩ <;> refine ⟨by simp only [szs, E.sz] <;> omega, by simp⟩
/-- a code, backwards -/
def rc (own : List Str) (ps : List E) (e : E) : List C := (cod own ps e).reverse
theorem IsOp.rcod {e : E} {w : Str} {ks : List E} {own : List Str} {ps : List E} (h : IsOp e w ks) (hn : ixOf ps e = none) : rc own ps e = .op w ks.length :: ks.reverse.flatMap (rc own ps) := by
  have oc : ∀ r : List C, orC ps e r = r := fun r => by unfold orC; rw [hn]
  rcases h with ⟨a, rfl, rfl, rfl⟩ | ⟨a, b, rfl, rfl⟩ | ⟨a, b, c, rfl, rfl, rfl⟩
  · show (orC ps (.un a) _).reverse = _
    rw [oc]
    simp [rc]
  · show (orC ps (.bi w a b) _).reverse = _
    rw [oc]
    simp [rc]
  · show (orC ps (.pk a b c) _).reverse = _
    rw [oc]
    simp [rc]
theorem rc_en {e : E} {own : List Str} {ps : List E} {j : Nat} (h : ixOf ps e = some j) : rc own ps e = [.en j] := by
  unfold rc
  cases e <;> unfold cod orC <;> rw [h] <;> rfl
def rCode : V → V → V → Hp → VK → Prop := fun x y z H Q => ∃ (a t : Addr) (own : List Str) (ps : List E) (pvs : List V) (e : E), x = .ref a ∧ z = .ref t ∧ Fz H a (own.map V.str) ∧ Td H e.d y ∧ Fz H t pvs ∧ TdAll H (ps.map E.d) pvs ∧
  goodE e ∧ (∀ p ∈ ps, goodE p) ∧ e.cov own ps ∧ e.sz ≤ 60 ∧ ∀ (p : Addr) (H' : Hp), Same H H' → H p = none → CodeAt H' p (cod own ps e) → Q (.ref p) H'
section
variable {P : Program} {w : World} {K : PySem.W.Frag} {mg : Str → Option Value} {base : Heap}
def CodeI (own : List Str) (ps : List E) (e0 : E) (H : Hp) (a t c0 w0 : Addr) (y : V) (m : Nat) (σ : L2.St) (H' : Hp) : Prop := ∃ (ws : List E) (cs : List C) (wv cv : List V) (v5 : Option V), σ = [some (.ref a), some y, some (.ref t), some (.ref c0), some (.ref w0), v5] ∧ Same H H' ∧
  H' c0 = some (.lst cv) ∧ TdAll H' (cs.map C.d) cv ∧ H' w0 = some (.lst wv) ∧ TdAll H' (ws.map E.d) wv ∧ (∀ e ∈ ws, goodE e ∧ e.cov own ps) ∧ cs ++ ws.reverse.flatMap (rc own ps) = rc own ps e0 ∧ cs.length + szs ws ≤ e0.sz ∧ m = szs ws
theorem ok_code (T : Tx K mg w) : FnOk P w K mg base CX0 2 T.f_code T.fd_code ["names", "expr", "parts"] (sp3 rCode) := by
  refine okR3 T.F_code sc_code rfl fun cdv A outer s H Q EE x y z hr h => ?_
  obtain ⟨a, t, own, ps, pvs, e0, rfl, rfl, ha, hy, ht, hps, ge, gps, hcov, hsz, q⟩ := h
  refine ⟨_, pss_cons (ps_set (i := 3) sc_code.nd rfl (Or.inl rfl) (pe_lst pa_nil))
      (pss_cons (ps_set (i := 4) sc_code.nd rfl (Or.inl rfl) (pe_lst (pa_cons (pv 1) pa_nil)))
      (pss_cons (ps_while PassesOwn.never (pt_truth (pv 4) (by intro _; rfl)) (pss_cons (ps_set (i := 5) sc_code.nd rfl (Or.inl rfl) (pe_bm0 PySem.F.plainAttrs_list PySem.F.slot_list_pop PySem.F.type_list_pop mt_pop (pv 4)))
      (pss_one (ps_if (pt_cmpR (op_inT (u65 hr)) (pv 5) (pv 2) (by rfl)) (pss_one (ps_expr (pe_bm PySem.F.plainAttrs_list PySem.F.slot_list_append PySem.F.type_list_append mt_append (pv 3) (pa_cons (pe_tup (pa_cons pe_str (pa_cons (pe_bmT PySem.F.slot_tuple_index PySem.F.type_tuple_index (mt_indexT (u65 hr)) (pv 2) (pa_cons (pv 5) pa_nil)) pa_nil))) pa_nil)))) (pss_one (ps_if (pt_cmpR op_eq (pe_ix ix_tup (pv 5) pe_int (fun _ _ => rfl)) pe_str (nomark _)) (pss_one (ps_expr (pe_bm PySem.F.plainAttrs_list PySem.F.slot_list_append PySem.F.type_list_append mt_append (pv 3) (pa_cons (pv 5) pa_nil)))) (pss_one (ps_if (pt_cmpR op_eq (pe_ix ix_tup (pv 5) pe_int (fun _ _ => rfl)) pe_str (nomark _)) (pss_one (ps_expr (pe_bm PySem.F.plainAttrs_list PySem.F.slot_list_append PySem.F.type_list_append mt_append (pv 3) (pa_cons (pe_tup (pa_cons pe_str (pa_cons (pe_bmT PySem.F.slot_tuple_index PySem.F.type_tuple_index mt_tup_index (pv 0) (pa_cons (pe_ix ix_tup (pv 5) pe_int (fun _ _ => rfl)) pa_nil)) pa_nil))) pa_nil)))) (pss_cons (ps_expr (pe_bm PySem.F.plainAttrs_list PySem.F.slot_list_append PySem.F.type_list_append mt_append (pv 3) (pa_cons (pe_tup (pa_cons (pe_ix ix_tup (pv 5) pe_int (fun _ _ => rfl)) (pa_cons (pe_callB call_len_seq (by rfl) T.z_len (by decide +kernel) (pa_cons (pe_call (ok_operands_of T) (hr.mono (by decide)) rfl T.m_operands_of T.F_operands_of.kp T.b_operands_of .nil pass0 (pa_cons (pv 5) pa_nil)) pa_nil)) pa_nil))) pa_nil)))
      (pss_one (ps_expr (pe_bm PySem.F.plainAttrs_list PySem.F.slot_list_extend PySem.F.type_list_extend mt_extendT (pv 4) (pa_cons (pe_call (ok_operands_of T) (hr.mono (by decide)) rfl T.m_operands_of T.F_operands_of.kp T.b_operands_of .nil pass0 (pa_cons (pv 5) pa_nil)) pa_nil)))))))))))))
      (pss_cons (ps_expr (pe_bm0 PySem.F.plainAttrs_list PySem.F.slot_list_reverse PySem.F.type_list_reverse mt_reverse (pv 3)))
      (pss_one (ps_ret (pv 3)))))), ?_⟩
  refine ⟨sl 0, fun c0 hc0 => ?_⟩
  refine ⟨_, rfl, sl 1, fun w0 hw0 => ?_⟩
  have cw : c0 ≠ w0 := ne_of_none upd_same hw0
  have s0 : Same H (upd (upd H c0 (.lst [])) w0 (.lst [y])) := (same_new hc0).trans (same_new hw0)
  refine ⟨CodeI own ps e0 H a t c0 w0 y, ⟨e0.sz, [e0], [], [y], [], none, rfl, s0, upd_else upd_same cw, rfl, upd_same, ⟨y, [], rfl, Td.mono (TS.of s0) _ _ hy, rfl⟩, (fun e he => by rw [List.mem_singleton.mp he]; exact ⟨ge, hcov⟩), by simp, by simp [szs], by simp [szs]⟩, ?_⟩
  rintro m σ H1 ⟨ws, cs, wv, cv, v5, rfl, s1, hc1, hcs, hw1, hws, gw, eq, sz, rfl⟩
  refine ⟨_, rfl, _, .inl ⟨wv, SqL.of hw1, rfl⟩, ?_⟩
  have hn0 : ∀ {b : Addr} {u : HO}, H b = some u → b ≠ c0 ∧ b ≠ w0 := fun e => ⟨ne_of_none e hc0, ne_of_none (same_new hc0 _ _ e) hw0⟩
  rcases List.eq_nil_or_concat ws with rfl | ⟨ws, e, rfl⟩
  · -- nothing waits
    cases (show wv = [] from hws)
    refine iteF ?_
    rw [List.reverse_nil, List.flatMap_nil, List.append_nil] at eq
    refine ⟨_, rfl, .inl ⟨rfl, _, SqL.of hc1⟩, c0, cv, rfl, rfl, hc1, _, rfl, q c0 _ ?_ hc0 ⟨cv.reverse, upd_same, ?_⟩⟩
    · exact fun b u hb => upd_else (s1 _ _ hb) (hn0 hb).1
    · have hr2 := TdAll.rev hcs
      rw [← List.map_reverse, eq] at hr2
      have er : (rc own ps e0).reverse = cod own ps e0 := List.reverse_reverse _
      rw [er] at hr2
      exact TdAll.mono (TS.wr hc1) _ _ hr2
  rw [List.concat_eq_append] at hws gw eq sz
  rw [List.map_append] at hws
  obtain ⟨wv, v, rfl, hws, hv⟩ := TdAll.snoc hws
  rw [show (!(wv ++ [v]).isEmpty) = true by simp]
  have ge1 := (gw e (by simp)).1
  have gc1 := (gw e (by simp)).2
  have lw := TdAll.len _ _ hws
  have lc := TdAll.len _ _ hcs
  rw [List.length_map] at lw lc
  rw [szs_app] at sz
  have sz' : cs.length + (szs ws + (e.sz + 0)) ≤ e0.sz := sz
  have swl := szs_len ws
  have ep := e.sz_pos
  have em : szs (ws.concat e) = szs ws + e.sz := by
    rw [List.concat_eq_append, szs_app]
    rfl
  rw [em]
  refine iteT ⟨fun σ' H' => ∃ m', m' < szs ws + e.sz ∧ CodeI own ps e0 H a t c0 w0 y m' σ' H', fun _ _ h => h, ?_⟩
  refine ⟨_, rfl, .inl ⟨rfl, _, SqL.of hw1⟩, w0, _, v, rfl, rfl, hw1, by simp, ?_⟩
  rw [List.dropLast_concat]
  have s2 : Same H (upd H1 w0 (.lst wv)) := fun b u hb => upd_else (s1 _ _ hb) (hn0 hb).2
  have t2 : TS H1 (upd H1 w0 (.lst wv)) := TS.wr hw1
  have hc2 : (upd H1 w0 (.lst wv)) c0 = some (.lst cv) := upd_else hc1 cw
  have hw2 : (upd H1 w0 (.lst wv)) w0 = some (.lst wv) := upd_same
  have hcs2 := TdAll.mono t2 _ _ hcs
  have hws2 := TdAll.mono t2 _ _ hws
  have hv2 := Td.mono t2 _ _ hv
  generalize upd H1 w0 (.lst wv) = H2 at s2 hc2 hw2 hcs2 hws2 hv2
  rw [List.reverse_append, List.reverse_singleton, List.singleton_append, List.flatMap_cons, ← List.append_assoc] at eq
  have gw' : ∀ e ∈ ws, goodE e ∧ e.cov own ps := fun x hx => gw x (by simp [hx])
  -- the next word
  have put : ∀ (ci : C) (u : V) (H3 : Hp), Same H H3 → H3 c0 = some (.lst cv) → TdAll H3 (cs.map C.d) cv → H3 w0 = some (.lst wv) → TdAll H3 (ws.map E.d) wv → Td H3 ci.d u → rc own ps e = [ci] →
      ∃ m', m' < szs ws + e.sz ∧ CodeI own ps e0 H a t c0 w0 y m' [some (.ref a), some y, some (.ref t), some (.ref c0), some (.ref w0), some v] (upd H3 c0 (.lst (cv ++ [u]))) := by
    intro ci u H3 s3 h1 h2 h3 h4 h5 h6
    refine ⟨szs ws, by omega, ws, cs ++ [ci], wv, cv ++ [u], _, rfl, fun b o hb => upd_else (s3 _ _ hb) (hn0 hb).1, upd_same, ?_, upd_else h3 cw.symm, TdAll.mono (TS.wr h1) _ _ h4, gw', ?_, ?_, rfl⟩
    · rw [List.map_append]
      exact TdAll.mono (TS.wr h1) _ _ (TdAll.app _ _ _ _ h2 ⟨u, [], rfl, h5, rfl⟩)
    · rw [h6] at eq
      exact eq
    · rw [List.length_append, List.length_singleton]
      omega
  refine ⟨_, rfl, _, rfl, e.d, ps.map E.d, Td.dp _ _ hv2, .tup (ht.same s2).sq (TdAll.dp _ _ (TdAll.mono (TS.of s2) _ _ hps)), E.shaped ge1.1 (by have := ge1.2; omega), shapedTup gps, _, rfl, ?_⟩
  rw [ixOf_any]
  cases hix : ixOf ps e with
  | some j =>
    obtain ⟨p, hp1, hp2, hp3⟩ := ixOf_some hix
    refine iteT ⟨_, rfl, .inl ⟨rfl, _, SqL.of hc2⟩, _, rfl, t, _, rfl, ht.same s2, _, rfl, t, v, e.d, ps.map E.d, j, p.d, rfl, rfl, .tup (ht.same s2).sq (TdAll.dp _ _ (TdAll.mono (TS.of s2) _ _ hps)), Td.dp _ _ hv2, shapedTup gps, E.shaped ge1.1 (by have := ge1.2; omega), by rw [List.getElem?_map, hp1] <;> rfl, hp2, ?_, sl 2, fun b hb => ?_⟩
    · intro m' z' hm hz
      rw [List.getElem?_map] at hz
      obtain ⟨q', e1, rfl⟩ := Option.map_eq_some_iff.mp hz
      exact hp3 m' q' hm e1
    · have t3 := TS.new (o := .tup [V.str "enter", .int j]) hb
      refine ⟨c0, cv, _, rfl, rfl, same_new hb _ _ hc2, small1000 (by omega), ?_⟩
      exact put (.en j) (.ref b) _ (s2.trans (same_new hb)) (same_new hb _ _ hc2) (TdAll.mono t3 _ _ hcs2) (same_new hb _ _ hw2) (TdAll.mono t3 _ _ hws2) ⟨b, _, rfl, upd_same, _, _, rfl, rfl, _, _, rfl, rfl, rfl⟩ (rc_en hix)
  | none =>
    refine iteF ?_
    rcases e.ways with ⟨x, rfl⟩ | ⟨b0, rfl⟩ | ⟨w1, ds, rfl⟩ | ⟨w1, ks, io⟩
    · -- a name
      have hx : x ∈ own := by
        rcases gc1 with z | z
        · rw [hix] at z
          cases z
        · exact z
      obtain ⟨j, j1, j2, j3⟩ := ixS_mem hx
      obtain ⟨b, xs, rfl, hb, _, _, rfl, rfl, _, _, rfl, rfl, rfl⟩ := id hv2
      refine ⟨_, rfl, b, _, _, _, rfl, rfl, SqT.of hb, at_n 0 rfl, rfl, _, rfl, iteF ?_⟩
      refine ⟨_, rfl, b, _, _, _, rfl, rfl, SqT.of hb, at_n 0 rfl, rfl, _, rfl, iteT ?_⟩
      refine ⟨_, rfl, .inl ⟨rfl, _, SqL.of hc2⟩, _, rfl, a, _, rfl, ha.same s2, _, rfl, b, _, _, _, rfl, rfl, SqT.of hb, at_n 1 rfl, a, own, x, j, rfl, rfl, (ha.same s2).sq, j2, j3, sl 2, fun b2 hb2 => ?_⟩
      have t3 := TS.new (o := .tup [V.str "name", .int j]) hb2
      refine ⟨c0, cv, _, rfl, rfl, same_new hb2 _ _ hc2, small1000 (by omega), ?_⟩
      exact put (.nm j) (.ref b2) _ (s2.trans (same_new hb2)) (same_new hb2 _ _ hc2) (TdAll.mono t3 _ _ hcs2) (same_new hb2 _ _ hw2) (TdAll.mono t3 _ _ hws2) ⟨b2, _, rfl, upd_same, _, _, rfl, rfl, _, _, rfl, rfl, rfl⟩
        (by unfold rc cod orC; rw [hix, j1]; rfl)
    · -- a truth
      obtain ⟨b, xs, rfl, hb, _, _, rfl, rfl, _, _, rfl, rfl, rfl⟩ := id hv2
      refine ⟨_, rfl, b, _, _, _, rfl, rfl, SqT.of hb, at_n 0 rfl, rfl, _, rfl, iteT ?_⟩
      refine ⟨_, rfl, .inl ⟨rfl, _, SqL.of hc2⟩, _, rfl, c0, cv, _, rfl, rfl, hc2, small1000 (by omega), ?_⟩
      exact put (.tr b0) (.ref b) _ s2 hc2 hcs2 hw2 hws2 hv2 (by unfold rc cod orC; rw [hix]; rfl)
    · have z : (ixOf ps (.ot w1 ds)).isSome = true := gc1
      rw [hix] at z
      cases z
    · -- an operation
      have hw5 := io.wd ge1.1
      obtain ⟨zs, zl⟩ := io.size
      have hd2 := hv2
      rw [io.dd] at hd2
      obtain ⟨b, xs, rfl, hb, _, _, rfl, rfl, hk⟩ := id hd2
      refine ⟨_, rfl, b, _, _, _, rfl, rfl, SqT.of hb, at_n 0 rfl, rfl, _, rfl, ite2 (fun h => absurd h (no_str (wd_ne hw5 (by decide +kernel)))) (fun _ => ?_)⟩
      refine ⟨_, rfl, b, _, _, _, rfl, rfl, SqT.of hb, at_n 0 rfl, rfl, _, rfl, ite2 (fun h => absurd h (no_str (wd_ne hw5 (by decide +kernel)))) (fun _ => ?_)⟩
      refine ⟨_, rfl, .inl ⟨rfl, _, SqL.of hc2⟩, _, rfl, b, _, _, _, rfl, rfl, SqT.of hb, at_n 0 rfl, _, rfl, _, rfl, w1, ks.map E.d, hd2, hw5, fun v3 H3 s3 hv3 => ?_⟩
      obtain ⟨b3, xs3, rfl, hb3, hk3⟩ := hv3
      have l3 := TdAll.len _ _ hk3
      rw [List.length_map] at l3
      refine ⟨b3, _, rfl, .inr (SqT.of hb3), sl 2, fun b4 hb4 => ?_⟩
      have s4 := same_new (o := .tup [V.str w1, .int xs3.length]) hb4
      refine ⟨c0, cv, _, rfl, rfl, s4 _ _ (s3 _ _ hc2), small1000 (by omega), ?_⟩
      have s5 : Same H2 (upd H3 b4 (.tup [V.str w1, .int xs3.length])) := s3.trans s4
      have h4c := s5 _ _ hc2
      have h4w := s5 _ _ hw2
      have n4 : (upd H3 b4 (.tup [V.str w1, .int xs3.length])) b4 = some (.tup [V.str w1, .int xs3.length]) := upd_same
      have hcs4 := TdAll.mono (TS.of s5) _ _ hcs2
      have hws4 := TdAll.mono (TS.of s5) _ _ hws2
      have hd4 := Td.mono (TS.of s5) _ _ hd2
      have s6 : Same H (upd H3 b4 (.tup [V.str w1, .int xs3.length])) := s2.trans s5
      generalize upd H3 b4 (.tup [V.str w1, .int xs3.length]) = H4 at h4c h4w n4 hcs4 hws4 hd4 s6
      have t5 : TS H4 (upd H4 c0 (.lst (cv ++ [.ref b4]))) := TS.wr h4c
      have h5w : (upd H4 c0 (.lst (cv ++ [.ref b4]))) w0 = some (.lst wv) := upd_else h4w cw.symm
      have h5c : (upd H4 c0 (.lst (cv ++ [.ref b4]))) c0 = some (.lst (cv ++ [.ref b4])) := upd_same
      have s7 : Same H (upd H4 c0 (.lst (cv ++ [.ref b4]))) := fun b u hb => upd_else (s6 _ _ hb) (hn0 hb).1
      have hcs5 : TdAll (upd H4 c0 (.lst (cv ++ [.ref b4]))) ((cs ++ [C.op w1 ks.length]).map C.d) (cv ++ [.ref b4]) := by
        rw [List.map_append]
        refine TdAll.mono t5 _ _ (TdAll.app _ _ _ _ hcs4 ⟨_, [], rfl, ⟨b4, _, rfl, n4, _, _, rfl, rfl, _, _, rfl, ?_, rfl⟩, rfl⟩)
        rw [← l3]
        exact rfl
      have hws5 := TdAll.mono t5 _ _ hws4
      have hd5 := Td.mono t5 _ _ hd4
      generalize upd H4 c0 (.lst (cv ++ [.ref b4])) = H5 at h5w h5c s7 hcs5 hws5 hd5
      refine ⟨_, rfl, .inl ⟨rfl, _, SqL.of h5w⟩, _, rfl, _, rfl, w1, ks.map E.d, hd5, hw5, fun v6 H6 s8 hv6 => ?_⟩
      obtain ⟨b6, xs6, rfl, hb6, hk6⟩ := hv6
      have l6 := TdAll.len _ _ hk6
      rw [List.length_map] at l6
      refine ⟨w0, b6, wv, xs6, rfl, rfl, s8 _ _ h5w, SqT.of hb6, Nat.le_of_lt (small1000 (by omega)), ?_⟩
      have t7 : TS H6 (upd H6 w0 (.lst (wv ++ xs6))) := TS.wr (s8 _ _ h5w)
      refine ⟨szs (ws ++ ks), by rw [szs_app]; omega, ws ++ ks, cs ++ [C.op w1 ks.length], wv ++ xs6, cv ++ [.ref b4], _, rfl, fun b u hb => upd_else (s8 _ _ (s7 _ _ hb)) (hn0 hb).2, upd_else (s8 _ _ h5c) cw, TdAll.mono t7 _ _ (TdAll.mono (TS.of s8) _ _ hcs5), upd_same, ?_, ?_, ?_, ?_, rfl⟩
      · rw [List.map_append]
        exact TdAll.mono t7 _ _ (TdAll.app _ _ _ _ (TdAll.mono (TS.of s8) _ _ hws5) hk6)
      · intro k hk
        rcases List.mem_append.mp hk with hk | hk
        · exact gw' k hk
        · exact ⟨io.good ge1 k hk, io.cov gc1 hix k hk⟩
      · rw [io.rcod hix] at eq
        rw [List.reverse_append, List.flatMap_append, ← List.append_assoc, ← eq]
        simp only [List.append_assoc, List.cons_append, List.nil_append]
      · rw [List.length_append, List.length_singleton, szs_app]
        omega
end

/-! ### the program: all codes, rounds, settling -/
theorem CodeAt.mono {H H' : Hp} {a : Addr} {c : List C} (h : CodeAt H a c) (k : ∀ o, H a = some o → H' a = some o) (t : TS H H') : CodeAt H' a c := by
  obtain ⟨cs, h1, h2⟩ := h
  exact ⟨cs, k _ h1, TdAll.mono t _ _ h2⟩
def CodesAt (H : Hp) (p : Addr) (cs : List (List C)) : Prop := ∃ vs, H p = some (.lst vs) ∧ vs.length = cs.length ∧ ∀ (i : Nat) (c : List C), cs[i]? = some c → ∃ a, vs[i]? = some (.ref a) ∧ CodeAt H a c
theorem CodesAt.same {H H' : Hp} {p : Addr} {cs : List (List C)} (h : CodesAt H p cs) (s : Same H H') : CodesAt H' p cs := by
  obtain ⟨vs, h1, h2, h3⟩ := h
  refine ⟨vs, s _ _ h1, h2, fun i c e => ?_⟩
  obtain ⟨a, e1, e2⟩ := h3 i c e
  exact ⟨a, e1, e2.mono (fun o z => s _ _ z) (TS.of s)⟩
def ExOk (own : List Str) (ps : List E) (es : List E) : Prop := (∀ e ∈ es, goodE e ∧ e.cov own ps ∧ e.sz ≤ 60) ∧ (∀ p ∈ ps, goodE p) ∧ es.length ≤ 60
def rCodes : V → V → V → Hp → VK → Prop := fun x y z H Q => ∃ (a b t : Addr) (own : List Str) (ps es : List E) (pvs evs : List V), x = .ref a ∧ y = .ref b ∧ z = .ref t ∧ Fz H a (own.map V.str) ∧ H b = some (.tup evs) ∧ TdAll H (es.map E.d) evs ∧ Fz H t pvs ∧ TdAll H (ps.map E.d) pvs ∧
  ExOk own ps es ∧ ∀ (p : Addr) (H' : Hp), Same H H' → H p = none → CodesAt H' p (es.map (cod own ps)) → Q (.ref p) H'
def St0.sets (z : St0) : Prop := z.good ∧ ExOk z.own z.ps z.es ∧ z.ps.length = z.ts.length ∧ z.own.length = z.es.length
def rVals : V → V → Hp → VK → Prop := fun x y H Q => ∃ (a t : Addr) (z : St0), x = .ref a ∧ y = .ref t ∧ CodesAt H a (z.es.map (cod z.own z.ps)) ∧ H t = some (.tup (z.ts.map V.int)) ∧ z.sets ∧
  ∀ (p : Addr) (H' : Hp), Same H H' → H' p = some (.tup ((z.iter z.es.length).map ov)) → Q (.ref p) H'
def sp4 (R : V → V → V → V → Hp → VK → Prop) : Sp := fun vs H Q _ => ∃ x y z u, vs = [x, y, z, u] ∧ R x y z u H Q
def rSettle : V → V → V → V → Hp → VK → Prop := fun x y u v H Q => ∃ (a b t r : Addr) (z : St0) (pvs evs : List V), x = .ref a ∧ y = .ref b ∧ u = .ref t ∧ v = .ref r ∧ Fz H a (z.own.map V.str) ∧ H b = some (.tup evs) ∧ TdAll H (z.es.map E.d) evs ∧ Fz H t pvs ∧ TdAll H (z.ps.map E.d) pvs ∧
  H r = some (.tup (z.ts.map V.int)) ∧ z.sets ∧ ∀ (p : Addr) (H' : Hp), Same H H' → H' p = some (.tup ((z.iter z.es.length).map ov)) → Q (.ref p) H'
theorem ix_nat {n i : Nat} (h : i < n) : ixN n (i : Int) = some i := by
  unfold ixN
  rw [if_pos (by omega), if_pos (by omega), Int.toNat_natCast]
theorem flat_rep {α : Type} (n : Nat) (x : α) : (List.replicate n [x]).flatten = List.replicate n x := by
  induction n with
  | zero => rfl
  | succ n ih => rw [List.replicate_succ, List.flatten_cons, ih, List.replicate_succ] <;> rfl
section
variable {P : Program} {w : World} {K : PySem.W.Frag} {mg : Str → Option Value} {base : Heap}
theorem okR4 {x : Str} {st : Stmt} {f : Addr} {fd : FuncData} {N ps : List Str} {k : Nat} {R : V → V → V → V → Hp → VK → Prop} (F : FunD K x x (defArgs st) (defBody st) (defScope st) [] [] f fd) (S : FnScope N ps (defScope st)) (hl : ps.length = 4)
    (body : ∀ (cdv : Value) (A : Around) (outer : List Env) (s : Shared) (H : Hp) (Q : VK) (E : XK) (a b c d : V), Room k (A.deeper (envOfC x (defScope st) s.heap.objs.size f cdv)) → R a b c d H Q →
      ∃ t, PSs (cxOf CX0 P w K mg base N x (defScope st) f cdv A outer s H E).nox (defBody st) t ∧ t { nx := fun _ H' => Q .non H', rt := Q } (start N [a, b, c, d]) H) : FnOk P w K mg base CX0 (k + 1) f fd ps (sp4 R) := by
  refine okR F S (fun vs H Q E h => ?_) fun cdv A outer s H vs Q E hr h => ?_
  · obtain ⟨_, _, _, _, rfl, _⟩ := h
    exact hl.symm
  · obtain ⟨a, b, c, d, rfl, h⟩ := h
    exact body cdv A outer s H Q E a b c d hr h
theorem ok_codes_of (T : Tx K mg w) : FnOk P w K mg base CX0 3 T.f_codes_of T.fd_codes_of ["names", "exprs", "parts"] (sp3 rCodes) := by
  refine okR3 T.F_codes_of sc_codes_of rfl fun cdv A outer s H Q EE x y z hr h => ?_
  obtain ⟨a, b, t, own, ps, es, pvs, evs, rfl, rfl, rfl, ha, hb, hes, ht, hps, ⟨ge, gps, len⟩, q⟩ := h
  refine ⟨_, pss_one (ps_ret (pe_lc (own := [("expr", 3)]) (g := gName 3) (tt := tYes) rfl sc_codes_of.nd (pi_tup (pv 1)) (blkOk_by (N := ["names", "exprs", "parts", "expr"]) (sc := defScope s_codes_of) (by decide +kernel)) (fun _ _ _ _ _ => pg_name (i := 3) sc_codes_of.nd rfl (Or.inl rfl)) (fun _ _ _ _ _ => pts_nil) (fun _ _ _ _ _ => (pe_call (ok_code T) (hr.mono (by decide)) rfl T.m_code T.F_code.kp T.b_code .nil pass0 (pa_cons (pv 0) (pa_cons (pv 3) (pa_cons (pv 2) pa_nil))))))), ?_⟩
  have le := TdAll.len _ _ hes
  rw [List.length_map] at le
  refine ⟨_, rfl, b, rfl, ⟨_, SqT.of hb⟩, fun D hD => lc_tup (K := K) (a := b) (xs := evs) (fun i H' => Same H H' ∧ ∃ acc, H' D = some (.lst acc) ∧ acc.length = i ∧ ∀ (j : Nat) (c : List C), j < i → (es.map (cod own ps))[j]? = some c → ∃ p, acc[j]? = some (.ref p) ∧ p ≠ D ∧ CodeAt H' p c)
    ⟨same_new hD, [], upd_same, rfl, fun j c hj => absurd hj (Nat.not_lt_zero _)⟩ ?_ ?_ ?_⟩
  · rintro i H' _ ⟨sm, _⟩
    exact SqT.of (sm _ _ hb)
  · rintro i x H' hx ⟨sm, acc, hacc, hal, hcs⟩
    have hi : i < es.length := by
      have := (List.getElem?_eq_some_iff.mp hx).1
      omega
    obtain ⟨v, hv1, hv2⟩ := TdAll.at i _ _ (es[i]).d hes (by rw [List.getElem?_map, List.getElem?_eq_getElem hi] <;> rfl)
    rw [hx] at hv1
    cases hv1
    obtain ⟨g1, g2, g3⟩ := ge es[i] (List.getElem_mem hi)
    refine ⟨rfl, yes ⟨_, rfl, _, rfl, _, rfl, _, _, _, rfl, a, t, own, ps, pvs, es[i], rfl, rfl, ha.same sm, Td.mono (TS.of sm) _ _ hv2, ht.same sm, TdAll.mono (TS.of sm) _ _ hps, g1, gps, g2, g3, fun p H2 s2 hp hc => ?_⟩⟩
    have pD : p ≠ D := (ne_of_none hacc hp).symm
    have hacc2 := s2 _ _ hacc
    have t2 : TS H2 (upd H2 D (.lst (acc ++ [.ref p]))) := TS.wr hacc2
    refine ⟨acc, hacc2, small1000 (by omega), fun b u e => upd_else (s2 _ _ (sm _ _ e)) (ne_of_none e hD), _, upd_same, by rw [List.length_append, hal]; rfl, fun j c hj hc2 => ?_⟩
    rcases Nat.lt_or_ge j i with h | h
    · obtain ⟨p', e1, e2, e3⟩ := hcs j c h hc2
      refine ⟨p', by rw [List.getElem?_append_left (by omega)]; exact e1, e2, ?_⟩
      exact (e3.mono (fun o z => s2 _ _ z) (TS.of s2)).mono (fun o z => upd_else z e2) t2
    · have ej : j = i := by omega
      subst ej
      rw [List.getElem?_map, List.getElem?_eq_getElem hi] at hc2
      cases hc2
      refine ⟨p, by rw [List.getElem?_append_right (by omega), hal, Nat.sub_self] <;> rfl, pD, hc.mono (fun o z => upd_else z pD) t2⟩
  · rintro H' ⟨sm, acc, hacc, hal, hcs⟩
    refine q D H' sm hD ⟨acc, hacc, by rw [hal, List.length_map, le], fun i c e => ?_⟩
    have hi := (List.getElem?_eq_some_iff.mp e).1
    rw [List.length_map] at hi
    obtain ⟨p, e1, _, e3⟩ := hcs i c (by omega) e
    exact ⟨p, e1, e3⟩
def SetI (z : St0) (H : Hp) (a t k : Addr) (m : Nat) (σ : L2.St) (H' : Hp) : Prop := ∃ (j : Nat) (c : Bool) (v4 v5 v6 : Option V), σ = [some (.ref a), some (.ref t), some (.ref k), some (.bl c), v4, v5, v6] ∧ Same H H' ∧ H' k = some (.lst ((z.iter j).map ov)) ∧
  (c = false → z.round (z.iter j) = z.iter j) ∧ m = 2 * nones (z.iter j) + (if c = true then 1 else 0)
theorem ok_settled_values (T : Tx K mg w) : FnOk P w K mg base CX0 4 T.f_settled_values T.fd_settled_values ["codes", "truths"] (sp2 rVals) := by
  refine okR2 T.F_settled_values sc_settled_values rfl fun cdv A outer s H Q EE x y hr h => ?_
  obtain ⟨a, t, z, rfl, rfl, hc, ht, ⟨zg, ⟨ge, gps, len⟩, hl1, hl2⟩, q⟩ := h
  refine ⟨_, pss_cons (ps_set (i := 2) sc_settled_values.nd rfl (Or.inl rfl) (pe_op op_rep (pe_lst (pa_cons pe_non pa_nil)) (pe_callB call_len_seq (by rfl) T.z_len (by decide +kernel) (pa_cons (pv 0) pa_nil))))
      (pss_cons (ps_set (i := 3) sc_settled_values.nd rfl (Or.inl rfl) pe_bl)
      (pss_cons (ps_while PassesOwn.never (pt_val (pv 3)) (pss_cons (ps_set (i := 3) sc_settled_values.nd rfl (Or.inl rfl) pe_bl)
      (pss_one (ps_for PassesOwn.never rfl (pi_enum (by rfl) T.z_enumerate (pa_cons (pv 0) pa_nil)) (pg_tup rfl (pgs_cons (pg_name (i := 4) sc_settled_values.nd rfl (Or.inl rfl)) (pgs_cons (pg_name (i := 5) sc_settled_values.nd rfl (Or.inl rfl)) pgs_nil)))
      (pss_cons (ps_set (i := 6) sc_settled_values.nd rfl (Or.inl rfl) (pe_call (ok_run T) (hr.mono (by decide)) rfl T.m_run T.F_run.kp T.b_run .nil pass0 (pa_cons (pv 5) (pa_cons (pv 1) (pa_cons (pv 2) pa_nil)))))
      (pss_one (ps_if (pt_cmpR (op_neD hr.units) (pv 6) (pe_ix ix_list (pv 2) (pv 4) (fun _ _ => rfl)) (nomark _)) (pss_cons (ps_asg (pv 6) (pg_sub (pv 2) (pv 4) set_list))
      (pss_one (ps_set (i := 3) sc_settled_values.nd rfl (Or.inl rfl) pe_bl))) pss_nil)))))))
      (pss_one (ps_ret (pe_callTy call_tuple_of (by rfl) T.z_tuple (by decide +kernel) (pa_cons (pv 2) pa_nil)))))), ?_⟩
  obtain ⟨vs, ha, hvl, hcs⟩ := id hc
  rw [List.length_map] at hvl
  refine ⟨sl 1, fun l hl => ?_⟩
  refine ⟨_, rfl, a, _, rfl, .inl (SqL.of (same_new hl _ _ ha)), l, _, _, rfl, rfl, upd_same, by omega, by omega, ?_, fun k hk => ?_⟩
  · rw [Int.toNat_natCast, List.length_singleton, Nat.one_mul]
    exact Nat.le_of_lt (small1000 (by omega))
  have s0 : Same H (upd (upd H l (.lst [.non])) k (.lst (List.replicate (vs.length : Int).toNat [V.non]).flatten)) := (same_new hl).trans (same_new hk)
  have hk0 : H k = none := by
    cases e : H k with
    | none => rfl
    | some u =>
      have := same_new (o := .lst [V.non]) hl _ _ e
      rw [hk] at this
      cases this
  have k0 : (upd (upd H l (.lst [.non])) k (.lst (List.replicate (vs.length : Int).toNat [V.non]).flatten)) k = some (.lst ((z.iter 0).map ov)) := by
    rw [upd_same, flat_rep, Int.toNat_natCast, hvl]
    show some (HO.lst _) = some (HO.lst ((List.replicate z.es.length none).map ov))
    rw [List.map_replicate]
    rfl
  generalize upd (upd H l (.lst [.non])) k (.lst (List.replicate (vs.length : Int).toNat [V.non]).flatten) = H0 at s0 k0
  have hkn : ∀ {b : Addr} {u : HO}, H b = some u → b ≠ k := fun e => ne_of_none e hk0
  refine ⟨SetI z H a t k, ⟨_, 0, true, none, none, none, rfl, s0, k0, (fun h => by cases h), rfl⟩, ?_⟩
  rintro m σ H1 ⟨j, c, v4, v5, v6, rfl, s1, k1, fx, rfl⟩
  refine ⟨_, rfl, c, rfl, ?_⟩
  cases c with
  | false =>
    refine iteF ?_
    have e := St0.lim zg (fx rfl)
    refine ⟨_, rfl, k, _, rfl, .inl ⟨SqL.of k1, fun p hp => q p _ (fun b u hb => same_new hp _ _ (s1 _ _ hb)) ?_⟩⟩
    rw [upd_same, e]
  | true =>
    refine iteT ⟨fun σ' H' => ∃ m', m' < 2 * nones (z.iter j) + 1 ∧ SetI z H a t k m' σ' H', fun _ _ h => h, ?_⟩
    have pj := St0.iter_pre zg j
    refine ⟨_, rfl, a, vs, rfl, SqL.of (s1 _ _ ha), for_it (walk_enum (xs := vs)) (fun i σ' H' => ∃ (c : Bool) (v4 v5 v6 : Option V), σ' = [some (.ref a), some (.ref t), some (.ref k), some (.bl c), v4, v5, v6] ∧ Same H H' ∧ H' k = some (.lst ((z.upto (z.iter j) i).map ov)) ∧
      (c = false → z.upto (z.iter j) i = z.iter j) ∧ (c = true → nones (z.upto (z.iter j) i) < nones (z.iter j))) ⟨false, v4, v5, v6, rfl, s1, k1, fun _ => rfl, fun h => by cases h⟩ ?_ ?_ ?_⟩
    · rintro i σ' H' _ ⟨c, v4, v5, v6, rfl, s2, _⟩
      exact SqL.of (s2 _ _ ha)
    · rintro i x σ' H' H2 hi ⟨c, v4, v5, v6, rfl, s2, k2, f1, f2⟩ ⟨B, x1, x2, rfl, hB, rfl, e1, e2⟩
      cases e1
      rw [hvl] at hi
      have hci : (z.es.map (cod z.own z.ps))[i]? = some (cod z.own z.ps z.es[i]) := by
        rw [List.getElem?_map, List.getElem?_eq_getElem hi]
        rfl
      obtain ⟨ca, c1, c2⟩ := hcs i _ hci
      have e2' : vs[i]? = some x2 := e2
      rw [c1] at e2'
      cases e2'
      have s3 : Same H (upd H' B (.tup [V.int i, V.ref ca])) := fun b u hb => same_new hB _ _ (s2 _ _ hb)
      have k3 := same_new (o := .tup [V.int i, V.ref ca]) hB _ _ k2
      refine ⟨B, _, rfl, SqT.of upd_same, rfl, _, _, rfl, _, _, rfl, rfl, ?_⟩
      generalize upd H' B (.tup [V.int i, V.ref ca]) = H3 at s3 k3
      obtain ⟨pu, lu⟩ := St0.upto_pre zg pj i
      obtain ⟨po, lo⟩ := St0.one_pre zg pu i
      obtain ⟨g1, g2, g3⟩ := ge z.es[i] (List.getElem_mem hi)
      have hrun := runs_whole (own := z.own) (ps := z.ps) (ts := z.ts) (kn := z.upto (z.iter j) i) hl1 zg.ts pu.2.1 (by rw [pu.1, hl2]) g1.1 g2
      refine ⟨_, rfl, _, rfl, _, rfl, _, _, _, rfl, ca, t, k, _, z.ts, z.upto (z.iter j) i, _, rfl, rfl, rfl, c2.mono (fun o e => s3 _ _ e) (TS.of s3), s3 _ _ ht, k3, Nat.le_trans (cod_len _ _ _) (by omega), hrun, fun H4 s4 => ?_⟩
      have k4 := s4 _ _ k3
      have s5 : Same H H4 := s3.trans s4
      have hin : i < (z.upto (z.iter j) i).length := by rw [pu.1]; exact hi
      refine ⟨_, rfl, _, rfl, _, rfl, k, _, _, _, rfl, rfl, SqL.of k4, at_n i (ovs_at (List.getElem?_eq_getElem hin)), _, _, ov_dp _, ov_dp _, oD_shaped _, oD_shaped _, _, rfl, ?_⟩
      rw [oD_eqv]
      have one : z.upto (z.iter j) (i + 1) = (z.upto (z.iter j) i).set i (val z.own z.ps z.ts (z.upto (z.iter j) i) z.es[i]) := by
        show z.one _ i = _
        unfold St0.one
        rw [List.getElem?_eq_getElem hi]
      refine ite2 (fun hne => ?_) (fun heq => ?_)
      · have ne : ¬ val z.own z.ps z.ts (z.upto (z.iter j) i) z.es[i] = (z.upto (z.iter j) i)[i] := fun e => by
          rw [decide_eq_true e] at hne
          cases hne
        refine ⟨_, rfl, _, rfl, _, rfl, k, _, _, i, rfl, rfl, k4, ix_nat (by rw [List.length_map]; exact hin), ?_⟩
        refine ⟨true, _, _, _, rfl, fun b u hb => upd_else (s5 _ _ hb) (hkn hb), ?_, (fun h => by cases h), fun _ => ?_⟩
        · rw [upd_same, one, List.map_set]
        · have d1 := nones_down lu
          have d2 : nones (z.upto (z.iter j) (i + 1)) < nones (z.upto (z.iter j) i) := nones_lt lo fun e => ne (by
            have e' : z.upto (z.iter j) i = (z.upto (z.iter j) i).set i (val z.own z.ps z.ts (z.upto (z.iter j) i) z.es[i]) := e.trans one
            have e3 := congrArg (fun l => l[i]?) e'
            simp only [List.getElem?_set, if_true, List.getElem?_eq_getElem hin, hin] at e3
            exact (Option.some.inj e3).symm)
          omega
      · have eq : val z.own z.ps z.ts (z.upto (z.iter j) i) z.es[i] = (z.upto (z.iter j) i)[i] := by
          by_cases e : val z.own z.ps z.ts (z.upto (z.iter j) i) z.es[i] = (z.upto (z.iter j) i)[i]
          · exact e
          · exact absurd (by rw [decide_eq_false e]; rfl) heq
        have same : z.upto (z.iter j) (i + 1) = z.upto (z.iter j) i := by
          rw [one, eq, List.set_getElem_self]
        exact ⟨c, _, _, _, rfl, s5, by rw [same]; exact k4, by rw [same]; exact f1, by rw [same]; exact f2⟩
    · rintro σ' H' ⟨c, v4, v5, v6, rfl, s2, k2, f1, f2⟩
      rw [hvl] at k2 f1 f2
      refine ⟨_, ?_, j + 1, c, v4, v5, v6, rfl, s2, k2, fun hc => ?_, rfl⟩
      · cases c with
        | true =>
          have := f2 rfl
          show 2 * nones (z.upto (z.iter j) z.es.length) + 1 < _
          omega
        | false =>
          have := f1 rfl
          show 2 * nones (z.upto (z.iter j) z.es.length) + 0 < _
          rw [this]
          omega
      · have e := f1 hc
        show z.round (z.upto (z.iter j) z.es.length) = z.upto (z.iter j) z.es.length
        rw [e]
        exact e
theorem ok_settle (T : Tx K mg w) : FnOk P w K mg base CX0 5 T.f_settle T.fd_settle ["names", "exprs", "parts", "truths"] (sp4 rSettle) := by
  refine okR4 T.F_settle sc_settle rfl fun cdv A outer s H Q EE x y u v hr h => ?_
  obtain ⟨a, b, t, r, z, pvs, evs, rfl, rfl, rfl, rfl, ha, hb, hes, ht, hps, hr', zs, q⟩ := h
  refine ⟨_, pss_one (ps_ret (pe_call (ok_settled_values T) (hr.mono (by decide)) rfl T.m_settled_values T.F_settled_values.kp T.b_settled_values .nil pass0 (pa_cons (pe_call (ok_codes_of T) (hr.mono (by decide)) rfl T.m_codes_of T.F_codes_of.kp T.b_codes_of .nil pass0 (pa_cons (pv 0) (pa_cons (pv 1) (pa_cons (pv 2) pa_nil)))) (pa_cons (pv 3) pa_nil)))), ?_⟩
  refine ⟨_, rfl, _, rfl, _, rfl, _, _, _, rfl, a, b, t, z.own, z.ps, z.es, pvs, evs, rfl, rfl, rfl, ha, hb, hes, ht, hps, zs.2.1, fun p H1 s1 _ hc => ?_⟩
  exact ⟨_, rfl, _, _, rfl, p, r, z, rfl, rfl, hc, s1 _ _ hr', zs, fun p' H2 s2 h2 => q p' H2 (s1.trans s2) h2⟩
end

theorem at_in {xs : List V} {r : Int} (h0 : 0 ≤ r) (h1 : r < (xs.length : Int)) : ∃ v, atI xs r = some v ∧ v ∈ xs := by
  obtain ⟨j, rfl⟩ := Int.eq_ofNat_of_zero_le h0
  exact ⟨xs[j], at_n j (List.getElem?_eq_getElem (by omega)), List.getElem_mem _⟩
theorem at_int {ns : List Int} {r : Int} (h0 : 0 ≤ r) (h1 : r < (ns.length : Int)) : ∃ n, atI (ns.map V.int) r = some (.int n) ∧ n ∈ ns := by
  obtain ⟨v, h, hm⟩ := at_in (xs := ns.map V.int) h0 (by rw [List.length_map]; exact h1)
  obtain ⟨n, hn, rfl⟩ := List.mem_map.mp hm
  exact ⟨n, h, hn⟩
theorem bl_eq {a b : Int} : decide (V.int a = V.int b) = decide (a = b) := decide_eq_decide.mpr ⟨V.int.inj, fun h => by rw [h]⟩

section
variable {P : Program} {w : World} {K : PySem.W.Frag} {mg : Str → Option Value} {base : Heap}
theorem ok_rare (T : Tx K mg w) : FnOk P w K mg base CX0 3 T.f_rare T.fd_rare ["_law_d", "_law_many"] (sp2 rRare) := by
  refine okR2 T.F_rare sc_rare rfl fun cdv A outer s H Q E x y hr h => ?_
  obtain ⟨d, c, m, rfl, rfl, dr, m0, m1, q⟩ := h
  refine ⟨_, pss_cons (ps_set (i := 2) sc_rare.nd rfl (Or.inl rfl) (pe_op op_fdiv (pv 1) pe_int))
      (pss_cons (ps_if (pt_cmpR op_eq (pe_op op_mod (pe_callTy call_int1 (by rfl) T.z_int (by decide +kernel) (pa_cons (pv 2) pa_nil)) pe_int) pe_int (nomark _)) (pss_one (ps_set (i := 2) sc_rare.nd rfl (Or.inl rfl) (pe_op op_sub (pv 2) pe_int))) pss_nil)
      (pss_one (ps_ret (pe_cmpR op_eq (pe_call (ok_draw T) (hr.mono (by decide)) rfl T.m_draw T.F_draw.kp T.b_draw .nil pass0 (pa_cons (pv 0) (pa_cons (pv 1) pa_nil))) (pv 2) (nomark _))))), ?_⟩
  refine ⟨_, rfl, _, _, rfl, rfl, ⟨by decide, by decide⟩, ?_⟩
  refine ⟨_, rfl, .inl ⟨_, rfl, _, _, rfl, rfl, (by show (0 : Int) < 2; decide), rfl, _, rfl, ite2 (fun _ => ?_) (fun _ => ?_)⟩⟩
  · refine ⟨_, rfl, _, _, rfl, rfl, ?_⟩
    refine ⟨_, rfl, _, rfl, _, _, rfl, d, c, m, rfl, rfl, dr, by omega, m1, fun r H' _ _ dr' kp => ⟨_, rfl, rfl, q _ _ dr' kp⟩⟩
  · refine ⟨_, rfl, _, rfl, _, _, rfl, d, c, m, rfl, rfl, dr, by omega, m1, fun r H' _ _ dr' kp => ⟨_, rfl, rfl, q _ _ dr' kp⟩⟩
end

/-- one of the values of a list -/
def rPickL : V → V → Hp → VK → Prop := fun x y H Q => ∃ (d c p : Addr) (items : List V), x = .ref d ∧ Dr d c H ∧ items ≠ [] ∧ items.length ≤ 1000 ∧ y = .ref p ∧ p ≠ d ∧ H p = some (.lst items) ∧ ∀ (v : V) (H' : Hp), v ∈ items → Dr d c H' → Keep d H H' → Q v H'
section
variable {P : Program} {w : World} {K : PySem.W.Frag} {mg : Str → Option Value} {base : Heap}
theorem ok_pick (T : Tx K mg w) : FnOk P w K mg base CX0 3 T.f_pick T.fd_pick ["_law_d", "_law_row"] (sp2 rPickL) := by
  refine okR2 T.F_pick sc_pick rfl fun cdv A outer s H Q E x y hr h => ?_
  obtain ⟨d, c, p, items, rfl, dr, hne, hlen, rfl, hpd, hp, q⟩ := h
  have hpos : 0 < items.length := by
    cases items with
    | nil => exact absurd rfl hne
    | cons a r => exact Nat.succ_pos _
  refine ⟨_, pss_one (ps_ret (pe_ix ix_list (pv 1) (pe_call (ok_draw T) (hr.mono (by decide)) rfl T.m_draw T.F_draw.kp T.b_draw .nil pass0 (pa_cons (pv 0) (pa_cons (pe_callB call_len_seq (by rfl) T.z_len (by decide +kernel) (pa_cons (pv 1) pa_nil)) pa_nil))) (fun _ _ => rfl))), ?_⟩
  refine ⟨_, rfl, _, rfl, _, rfl, p, items, rfl, .inl (SqL.of hp), _, _, rfl, d, c, _, rfl, rfl, dr, by omega, by omega, fun r H' r0 r1 dr' kp => ?_⟩
  obtain ⟨j, rfl⟩ := Int.eq_ofNat_of_zero_le r0
  have hj : j < items.length := by omega
  exact ⟨p, items, _, items[j], rfl, rfl, SqL.of (kp _ _ hp hpd), at_n j (List.getElem?_eq_getElem hj), q _ _ (List.getElem_mem hj) dr' kp⟩
end

/-! ### the law: names and free parts -/
theorem td0 {H : Hp} {p : Addr} (hp : H p = none) : Td (upd H p (.tup [])) (.tuple []) (.ref p) := ⟨p, _, rfl, upd_same, rfl⟩
theorem td1 {H : Hp} {p : Addr} {a : V} {x : PyData} (hp : H p = none) (h1 : Td H x a) : Td (upd H p (.tup [a])) (.tuple [x]) (.ref p) := ⟨p, _, rfl, upd_same, a, _, rfl, Td.mono (TS.new hp) _ _ h1, rfl⟩
theorem td2 {H : Hp} {p : Addr} {a b : V} {x y : PyData} (hp : H p = none) (h1 : Td H x a) (h2 : Td H y b) : Td (upd H p (.tup [a, b])) (.tuple [x, y]) (.ref p) :=
  ⟨p, _, rfl, upd_same, a, _, rfl, Td.mono (TS.new hp) _ _ h1, b, _, rfl, Td.mono (TS.new hp) _ _ h2, rfl⟩
theorem td3 {H : Hp} {p : Addr} {a b c : V} {x y z : PyData} (hp : H p = none) (h1 : Td H x a) (h2 : Td H y b) (h3 : Td H z c) : Td (upd H p (.tup [a, b, c])) (.tuple [x, y, z]) (.ref p) :=
  ⟨p, _, rfl, upd_same, a, _, rfl, Td.mono (TS.new hp) _ _ h1, b, _, rfl, Td.mono (TS.new hp) _ _ h2, c, _, rfl, Td.mono (TS.new hp) _ _ h3, rfl⟩
theorem td4 {H : Hp} {p : Addr} {a b c d : V} {x y z u : PyData} (hp : H p = none) (h1 : Td H x a) (h2 : Td H y b) (h3 : Td H z c) (h4 : Td H u d) : Td (upd H p (.tup [a, b, c, d])) (.tuple [x, y, z, u]) (.ref p) :=
  ⟨p, _, rfl, upd_same, a, _, rfl, Td.mono (TS.new hp) _ _ h1, b, _, rfl, Td.mono (TS.new hp) _ _ h2, c, _, rfl, Td.mono (TS.new hp) _ _ h3, d, _, rfl, Td.mono (TS.new hp) _ _ h4, rfl⟩
theorem td5 {H : Hp} {p : Addr} {a b c d e : V} {x y z u v : PyData} (hp : H p = none) (h1 : Td H x a) (h2 : Td H y b) (h3 : Td H z c) (h4 : Td H u d) (h5 : Td H v e) : Td (upd H p (.tup [a, b, c, d, e])) (.tuple [x, y, z, u, v]) (.ref p) :=
  ⟨p, _, rfl, upd_same, a, _, rfl, Td.mono (TS.new hp) _ _ h1, b, _, rfl, Td.mono (TS.new hp) _ _ h2, c, _, rfl, Td.mono (TS.new hp) _ _ h3, d, _, rfl, Td.mono (TS.new hp) _ _ h4, e, _, rfl, Td.mono (TS.new hp) _ _ h5, rfl⟩
def rPool : Hp → VK → Prop := fun H Q => ∀ (ys : List Str) (p : Addr), 20 ≤ ys.length → ys.length ≤ 400 → (∀ y ∈ ys, PyData.strOk y = true) → H p = none → Q (.ref p) (upd H p (.lst (ys.map V.str)))
def goodP (ys : List Str) : Bool := decide (20 ≤ ys.length) && (decide (ys.length ≤ 400) && ys.all PyData.strOk)
theorem goodP_ok {ys : List Str} (h : goodP ys = true) : 20 ≤ ys.length ∧ ys.length ≤ 400 ∧ ∀ y ∈ ys, PyData.strOk y = true := by
  unfold goodP at h
  rw [Bool.and_eq_true, Bool.and_eq_true] at h
  exact ⟨of_decide_eq_true h.1, of_decide_eq_true h.2.1, fun y hy => List.all_eq_true.mp h.2.2 y hy⟩
/-- so many names -/
def Names (H : Hp) (p : Addr) (n : Nat) (ys : List Str) : Prop := H p = some (.lst (ys.map V.str)) ∧ ys.length = n ∧ ∀ y ∈ ys, PyData.strOk y = true
def rNames : V → V → Hp → VK → Prop := fun x y H Q => ∃ (d c : Addr) (m : Nat), x = .ref d ∧ y = .int m ∧ Dr d c H ∧ m ≤ 20 ∧ ∀ (p : Addr) (ys : List Str) (H' : Hp), Names H' p m ys → p ≠ d → p ≠ c → Dr d c H' → Keep d H H' → Q (.ref p) H'
theorem cutV_mid {xs : List V} {i j : Nat} (h : i + j ≤ xs.length) : cutV xs (some (i : Int)) (some ((i + j : Nat) : Int)) = (xs.drop i).take j := by
  unfold cutV
  rw [HT.sIx_nat, HT.sIx_nat, Nat.min_eq_left h, Nat.min_eq_left (show i ≤ xs.length by omega), Nat.add_sub_cancel_left]
section
variable {P : Program} {w : World} {K : PySem.W.Frag} {mg : Str → Option Value} {base : Heap}
theorem ok_pool (T : Tx K mg w) : FnOk P w K mg base CX0 1 T.f_pool T.fd_pool [] (sp0 rPool) := by
  refine okR0 T.F_pool sc_pool rfl fun cdv A outer s H Q EE hr q => ?_
  refine ⟨_, pss_cons (ps_set (i := 0) sc_pool.nd rfl (Or.inl rfl) pe_str)
      (pss_cons (ps_set (i := 1) sc_pool.nd rfl (Or.inl rfl) pe_str)
      (pss_cons (ps_set (i := 2) sc_pool.nd rfl (Or.inl rfl) pe_str)
      (pss_one (ps_ret (pe_split (pe_op op_add_str (pe_op op_add_str (pv 0) (pv 1)) (pv 2)) pe_str))))), ?_⟩
  refine ⟨_, rfl, _, rfl, _, _, rfl, rfl, ?_, _, rfl, _, _, rfl, rfl, ?_, ⟨_, rfl⟩, _, _, rfl, rfl, by decide +kernel, ?_, fun p hp => ?_⟩
  · exact sl _ (by decide +kernel)
  · exact sl _ (by decide +kernel)
  · exact sl _ (by decide +kernel)
  · refine q _ p ?_ ?_ ?_ hp
    · exact (goodP_ok (by decide +kernel)).1
    · exact (goodP_ok (by decide +kernel)).2.1
    · exact (goodP_ok (by decide +kernel)).2.2
end

theorem names_at {H : Hp} {p : Addr} {n : Nat} {ys : List Str} (h : Names H p n ys) {r : Int} (h0 : 0 ≤ r) (h1 : r < (n : Int)) : ∃ z, atI (ys.map V.str) r = some (.str z) ∧ PyData.strOk z = true ∧ z ∈ ys := by
  obtain ⟨_, hl, ho⟩ := h
  obtain ⟨v, hv, hm⟩ := at_in (xs := ys.map V.str) h0 (by rw [List.length_map, hl]; exact h1)
  obtain ⟨z, hz, rfl⟩ := List.mem_map.mp hm
  exact ⟨z, hv, ho z hz, hz⟩
section
variable {P : Program} {w : World} {K : PySem.W.Frag} {mg : Str → Option Value} {base : Heap}
theorem ok_names (T : Tx K mg w) : FnOk P w K mg base CX0 3 T.f_names T.fd_names ["_law_d", "_law_many"] (sp2 rNames) := by
  refine okR2 T.F_names sc_names rfl fun cdv A outer s H Q EE x y hr h => ?_
  obtain ⟨d, c, m, rfl, rfl, dr, m20, q⟩ := h
  refine ⟨_, pss_cons (ps_set (i := 2) sc_names.nd rfl (Or.inl rfl) (pe_call0 (ok_pool T) (hr.mono (by decide)) rfl T.m_pool T.F_pool.kp T.b_pool .nil pass0))
      (pss_cons (ps_set (i := 3) sc_names.nd rfl (Or.inl rfl) (pe_call (ok_draw T) (hr.mono (by decide)) rfl T.m_draw T.F_draw.kp T.b_draw .nil pass0 (pa_cons (pv 0) (pa_cons (pe_callB call_len_seq (by rfl) T.z_len (by decide +kernel) (pa_cons (pv 2) pa_nil)) pa_nil))))
      (pss_cons (ps_set (i := 4) sc_names.nd rfl (Or.inl rfl) (pe_slice sl_list (pe_op op_cat (pv 2) (pv 2)) (po_some (pv 3)) (po_some (pe_op op_add (pv 3) (pv 1)))))
      (pss_one (ps_ret (pe_ifExp (pt_cmpR op_eq (pe_call (ok_draw T) (hr.mono (by decide)) rfl T.m_draw T.F_draw.kp T.b_draw .nil pass0 (pa_cons (pv 0) (pa_cons pe_int pa_nil))) pe_int (nomark _)) (pv 4) (pe_revL (pv 4))))))), ?_⟩
  refine ⟨rfl, fun ys p l1 l2 l3 hp => ?_⟩
  have dr1 : Dr d c (upd H p (.lst (ys.map V.str))) := dr.new hp
  have pd := dr.dne hp
  refine ⟨_, rfl, _, rfl, p, _, rfl, .inl (SqL.of upd_same), _, _, rfl, d, c, _, rfl, rfl, dr1, by rw [List.length_map]; omega, by rw [List.length_map]; omega, fun r H2 r0 r1 dr2 k2 => ?_⟩
  rw [List.length_map] at r1
  obtain ⟨j, rfl⟩ := Int.eq_ofNat_of_zero_le r0
  have h2 := k2 _ _ upd_same pd
  have kk : Keep d H H2 := (Keep.new hp).trans k2
  refine ⟨_, rfl, _, rfl, p, p, _, _, rfl, rfl, h2, h2, Nat.le_of_lt (small1000 (by rw [List.length_map]; omega)), fun p2 hp2 => ?_⟩
  refine ⟨_, rfl, (j : Int), rfl, _, rfl, _, rfl, _, _, rfl, rfl, (j : Int) + m, rfl, p2, _, rfl, SqL.of upd_same, fun p3 hp3 => ?_⟩
  rw [show (j : Int) + (m : Int) = ((j + m : Nat) : Int) by omega, cutV_mid (by rw [List.length_append, List.length_map]; omega), ← List.map_append, ← List.map_drop, ← List.map_take] at *
  have dr3 := (dr2.new (o := .lst ((ys ++ ys).map V.str)) hp2).new (o := .lst ((((ys ++ ys).drop j).take m).map V.str)) hp3
  have k3 : Keep d H2 (upd (upd H2 p2 (.lst ((ys ++ ys).map V.str))) p3 (.lst ((((ys ++ ys).drop j).take m).map V.str))) := (Keep.new hp2).trans (Keep.new hp3)
  have n3 : Names (upd (upd H2 p2 (.lst ((ys ++ ys).map V.str))) p3 (.lst ((((ys ++ ys).drop j).take m).map V.str))) p3 m (((ys ++ ys).drop j).take m) := by
    refine ⟨upd_same, ?_, fun y hy => ?_⟩
    · rw [List.length_take, List.length_drop, List.length_append]
      omega
    · have h1 := List.mem_of_mem_drop (List.mem_of_mem_take hy)
      rcases List.mem_append.mp h1 with h | h <;> exact l3 y h
  have p3d := (dr2.new (o := .lst ((ys ++ ys).map V.str)) hp2).dne hp3
  have p3c := (dr2.new (o := .lst ((ys ++ ys).map V.str)) hp2).cne hp3
  generalize ((ys ++ ys).drop j).take m = zs at dr3 k3 n3
  generalize upd (upd H2 p2 (.lst ((ys ++ ys).map V.str))) p3 (.lst (zs.map V.str)) = H3 at dr3 k3 n3
  refine ⟨_, rfl, _, _, rfl, d, c, 2, rfl, rfl, dr3, by decide, by decide, fun r5 H5 a5 b5 dr5 kp5 => ⟨rfl, _, rfl, ?_⟩⟩
  have n5 : H5 p3 = some (.lst (zs.map V.str)) := kp5 _ _ n3.1 p3d
  refine ite2 (fun _ => ⟨_, rfl, q p3 zs H5 ⟨n5, n3.2⟩ p3d p3c dr5 ((kk.trans k3).trans kp5)⟩) (fun _ => ⟨_, rfl, p3, _, rfl, SqL.of n5, fun p6 hp6 => ?_⟩)
  rw [← List.map_reverse]
  exact q p6 zs.reverse _ ⟨upd_same, by rw [List.length_reverse]; exact n3.2.1, fun y hy => n3.2.2 y (List.mem_reverse.mp hy)⟩ (dr5.dne hp6) (dr5.cne hp6) (dr5.new hp6) (((kk.trans k3).trans kp5).trans (Keep.new hp6))
end
theorem w_name : PyData.strOk "name" = true := by decide +kernel
theorem w_truth : PyData.strOk "truth" = true := by decide +kernel
theorem w_int : PyData.strOk "int" = true := by decide +kernel
theorem w_last : PyData.strOk "last" = true := by decide +kernel
theorem w_not : PyData.strOk "not" = true := by decide +kernel
theorem w_and : PyData.strOk "and" = true := by decide +kernel
theorem w_then : PyData.strOk "then" = true := by decide +kernel
theorem w_held : PyData.strOk "held" = true := by decide +kernel
theorem w_when : PyData.strOk "when" = true := by decide +kernel
theorem w_is : PyData.strOk "is" = true := by decide +kernel
theorem w_merge : PyData.strOk "merge" = true := by decide +kernel
theorem w_fresh : PyData.strOk "fresh" = true := by decide +kernel
/-- a part that can be free -/
def frE (e : E) : Prop := e.ok ∧ e.dp ≤ 1 ∧ e.sz ≤ 3
theorem fr_nm {z : Str} (h : PyData.strOk z = true) : frE (.nm z) := ⟨h, Nat.zero_le _, by show 1 ≤ 3; omega⟩
theorem fr_ot {z : Str} {ds : List PyData} (h1 : z ∉ inner) (h2 : PyData.strOk z = true) (h3 : plainAll ds = true) (h4 : PyData.depthAll ds ≤ 9) : frE (.ot z ds) := ⟨⟨h1, h2, h3, h4⟩, Nat.zero_le _, by show 1 ≤ 3; omega⟩
theorem fr_bi {z s1 s2 : Str} (h : z ∈ bins) (h1 : PyData.strOk s1 = true) (h2 : PyData.strOk s2 = true) : frE (.bi z (.nm s1) (.nm s2)) := ⟨⟨h, h1, h2⟩, by show 1 ≤ 1; omega, by show 3 ≤ 3; omega⟩
theorem fr_un {b : Int} (h : b = 0 ∨ b = 1) : frE (.un (.tr b)) := ⟨h, by show 1 ≤ 1; omega, by show 2 ≤ 3; omega⟩
structure FP (d c p1 p2 : Addr) (n m : Nat) (ys zs : List Str) (H0 H : Hp) : Prop where
  dr : Dr d c H
  kp : Keep d H0 H
  n1 : Names H p1 n ys
  n2 : Names H p2 m zs
  d1 : p1 ≠ d
  d2 : p2 ≠ d
section
variable {d c p1 p2 : Addr} {n m : Nat} {ys zs : List Str} {H0 H H' : Hp}
theorem FP.go (f : FP d c p1 p2 n m ys zs H0 H) (dr : Dr d c H') (k : Keep d H H') : FP d c p1 p2 n m ys zs H0 H' :=
  ⟨dr, f.kp.trans k, ⟨k _ _ f.n1.1 f.d1, f.n1.2⟩, ⟨k _ _ f.n2.1 f.d2, f.n2.2⟩, f.d1, f.d2⟩
theorem FP.new (f : FP d c p1 p2 n m ys zs H0 H) {t : Addr} {o : HO} (ht : H t = none) : FP d c p1 p2 n m ys zs H0 (upd H t o) := f.go (f.dr.new ht) (Keep.new ht)
end
def rFree : V → V → V → Hp → VK → Prop := fun x y z H Q => ∃ (d c p1 p2 : Addr) (n m : Nat) (ys zs : List Str), x = .ref d ∧ y = .ref p1 ∧ z = .ref p2 ∧ FP d c p1 p2 n m ys zs H H ∧ 1 ≤ n ∧ n ≤ 20 ∧ 5 ≤ m ∧ m ≤ 20 ∧
  ∀ (v : V) (e : E) (H' : Hp), Td H' e.d v → frE e → Dr d c H' → Keep d H H' → Q v H'
section
variable {P : Program} {w : World} {K : PySem.W.Frag} {mg : Str → Option Value} {base : Heap}
theorem ok_free_part (T : Tx K mg w) : FnOk P w K mg base CX0 4 T.f_free_part T.fd_free_part ["_law_d", "_law_own", "_law_pool_here"] (sp3 rFree) := by
  refine okR3 T.F_free_part sc_free_part rfl fun cdv A outer s H Q EE x y z hr h => ?_
  obtain ⟨d, c, p1, p2, n, m, ys, zs, rfl, rfl, rfl, fp, n1, n20, m5, m20, q⟩ := h
  refine ⟨_, pss_cons (ps_set (i := 3) sc_free_part.nd rfl (Or.inl rfl) (pe_call (ok_draw T) (hr.mono (by decide)) rfl T.m_draw T.F_draw.kp T.b_draw .nil pass0 (pa_cons (pv 0) (pa_cons pe_int pa_nil))))
      (pss_cons (ps_set (i := 4) sc_free_part.nd rfl (Or.inl rfl) (pe_tup (pa_cons pe_str (pa_cons (pe_ix ix_list (pv 2) (pe_call (ok_draw T) (hr.mono (by decide)) rfl T.m_draw T.F_draw.kp T.b_draw .nil pass0 (pa_cons (pv 0) (pa_cons pe_int pa_nil))) (fun _ _ => rfl)) pa_nil))))
      (pss_cons (ps_set (i := 5) sc_free_part.nd rfl (Or.inl rfl) (pe_tup (pa_cons pe_str (pa_cons (pe_ix ix_list (pv 2) (pe_call (ok_draw T) (hr.mono (by decide)) rfl T.m_draw T.F_draw.kp T.b_draw .nil pass0 (pa_cons (pv 0) (pa_cons pe_int pa_nil))) (fun _ _ => rfl)) pa_nil))))
      (pss_cons (ps_set (i := 6) sc_free_part.nd rfl (Or.inl rfl) (pe_tup (pa_cons pe_str (pa_cons (pe_call (ok_pick T) (hr.mono (by decide)) rfl T.m_pick T.F_pick.kp T.b_pick .nil pass0 (pa_cons (pv 0) (pa_cons (pv 1) pa_nil))) pa_nil))))
      (pss_cons (ps_if (pt_cmpR op_lt (pv 3) pe_int (nomark _)) (pss_one (ps_ret (pv 4))) pss_nil)
      (pss_cons (ps_if (pt_cmpR op_eq (pv 3) pe_int (nomark _)) (pss_one (ps_ret (pe_tup (pa_cons (pe_ix ix_list (pe_lst (pa_cons pe_str (pa_cons pe_str (pa_cons pe_str pa_nil)))) (pe_call (ok_draw T) (hr.mono (by decide)) rfl T.m_draw T.F_draw.kp T.b_draw .nil pass0 (pa_cons (pv 0) (pa_cons pe_int pa_nil))) (fun _ _ => rfl)) (pa_cons (pe_tup (pa_cons pe_str (pa_cons (pe_ix ix_list (pv 2) pe_int (fun _ _ => rfl)) pa_nil))) (pa_cons (pe_tup (pa_cons pe_str (pa_cons (pe_call (ok_draw T) (hr.mono (by decide)) rfl T.m_draw T.F_draw.kp T.b_draw .nil pass0 (pa_cons (pv 0) (pa_cons pe_int pa_nil))) pa_nil))) pa_nil)))))) pss_nil)
      (pss_cons (ps_if (pt_cmpR op_eq (pv 3) pe_int (nomark _)) (pss_one (ps_ret (pe_tup (pa_cons pe_str (pa_cons (pv 6) (pa_cons (pe_tup pa_nil) pa_nil)))))) pss_nil)
      (pss_cons (ps_if (pt_cmpR op_eq (pv 3) pe_int (nomark _)) (pss_one (ps_ret (pe_tup (pa_cons pe_str (pa_cons (pe_tup (pa_cons pe_str (pa_cons (pe_tup (pa_cons pe_str (pa_cons (pv 6) (pa_cons (pv 4) pa_nil)))) pa_nil))) (pa_cons (pe_tup (pa_cons (pe_ix ix_list (pv 2) (pe_call (ok_draw T) (hr.mono (by decide)) rfl T.m_draw T.F_draw.kp T.b_draw .nil pass0 (pa_cons (pv 0) (pa_cons pe_int pa_nil))) (fun _ _ => rfl)) pa_nil)) pa_nil)))))) pss_nil)
      (pss_cons (ps_if (pt_cmpR op_eq (pv 3) pe_int (nomark _)) (pss_one (ps_ret (pe_tup (pa_cons (pe_ix ix_list (pe_lst (pa_cons pe_str (pa_cons pe_str (pa_cons pe_str pa_nil)))) (pe_call (ok_draw T) (hr.mono (by decide)) rfl T.m_draw T.F_draw.kp T.b_draw .nil pass0 (pa_cons (pv 0) (pa_cons pe_int pa_nil))) (fun _ _ => rfl)) (pa_cons (pv 4) (pa_cons (pv 5) pa_nil)))))) pss_nil)
      (pss_cons (ps_if (pt_cmpR op_eq (pv 3) pe_int (nomark _)) (pss_one (ps_ret (pe_tup (pa_cons pe_str (pa_cons (pe_tup (pa_cons pe_str (pa_cons (pe_call (ok_draw T) (hr.mono (by decide)) rfl T.m_draw T.F_draw.kp T.b_draw .nil pass0 (pa_cons (pv 0) (pa_cons pe_int pa_nil))) pa_nil))) pa_nil))))) pss_nil)
      (pss_cons (ps_if (pt_cmpR op_eq (pv 3) pe_int (nomark _)) (pss_one (ps_ret (pe_tup (pa_cons pe_str (pa_cons (pe_tup (pa_cons pe_str (pa_cons (pe_call (ok_draw T) (hr.mono (by decide)) rfl T.m_draw T.F_draw.kp T.b_draw .nil pass0 (pa_cons (pv 0) (pa_cons pe_int pa_nil))) pa_nil))) (pa_cons (pe_tup (pa_cons pe_str (pa_cons (pv 6) (pa_cons (pe_tup pa_nil) pa_nil)))) (pa_cons (pe_tup pa_nil) pa_nil))))))) pss_nil)
      (pss_cons (ps_if (pt_cmpR op_eq (pv 3) pe_int (nomark _)) (pss_one (ps_ret (pe_tup (pa_cons pe_str (pa_cons (pv 4) (pa_cons (pe_tup (pa_cons pe_str (pa_cons (pv 5) (pa_cons (pe_tup (pa_cons pe_str (pa_cons (pe_ix ix_list (pv 2) pe_int (fun _ _ => rfl)) (pa_cons (pe_tup (pa_cons pe_str (pa_cons pe_int pa_nil))) pa_nil)))) pa_nil)))) (pa_cons (pe_tup (pa_cons pe_str (pa_cons (pe_ix ix_list (pv 2) pe_int (fun _ _ => rfl)) (pa_cons (pe_tup (pa_cons pe_str (pa_cons pe_int pa_nil))) pa_nil)))) (pa_cons (pe_tup pa_nil) pa_nil)))))))) pss_nil)
      (pss_cons (ps_if (pt_cmpR op_eq (pv 3) pe_int (nomark _)) (pss_cons (ps_set (i := 7) sc_free_part.nd rfl (Or.inl rfl) (pe_tup (pa_cons (pe_tup (pa_cons (pe_tup (pa_cons pe_str (pa_cons pe_int pa_nil))) (pa_cons (pe_tup (pa_cons pe_str (pa_cons pe_int pa_nil))) pa_nil))) (pa_cons (pe_tup (pa_cons (pe_tup (pa_cons pe_str (pa_cons pe_int pa_nil))) (pa_cons (pe_tup (pa_cons pe_str (pa_cons (pv 4) (pa_cons (pe_tup (pa_cons pe_str (pa_cons (pe_ix ix_list (pv 2) pe_int (fun _ _ => rfl)) (pa_cons (pe_tup (pa_cons pe_str (pa_cons pe_int pa_nil))) pa_nil)))) pa_nil)))) pa_nil))) pa_nil))))
      (pss_one (ps_ret (pe_tup (pa_cons pe_str (pa_cons (pe_ix ix_list (pv 2) pe_int (fun _ _ => rfl)) (pa_cons (pv 7) pa_nil))))))) pss_nil)
      (pss_one (ps_ret (pe_tup (pa_cons pe_str (pa_cons (pe_ix ix_list (pv 2) pe_int (fun _ _ => rfl)) (pa_cons (pe_op op_add pe_int (pe_call (ok_draw T) (hr.mono (by decide)) rfl T.m_draw T.F_draw.kp T.b_draw .nil pass0 (pa_cons (pv 0) (pa_cons pe_int pa_nil)))) (pa_cons (pe_tup (pa_cons pe_str (pa_cons (pv 4) pa_nil))) pa_nil))))))))))))))))))), ?_⟩
  refine ⟨_, rfl, _, _, rfl, d, c, 12, rfl, rfl, fp.dr, by decide, by decide, fun way H1 a1 b1 dr1 k1 => ?_⟩
  have g1 := fp.go dr1 k1
  -- first
  refine ⟨_, rfl, _, rfl, _, _, rfl, d, c, 3, rfl, rfl, g1.dr, by decide, by decide, fun r2 H2 a2 b2 dr2 k2 => ?_⟩
  have g2 := g1.go dr2 k2
  obtain ⟨s1, e1, o1, _⟩ := names_at g2.n2 a2 (by omega)
  refine ⟨p2, _, _, _, rfl, rfl, SqL.of g2.n2.1, e1, sl 2, fun t1 ht1 => ?_⟩
  have f1 : Td (upd H2 t1 (.tup [.str "name", .str s1])) (E.nm s1).d (.ref t1) := td2 ht1 rfl rfl
  have g3 := g2.new (o := .tup [.str "name", .str s1]) ht1
  generalize upd H2 t1 (.tup [.str "name", .str s1]) = H3 at f1 g3
  -- other
  refine ⟨_, rfl, _, rfl, _, _, rfl, d, c, 3, rfl, rfl, g3.dr, by decide, by decide, fun r4 H4 a4 b4 dr4 k4 => ?_⟩
  have g4 := g3.go dr4 k4
  have f1 := Td.mono (TS.dr g3.dr k4) _ _ f1
  obtain ⟨s2, e2, o2, _⟩ := names_at g4.n2 a4 (by omega)
  refine ⟨p2, _, _, _, rfl, rfl, SqL.of g4.n2.1, e2, sl 2, fun t2 ht2 => ?_⟩
  have f2 : Td (upd H4 t2 (.tup [.str "name", .str s2])) (E.nm s2).d (.ref t2) := td2 ht2 rfl rfl
  have g5 := g4.new (o := .tup [.str "name", .str s2]) ht2
  have f1 := Td.mono (TS.new (o := .tup [.str "name", .str s2]) ht2) _ _ f1
  generalize upd H4 t2 (.tup [.str "name", .str s2]) = H5 at f1 f2 g5
  -- ring
  have yne : ys.map V.str ≠ [] := fun z => by
    have l := g5.n1.2.1
    rw [List.map_eq_nil_iff.mp z] at l
    simp at l
    omega
  refine ⟨_, rfl, _, rfl, _, _, rfl, d, c, p1, _, rfl, g5.dr, yne, by rw [List.length_map, g5.n1.2.1]; omega, rfl, g5.d1, g5.n1.1, fun v6 H6 m6 dr6 k6 => ?_⟩
  have g6 := g5.go dr6 k6
  have f1 := Td.mono (TS.dr g5.dr k6) _ _ f1
  have f2 := Td.mono (TS.dr g5.dr k6) _ _ f2
  obtain ⟨s3, m6', rfl⟩ := List.mem_map.mp m6
  have o3 := g5.n1.2.2 s3 m6'
  refine ⟨sl 2, fun t3 ht3 => ?_⟩
  have f3 : Td (upd H6 t3 (.tup [.str "name", .str s3])) (E.nm s3).d (.ref t3) := td2 ht3 rfl rfl
  have g7 := g6.new (o := .tup [.str "name", .str s3]) ht3
  have f1 := Td.mono (TS.new (o := .tup [.str "name", .str s3]) ht3) _ _ f1
  have f2 := Td.mono (TS.new (o := .tup [.str "name", .str s3]) ht3) _ _ f2
  generalize upd H6 t3 (.tup [.str "name", .str s3]) = H7 at f1 f2 f3 g7
  clear g1 g2 g3 g4 g5 g6
  have done : ∀ (v : V) (e : E) (H' : Hp), Td H' e.d v → frE e → FP d c p1 p2 n m ys zs H H' → Q v H' := fun v e H' h1 h2 h3 => q v e H' h1 h2 h3.dr h3.kp
  have zat : ∀ (j : Nat) (H' : Hp), FP d c p1 p2 n m ys zs H H' → j < 5 → ∃ s, (zs.map V.str)[j]? = some (.str s) ∧ PyData.strOk s = true := fun j H' f hj => by
    have hl : j < zs.length := by rw [f.n2.2.1]; omega
    exact ⟨zs[j], by rw [List.getElem?_map, List.getElem?_eq_getElem hl] <;> rfl, f.n2.2.2 _ (List.getElem_mem hl)⟩
  -- a name
  refine ⟨_, rfl, _, _, rfl, rfl, _, rfl, ite2 (fun _ => ⟨_, rfl, done _ (.nm s1) _ f1 (fr_nm o1) g7⟩) (fun _ => ?_)⟩
  -- a comparison
  refine ⟨_, rfl, rfl, _, rfl, ite2 (fun _ => ?_) (fun _ => ?_)⟩
  · refine ⟨sl 3, fun l hl => ?_⟩
    have ld := g7.dr.dne hl
    have g8 := g7.new (o := .lst [.str "lt", .str "le", .str "eq"]) hl
    refine ⟨_, rfl, _, _, rfl, d, c, 3, rfl, rfl, g8.dr, by decide, by decide, fun r9 H9 a9 b9 dr9 k9 => ?_⟩
    have g9 := g8.go dr9 k9
    obtain ⟨wv, ew, hw⟩ := at_in (xs := [V.str "lt", .str "le", .str "eq"]) a9 b9
    refine ⟨l, _, _, _, rfl, rfl, SqL.of (k9 _ _ upd_same ld), ew, ?_⟩
    obtain ⟨s4, e4, o4⟩ := zat 3 H9 g9 (by decide)
    refine ⟨_, rfl, p2, _, _, _, rfl, rfl, SqL.of g9.n2.1, at_n 3 e4, sl 2, fun t4 ht4 => ?_⟩
    have f4 : Td (upd H9 t4 (.tup [.str "name", .str s4])) (.tuple [.str "name", .str s4]) (.ref t4) := td2 ht4 rfl rfl
    have g10 := g9.new (o := .tup [.str "name", .str s4]) ht4
    generalize upd H9 t4 (.tup [.str "name", .str s4]) = H10 at f4 g10
    refine ⟨_, rfl, _, _, rfl, d, c, 4, rfl, rfl, g10.dr, by decide, by decide, fun r11 H11 a11 b11 dr11 k11 => ⟨sl 2, fun t5 ht5 => ?_⟩⟩
    have g11 := g10.go dr11 k11
    have f4 := Td.mono (TS.dr g10.dr k11) _ _ f4
    have f5 : Td (upd H11 t5 (.tup [.str "int", .int r11])) (.tuple [.str "int", .int r11]) (.ref t5) := td2 ht5 rfl rfl
    have f4 := Td.mono (TS.new (o := .tup [.str "int", .int r11]) ht5) _ _ f4
    have g12 := g11.new (o := .tup [.str "int", .int r11]) ht5
    refine ⟨sl 3, fun t6 ht6 => ?_⟩
    have pl : plainAll [.tuple [.str "name", .str s4], .tuple [.str "int", .int r11]] = true := by simp only [plainAll, plainD, w_name, w_int, o4, Bool.and_self]
    have go : ∀ w0 : Str, wv = .str w0 → w0 ∉ inner → PyData.strOk w0 = true → Q (.ref t6) (upd (upd H11 t5 (.tup [.str "int", .int r11])) t6 (.tup [wv, .ref t4, .ref t5])) := fun w0 ew h1 h2 => by
      subst ew
      exact done _ (.ot w0 [.tuple [.str "name", .str s4], .tuple [.str "int", .int r11]]) _ (td3 (x := .str w0) (a := .str w0) ht6 rfl f4 f5) (fr_ot h1 h2 pl (by simp [PyData.depthAll, PyData.depth])) (g12.new ht6)
    rcases List.mem_cons.mp hw with h | hw
    · exact go "lt" h (by decide +kernel) (by decide +kernel)
    rcases List.mem_cons.mp hw with h | hw
    · exact go "le" h (by decide +kernel) (by decide +kernel)
    · exact go "eq" (List.mem_singleton.mp hw) (by decide +kernel) (by decide +kernel)
  -- last
  refine ⟨_, rfl, rfl, _, rfl, ite2 (fun _ => ?_) (fun _ => ?_)⟩
  · refine ⟨_, rfl, sl 0, fun ta hta => ⟨sl 3, fun tb htb => ?_⟩⟩
    have pl : plainAll [(E.nm s3).d, .tuple []] = true := by simp only [E.d, plainAll, plainD, w_name, o3, Bool.and_self]
    exact done _ (.ot "last" [(E.nm s3).d, .tuple []]) _ (td3 (x := .str "last") htb rfl (Td.mono (TS.new hta) _ _ f3) (td0 hta)) (fr_ot (by decide +kernel) w_last pl (by simp [E.d, PyData.depthAll, PyData.depth])) ((g7.new hta).new htb)
  -- last of an operation, with a reset
  refine ⟨_, rfl, rfl, _, rfl, ite2 (fun _ => ?_) (fun _ => ?_)⟩
  · refine ⟨_, rfl, _, rfl, sl 3, fun ta hta => ⟨sl 2, fun tb htb => ?_⟩⟩
    have fa := td3 (x := .str "and") hta rfl f3 f1
    have fb := td2 (x := .str "not") htb rfl fa
    refine ⟨_, rfl, _, rfl, _, _, rfl, d, c, 3, rfl, rfl, ((g7.new hta).new htb).dr, by decide, by decide, fun r9 H9 a9 b9 dr9 k9 => ?_⟩
    have g9 := ((g7.new hta).new htb).go dr9 k9
    have fb := Td.mono (TS.dr ((g7.new hta).new htb).dr k9) _ _ fb
    obtain ⟨s4, e4, o4, _⟩ := names_at g9.n2 a9 (by omega)
    refine ⟨p2, _, _, _, rfl, rfl, SqL.of g9.n2.1, e4, sl 1, fun tc htc => ⟨sl 3, fun td htd => ?_⟩⟩
    have fc := td1 (x := .str s4) htc rfl
    have pl : plainAll [.tuple [.str "not", .tuple [.str "and", (E.nm s3).d, (E.nm s1).d]], .tuple [.str s4]] = true := by simp only [E.d, plainAll, plainD, w_name, w_not, w_and, o1, o3, o4, Bool.and_self]
    exact done _ (.ot "last" [.tuple [.str "not", .tuple [.str "and", (E.nm s3).d, (E.nm s1).d]], .tuple [.str s4]]) _ (td3 (x := .str "last") htd rfl (Td.mono (TS.new htc) _ _ fb) fc) (fr_ot (by decide +kernel) w_last pl (by simp [E.d, PyData.depthAll, PyData.depth])) ((g9.new htc).new htd)
  -- and, or, xor
  refine ⟨_, rfl, rfl, _, rfl, ite2 (fun _ => ?_) (fun _ => ?_)⟩
  · refine ⟨sl 3, fun l hl => ?_⟩
    have ld := g7.dr.dne hl
    refine ⟨_, rfl, _, _, rfl, d, c, 3, rfl, rfl, (g7.new hl).dr, by decide, by decide, fun r9 H9 a9 b9 dr9 k9 => ?_⟩
    have g9 := (g7.new hl).go dr9 k9
    obtain ⟨wv, ew, hw⟩ := at_in (xs := [V.str "and", .str "or", .str "xor"]) a9 b9
    have tt := TS.trans (TS.new hl) (TS.dr (g7.new hl).dr k9)
    refine ⟨l, _, _, _, rfl, rfl, SqL.of (k9 _ _ upd_same ld), ew, _, rfl, _, rfl, sl 3, fun t4 ht4 => ?_⟩
    have go : ∀ w0 : Str, wv = .str w0 → w0 ∈ bins → Q (.ref t4) (upd H9 t4 (.tup [wv, .ref t1, .ref t2])) := fun w0 ew h1 => by
      subst ew
      exact done _ (.bi w0 (.nm s1) (.nm s2)) _ (td3 (x := .str w0) (a := .str w0) ht4 rfl (Td.mono tt _ _ f1) (Td.mono tt _ _ f2)) (fr_bi h1 o1 o2) (g9.new ht4)
    rcases List.mem_cons.mp hw with h | hw
    · exact go "and" h (by decide +kernel)
    rcases List.mem_cons.mp hw with h | hw
    · exact go "or" h (by decide +kernel)
    · exact go "xor" (List.mem_singleton.mp hw) (by decide +kernel)
  -- not of a truth
  refine ⟨_, rfl, rfl, _, rfl, ite2 (fun _ => ?_) (fun _ => ?_)⟩
  · refine ⟨_, rfl, _, _, rfl, d, c, 2, rfl, rfl, g7.dr, by decide, by decide, fun r9 H9 a9 b9 dr9 k9 => ⟨sl 2, fun ta hta => ⟨sl 2, fun tb htb => ?_⟩⟩⟩
    have g9 := g7.go dr9 k9
    exact done _ (.un (.tr r9)) _ (td2 (x := .str "not") htb rfl (td2 (x := .str "truth") (y := .int r9) hta rfl rfl)) (fr_un (by omega)) ((g9.new hta).new htb)
  -- then
  refine ⟨_, rfl, rfl, _, rfl, ite2 (fun _ => ?_) (fun _ => ?_)⟩
  · refine ⟨_, rfl, _, _, rfl, d, c, 2, rfl, rfl, g7.dr, by decide, by decide, fun r9 H9 a9 b9 dr9 k9 => ⟨sl 2, fun ta hta => ⟨_, rfl, sl 0, fun tb htb => ⟨sl 3, fun tc htc => ⟨sl 0, fun td htd => ⟨sl 4, fun te hte => ?_⟩⟩⟩⟩⟩⟩
    have g9 := g7.go dr9 k9
    have f3 := Td.mono (TS.dr g7.dr k9) _ _ f3
    have fa := td2 (x := .str "truth") (y := .int r9) hta rfl rfl
    have fb := td0 htb
    have fc := td3 (x := .str "last") htc rfl (Td.mono (TS.new htb) _ _ (Td.mono (TS.new hta) _ _ f3)) fb
    have fd := td0 htd
    have fa2 := Td.mono (TS.new (o := .tup []) htd) _ _ (Td.mono (TS.new htc) _ _ (Td.mono (TS.new htb) _ _ fa))
    have pl : plainAll [.tuple [.str "truth", .int r9], .tuple [.str "last", (E.nm s3).d, .tuple []], .tuple []] = true := by simp only [E.d, plainAll, plainD, w_name, w_truth, w_last, o3, Bool.and_self]
    exact done _ (.ot "then" [.tuple [.str "truth", .int r9], .tuple [.str "last", (E.nm s3).d, .tuple []], .tuple []]) _ (td4 (x := .str "then") hte rfl fa2 (Td.mono (TS.new htd) _ _ fc) fd)
      (fr_ot (by decide +kernel) w_then pl (by simp [E.d, PyData.depthAll, PyData.depth])) (((((g9.new hta).new htb).new htc).new htd).new hte)
  -- held
  refine ⟨_, rfl, rfl, _, rfl, ite2 (fun _ => ?_) (fun _ => ?_)⟩
  · obtain ⟨s4, e4, o4⟩ := zat 0 H7 g7 (by decide)
    refine ⟨_, rfl, _, rfl, _, rfl, p2, _, _, _, rfl, rfl, SqL.of g7.n2.1, at_n 0 e4, sl 2, fun ta hta => ⟨sl 3, fun tb htb => ⟨sl 3, fun tc htc => ?_⟩⟩⟩
    have fa := td2 (x := .str "truth") (y := .int 1) hta rfl rfl
    have fb := td3 (x := .str "is") (y := .str s4) htb rfl rfl fa
    have fc := td3 (x := .str "when") htc rfl (Td.mono (TS.new htb) _ _ (Td.mono (TS.new hta) _ _ f2)) fb
    have gc := ((g7.new hta).new htb).new (o := .tup [.str "when", .ref t2, .ref tb]) htc
    have f1c := Td.mono (TS.new (o := .tup [.str "when", .ref t2, .ref tb]) htc) _ _ (Td.mono (TS.new htb) _ _ (Td.mono (TS.new hta) _ _ f1))
    refine ⟨_, rfl, p2, _, _, _, rfl, rfl, SqL.of gc.n2.1, at_n 0 e4, sl 2, fun td htd => ⟨sl 3, fun te hte => ⟨sl 0, fun tf htf => ⟨sl 5, fun tg htg => ?_⟩⟩⟩⟩
    have fd := td2 (x := .str "truth") (y := .int 1) htd rfl rfl
    have fe := td3 (x := .str "is") (y := .str s4) hte rfl rfl fd
    have ff := td0 htf
    have pl : plainAll [(E.nm s1).d, .tuple [.str "when", (E.nm s2).d, .tuple [.str "is", .str s4, .tuple [.str "truth", .int 1]]], .tuple [.str "is", .str s4, .tuple [.str "truth", .int 1]], .tuple []] = true := by
      simp only [E.d, plainAll, plainD, w_name, w_truth, w_when, w_is, o1, o2, o4, Bool.and_self]
    exact done _ (.ot "held" [(E.nm s1).d, .tuple [.str "when", (E.nm s2).d, .tuple [.str "is", .str s4, .tuple [.str "truth", .int 1]]], .tuple [.str "is", .str s4, .tuple [.str "truth", .int 1]], .tuple []]) _
      (td5 (x := .str "held") htg rfl (Td.mono (TS.new htf) _ _ (Td.mono (TS.new hte) _ _ (Td.mono (TS.new htd) _ _ f1c))) (Td.mono (TS.new htf) _ _ (Td.mono (TS.new hte) _ _ (Td.mono (TS.new htd) _ _ fc))) (Td.mono (TS.new htf) _ _ fe) ff)
      (fr_ot (by decide +kernel) w_held pl (by simp [E.d, PyData.depthAll, PyData.depth])) ((((gc.new htd).new hte).new htf).new htg)
  -- merge
  refine ⟨_, rfl, rfl, _, rfl, ite2 (fun _ => ?_) (fun _ => ?_)⟩
  · obtain ⟨s4, e4, o4⟩ := zat 1 H7 g7 (by decide)
    refine ⟨sl 2, fun ta hta => ⟨sl 2, fun tb htb => ⟨sl 2, fun tc htc => ⟨sl 2, fun td htd => ?_⟩⟩⟩⟩
    have fa := td2 (x := .str "truth") (y := .int 0) hta rfl rfl
    have fb := td2 (x := .str "truth") (y := .int 1) htb rfl rfl
    have fc := td2 htc (Td.mono (TS.new htb) _ _ fa) fb
    have fd := td2 (x := .str "truth") (y := .int 1) htd rfl rfl
    have gd := (((g7.new hta).new htb).new htc).new (o := .tup [.str "truth", .int 1]) htd
    have f1d := Td.mono (TS.new (o := .tup [.str "truth", .int 1]) htd) _ _ (Td.mono (TS.new htc) _ _ (Td.mono (TS.new htb) _ _ (Td.mono (TS.new hta) _ _ f1)))
    have fcd := Td.mono (TS.new (o := .tup [.str "truth", .int 1]) htd) _ _ fc
    refine ⟨_, rfl, _, rfl, p2, _, _, _, rfl, rfl, SqL.of gd.n2.1, at_n 1 e4, sl 2, fun te hte => ⟨sl 3, fun tf htf => ⟨sl 3, fun tg htg => ⟨sl 2, fun th hth => ⟨sl 2, fun ti hti => ?_⟩⟩⟩⟩⟩
    have fe := td2 (x := .str "truth") (y := .int 1) hte rfl rfl
    have ff := td3 (x := .str "is") (y := .str s4) htf rfl rfl fe
    have fg := td3 (x := .str "when") htg rfl (Td.mono (TS.new htf) _ _ (Td.mono (TS.new hte) _ _ f1d)) ff
    have fh := td2 hth (Td.mono (TS.new htg) _ _ (Td.mono (TS.new htf) _ _ (Td.mono (TS.new hte) _ _ fd))) fg
    have fi := td2 hti (Td.mono (TS.new hth) _ _ (Td.mono (TS.new htg) _ _ (Td.mono (TS.new htf) _ _ (Td.mono (TS.new hte) _ _ fcd)))) fh
    have gi := ((((gd.new hte).new htf).new htg).new hth).new (o := .tup [.ref tc, .ref th]) hti
    refine ⟨_, rfl, p2, _, _, _, rfl, rfl, SqL.of gi.n2.1, at_n 1 e4, _, rfl, sl 3, fun tj htj => ?_⟩
    have pl : plainAll [.str s4, .tuple [.tuple [.tuple [.str "truth", .int 0], .tuple [.str "truth", .int 1]], .tuple [.tuple [.str "truth", .int 1], .tuple [.str "when", (E.nm s1).d, .tuple [.str "is", .str s4, .tuple [.str "truth", .int 1]]]]]] = true := by
      simp only [E.d, plainAll, plainD, w_name, w_truth, w_when, w_is, o1, o4, Bool.and_self]
    exact done _ (.ot "merge" [.str s4, .tuple [.tuple [.tuple [.str "truth", .int 0], .tuple [.str "truth", .int 1]], .tuple [.tuple [.str "truth", .int 1], .tuple [.str "when", (E.nm s1).d, .tuple [.str "is", .str s4, .tuple [.str "truth", .int 1]]]]]]) _
      (td3 (x := .str "merge") (y := .str s4) htj rfl rfl fi) (fr_ot (by decide +kernel) w_merge pl (by simp [E.d, PyData.depthAll, PyData.depth])) (gi.new htj)
  -- fresh
  obtain ⟨s4, e4, o4⟩ := zat 4 H7 g7 (by decide)
  refine ⟨_, rfl, p2, _, _, _, rfl, rfl, SqL.of g7.n2.1, at_n 4 e4, _, rfl, _, _, rfl, d, c, 3, rfl, rfl, g7.dr, by decide, by decide, fun r9 H9 a9 b9 dr9 k9 => ⟨_, _, rfl, rfl, _, rfl, sl 2, fun ta hta => ⟨sl 4, fun tb htb => ?_⟩⟩⟩
  have g9 := g7.go dr9 k9
  have fa := td2 (x := .str "not") hta rfl (Td.mono (TS.dr g7.dr k9) _ _ f1)
  have pl : plainAll [.str s4, .int (1 + r9), .tuple [.str "not", (E.nm s1).d]] = true := by simp only [E.d, plainAll, plainD, w_name, w_not, o1, o4, Bool.and_self]
  exact done _ (.ot "fresh" [.str s4, .int (1 + r9), .tuple [.str "not", (E.nm s1).d]]) _ (td4 (x := .str "fresh") (y := .str s4) (z := .int (1 + r9)) htb rfl rfl rfl fa) (fr_ot (by decide +kernel) w_fresh pl (by simp [E.d, PyData.depthAll, PyData.depth])) ((g9.new hta).new htb)
end

/-! ### the law: what hangs, what enters -/
theorem IsOp.hg {e : E} {w : Str} {ks : List E} {own : List Str} (h : IsOp e w ks) : e.hangs own = ks.any (E.hangs own) := by
  rcases h with ⟨a, rfl, rfl, rfl⟩ | ⟨a, b, rfl, rfl⟩ | ⟨a, b, c, rfl, rfl, rfl⟩ <;> simp [E.hangs]
def enterL (own : List Str) (ks : List E) (f : List E) : List E := ks.foldl (fun f k => k.enter own f) f
theorem IsOp.ent {e : E} {w : Str} {ks : List E} {own : List Str} {f : List E} (h : IsOp e w ks) (hh : e.hangs own = true) : e.enter own f = enterL own ks f := by
  rcases h with ⟨a, rfl, rfl, rfl⟩ | ⟨a, b, rfl, rfl⟩ | ⟨a, b, c, rfl, rfl, rfl⟩ <;> unfold E.enter <;> rw [if_pos hh] <;> rfl
theorem IsOp.leaf {e : E} {w : Str} {ks : List E} {own : List Str} {f : List E} (h : IsOp e w ks) (hh : ¬ e.hangs own = true) : e.enter own f = leafIn e f := by
  rcases h with ⟨a, rfl, rfl, rfl⟩ | ⟨a, b, rfl, rfl⟩ | ⟨a, b, c, rfl, rfl, rfl⟩ <;> unfold E.enter <;> rw [if_neg hh]
theorem IsOp.dpk {e : E} {w : Str} {ks : List E} (h : IsOp e w ks) : ∀ k ∈ ks, k.dp < e.dp := by
  rcases h with ⟨a, rfl, rfl, rfl⟩ | ⟨a, b, rfl, rfl⟩ | ⟨a, b, c, rfl, rfl, rfl⟩ <;> intro k hk <;> simp only [List.mem_cons, List.not_mem_nil, or_false] at hk
  · subst hk
    exact Nat.lt_succ_self _
  · show _ < max a.dp b.dp + 1
    rcases hk with rfl | rfl <;> omega
  · show _ < max a.dp (max b.dp c.dp) + 1
    rcases hk with rfl | rfl | rfl <;> omega
theorem take_one {α : Type} {ks : List α} {i : Nat} (h : i < ks.length) : ks.take (i + 1) = ks.take i ++ [ks[i]] := by
  rw [List.take_add_one, List.getElem?_eq_getElem h] <;> rfl
theorem szs_take (ks : List E) (i : Nat) : szs (ks.take i) ≤ szs ks := by
  have := szs_app (ks.take i) (ks.drop i)
  rw [List.take_append_drop] at this
  omega
theorem E.head (e : E) (ho : e.ok) : ∃ (w0 : Str) (r0 : List PyData), e.d = .tuple (.str w0 :: r0) ∧ (w0 = "truth" ↔ ∃ b, e = .tr b) ∧ (w0 = "name" ↔ ∃ z, e = .nm z) := by
  have t5 : ∀ {w1 : Str}, w1 ∈ ops5 → ¬ w1 = "truth" ∧ ¬ w1 = "name" := fun h => ⟨wd_ne h (by decide +kernel), wd_ne h (by decide +kernel)⟩
  have ne : ¬ ("name" : Str) = "truth" := by decide +kernel
  rcases e.ways with ⟨z, rfl⟩ | ⟨b0, rfl⟩ | ⟨w1, ds, rfl⟩ | ⟨w1, ks, io⟩
  · exact ⟨_, _, rfl, ⟨fun h => absurd h ne, fun ⟨b, h⟩ => by cases h⟩, ⟨fun _ => ⟨z, rfl⟩, fun _ => rfl⟩⟩
  · exact ⟨_, _, rfl, ⟨fun _ => ⟨b0, rfl⟩, fun _ => rfl⟩, ⟨fun h => absurd h.symm ne, fun ⟨b, h⟩ => by cases h⟩⟩
  · have hi := ho.1
    exact ⟨_, _, rfl, ⟨fun h => absurd (by rw [h]; decide +kernel) hi, fun ⟨b, h⟩ => by cases h⟩, ⟨fun h => absurd (by rw [h]; decide +kernel) hi, fun ⟨b, h⟩ => by cases h⟩⟩
  · have h5 := io.wd ho
    refine ⟨_, _, io.dd, ⟨fun h => absurd h (t5 h5).1, fun ⟨b, h⟩ => ?_⟩, ⟨fun h => absurd h (t5 h5).2, fun ⟨b, h⟩ => ?_⟩⟩
    · subst h
      rcases io with ⟨_, h, _⟩ | ⟨_, _, h, _⟩ | ⟨_, _, _, h, _⟩ <;> cases h
    · subst h
      rcases io with ⟨_, h, _⟩ | ⟨_, _, h, _⟩ | ⟨_, _, _, h, _⟩ <;> cases h
theorem E.ent_leaf {e : E} {own : List Str} {f : List E} (h : ¬ e.hangs own = true) (n : ¬ ∃ b, e = .tr b) : e.enter own f = leafIn e f := by
  cases e with
  | tr b => exact absurd ⟨b, rfl⟩ n
  | ot w ds => rfl
  | nm x => unfold E.enter; rw [if_neg h]
  | un a => unfold E.enter; rw [if_neg h]
  | bi w a b => unfold E.enter; rw [if_neg h]
  | pk a b c => unfold E.enter; rw [if_neg h]
theorem enterL_app (own : List Str) (a b : List E) (f : List E) : enterL own (a ++ b) f = enterL own b (enterL own a f) := by
  unfold enterL
  rw [List.foldl_append]
def rHangs (n : Nat) : V → V → Hp → VK → Prop := fun x y H Q => ∃ (q : Addr) (e : E) (own : List Str), y = .ref q ∧ Td H e.d x ∧ H q = some (.lst (own.map V.str)) ∧ goodE e ∧ e.dp < n ∧ ∀ H', Same H H' → Q (.bl (e.hangs own)) H'
def rEnter (n : Nat) : V → V → V → Hp → VK → Prop := fun x y z H Q => ∃ (p q : Addr) (e : E) (own : List Str) (f : List E) (fv : List V), y = .ref p ∧ z = .ref q ∧ p ≠ q ∧ Td H e.d x ∧ H p = some (.lst (own.map V.str)) ∧ H q = some (.lst fv) ∧ TdAll H (f.map E.d) fv ∧
  goodE e ∧ (∀ x ∈ f, goodE x) ∧ f.length + e.sz ≤ 900 ∧ e.dp < n ∧ ∀ (H' : Hp) (fv' : List V), Keep q H H' → H' q = some (.lst fv') → TdAll H' ((e.enter own f).map E.d) fv' → Q .non H'
theorem ot_five {w : Str} (h : w ∉ inner) : ¬ w ∈ ops5 := fun z => by
  have e : (ops5.all fun x => decide (x ∈ inner)) = true := by decide +kernel
  exact h (of_decide_eq_true (List.all_eq_true.mp e w z))
section
variable {P : Program} {w : World} {K : PySem.W.Frag} {mg : Str → Option Value} {base : Heap}
theorem rec_hangs_in (T : Tx K mg w) : ∀ n : Nat, FnOk P w K mg base CX0 (n + 1) T.f_hangs_in T.fd_hangs_in ["_law_expr", "_law_own"] (sp2 (rHangs n))
  | 0 => okR2 T.F_hangs_in sc_hangs_in rfl fun cdv A outer s H Q EE x y hr h => by
    obtain ⟨_, _, _, _, _, _, _, z, _⟩ := h
    exact absurd z (Nat.not_lt_zero _)
  | n + 1 => by
    have ih := rec_hangs_in T n
    refine okR2 T.F_hangs_in sc_hangs_in rfl fun cdv A outer s H Q EE x y hr h => ?_
    obtain ⟨p, e, own, rfl, hx, hp, ge, hn, q⟩ := h
    refine ⟨_, pss_cons (ps_set (i := 2) sc_hangs_in.nd rfl (Or.inl rfl) (pe_ix ix_tup (pv 0) pe_int (fun _ _ => rfl)))
      (pss_cons (ps_if (pt_cmpR op_eq (pv 2) pe_str (nomark _)) (pss_one (ps_ret (pe_cmpR op_in_seq (pe_ix ix_tup (pv 0) pe_int (fun _ _ => rfl)) (pv 1) (by rfl)))) pss_nil)
      (pss_cons (ps_if (pt_cmpR op_notIn_seq (pv 2) (pe_tup (pa_cons pe_str (pa_cons pe_str (pa_cons pe_str (pa_cons pe_str (pa_cons pe_str pa_nil)))))) (by rfl)) (pss_one (ps_ret pe_bl)) pss_nil)
      (pss_one (ps_ret (pe_cmpR op_gt (pe_callB call_len_seq (by rfl) T.z_len (by decide +kernel) (pa_cons (pe_lc (own := [("_law_part", 3)]) (g := gName 3)  rfl sc_hangs_in.nd (pi_tup (pe_slice sl_tupA (pv 0) (po_some pe_int) po_none)) (blkOk_by (N := ["_law_expr", "_law_own", "_law_word", "_law_part"]) (sc := defScope s_hangs_in) (by decide +kernel)) (fun _ _ _ _ _ => pg_name (i := 3) sc_hangs_in.nd rfl (Or.inl rfl)) (fun _ _ _ _ _ => pts_one (pt_val (pe_call ih hr rfl T.m_hangs_in T.F_hangs_in.kp T.b_hangs_in .nil pass0 (pa_cons (pv 3) (pa_cons (pv 1) pa_nil))))) (fun _ _ _ _ _ => (pv 3))) pa_nil)) pe_int (nomark _)))))), ?_⟩
    have notIn5 : ∀ (w0 : Str) (t : Addr) (H' : Hp), (¬ w0 ∈ ops5) → inV (.str w0) (ops5.map V.str) = false := fun w0 t H' h => by
      rw [inV_str]
      exact decide_eq_false h
    rcases e.ways with ⟨z, rfl⟩ | ⟨b0, rfl⟩ | ⟨w1, ds, rfl⟩ | ⟨w1, ks, io⟩
    · obtain ⟨b, xs, rfl, hb, _, _, rfl, rfl, _, _, rfl, rfl, rfl⟩ := id hx
      refine ⟨_, rfl, b, _, _, _, rfl, rfl, SqT.of hb, at_n 0 rfl, ?_⟩
      refine ⟨_, rfl, rfl, _, rfl, iteT ?_⟩
      refine ⟨_, rfl, b, _, _, _, rfl, rfl, SqT.of hb, at_n 1 rfl, _, rfl, p, _, rfl, .inl (SqL.of hp), rfl, flat_strs own, ?_⟩
      have e1 : (if false = true then !inV (V.str z) (own.map V.str) else inV (V.str z) (own.map V.str)) = (E.nm z).hangs own := by
        rw [if_neg Bool.false_ne_true, inV_str]
        rfl
      rw [e1]
      exact q H (Same.refl _)
    · obtain ⟨b, xs, rfl, hb, _, _, rfl, rfl, _, _, rfl, rfl, rfl⟩ := id hx
      refine ⟨_, rfl, b, _, _, _, rfl, rfl, SqT.of hb, at_n 0 rfl, ?_⟩
      refine ⟨_, rfl, rfl, _, rfl, iteF ?_⟩
      refine ⟨_, rfl, sl 5, fun t ht => ⟨_, _, rfl, .inr (SqT.of upd_same), rfl, rfl, _, rfl, iteT ?_⟩⟩
      exact q _ (same_new ht)
    · obtain ⟨hni, _, _, _⟩ := id ge.1
      obtain ⟨b, xs, rfl, hb, v0, r, rfl, hv0, hr'⟩ := id hx
      obtain rfl : v0 = .str w1 := hv0
      refine ⟨_, rfl, b, _, _, _, rfl, rfl, SqT.of hb, at_n 0 rfl, ?_⟩
      have n1 : ¬ w1 = "name" := fun z => hni (by rw [z]; decide +kernel)
      refine ⟨_, rfl, rfl, _, rfl, ite2 (fun h => absurd h (no_str n1)) (fun _ => ?_)⟩
      refine ⟨_, rfl, sl 5, fun t ht => ⟨_, _, rfl, .inr (SqT.of upd_same), rfl, rfl, _, rfl, ite2 (fun _ => ?_) (fun h => ?_)⟩⟩
      · exact q _ (same_new ht)
      · have e5 := notIn5 w1 t H (ot_five hni)
        refine absurd ?_ h
        show (!inV (V.str w1) (ops5.map V.str)) = true
        rw [e5]
        rfl
    · have hw5 := io.wd ge.1
      rw [io.dd] at hx
      obtain ⟨b, xs, rfl, hb, v0, r, rfl, hv0, hr'⟩ := id hx
      obtain rfl : v0 = .str w1 := hv0
      refine ⟨_, rfl, b, _, _, _, rfl, rfl, SqT.of hb, at_n 0 rfl, ?_⟩
      refine ⟨_, rfl, rfl, _, rfl, ite2 (fun h => absurd h (no_str (wd_ne hw5 (by decide +kernel)))) (fun _ => ?_)⟩
      refine ⟨_, rfl, sl 5, fun t ht => ⟨_, _, rfl, .inr (SqT.of upd_same), rfl, rfl, _, rfl, ite2 (fun h => ?_) (fun _ => ?_)⟩⟩
      · have e5 : inV (.str w1) (ops5.map V.str) = true := by
          rw [inV_str]
          exact decide_eq_true hw5
        have h' : (!inV (V.str w1) (ops5.map V.str)) = true := h
        rw [e5] at h'
        cases h'
      have s0 := same_new (o := .tup [V.str "not", .str "and", .str "or", .str "xor", .str "pick"]) ht
      refine ⟨_, rfl, _, rfl, slFD (Td.mono (TS.of s0) _ _ hx) fun p1 H1 s1 hp1 => ?_⟩
      rw [cut_tail] at hp1
      obtain ⟨a, vs, rfl, ha, hvs⟩ := hp1
      have lv := TdAll.len _ _ hvs
      rw [List.length_map] at lv
      have sH : Same H H1 := s0.trans s1
      obtain ⟨zs, zl⟩ := io.size
      refine ⟨a, rfl, ⟨_, SqT.of ha⟩, fun D hD => lc_tup (K := K) (a := a) (xs := vs) (fun i H' => Same H1 H' ∧ ∃ acc, H' D = some (.lst acc) ∧ acc.length ≤ i ∧ (0 < acc.length ↔ (ks.take i).any (E.hangs own) = true)) ⟨same_new hD, [], upd_same, Nat.le_refl _, by simp⟩ ?_ ?_ ?_⟩
      · rintro i H' _ ⟨s2, _⟩
        exact SqT.of (s2 _ _ ha)
      · rintro i v H' hi ⟨s2, acc, hacc, hal, hiff⟩
        have hil : i < ks.length := by
          have := (List.getElem?_eq_some_iff.mp hi).1
          omega
        obtain ⟨v', hv1, hv2⟩ := TdAll.at i _ _ (ks[i]).d hvs (by rw [List.getElem?_map, List.getElem?_eq_getElem hil] <;> rfl)
        rw [hi] at hv1
        cases hv1
        have hk := List.getElem_mem hil
        refine ⟨rfl, _, rfl, _, rfl, _, _, rfl, p, ks[i], own, rfl, Td.mono (TS.of s2) _ _ hv2, s2 _ _ (sH _ _ hp), io.good ge _ hk, by have := io.dpk _ hk; omega, fun H2 s3 => ⟨_, rfl, ite2 (fun hb => ?_) (fun hb => ?_)⟩⟩
        · have hacc2 := s3 _ _ hacc
          refine ⟨_, rfl, acc, hacc2, small1000 (by omega), fun b u e => upd_else (s3 _ _ (s2 _ _ e)) (ne_of_none e hD), _, upd_same, by rw [List.length_append]; exact Nat.add_le_add_right hal 1, ?_⟩
          rw [take_one hil, List.any_append, List.length_append]
          simp [hb]
        · refine ⟨s2.trans s3, acc, s3 _ _ hacc, Nat.le_succ_of_le hal, ?_⟩
          rw [take_one hil, List.any_append, hiff]
          simp [hb]
      · rintro H' ⟨s2, acc, hacc, hal, hiff⟩
        refine ⟨D, _, rfl, .inl (SqL.of hacc), _, _, rfl, rfl, ?_⟩
        rw [lv, List.take_length] at hiff
        have e1 : decide ((0 : Int) < (acc.length : Int)) = e.hangs own := by
          rw [io.hg]
          cases hb : ks.any (E.hangs own) with
          | true => exact decide_eq_true (by have := hiff.mpr hb; omega)
          | false => exact decide_eq_false (fun z => by
              have := hiff.mp (by omega)
              rw [hb] at this
              cases this)
        show Q (.bl (decide ((0 : Int) < (acc.length : Int)))) H'
        rw [e1]
        exact q H' (sH.trans s2)
theorem ok_hangs_in (T : Tx K mg w) : FnOk P w K mg base CX0 14 T.f_hangs_in T.fd_hangs_in ["_law_expr", "_law_own"] (sp2 (rHangs 13)) := rec_hangs_in T 13
theorem rec_enter (T : Tx K mg w) : ∀ n : Nat, FnOk P w K mg base CX0 (14 + n + 1) T.f_enter T.fd_enter ["_law_expr", "_law_own", "_law_found"] (sp3 (rEnter n))
  | 0 => okR3 T.F_enter sc_enter rfl fun cdv A outer s H Q EE x y z hr h => by
    obtain ⟨_, _, _, _, _, _, _, _, _, _, _, _, _, _, _, _, z, _⟩ := h
    exact absurd z (Nat.not_lt_zero _)
  | n + 1 => by
    have ih := rec_enter T n
    refine okR3 T.F_enter sc_enter rfl fun cdv A outer s H Q EE x y z hr h => ?_
    obtain ⟨p, q, e, own, f, fv, rfl, rfl, pq, hx, hp, hq, hf, ge, gf, len, hn, k⟩ := h
    refine ⟨_, pss_one (ps_if (pt_not (pt_val (pe_call (ok_hangs_in T) (hr.mono (by omega)) rfl T.m_hangs_in T.F_hangs_in.kp T.b_hangs_in .nil pass0 (pa_cons (pv 0) (pa_cons (pv 1) pa_nil))))) (pss_one (ps_if (PW.pt (pw_and (pt_cmpR op_ne (pe_ix ix_tup (pv 0) pe_int (fun _ _ => rfl)) pe_str (nomark _)) (pw_and1 (pt_cmpR (op_notInD (u65 hr)) (pv 0) (pv 2) (by rfl))))) (pss_one (ps_expr (pe_bm PySem.F.plainAttrs_list PySem.F.slot_list_append PySem.F.type_list_append mt_append (pv 2) (pa_cons (pv 0) pa_nil)))) pss_nil)) (pss_one (ps_if (pt_cmpR op_ne (pe_ix ix_tup (pv 0) pe_int (fun _ _ => rfl)) pe_str (nomark _)) (pss_one (ps_for PassesOwn.never rfl (pi_tup (pe_slice sl_tupA (pv 0) (po_some pe_int) po_none)) (pg_name (i := 3) sc_enter.nd rfl (Or.inl rfl))
      (pss_one (ps_expr (pe_call ih hr rfl T.m_enter T.F_enter.kp T.b_enter .nil pass0 (pa_cons (pv 3) (pa_cons (pv 1) (pa_cons (pv 2) pa_nil)))))))) pss_nil))), ?_⟩
    refine ⟨_, rfl, _, rfl, _, _, rfl, p, e, own, rfl, hx, hp, ge, by have := ge.2; omega, fun H1 s1 => ⟨_, rfl, ?_⟩⟩
    have hx1 := Td.mono (TS.of s1) _ _ hx
    have hq1 := s1 _ _ hq
    have hf1 := TdAll.mono (TS.of s1) _ _ hf
    have lf := TdAll.len _ _ hf
    rw [List.length_map] at lf
    have ep := e.sz_pos
    have app : ∀ (Hz : Hp), Keep q H Hz → Hz q = some (.lst fv) → TdAll Hz (f.map E.d) fv → Td Hz e.d x → e.enter own f = f ++ [e] → Q .non (upd Hz q (.lst (fv ++ [x]))) := fun Hz k1 h1 h2 h3 h4 => by
      refine k _ (fv ++ [x]) (k1.trans Keep.at) upd_same ?_
      rw [h4, List.map_append]
      exact TdAll.mono (TS.wr h1) _ _ (TdAll.app _ _ _ _ h2 ⟨x, [], rfl, h3, rfl⟩)
    have stay : ∀ (Hz : Hp), Keep q H Hz → Hz q = some (.lst fv) → TdAll Hz (f.map E.d) fv → e.enter own f = f → Q .non Hz := fun Hz k1 h1 h2 h3 => by
      refine k Hz fv k1 h1 ?_
      rw [h3]
      exact h2
    obtain ⟨w0, r0, hd, htr, hnm⟩ := e.head ge.1
    have hxd := hx1
    rw [hd] at hxd
    obtain ⟨b, xs, rfl, hb, v0, r, rfl, hv0, hr'⟩ := id hxd
    obtain rfl : v0 = .str w0 := hv0
    have k1 : Keep q H H1 := Keep.of s1
    refine ite2 (fun hh => ?_) (fun hh => ?_)
    · have nh : ¬ e.hangs own = true := by
        revert hh
        cases e.hangs own <;> simp
      refine ⟨_, rfl, b, _, _, _, rfl, rfl, SqT.of hb, at_n 0 rfl, rfl, _, rfl, ite2 (fun h1 => ?_) (fun h1 => ?_)⟩
      · have nt : ¬ ∃ b, e = .tr b := fun z => by
          have : (!decide (V.str w0 = V.str "truth")) = true := h1
          rw [htr.mpr z] at this
          cases this
        have el := E.ent_leaf (own := own) (f := f) nh nt
        refine ⟨_, rfl, _, rfl, e.d, f.map E.d, Td.dp _ _ hx1, .lst (SqL.of hq1) (TdAll.dp _ _ hf1), E.shaped ge.1 (by have := ge.2; omega), shapedLst gf, _, rfl, ?_⟩
        rw [ixOf_any]
        unfold leafIn at el
        refine ite2 (fun h2 => ?_) (fun h2 => ?_)
        · refine ⟨_, rfl, .inl ⟨rfl, _, SqL.of hq1⟩, _, rfl, q, fv, _, rfl, rfl, hq1, small1000 (by omega), ?_⟩
          refine app H1 k1 hq1 hf1 hx1 ?_
          rw [el, if_neg (fun z => by rw [z] at h2; cases h2)]
        · refine stay H1 k1 hq1 hf1 ?_
          rw [el, if_pos]
          revert h2
          cases (ixOf f e).isSome <;> simp
      · have ht : ∃ b, e = .tr b := htr.mp (by
          have h1' : ¬ (!decide (V.str w0 = V.str "truth")) = true := h1
          by_cases z : w0 = "truth"
          · exact z
          · exact absurd (by rw [decide_eq_false (fun y => z (V.str.inj y))]; rfl) h1')
        obtain ⟨b0, rfl⟩ := ht
        exact stay H1 k1 hq1 hf1 rfl
    · have yh : e.hangs own = true := by
        revert hh
        cases e.hangs own <;> simp
      refine ⟨_, rfl, b, _, _, _, rfl, rfl, SqT.of hb, at_n 0 rfl, rfl, _, rfl, ite2 (fun h1 => ?_) (fun h1 => ?_)⟩
      · have nn : ¬ ∃ z, e = .nm z := fun z => by
          have : (!decide (V.str w0 = V.str "name")) = true := h1
          rw [hnm.mpr z] at this
          cases this
        rcases e.ways with z | ⟨b0, rfl⟩ | ⟨w1, ds, rfl⟩ | ⟨w1, ks, io⟩
        · exact absurd z nn
        · cases yh
        · cases yh
        have hxo := hx1
        rw [io.dd] at hxo
        obtain ⟨zs, zl⟩ := io.size
        refine ⟨_, rfl, _, rfl, slFD hxo fun p1 H2 s2 hp1 => ?_⟩
        rw [cut_tail] at hp1
        obtain ⟨a, vs, rfl, ha, hvs⟩ := hp1
        have lv := TdAll.len _ _ hvs
        rw [List.length_map] at lv
        have k2 : Keep q H H2 := k1.trans (Keep.of s2)
        have en := io.ent (own := own) (f := f) yh
        refine ⟨a, rfl, ⟨_, SqT.of ha⟩, for_tup (K := K) (a := a) (xs := vs) (fun i σ H' => ∃ (v3 : Option V) (fv' : List V), σ = [some (.ref b), some (.ref p), some (.ref q), v3] ∧ Keep q H2 H' ∧ H' q = some (.lst fv') ∧ TdAll H' ((enterL own (ks.take i) f).map E.d) fv' ∧
          (∀ x ∈ enterL own (ks.take i) f, goodE x) ∧ (enterL own (ks.take i) f).length ≤ f.length + szs (ks.take i))
          ⟨none, fv, rfl, Keep.refl _ _, s2 _ _ hq1, TdAll.mono (TS.of s2) _ _ hf1, gf, Nat.le_refl _⟩ ?_ ?_ ?_⟩
        · rintro i σ H' _ ⟨v3, fv', rfl, k3, _⟩
          refine SqT.of (k3 _ _ ha ?_)
          intro z
          rw [z, s2 _ _ hq1] at ha
          cases ha
        · rintro i v σ H' hi ⟨v3, fv', rfl, k3, h3, f3, g3, l3⟩
          have hil : i < ks.length := by
            have := (List.getElem?_eq_some_iff.mp hi).1
            omega
          obtain ⟨v', hv1, hv2⟩ := TdAll.at i _ _ (ks[i]).d hvs (by rw [List.getElem?_map, List.getElem?_eq_getElem hil] <;> rfl)
          rw [hi] at hv1
          cases hv1
          have hk := List.getElem_mem hil
          have tsz := szs_take ks (i + 1)
          rw [take_one hil, szs_app] at tsz
          have tsz' : szs (ks.take i) + (ks[i].sz + 0) ≤ szs ks := tsz
          have tk : TS H2 H' := TS.keep k3 ⟨_, s2 _ _ hq1⟩
          refine ⟨_, rfl, _, rfl, _, rfl, _, _, _, rfl, p, q, ks[i], own, enterL own (ks.take i) f, fv', rfl, rfl, pq, Td.mono tk _ _ hv2, k3 _ _ (s2 _ _ (s1 _ _ hp)) pq, h3, f3, io.good ge _ hk, g3, by omega, by have := io.dpk _ hk; omega, fun H3 fv3 k4 h4 f4 => ?_⟩
          have e1 : enterL own (ks.take (i + 1)) f = (ks[i]).enter own (enterL own (ks.take i) f) := by
            rw [take_one hil, enterL_app]
            rfl
          refine ⟨_, fv3, rfl, k3.trans k4, h4, by rw [e1]; exact f4, ?_, ?_⟩
          · rw [e1]
            exact E.enter_good own _ _ (io.good ge _ hk) g3
          · rw [e1, take_one hil, szs_app]
            have := E.enter_len own ks[i] (enterL own (ks.take i) f)
            show _ ≤ f.length + (szs (ks.take i) + (ks[i].sz + 0))
            omega
        · rintro σ H' ⟨v3, fv', rfl, k3, h3, f3, g3, l3⟩
          rw [lv, List.take_length] at f3
          refine k H' fv' (k2.trans k3) h3 ?_
          rw [en]
          exact f3
      · have hz : ∃ z, e = .nm z := hnm.mp (by
          have h1' : ¬ (!decide (V.str w0 = V.str "name")) = true := h1
          by_cases z : w0 = "name"
          · exact z
          · exact absurd (by rw [decide_eq_false (fun y => z (V.str.inj y))]; rfl) h1')
        obtain ⟨z, rfl⟩ := hz
        refine stay H1 k1 hq1 hf1 ?_
        unfold E.enter
        rw [if_pos yh]
theorem ok_enter (T : Tx K mg w) : FnOk P w K mg base CX0 28 T.f_enter T.fd_enter ["_law_expr", "_law_own", "_law_found"] (sp3 (rEnter 13)) := rec_enter T 13
end

/-! ### the law: sides, linked exprs, logic -/
def sB : Nat → Nat
  | 0 => 3
  | k + 1 => sB k + sB k + 1
def lB : Nat → Nat
  | 0 => 1
  | k + 1 => lB k + 15
def sdE (k : Nat) (e : E) : Prop := e.ok ∧ e.dp ≤ k + 1 ∧ e.sz ≤ sB k
def FrL (H : Hp) (p : Addr) (fs : List E) : Prop := ∃ fv, H p = some (.lst fv) ∧ TdAll H (fs.map E.d) fv ∧ fs ≠ [] ∧ fs.length ≤ 20 ∧ ∀ e ∈ fs, frE e
structure LP (d c p1 p2 : Addr) (n : Nat) (ys : List Str) (fs : List E) (H0 H : Hp) : Prop where
  dr : Dr d c H
  kp : Keep d H0 H
  n1 : Names H p1 n ys
  fr : FrL H p2 fs
  d1 : p1 ≠ d
  d2 : p2 ≠ d
section
variable {d c p1 p2 : Addr} {n : Nat} {ys : List Str} {fs : List E} {H0 H H' : Hp}
theorem LP.go (f : LP d c p1 p2 n ys fs H0 H) (dr : Dr d c H') (k : Keep d H H') : LP d c p1 p2 n ys fs H0 H' := by
  obtain ⟨fv, h1, h2, h3⟩ := f.fr
  exact ⟨dr, f.kp.trans k, ⟨k _ _ f.n1.1 f.d1, f.n1.2⟩, ⟨fv, k _ _ h1 f.d2, TdAll.mono (TS.dr f.dr k) _ _ h2, h3⟩, f.d1, f.d2⟩
theorem LP.new (f : LP d c p1 p2 n ys fs H0 H) {t : Addr} {o : HO} (ht : H t = none) : LP d c p1 p2 n ys fs H0 (upd H t o) := f.go (f.dr.new ht) (Keep.new ht)
theorem LP.base (f : LP d c p1 p2 n ys fs H0 H) : LP d c p1 p2 n ys fs H H := ⟨f.dr, Keep.refl _ _, f.n1, f.fr, f.d1, f.d2⟩
theorem LP.wr (f : LP d c p1 p2 n ys fs H0 H) {t : Addr} {o : HO} {xs : List V} (ht : H t = some (.lst xs)) (n0 : H0 t = none) (a : t ≠ d) (b : t ≠ c) (e1 : t ≠ p1) (e2 : t ≠ p2) : LP d c p1 p2 n ys fs H0 (upd H t o) := by
  obtain ⟨fv, h1, h2, h3⟩ := f.fr
  exact ⟨f.dr.else a b, fun b u e n => upd_else (f.kp b u e n) (ne_of_none e n0), ⟨upd_else f.n1.1 e1.symm, f.n1.2⟩, ⟨fv, upd_else h1 e2.symm, TdAll.mono (TS.wr ht) _ _ h2, h3⟩, f.d1, f.d2⟩
theorem LP.pick (f : LP d c p1 p2 n ys fs H0 H) : ∃ fv, H p2 = some (.lst fv) ∧ fv ≠ [] ∧ fv.length ≤ 20 ∧ ∀ v ∈ fv, ∃ e, Td H e.d v ∧ frE e := by
  obtain ⟨fv, h1, h2, h3, h4, h5⟩ := f.fr
  have l := TdAll.len _ _ h2
  rw [List.length_map] at l
  refine ⟨fv, h1, fun z => ?_, by omega, fun v hv => ?_⟩
  · rw [z] at l
    exact h3 (List.length_eq_zero_iff.mp l.symm)
  · obtain ⟨i, hi, e⟩ := List.getElem_of_mem hv
    have hi' : i < fs.length := by omega
    obtain ⟨v', e1, e2⟩ := TdAll.at i _ _ (fs[i]).d h2 (by rw [List.getElem?_map, List.getElem?_eq_getElem hi'] <;> rfl)
    rw [List.getElem?_eq_getElem hi, e] at e1
    cases e1
    exact ⟨fs[i], e2, h5 _ (List.getElem_mem hi')⟩
end
def rSide (n : Nat) : V → V → V → V → Hp → VK → Prop := fun x y z u H Q => ∃ (d c p1 p2 : Addr) (m k : Nat) (ys : List Str) (fs : List E), x = .ref d ∧ y = .ref p1 ∧ z = .ref p2 ∧ u = .int k ∧ LP d c p1 p2 m ys fs H H ∧ 1 ≤ m ∧ m ≤ 20 ∧ k < n ∧
  ∀ (v : V) (e : E) (H' : Hp), Td H' e.d v → sdE k e → Dr d c H' → Keep d H H' → Q v H'
def sp5 (R : V → V → V → V → V → Hp → VK → Prop) : Sp := fun vs H Q _ => ∃ x y z u v, vs = [x, y, z, u, v] ∧ R x y z u v H Q
def lkE (k : Nat) (e : E) : Prop := e.ok ∧ e.dp ≤ k + 2 ∧ e.sz ≤ lB k
def rLinked (n : Nat) : V → V → V → V → V → Hp → VK → Prop := fun x y z l u H Q => ∃ (d c p1 p2 : Addr) (m k : Nat) (ys : List Str) (fs : List E) (s : Str), x = .ref d ∧ y = .ref p1 ∧ z = .ref p2 ∧ l = .str s ∧ u = .int k ∧ PyData.strOk s = true ∧ LP d c p1 p2 m ys fs H H ∧ 1 ≤ m ∧ m ≤ 20 ∧ k < n ∧
  ∀ (v : V) (e : E) (H' : Hp), Td H' e.d v → lkE k e → Dr d c H' → Keep d H H' → Q v H'
theorem ne_names {H : Hp} {p : Addr} {n : Nat} {ys : List Str} (h : Names H p n ys) (h1 : 1 ≤ n) : ys.map V.str ≠ [] := fun z => by
  have l := h.2.1
  rw [List.map_eq_nil_iff.mp z] at l
  simp at l
  omega
section
variable {P : Program} {w : World} {K : PySem.W.Frag} {mg : Str → Option Value} {base : Heap}
theorem okR5 {x : Str} {st : Stmt} {f : Addr} {fd : FuncData} {N ps : List Str} {k : Nat} {R : V → V → V → V → V → Hp → VK → Prop} (F : FunD K x x (defArgs st) (defBody st) (defScope st) [] [] f fd) (S : FnScope N ps (defScope st)) (hl : ps.length = 5)
    (body : ∀ (cdv : Value) (A : Around) (outer : List Env) (s : Shared) (H : Hp) (Q : VK) (E : XK) (a b c d e : V), Room k (A.deeper (envOfC x (defScope st) s.heap.objs.size f cdv)) → R a b c d e H Q →
      ∃ t, PSs (cxOf CX0 P w K mg base N x (defScope st) f cdv A outer s H E).nox (defBody st) t ∧ t { nx := fun _ H' => Q .non H', rt := Q } (start N [a, b, c, d, e]) H) : FnOk P w K mg base CX0 (k + 1) f fd ps (sp5 R) := by
  refine okR F S (fun vs H Q E h => ?_) fun cdv A outer s H vs Q E hr h => ?_
  · obtain ⟨_, _, _, _, _, rfl, _⟩ := h
    exact hl.symm
  · obtain ⟨a, b, c, d, e, rfl, h⟩ := h
    exact body cdv A outer s H Q E a b c d e hr h
theorem rec_side (T : Tx K mg w) : ∀ n : Nat, FnOk P w K mg base CX0 (3 + n + 1) T.f_side T.fd_side ["_law_d", "_law_own", "_law_frees", "_law_deep"] (sp4 (rSide n))
  | 0 => okR4 T.F_side sc_side rfl fun cdv A outer s H Q EE x y z u hr h => by
    obtain ⟨_, _, _, _, _, _, _, _, _, _, _, _, _, _, _, z, _⟩ := h
    exact absurd z (Nat.not_lt_zero _)
  | n + 1 => by
    have ih := rec_side T n
    refine okR4 T.F_side sc_side rfl fun cdv A outer s H Q EE x y z u hr h => ?_
    obtain ⟨d, c, p1, p2, m, k, ys, fs, rfl, rfl, rfl, rfl, lp, m1, m20, hk, q⟩ := h
    refine ⟨_, pss_cons (ps_set (i := 4) sc_side.nd rfl (Or.inl rfl) (pe_call (ok_draw T) (hr.mono (by omega)) rfl T.m_draw T.F_draw.kp T.b_draw .nil pass0 (pa_cons (pv 0) (pa_cons pe_int pa_nil))))
      (pss_cons (ps_if (PW.pt (pw_and (pt_cmpR op_eq (pv 4) pe_int (nomark _)) (pw_and1 (pt_cmpR op_gt (pv 3) pe_int (nomark _))))) (pss_cons (ps_set (i := 5) sc_side.nd rfl (Or.inl rfl) (pe_ix ix_list (pe_lst (pa_cons pe_str (pa_cons pe_str (pa_cons pe_str pa_nil)))) (pe_call (ok_draw T) (hr.mono (by omega)) rfl T.m_draw T.F_draw.kp T.b_draw .nil pass0 (pa_cons (pv 0) (pa_cons pe_int pa_nil))) (fun _ _ => rfl)))
      (pss_one (ps_ret (pe_tup (pa_cons (pv 5) (pa_cons (pe_call ih hr rfl T.m_side T.F_side.kp T.b_side .nil pass0 (pa_cons (pv 0) (pa_cons (pv 1) (pa_cons (pv 2) (pa_cons (pe_op op_sub (pv 3) pe_int) pa_nil))))) (pa_cons (pe_call ih hr rfl T.m_side T.F_side.kp T.b_side .nil pass0 (pa_cons (pv 0) (pa_cons (pv 1) (pa_cons (pv 2) (pa_cons (pe_op op_sub (pv 3) pe_int) pa_nil))))) pa_nil))))))) pss_nil)
      (pss_cons (ps_if (pt_cmpR op_lt (pv 4) pe_int (nomark _)) (pss_one (ps_ret (pe_tup (pa_cons pe_str (pa_cons (pe_call (ok_pick T) (hr.mono (by omega)) rfl T.m_pick T.F_pick.kp T.b_pick .nil pass0 (pa_cons (pv 0) (pa_cons (pv 1) pa_nil))) pa_nil))))) pss_nil)
      (pss_cons (ps_if (pt_cmpR op_eq (pv 4) pe_int (nomark _)) (pss_one (ps_ret (pe_tup (pa_cons pe_str (pa_cons (pe_call (ok_draw T) (hr.mono (by omega)) rfl T.m_draw T.F_draw.kp T.b_draw .nil pass0 (pa_cons (pv 0) (pa_cons pe_int pa_nil))) pa_nil))))) pss_nil)
      (pss_one (ps_ret (pe_call (ok_pick T) (hr.mono (by omega)) rfl T.m_pick T.F_pick.kp T.b_pick .nil pass0 (pa_cons (pv 0) (pa_cons (pv 2) pa_nil)))))))), ?_⟩
    have done : ∀ (v : V) (e : E) (H' : Hp), Td H' e.d v → sdE k e → LP d c p1 p2 m ys fs H H' → Q v H' := fun v e H' h1 h2 h3 => q v e H' h1 h2 h3.dr h3.kp
    refine ⟨_, rfl, _, _, rfl, d, c, 9, rfl, rfl, lp.dr, by decide, by decide, fun way H1 a1 b1 dr1 k1 => ?_⟩
    have g1 := lp.go dr1 k1
    refine ⟨_, rfl, rfl, _, rfl, ?_⟩
    have small : ∀ e : E, frE e → sdE k e := fun e he => by
      refine ⟨he.1, by have := he.2.1; omega, ?_⟩
      have h3 : 3 ≤ sB k := by
        cases k with
        | zero => exact Nat.le_refl _
        | succ j =>
          have : ∀ j, 1 ≤ sB j := fun j => by
            induction j with
            | zero => show 1 ≤ 3; omega
            | succ j ih => show 1 ≤ sB j + sB j + 1; omega
          have := this j
          show 3 ≤ sB j + sB j + 1
          omega
      have := he.2.2
      omega
    refine (fun rest => ite2 (fun _ => ⟨_, rfl, _, _, rfl, rfl, _, rfl, ite2 (fun hk0 => ?inner) (fun _ => rest)⟩) (fun _ => iteF rest)) ?rest
    case inner =>
      have hk1 : (0 : Int) < (k : Int) := of_decide_eq_true hk0
      obtain ⟨j, rfl⟩ : ∃ j, k = j + 1 := ⟨k - 1, by omega⟩
      refine ⟨sl 3, fun l hl => ?_⟩
      have ld := g1.dr.dne hl
      refine ⟨_, rfl, _, _, rfl, d, c, 3, rfl, rfl, (g1.new hl).dr, by decide, by decide, fun r2 H2 a2 b2 dr2 k2 => ?_⟩
      have g2 := (g1.new hl).go dr2 k2
      obtain ⟨wv, ew, hw⟩ := at_in (xs := [V.str "and", .str "or", .str "xor"]) a2 b2
      refine ⟨l, _, _, _, rfl, rfl, SqL.of (k2 _ _ upd_same ld), ew, ?_⟩
      refine ⟨_, rfl, _, rfl, _, rfl, _, rfl, _, rfl, _, _, rfl, rfl, _, _, _, _, rfl, d, c, p1, p2, m, j, ys, fs, rfl, rfl, rfl, (show V.int (((j + 1 : Nat) : Int) - 1) = V.int j from congrArg V.int (by omega)), g2.base, m1, m20, by omega, fun v3 e3 H3 t3 s3 dr3 k3 => ?_⟩
      have g3 := g2.go dr3 k3
      refine ⟨_, rfl, _, rfl, _, rfl, _, rfl, _, _, rfl, rfl, _, _, _, _, rfl, d, c, p1, p2, m, j, ys, fs, rfl, rfl, rfl, (show V.int (((j + 1 : Nat) : Int) - 1) = V.int j from congrArg V.int (by omega)), g3.base, m1, m20, by omega, fun v4 e4 H4 t4 s4 dr4 k4 => ?_⟩
      have g4 := g3.go dr4 k4
      have t3 := Td.mono (TS.dr g3.dr k4) _ _ t3
      refine ⟨sl 3, fun t5 ht5 => ?_⟩
      have go : ∀ w0 : Str, wv = .str w0 → w0 ∈ bins → Q (.ref t5) (upd H4 t5 (.tup [wv, v3, v4])) := fun w0 ew h1 => by
        subst ew
        refine done _ (.bi w0 e3 e4) _ (td3 (x := .str w0) (a := .str w0) ht5 rfl t3 t4) ⟨⟨h1, s3.1, s4.1⟩, ?_, ?_⟩ (g4.new ht5)
        · have := s3.2.1
          have := s4.2.1
          show max e3.dp e4.dp + 1 ≤ j + 1 + 1
          omega
        · have := s3.2.2
          have := s4.2.2
          show e3.sz + e4.sz + 1 ≤ sB j + sB j + 1
          omega
      rcases List.mem_cons.mp hw with h | hw
      · exact go "and" h (by decide +kernel)
      rcases List.mem_cons.mp hw with h | hw
      · exact go "or" h (by decide +kernel)
      · exact go "xor" (List.mem_singleton.mp hw) (by decide +kernel)
    case rest =>
      refine ⟨_, rfl, _, _, rfl, rfl, _, rfl, ite2 (fun _ => ?_) (fun _ => ?_)⟩
      · refine ⟨_, rfl, _, rfl, _, _, rfl, d, c, p1, _, rfl, g1.dr, ne_names g1.n1 m1, by rw [List.length_map, g1.n1.2.1]; omega, rfl, g1.d1, g1.n1.1, fun v2 H2 m2 dr2 k2 => ?_⟩
        obtain ⟨s2, m2', rfl⟩ := List.mem_map.mp m2
        exact ⟨sl 2, fun t ht => done _ (.nm s2) _ (td2 (x := .str "name") (y := .str s2) ht rfl rfl) (small _ (fr_nm (g1.n1.2.2 _ m2'))) ((g1.go dr2 k2).new ht)⟩
      refine ⟨_, rfl, rfl, _, rfl, ite2 (fun _ => ?_) (fun _ => ?_)⟩
      · refine ⟨_, rfl, _, _, rfl, d, c, 2, rfl, rfl, g1.dr, by decide, by decide, fun r2 H2 a2 b2 dr2 k2 => ⟨sl 2, fun t ht => ?_⟩⟩
        exact done _ (.tr r2) _ (td2 (x := .str "truth") (y := .int r2) ht rfl rfl) (small _ ⟨by show r2 = 0 ∨ r2 = 1; omega, Nat.zero_le _, by show 1 ≤ 3; omega⟩) ((g1.go dr2 k2).new ht)
      · obtain ⟨fv, f1, f2, f3, f4⟩ := g1.pick
        refine ⟨_, rfl, _, rfl, _, _, rfl, d, c, p2, fv, rfl, g1.dr, f2, by omega, rfl, g1.d2, f1, fun v2 H2 m2 dr2 k2 => ?_⟩
        obtain ⟨e2, t2, s2⟩ := f4 v2 m2
        exact done _ e2 _ (Td.mono (TS.dr g1.dr k2) _ _ t2) (small _ s2) (g1.go dr2 k2)
theorem ok_side (T : Tx K mg w) : FnOk P w K mg base CX0 6 T.f_side T.fd_side ["_law_d", "_law_own", "_law_frees", "_law_deep"] (sp4 (rSide 2)) := rec_side T 2
end

def words8 : List Str := ["and", "or", "pick", "not", "xor", "pick", "and", "or"]
theorem words8_bin {w : Str} (h : w ∈ words8) (h1 : ¬ w = "not") (h2 : ¬ w = "pick") : w ∈ bins := by
  have e : (words8.all fun x => decide (x = "not") || (decide (x = "pick") || decide (x ∈ bins))) = true := by decide +kernel
  have := List.all_eq_true.mp e w h
  rw [decide_eq_false h1, decide_eq_false h2] at this
  exact of_decide_eq_true this
theorem side_1 {e : E} (h : sdE 1 e) : e.ok ∧ e.dp ≤ 2 ∧ e.sz ≤ 7 := h
theorem side_0 {e : E} (h : sdE 0 e) : e.ok ∧ e.dp ≤ 2 ∧ e.sz ≤ 7 := ⟨h.1, by have := h.2.1; omega, by have : e.sz ≤ 3 := h.2.2; omega⟩
/-- a row of three, one of them to be exchanged -/
def Row3 (d c p1 p2 : Addr) (m : Nat) (ys : List Str) (fs : List E) (H H0 : Hp) (r : Addr) (x y z l u vi wv : V) (ei : E) (σ : L2.St) (G : Hp) : Prop := ∃ (v0 v1 v2 : V) (e0 e1 e2 : E), σ = [some x, some y, some z, some l, some u, some vi, some wv, some (.ref r), none] ∧ LP d c p1 p2 m ys fs H G ∧
  G r = some (.lst [v0, v1, v2]) ∧ Td G e0.d v0 ∧ Td G e1.d v1 ∧ Td G e2.d v2 ∧ Td G ei.d vi ∧ (e0.ok ∧ e0.dp ≤ 2 ∧ e0.sz ≤ 7) ∧ (e1.ok ∧ e1.dp ≤ 2 ∧ e1.sz ≤ 7) ∧ (e2.ok ∧ e2.dp ≤ 2 ∧ e2.sz ≤ 7)
section
variable {P : Program} {w : World} {K : PySem.W.Frag} {mg : Str → Option Value} {base : Heap}
theorem rec_linked (T : Tx K mg w) : ∀ n : Nat, FnOk P w K mg base CX0 (6 + n + 1) T.f_linked T.fd_linked ["_law_d", "_law_own", "_law_frees", "_law_link", "_law_deep"] (sp5 (rLinked n))
  | 0 => okR5 T.F_linked sc_linked rfl fun cdv A outer s H Q EE x y z l u hr h => by
    obtain ⟨_, _, _, _, _, _, _, _, _, _, _, _, _, _, _, _, _, _, z, _⟩ := h
    exact absurd z (Nat.not_lt_zero _)
  | n + 1 => by
    have ih := rec_linked T n
    refine okR5 T.F_linked sc_linked rfl fun cdv A outer s H Q EE x y z l u hr h => ?_
    obtain ⟨d, c, p1, p2, m, k, ys, fs, s0, rfl, rfl, rfl, rfl, rfl, os, lp, m1, m20, hk, q⟩ := h
    refine ⟨_, pss_cons (ps_if (pt_cmpR op_eq (pv 4) pe_int (nomark _)) (pss_one (ps_ret (pe_tup (pa_cons pe_str (pa_cons (pv 3) pa_nil))))) pss_nil)
      (pss_cons (ps_set (i := 5) sc_linked.nd rfl (Or.inl rfl) (pe_call ih hr rfl T.m_linked T.F_linked.kp T.b_linked .nil pass0 (pa_cons (pv 0) (pa_cons (pv 1) (pa_cons (pv 2) (pa_cons (pv 3) (pa_cons (pe_op op_sub (pv 4) pe_int) pa_nil)))))))
      (pss_cons (ps_set (i := 6) sc_linked.nd rfl (Or.inl rfl) (pe_call (ok_pick T) (hr.mono (by omega)) rfl T.m_pick T.F_pick.kp T.b_pick .nil pass0 (pa_cons (pv 0) (pa_cons (pe_lst (pa_cons pe_str (pa_cons pe_str (pa_cons pe_str (pa_cons pe_str (pa_cons pe_str (pa_cons pe_str (pa_cons pe_str (pa_cons pe_str pa_nil))))))))) pa_nil))))
      (pss_cons (ps_if (pt_cmpR op_eq (pv 6) pe_str (nomark _)) (pss_one (ps_ret (pe_tup (pa_cons pe_str (pa_cons (pv 5) pa_nil))))) pss_nil)
      (pss_cons (ps_if (pt_cmpR op_eq (pv 6) pe_str (nomark _)) (pss_cons (ps_set (i := 7) sc_linked.nd rfl (Or.inl rfl) (pe_lst (pa_cons (pe_call (ok_side T) (hr.mono (by omega)) rfl T.m_side T.F_side.kp T.b_side .nil pass0 (pa_cons (pv 0) (pa_cons (pv 1) (pa_cons (pv 2) (pa_cons pe_int pa_nil))))) (pa_cons (pe_call (ok_side T) (hr.mono (by omega)) rfl T.m_side T.F_side.kp T.b_side .nil pass0 (pa_cons (pv 0) (pa_cons (pv 1) (pa_cons (pv 2) (pa_cons pe_int pa_nil))))) (pa_cons (pe_call (ok_side T) (hr.mono (by omega)) rfl T.m_side T.F_side.kp T.b_side .nil pass0 (pa_cons (pv 0) (pa_cons (pv 1) (pa_cons (pv 2) (pa_cons pe_int pa_nil))))) pa_nil)))))
      (C8.pss_cut (ps_if (pt_cmpR op_eq (pe_call (ok_draw T) (hr.mono (by omega)) rfl T.m_draw T.F_draw.kp T.b_draw .nil pass0 (pa_cons (pv 0) (pa_cons pe_int pa_nil))) pe_int (nomark _)) (pss_one (ps_asg (pe_ix ix_list (pv 7) pe_int (fun _ _ => rfl)) (pg_sub (pv 7) pe_int set_list))) pss_nil)
      (pss_cons (ps_asg (pv 5) (pg_sub (pv 7) (pe_call (ok_draw T) (hr.mono (by omega)) rfl T.m_draw T.F_draw.kp T.b_draw .nil pass0 (pa_cons (pv 0) (pa_cons pe_int pa_nil))) set_list))
      (pss_one (ps_ret (pe_tup (pa_cons pe_str (pa_cons (pe_ix ix_list (pv 7) pe_int (fun _ _ => rfl)) (pa_cons (pe_ix ix_list (pv 7) pe_int (fun _ _ => rfl)) (pa_cons (pe_ix ix_list (pv 7) pe_int (fun _ _ => rfl)) pa_nil)))))))))) pss_nil)
      (pss_cons (ps_set (i := 8) sc_linked.nd rfl (Or.inl rfl) (pe_call (ok_side T) (hr.mono (by omega)) rfl T.m_side T.F_side.kp T.b_side .nil pass0 (pa_cons (pv 0) (pa_cons (pv 1) (pa_cons (pv 2) (pa_cons pe_int pa_nil))))))
      (pss_one (ps_ret (pe_ifExp (pt_cmpR op_eq (pe_call (ok_draw T) (hr.mono (by omega)) rfl T.m_draw T.F_draw.kp T.b_draw .nil pass0 (pa_cons (pv 0) (pa_cons pe_int pa_nil))) pe_int (nomark _)) (pe_tup (pa_cons (pv 6) (pa_cons (pv 5) (pa_cons (pv 8) pa_nil)))) (pe_tup (pa_cons (pv 6) (pa_cons (pv 8) (pa_cons (pv 5) pa_nil)))))))))))), ?_⟩
    have done : ∀ (v : V) (e : E) (H' : Hp), Td H' e.d v → lkE k e → LP d c p1 p2 m ys fs H H' → Q v H' := fun v e H' h1 h2 h3 => q v e H' h1 h2 h3.dr h3.kp
    refine ⟨_, rfl, rfl, _, rfl, ite2 (fun h0 => ?_) (fun h0 => ?_)⟩
    · rw [bl_eq] at h0
      obtain rfl : k = 0 := by have := of_decide_eq_true h0; omega
      exact ⟨_, rfl, sl 2, fun t ht => done _ (.nm s0) _ (td2 (x := .str "name") (y := .str s0) ht rfl rfl) ⟨os, by show 0 ≤ 2; omega, by show 1 ≤ 1; omega⟩ (lp.new ht)⟩
    rw [bl_eq] at h0
    obtain ⟨j, rfl⟩ : ∃ j, k = j + 1 := ⟨k - 1, by
      have : ¬ (k : Int) = 0 := fun z => h0 (decide_eq_true z)
      omega⟩
    refine ⟨_, rfl, _, rfl, _, rfl, _, rfl, _, rfl, _, _, rfl, rfl, _, _, _, _, _, rfl, d, c, p1, p2, m, j, ys, fs, s0, rfl, rfl, rfl, rfl, (show V.int (((j + 1 : Nat) : Int) - 1) = V.int j from congrArg V.int (by omega)), os, lp.base, m1, m20, by omega, fun vi ei H1 ti si dr1 k1 => ?_⟩
    have g1 := lp.go dr1 k1
    have i1 := si.1
    have i2 := si.2.1
    have i3 := si.2.2
    -- the word
    refine ⟨_, rfl, sl 8, fun l hl => ?_⟩
    have ld := g1.dr.dne hl
    refine ⟨_, _, rfl, d, c, l, words8.map V.str, rfl, (g1.new hl).dr, (fun z => by cases z), (by rw [List.length_map]; decide), rfl, ld, upd_same, fun v2 H2 m2 dr2 k2 => ?_⟩
    have g2 := (g1.new hl).go dr2 k2
    have ti := Td.mono (TS.dr (g1.new hl).dr k2) _ _ (Td.mono (TS.new hl) _ _ ti)
    obtain ⟨w0, mw, rfl⟩ := List.mem_map.mp m2
    refine ⟨_, rfl, rfl, _, rfl, ite2 (fun _ => ?_) (fun n1 => ?_)⟩
    · exact ⟨_, rfl, sl 2, fun t ht => done _ (.un ei) _ (td2 (x := .str "not") ht rfl ti) ⟨i1, by show ei.dp + 1 ≤ _; omega, by show ei.sz + 1 ≤ lB j + 15; omega⟩ (g2.new ht)⟩
    have nn : ¬ w0 = "not" := fun z => n1 (by rw [z]; exact decide_eq_true rfl)
    have sd : ∀ (i : Nat) (G : Hp), i < 2 → LP d c p1 p2 m ys fs H G → ∀ Qs : VK, (∀ (v : V) (e : E) (H' : Hp), Td H' e.d v → sdE i e → LP d c p1 p2 m ys fs H H' → TS G H' → Keep d G H' → Qs v H') → rSide 2 (.ref d) (.ref p1) (.ref p2) (.int (i : Nat)) G Qs := fun i G hi g Qs f =>
      ⟨d, c, p1, p2, m, i, ys, fs, rfl, rfl, rfl, rfl, g.base, m1, m20, hi, fun v e H' h1 h2 h3 h4 => f v e H' h1 h2 (g.go h3 h4) (TS.dr g.dr h4) h4⟩
    refine ⟨_, rfl, rfl, _, rfl, ite2 (fun _ => ?_) (fun n2 => ?_)⟩
    · -- pick
      refine ⟨_, rfl, _, rfl, _, rfl, _, _, _, _, rfl, sd 1 H2 (by decide) g2 _ fun v3 e3 H3 t3 s3 g3 ts3 k3 => ?_⟩
      refine ⟨_, rfl, _, rfl, _, rfl, _, _, _, _, rfl, sd 1 H3 (by decide) g3 _ fun v4 e4 H4 t4 s4 g4 ts4 k4 => ?_⟩
      refine ⟨_, rfl, _, rfl, _, rfl, _, _, _, _, rfl, sd 0 H4 (by decide) g4 _ fun v5 e5 H5 t5 s5 g5 ts5 k5 => ⟨sl 3, fun r hr5 => ?_⟩⟩
      have t3 := Td.mono ts5 _ _ (Td.mono ts4 _ _ t3)
      have t4 := Td.mono ts5 _ _ t4
      have ti := Td.mono ts5 _ _ (Td.mono ts4 _ _ (Td.mono ts3 _ _ ti))
      have rd := g5.dr.dne hr5
      have rcn := g5.dr.cne hr5
      have rH : H r = none := by
        cases e : H r with
        | none => rfl
        | some o =>
          by_cases z : r = d
          · exact absurd z rd
          · have := g5.kp _ _ e z
            rw [hr5] at this
            cases this
      have rp1 : r ≠ p1 := fun z => by
        have := g5.n1.1
        rw [← z, hr5] at this
        cases this
      have rp2 : r ≠ p2 := fun z => by
        obtain ⟨fv, h1, _⟩ := g5.fr
        rw [← z, hr5] at h1
        cases h1
      have g6 := g5.new (o := .lst [v3, v4, v5]) hr5
      have tn := TS.new (o := .lst [v3, v4, v5]) hr5
      have t3 := Td.mono tn _ _ t3
      have t4 := Td.mono tn _ _ t4
      have t5 := Td.mono tn _ _ t5
      have ti := Td.mono tn _ _ ti
      have h6 : (upd H5 r (.lst [v3, v4, v5])) r = some (.lst [v3, v4, v5]) := upd_same
      generalize upd H5 r (.lst [v3, v4, v5]) = H6 at g6 t3 t4 t5 ti h6
      refine ⟨Row3 d c p1 p2 m ys fs H H6 r (.ref d) (.ref p1) (.ref p2) (.str s0) (.int ((j + 1 : Nat) : Int)) vi (.str w0) ei, ?_, ?_⟩
      · refine ⟨_, rfl, _, _, rfl, d, c, 3, rfl, rfl, g6.dr, by decide, by decide, fun r7 H7 a7 b7 dr7 k7 => ⟨rfl, _, rfl, ?_⟩⟩
        have g7 := g6.go dr7 k7
        have ts7 := TS.dr g6.dr k7
        have h7 := k7 _ _ h6 rd
        refine ite2 (fun _ => ?_) (fun _ => ?_)
        · refine ⟨_, rfl, r, _, _, _, rfl, rfl, SqL.of h7, at_n 1 rfl, _, rfl, r, _, _, 2, rfl, rfl, h7, rfl, ?_⟩
          have tw := TS.wr (o := .lst [v3, v4, v4]) h7
          exact ⟨v3, v4, v4, e3, e4, e4, rfl, g7.wr h7 rH rd rcn rp1 rp2, upd_same, Td.mono tw _ _ (Td.mono ts7 _ _ t3), Td.mono tw _ _ (Td.mono ts7 _ _ t4), Td.mono tw _ _ (Td.mono ts7 _ _ t4), Td.mono tw _ _ (Td.mono ts7 _ _ ti), side_1 s3, side_1 s4, side_1 s4⟩
        · exact ⟨v3, v4, v5, e3, e4, e5, rfl, g7, h7, Td.mono ts7 _ _ t3, Td.mono ts7 _ _ t4, Td.mono ts7 _ _ t5, Td.mono ts7 _ _ ti, side_1 s3, side_1 s4, side_0 s5⟩
      · rintro σ G ⟨v0, v1, v2, e0, e1, e2, rfl, g7, h7, t0, t1, t2, ti, o0, o1, o2⟩
        refine ⟨_, rfl, _, rfl, _, rfl, _, _, rfl, d, c, 3, rfl, rfl, g7.dr, by decide, by decide, fun r8 H8 a8 b8 dr8 k8 => ?_⟩
        have g8 := g7.go dr8 k8
        have ts8 := TS.dr g7.dr k8
        have h8 := k8 _ _ h7 rd
        have t0 := Td.mono ts8 _ _ t0
        have t1 := Td.mono ts8 _ _ t1
        have t2 := Td.mono ts8 _ _ t2
        have ti := Td.mono ts8 _ _ ti
        have fin : ∀ (a b c' : V) (ea eb ec : E) (o : HO), Td (upd H8 r o) ea.d a → Td (upd H8 r o) eb.d b → Td (upd H8 r o) ec.d c' → LP d c p1 p2 m ys fs H (upd H8 r o) → ea.ok → eb.ok → ec.ok → ea.dp ≤ j + 2 → eb.dp ≤ j + 2 → ec.dp ≤ j + 2 → ea.sz + eb.sz + ec.sz ≤ lB j + 14 →
            ∀ t, (upd H8 r o) t = none → Q (.ref t) (upd (upd H8 r o) t (.tup [.str "pick", a, b, c'])) := fun a b c' ea eb ec o ha hb hc g oa ob oc da db dc sz t ht =>
          done _ (.pk ea eb ec) _ (td4 (x := .str "pick") ht rfl ha hb hc) ⟨⟨oa, ob, oc⟩, by show max ea.dp (max eb.dp ec.dp) + 1 ≤ _; omega, by show ea.sz + eb.sz + ec.sz + 1 ≤ lB j + 15; omega⟩ (g.new ht)
        have r3 : r8 = 0 ∨ r8 = 1 ∨ r8 = 2 := by omega
        rcases r3 with rfl | rfl | rfl
        · refine ⟨r, _, _, 0, rfl, rfl, h8, rfl, _, rfl, r, _, _, _, rfl, rfl, SqL.of upd_same, at_n 0 rfl, _, rfl, r, _, _, _, rfl, rfl, SqL.of upd_same, at_n 1 rfl, _, rfl, r, _, _, _, rfl, rfl, SqL.of upd_same, at_n 2 rfl, sl 4, fun t ht => ?_⟩
          have tw := TS.wr (o := .lst ([v0, v1, v2].set 0 vi)) h8
          exact fin vi v1 v2 ei e1 e2 _ (Td.mono tw _ _ ti) (Td.mono tw _ _ t1) (Td.mono tw _ _ t2) (g8.wr h8 rH rd rcn rp1 rp2) i1 o1.1 o2.1 (by omega) (by omega) (by omega) (by omega) t ht
        · refine ⟨r, _, _, 1, rfl, rfl, h8, rfl, _, rfl, r, _, _, _, rfl, rfl, SqL.of upd_same, at_n 0 rfl, _, rfl, r, _, _, _, rfl, rfl, SqL.of upd_same, at_n 1 rfl, _, rfl, r, _, _, _, rfl, rfl, SqL.of upd_same, at_n 2 rfl, sl 4, fun t ht => ?_⟩
          have tw := TS.wr (o := .lst ([v0, v1, v2].set 1 vi)) h8
          exact fin v0 vi v2 e0 ei e2 _ (Td.mono tw _ _ t0) (Td.mono tw _ _ ti) (Td.mono tw _ _ t2) (g8.wr h8 rH rd rcn rp1 rp2) o0.1 i1 o2.1 (by omega) (by omega) (by omega) (by omega) t ht
        · refine ⟨r, _, _, 2, rfl, rfl, h8, rfl, _, rfl, r, _, _, _, rfl, rfl, SqL.of upd_same, at_n 0 rfl, _, rfl, r, _, _, _, rfl, rfl, SqL.of upd_same, at_n 1 rfl, _, rfl, r, _, _, _, rfl, rfl, SqL.of upd_same, at_n 2 rfl, sl 4, fun t ht => ?_⟩
          have tw := TS.wr (o := .lst ([v0, v1, v2].set 2 vi)) h8
          exact fin v0 v1 vi e0 e1 ei _ (Td.mono tw _ _ t0) (Td.mono tw _ _ t1) (Td.mono tw _ _ ti) (g8.wr h8 rH rd rcn rp1 rp2) o0.1 o1.1 i1 (by omega) (by omega) (by omega) (by omega) t ht
    · -- and, or, xor
      have np : ¬ w0 = "pick" := fun z => n2 (by rw [z]; exact decide_eq_true rfl)
      have hb := words8_bin mw nn np
      refine ⟨_, rfl, _, rfl, _, rfl, _, _, _, _, rfl, sd 1 H2 (by decide) g2 _ fun v3 e3 H3 t3 s3 g3 ts3 k3 => ?_⟩
      have ti := Td.mono ts3 _ _ ti
      obtain ⟨o1, o2, o3⟩ := side_1 s3
      refine ⟨_, rfl, _, _, rfl, d, c, 2, rfl, rfl, g3.dr, by decide, by decide, fun r4 H4 a4 b4 dr4 k4 => ⟨rfl, _, rfl, ?_⟩⟩
      have g4 := g3.go dr4 k4
      have ts4 := TS.dr g3.dr k4
      have ti := Td.mono ts4 _ _ ti
      have t3 := Td.mono ts4 _ _ t3
      refine ite2 (fun _ => ⟨_, rfl, _, rfl, _, rfl, sl 3, fun t ht => ?_⟩) (fun _ => ⟨_, rfl, _, rfl, _, rfl, sl 3, fun t ht => ?_⟩)
      · exact done _ (.bi w0 ei e3) _ (td3 (x := .str w0) ht rfl ti t3) ⟨⟨hb, i1, o1⟩, by show max ei.dp e3.dp + 1 ≤ _; omega, by show ei.sz + e3.sz + 1 ≤ lB j + 15; omega⟩ (g4.new ht)
      · exact done _ (.bi w0 e3 ei) _ (td3 (x := .str w0) ht rfl t3 ti) ⟨⟨hb, o1, i1⟩, by show max e3.dp ei.dp + 1 ≤ _; omega, by show e3.sz + ei.sz + 1 ≤ lB j + 15; omega⟩ (g4.new ht)
theorem ok_linked (T : Tx K mg w) : FnOk P w K mg base CX0 10 T.f_linked T.fd_linked ["_law_d", "_law_own", "_law_frees", "_law_link", "_law_deep"] (sp5 (rLinked 3)) := rec_linked T 3
end

/-! ### the law: logic, the truth of an expr, settling -/
def rLogic : V → V → Hp → VK → Prop := fun x y H Q => ∃ (w : Str) (a : Addr) (ops : List O) (r : O), x = .str w ∧ y = .ref a ∧ H a = some (.lst (ops.map ov)) ∧ Lo w ops r ∧ Q (ov r) H
theorem ixOf_at {ps : List E} {e p : E} {i : Nat} (h : ps[i]? = some p) (hp : PyData.eqv p.d e.d = true) (no : ∀ m q, m < i → ps[m]? = some q → PyData.eqv q.d e.d = false) : ixOf ps e = some i := by
  cases z : ixOf ps e with
  | none =>
    have := ixOf_none z p (List.mem_of_getElem? h)
    rw [hp] at this
    cases this
  | some j =>
    obtain ⟨q, h1, h2, h3⟩ := ixOf_some z
    rcases Nat.lt_trichotomy j i with k | k | k
    · have := no j q k h1
      rw [h2] at this
      cases this
    · rw [k]
    · have := h3 i p k h
      rw [hp] at this
      cases this
theorem ixOf_not {ps : List E} {e : E} (no : ∀ m q, m < ps.length → ps[m]? = some q → PyData.eqv q.d e.d = false) : ixOf ps e = none := by
  cases z : ixOf ps e with
  | none => rfl
  | some j =>
    obtain ⟨q, h1, h2, h3⟩ := ixOf_some z
    have := no j q (List.getElem?_eq_some_iff.mp h1).1 h1
    rw [h2] at this
    cases this
theorem val_in {own : List Str} {ps : List E} {ts : List Int} {kn : List O} {e : E} {j : Nat} {t : Int} (h : ixOf ps e = some j) (ht : ts[j]? = some t) : val own ps ts kn e = some t := by
  have g : ts.getD j 0 = t := by rw [List.getD_eq_getElem?_getD, ht] <;> rfl
  cases e <;> unfold val orP <;> rw [h] <;> show some (ts.getD j 0) = some t <;> rw [g]
theorem IsOp.lo {e : E} {w : Str} {ks : List E} {own : List Str} {ps : List E} {ts : List Int} {kn : List O} (h : IsOp e w ks) (ho : e.ok) (hn : ixOf ps e = none) (ht : bitsI ts) (hk : bitsO kn) : Lo w (ks.map (val own ps ts kn)) (val own ps ts kn e) := by
  rcases h with ⟨a, rfl, rfl, rfl⟩ | ⟨a, b, rfl, rfl⟩ | ⟨a, b, c, rfl, rfl, rfl⟩
  · refine .inl ⟨rfl, _, rfl, ?_⟩
    show orP ps ts (.un a) _ = _
    unfold orP
    rw [hn]
  · refine .inr (.inl ⟨ho.1, _, _, rfl, val_bit ht hk a ho.2.1, val_bit ht hk b ho.2.2, ?_⟩)
    show orP ps ts (.bi w a b) _ = _
    unfold orP
    rw [hn]
  · refine .inr (.inr ⟨rfl, _, _, _, rfl, ?_⟩)
    show orP ps ts (.pk a b c) _ = _
    unfold orP
    rw [hn]
structure TA0 (own : List Str) (ps : List E) (ts : List Int) (kn : List O) (p1 p2 p3 p4 : Addr) (H : Hp) : Prop where
  a1 : H p1 = some (.lst (own.map V.str))
  a2 : H p2 = some (.lst (kn.map ov))
  a3 : ∃ pvs, H p3 = some (.lst pvs) ∧ TdAll H (ps.map E.d) pvs
  a4 : H p4 = some (.tup (ts.map V.int))
  gp : ∀ p ∈ ps, goodE p
  lt : ps.length = ts.length
  lk : kn.length = own.length
  bt : bitsI ts
  bk : bitsO kn
  sz : ps.length ≤ 900
theorem TA0.same {own : List Str} {ps : List E} {ts : List Int} {kn : List O} {p1 p2 p3 p4 : Addr} {H H' : Hp} (t : TA0 own ps ts kn p1 p2 p3 p4 H) (s : Same H H') : TA0 own ps ts kn p1 p2 p3 p4 H' := by
  obtain ⟨pvs, h1, h2⟩ := t.a3
  exact ⟨s _ _ t.a1, s _ _ t.a2, ⟨pvs, s _ _ h1, TdAll.mono (TS.of s) _ _ h2⟩, s _ _ t.a4, t.gp, t.lt, t.lk, t.bt, t.bk, t.sz⟩
def rTruthOf (n : Nat) : V → V → V → V → V → Hp → VK → Prop := fun x y z u v H Q => ∃ (p1 p2 p3 p4 : Addr) (own : List Str) (ps : List E) (ts : List Int) (kn : List O) (e : E), y = .ref p1 ∧ z = .ref p2 ∧ u = .ref p3 ∧ v = .ref p4 ∧ TA0 own ps ts kn p1 p2 p3 p4 H ∧ Td H e.d x ∧ goodE e ∧ e.cov own ps ∧ e.dp < n ∧
  ∀ H', Same H H' → Q (ov (val own ps ts kn e)) H'
theorem eqV_str {a b : Str} : eqV (.str a) (.str b) = (a == b) := rfl
section
variable {P : Program} {w : World} {K : PySem.W.Frag} {mg : Str → Option Value} {base : Heap}
theorem ok_logic (T : Tx K mg w) : FnOk P w K mg base CX0 1 T.f_logic T.fd_logic ["_law_word", "_law_row"] (sp2 rLogic) := by
  refine okR2 T.F_logic sc_logic rfl fun cdv A outer s H Q EE x y hr h => ?_
  obtain ⟨w0, a, ops, r, rfl, rfl, ha, lo, q⟩ := h
  refine ⟨_, pss_cons (ps_if (pt_cmpR op_eq (pv 0) pe_str (nomark _)) (pss_one (ps_ret (pe_ifExp (pt_cmpR op_isN (pe_ix ix_list (pv 1) pe_int (fun _ _ => rfl)) pe_non (nomark _)) pe_non (pe_op op_sub pe_int (pe_ix ix_list (pv 1) pe_int (fun _ _ => rfl)))))) pss_nil)
      (pss_cons (ps_if (pt_cmpR op_eq (pv 0) pe_str (nomark _)) (pss_cons (ps_if (PW.pt (pw_or (pt_cmpR (op_eqD hr.units) (pe_ix ix_list (pv 1) pe_int (fun _ _ => rfl)) pe_int (nomark _)) (pw_or1 (pt_cmpR (op_eqD hr.units) (pe_ix ix_list (pv 1) pe_int (fun _ _ => rfl)) pe_int (nomark _))))) (pss_one (ps_ret pe_int)) pss_nil)
      (pss_one (ps_ret (pe_ifExp (PW.pt (pw_and (pt_cmpR (op_eqD hr.units) (pe_ix ix_list (pv 1) pe_int (fun _ _ => rfl)) pe_int (nomark _)) (pw_and1 (pt_cmpR (op_eqD hr.units) (pe_ix ix_list (pv 1) pe_int (fun _ _ => rfl)) pe_int (nomark _))))) pe_int pe_non)))) pss_nil)
      (pss_cons (ps_if (pt_cmpR op_eq (pv 0) pe_str (nomark _)) (pss_cons (ps_if (PW.pt (pw_or (pt_cmpR (op_eqD hr.units) (pe_ix ix_list (pv 1) pe_int (fun _ _ => rfl)) pe_int (nomark _)) (pw_or1 (pt_cmpR (op_eqD hr.units) (pe_ix ix_list (pv 1) pe_int (fun _ _ => rfl)) pe_int (nomark _))))) (pss_one (ps_ret pe_int)) pss_nil)
      (pss_one (ps_ret (pe_ifExp (PW.pt (pw_and (pt_cmpR (op_eqD hr.units) (pe_ix ix_list (pv 1) pe_int (fun _ _ => rfl)) pe_int (nomark _)) (pw_and1 (pt_cmpR (op_eqD hr.units) (pe_ix ix_list (pv 1) pe_int (fun _ _ => rfl)) pe_int (nomark _))))) pe_int pe_non)))) pss_nil)
      (pss_cons (ps_if (pt_cmpR op_eq (pv 0) pe_str (nomark _)) (pss_cons (ps_if (PW.pt (pw_or (pt_cmpR op_isN (pe_ix ix_list (pv 1) pe_int (fun _ _ => rfl)) pe_non (nomark _)) (pw_or1 (pt_cmpR op_isN (pe_ix ix_list (pv 1) pe_int (fun _ _ => rfl)) pe_non (nomark _))))) (pss_one (ps_ret pe_non)) pss_nil)
      (pss_one (ps_ret (pe_ifExp (pt_cmpR (op_neD hr.units) (pe_ix ix_list (pv 1) pe_int (fun _ _ => rfl)) (pe_ix ix_list (pv 1) pe_int (fun _ _ => rfl)) (nomark _)) pe_int pe_int)))) pss_nil)
      (pss_cons (ps_if (pt_cmpR op_isN (pe_ix ix_list (pv 1) pe_int (fun _ _ => rfl)) pe_non (nomark _)) (pss_one (ps_ret (pe_ifExp (pt_cmpR (op_eqD hr.units) (pe_ix ix_list (pv 1) pe_int (fun _ _ => rfl)) (pe_ix ix_list (pv 1) pe_int (fun _ _ => rfl)) (nomark _)) (pe_ix ix_list (pv 1) pe_int (fun _ _ => rfl)) pe_non))) pss_nil)
      (pss_one (ps_ret (pe_ifExp (pt_cmpR (op_eqD hr.units) (pe_ix ix_list (pv 1) pe_int (fun _ _ => rfl)) pe_int (nomark _)) (pe_ix ix_list (pv 1) pe_int (fun _ _ => rfl)) (pe_ix ix_list (pv 1) pe_int (fun _ _ => rfl))))))))), ?_⟩
  rcases lo with ⟨rfl, o, rfl, rfl⟩ | ⟨hw, o, p, rfl, bo, bp, rfl⟩ | ⟨rfl, o, p, u, rfl, rfl⟩
  · refine ⟨_, rfl, rfl, _, rfl, iteT ?_⟩
    cases o with
    | none => exact ⟨_, rfl, a, _, _, _, rfl, rfl, SqL.of ha, at_n 0 rfl, rfl, _, rfl, iteT q⟩
    | some i => exact ⟨_, rfl, a, _, _, _, rfl, rfl, SqL.of ha, at_n 0 rfl, rfl, _, rfl, iteF ⟨_, rfl, a, _, _, _, rfl, rfl, SqL.of ha, at_n 0 rfl, _, _, rfl, rfl, q⟩⟩
  · have hw' : w0 = "and" ∨ w0 = "or" ∨ w0 = "xor" := by
      rcases List.mem_cons.mp hw with h | h
      · exact .inl h
      · rcases List.mem_cons.mp h with h | h
        · exact .inr (.inl h)
        · exact .inr (.inr (List.mem_singleton.mp h))
    have n1 : ¬ w0 = "not" := fun z => by
      rw [z] at hw
      exact absurd hw (by decide +kernel)
    refine ⟨_, rfl, rfl, _, rfl, ite2 (fun h => absurd h (no_str n1)) (fun _ => ?_)⟩
    rcases hw' with rfl | rfl | rfl
    · refine ⟨_, rfl, rfl, _, rfl, iteT ?_⟩
      have q : Q (ov (land o p)) H := q
      unfold land at q
      refine ⟨_, rfl, a, _, _, _, rfl, rfl, SqL.of ha, at_n 0 rfl, oD o, .int 0, ov_dp o, .int 0, oD_shaped o, rfl, _, rfl, ?_⟩
      rw [eq_num]
      refine ite2 (fun h1 => iteT ?_) (fun h1 => ⟨_, rfl, a, _, _, _, rfl, rfl, SqL.of ha, at_n 1 rfl, oD p, .int 0, ov_dp p, .int 0, oD_shaped p, rfl, _, rfl, ?_⟩)
      · rw [if_pos (.inl (of_decide_eq_true h1))] at q
        exact q
      rw [eq_num]
      refine ite2 (fun h2 => ?_) (fun h2 => ?_)
      · rw [if_pos (.inr (of_decide_eq_true h2))] at q
        exact q
      have n1 : ¬ o = some 0 := fun z => h1 (decide_eq_true z)
      have n2 : ¬ p = some 0 := fun z => h2 (decide_eq_true z)
      rw [if_neg (fun z => z.elim n1 n2)] at q
      refine ⟨_, rfl, a, _, _, _, rfl, rfl, SqL.of ha, at_n 0 rfl, oD o, .int 1, ov_dp o, .int 1, oD_shaped o, rfl, _, rfl, ?_⟩
      rw [eq_num]
      refine ite2 (fun h3 => ⟨_, rfl, a, _, _, _, rfl, rfl, SqL.of ha, at_n 1 rfl, oD p, .int 1, ov_dp p, .int 1, oD_shaped p, rfl, _, rfl, ?_⟩) (fun h3 => iteF ?_)
      · rw [eq_num]
        refine ite2 (fun h4 => ?_) (fun h4 => ?_)
        · rw [if_pos ⟨of_decide_eq_true h3, of_decide_eq_true h4⟩] at q
          exact q
        · rw [if_neg (fun z => h4 (decide_eq_true z.2))] at q
          exact q
      · rw [if_neg (fun z => h3 (decide_eq_true z.1))] at q
        exact q
    · refine ⟨_, rfl, rfl, _, rfl, iteF ⟨_, rfl, rfl, _, rfl, iteT ?_⟩⟩
      have q : Q (ov (lor o p)) H := q
      unfold lor at q
      refine ⟨_, rfl, a, _, _, _, rfl, rfl, SqL.of ha, at_n 0 rfl, oD o, .int 1, ov_dp o, .int 1, oD_shaped o, rfl, _, rfl, ?_⟩
      rw [eq_num]
      refine ite2 (fun h1 => iteT ?_) (fun h1 => ⟨_, rfl, a, _, _, _, rfl, rfl, SqL.of ha, at_n 1 rfl, oD p, .int 1, ov_dp p, .int 1, oD_shaped p, rfl, _, rfl, ?_⟩)
      · rw [if_pos (.inl (of_decide_eq_true h1))] at q
        exact q
      rw [eq_num]
      refine ite2 (fun h2 => ?_) (fun h2 => ?_)
      · rw [if_pos (.inr (of_decide_eq_true h2))] at q
        exact q
      have n1 : ¬ o = some 1 := fun z => h1 (decide_eq_true z)
      have n2 : ¬ p = some 1 := fun z => h2 (decide_eq_true z)
      rw [if_neg (fun z => z.elim n1 n2)] at q
      refine ⟨_, rfl, a, _, _, _, rfl, rfl, SqL.of ha, at_n 0 rfl, oD o, .int 0, ov_dp o, .int 0, oD_shaped o, rfl, _, rfl, ?_⟩
      rw [eq_num]
      refine ite2 (fun h3 => ⟨_, rfl, a, _, _, _, rfl, rfl, SqL.of ha, at_n 1 rfl, oD p, .int 0, ov_dp p, .int 0, oD_shaped p, rfl, _, rfl, ?_⟩) (fun h3 => iteF ?_)
      · rw [eq_num]
        refine ite2 (fun h4 => ?_) (fun h4 => ?_)
        · rw [if_pos ⟨of_decide_eq_true h3, of_decide_eq_true h4⟩] at q
          exact q
        · rw [if_neg (fun z => h4 (decide_eq_true z.2))] at q
          exact q
      · rw [if_neg (fun z => h3 (decide_eq_true z.1))] at q
        exact q
    · refine ⟨_, rfl, rfl, _, rfl, iteF ⟨_, rfl, rfl, _, rfl, iteF ⟨_, rfl, rfl, _, rfl, iteT ?_⟩⟩⟩
      have q : Q (ov (lxor o p)) H := q
      cases o with
      | none => exact ⟨_, rfl, a, _, _, _, rfl, rfl, SqL.of ha, at_n 0 rfl, rfl, _, rfl, iteT (iteT q)⟩
      | some i =>
        refine ⟨_, rfl, a, _, _, _, rfl, rfl, SqL.of ha, at_n 0 rfl, rfl, _, rfl, iteF ⟨_, rfl, a, _, _, _, rfl, rfl, SqL.of ha, at_n 1 rfl, rfl, _, rfl, ?_⟩⟩
        cases p with
        | none => exact iteT q
        | some j =>
          refine iteF ⟨_, rfl, a, _, _, _, rfl, rfl, SqL.of ha, at_n 0 rfl, _, rfl, a, _, _, _, rfl, rfl, SqL.of ha, at_n 1 rfl, oD (some i), oD (some j), ov_dp _, ov_dp _, oD_shaped _, oD_shaped _, _, rfl, ?_⟩
          rw [oD_eqv]
          unfold lxor at q
          refine ite2 (fun h1 => ?_) (fun h1 => ?_)
          · have e : ¬ i = j := fun z => by
              rw [z, decide_eq_true rfl] at h1
              cases h1
            simp only [e, if_false] at q
            exact q
          · have e : i = j := by
              by_cases z : i = j
              · exact z
              · exact absurd (by rw [decide_eq_false (fun y => z (Option.some.inj y))]; rfl) h1
            simp only [e, if_true] at q
            exact q
  · refine ⟨_, rfl, rfl, _, rfl, iteF ⟨_, rfl, rfl, _, rfl, iteF ⟨_, rfl, rfl, _, rfl, iteF ⟨_, rfl, rfl, _, rfl, iteF ?_⟩⟩⟩⟩
    have q : Q (ov (lpick o p u)) H := q
    unfold lpick at q
    cases o with
    | none =>
      refine ⟨_, rfl, a, _, _, _, rfl, rfl, SqL.of ha, at_n 0 rfl, rfl, _, rfl, iteT ⟨_, rfl, a, _, _, _, rfl, rfl, SqL.of ha, at_n 1 rfl, _, rfl, a, _, _, _, rfl, rfl, SqL.of ha, at_n 2 rfl, oD p, oD u, ov_dp p, ov_dp u, oD_shaped p, oD_shaped u, _, rfl, ?_⟩⟩
      rw [oD_eqv]
      refine ite2 (fun h1 => ⟨_, rfl, a, _, _, _, rfl, rfl, SqL.of ha, at_n 1 rfl, ?_⟩) (fun h1 => ?_)
      · have e := of_decide_eq_true h1
        simp only [e, if_true] at q ⊢
        exact q
      · have e : ¬ p = u := fun z => h1 (decide_eq_true z)
        simp only [e, if_false] at q
        exact q
    | some i =>
      refine ⟨_, rfl, a, _, _, _, rfl, rfl, SqL.of ha, at_n 0 rfl, rfl, _, rfl, iteF ⟨_, rfl, a, _, _, _, rfl, rfl, SqL.of ha, at_n 0 rfl, .int i, .int 1, .int i, .int 1, rfl, rfl, _, rfl, ?_⟩⟩
      rw [show PyData.eqv (.int i) (.int 1) = decide (some i = some 1) from eq_num (a := some i)]
      refine ite2 (fun h1 => ⟨_, rfl, a, _, _, _, rfl, rfl, SqL.of ha, at_n 1 rfl, ?_⟩) (fun h1 => ⟨_, rfl, a, _, _, _, rfl, rfl, SqL.of ha, at_n 2 rfl, ?_⟩)
      · have e : i = 1 := Option.some.inj (of_decide_eq_true h1)
        simp only [e, if_true] at q
        exact q
      · have e : ¬ i = 1 := fun z => h1 (by rw [z] <;> exact decide_eq_true rfl)
        simp only [e, if_false] at q
        exact q
theorem rec_truth_of (T : Tx K mg w) : ∀ n : Nat, FnOk P w K mg base CX0 (1 + n + 1) T.f_truth_of T.fd_truth_of ["_law_expr", "_law_own", "_law_known", "_law_parts", "_law_truths"] (sp5 (rTruthOf n))
  | 0 => okR5 T.F_truth_of sc_truth_of rfl fun cdv A outer s H Q EE x y z u v hr h => by
    obtain ⟨_, _, _, _, _, _, _, _, _, _, _, _, _, _, _, _, _, z, _⟩ := h
    exact absurd z (Nat.not_lt_zero _)
  | n + 1 => by
    have ih := rec_truth_of T n
    refine okR5 T.F_truth_of sc_truth_of rfl fun cdv A outer s H Q EE x y z u v hr h => ?_
    obtain ⟨p1, p2, p3, p4, own, ps, ts, kn, e, rfl, rfl, rfl, rfl, ta, hx, ge, hcov, hn, q⟩ := h
    refine ⟨_, pss_cons (ps_for PassesOwn.never rfl (pi_range1 rfl T.z_range (pa_cons (pe_callB call_len_seq (by rfl) T.z_len (by decide +kernel) (pa_cons (pv 3) pa_nil)) pa_nil)) (pg_name (i := 5) sc_truth_of.nd rfl (Or.inl rfl))
      (pss_one (ps_if (pt_cmpR (op_eqD hr.units) (pe_ix ix_list (pv 3) (pv 5) (fun _ _ => rfl)) (pv 0) (nomark _)) (pss_one (ps_ret (pe_ix ix_tup (pv 4) (pv 5) (fun _ _ => rfl)))) pss_nil)))
      (pss_cons (ps_if (pt_cmpR op_eq (pe_ix ix_tup (pv 0) pe_int (fun _ _ => rfl)) pe_str (nomark _)) (pss_one (ps_ret (pe_ix ix_tup (pv 0) pe_int (fun _ _ => rfl)))) pss_nil)
      (pss_cons (ps_if (pt_cmpR op_eq (pe_ix ix_tup (pv 0) pe_int (fun _ _ => rfl)) pe_str (nomark _)) (pss_one (ps_ret (pe_ix ix_list (pv 2) (pe_bm PySem.F.plainAttrs_list PySem.F.slot_list_index PySem.F.type_list_index mt_index (pv 1) (pa_cons (pe_ix ix_tup (pv 0) pe_int (fun _ _ => rfl)) pa_nil)) (fun _ _ => rfl)))) pss_nil)
      (pss_one (ps_ret (pe_call (ok_logic T) (hr.mono (by omega)) rfl T.m_logic T.F_logic.kp T.b_logic .nil pass0 (pa_cons (pe_ix ix_tup (pv 0) pe_int (fun _ _ => rfl)) (pa_cons (pe_lc (own := [("_law_part", 6)]) (g := gName 6) (tt := tYes) rfl sc_truth_of.nd (pi_tup (pe_slice sl_tupA (pv 0) (po_some pe_int) po_none)) (blkOk_by (N := ["_law_expr", "_law_own", "_law_known", "_law_parts", "_law_truths", "_law_at", "_law_part"]) (sc := defScope s_truth_of) (by decide +kernel)) (fun _ _ _ _ _ => pg_name (i := 6) sc_truth_of.nd rfl (Or.inl rfl)) (fun _ _ _ _ _ => pts_nil) (fun _ _ _ _ _ => (pe_call ih hr rfl T.m_truth_of T.F_truth_of.kp T.b_truth_of .nil pass0 (pa_cons (pv 6) (pa_cons (pv 1) (pa_cons (pv 2) (pa_cons (pv 3) (pa_cons (pv 4) pa_nil)))))))) pa_nil))))))), ?_⟩
    obtain ⟨pvs, h3, hps⟩ := ta.a3
    have lp := TdAll.len _ _ hps
    rw [List.length_map] at lp
    have sz := ta.sz
    refine ⟨_, rfl, p3, _, rfl, .inl (SqL.of h3), (pvs.length : Int), rfl, by omega, by omega, ?_⟩
    refine for_range (lo := 0) (n := (pvs.length : Int).toNat) (fun i σ G => ∃ v5 : Option V, σ = [some x, some (.ref p1), some (.ref p2), some (.ref p3), some (.ref p4), v5, none] ∧ G = H ∧ ∀ m q, m < i → ps[m]? = some q → PyData.eqv q.d e.d = false)
      ⟨none, rfl, rfl, fun m q hm => absurd hm (Nat.not_lt_zero _)⟩ ?_ ?_
    · rintro i σ G hi ⟨v5, rfl, rfl, no⟩
      rw [Int.toNat_natCast] at hi
      have hip : i < ps.length := by omega
      have hit : i < ts.length := by rw [← ta.lt]; exact hip
      obtain ⟨v, hv1, hv2⟩ := TdAll.at i _ _ (ps[i]).d hps (by rw [List.getElem?_map, List.getElem?_eq_getElem hip] <;> rfl)
      have gp := ta.gp _ (List.getElem_mem hip)
      refine ⟨_, rfl, _, rfl, p3, _, _, _, rfl, rfl, SqL.of h3, (by rw [Int.zero_add]; exact at_n i hv1), _, rfl, (ps[i]).d, e.d, Td.dp _ _ hv2, Td.dp _ _ hx, E.shaped gp.1 (by have := gp.2; omega), E.shaped ge.1 (by have := ge.2; omega), _, rfl, ite2 (fun h1 => ?_) (fun h1 => ?_)⟩
      · have ix := ixOf_at (List.getElem?_eq_getElem hip) h1 no
        have ev := val_in (own := own) (kn := kn) ix (List.getElem?_eq_getElem hit)
        refine ⟨_, rfl, _, rfl, p4, _, _, _, rfl, rfl, SqT.of ta.a4, (by rw [Int.zero_add]; exact at_n i (by rw [List.getElem?_map, List.getElem?_eq_getElem hit] <;> rfl)), ?_⟩
        rw [ev] at q
        exact q _ (Same.refl _)
      · refine ⟨_, rfl, rfl, fun m q hm hq => ?_⟩
        rcases Nat.lt_or_ge m i with k | k
        · exact no m q k hq
        · obtain rfl : m = i := by omega
          rw [List.getElem?_eq_getElem hip] at hq
          cases hq
          exact Bool.eq_false_iff.mpr h1
    rintro σ G ⟨v5, rfl, rfl, no⟩
    rw [Int.toNat_natCast, lp] at no
    have ix := ixOf_not no
    rcases e.ways with ⟨z, rfl⟩ | ⟨b0, rfl⟩ | ⟨w1, ds, rfl⟩ | ⟨w1, ks, io⟩
    · obtain ⟨b, xs, rfl, hb, _, _, rfl, rfl, _, _, rfl, rfl, rfl⟩ := id hx
      refine ⟨_, rfl, b, _, _, _, rfl, rfl, SqT.of hb, at_n 0 rfl, rfl, _, rfl, iteF ?_⟩
      refine ⟨_, rfl, b, _, _, _, rfl, rfl, SqT.of hb, at_n 0 rfl, rfl, _, rfl, iteT ?_⟩
      have hz : z ∈ own := by
        rcases hcov with y | y
        · rw [ix] at y
          cases y
        · exact y
      obtain ⟨j, j1, j2, j3⟩ := ixS_mem hz
      have hjk : j < kn.length := by
        rw [ta.lk]
        exact (List.getElem?_eq_some_iff.mp j2).1
      refine ⟨_, rfl, _, rfl, .inl ⟨rfl, _, SqL.of ta.a1⟩, _, rfl, b, _, _, _, rfl, rfl, SqT.of hb, at_n 1 rfl, p1, own.map V.str, .str z, j, .str z, rfl, rfl, SqL.of ta.a1, rfl, flat_strs own, by rw [List.getElem?_map, j2] <;> rfl, beq_self_eq_true z, ?_, ?_⟩
      · intro m z' hm hz'
        rw [List.getElem?_map] at hz'
        obtain ⟨s', e1, rfl⟩ := Option.map_eq_some_iff.mp hz'
        show (s' == z) = false
        exact beq_eq_false_iff_ne.mpr fun y => j3 m hm (by rw [e1, y])
      · refine ⟨p2, _, _, _, rfl, rfl, SqL.of ta.a2, at_n j (ovs_at (List.getElem?_eq_getElem hjk)), ?_⟩
        have ev : val own ps ts kn (.nm z) = kn[j] := by
          unfold val orP
          rw [ix, j1]
          show (kn[j]?).getD none = kn[j]
          rw [List.getElem?_eq_getElem hjk] <;> rfl
        rw [ev] at q
        exact q _ (Same.refl _)
    · obtain ⟨b, xs, rfl, hb, _, _, rfl, rfl, _, _, rfl, rfl, rfl⟩ := id hx
      refine ⟨_, rfl, b, _, _, _, rfl, rfl, SqT.of hb, at_n 0 rfl, rfl, _, rfl, iteT ?_⟩
      refine ⟨_, rfl, b, _, _, _, rfl, rfl, SqT.of hb, at_n 1 rfl, ?_⟩
      have ev : val own ps ts kn (.tr b0) = some b0 := by
        unfold val orP
        rw [ix]
      rw [ev] at q
      exact q _ (Same.refl _)
    · have y : (ixOf ps (.ot w1 ds)).isSome = true := hcov
      rw [ix] at y
      cases y
    · have hw5 := io.wd ge.1
      have hxo := hx
      rw [io.dd] at hxo
      obtain ⟨b, xs, rfl, hb, v0, r, rfl, hv0, hr'⟩ := id hxo
      obtain rfl : v0 = .str w1 := hv0
      refine ⟨_, rfl, b, _, _, _, rfl, rfl, SqT.of hb, at_n 0 rfl, rfl, _, rfl, ite2 (fun h => absurd h (no_str (wd_ne hw5 (by decide +kernel)))) (fun _ => ?_)⟩
      refine ⟨_, rfl, b, _, _, _, rfl, rfl, SqT.of hb, at_n 0 rfl, rfl, _, rfl, ite2 (fun h => absurd h (no_str (wd_ne hw5 (by decide +kernel)))) (fun _ => ?_)⟩
      refine ⟨_, rfl, b, _, _, _, rfl, rfl, SqT.of hb, at_n 0 rfl, ?_⟩
      refine ⟨_, rfl, _, rfl, slFD hxo fun p5 H1 s1 hp5 => ?_⟩
      rw [cut_tail] at hp5
      obtain ⟨a, vs, rfl, ha, hvs⟩ := hp5
      have lv := TdAll.len _ _ hvs
      rw [List.length_map] at lv
      obtain ⟨zs, zl⟩ := io.size
      refine ⟨a, rfl, ⟨_, SqT.of ha⟩, fun D hD => lc_tup (K := K) (a := a) (xs := vs) (fun i H' => Same H1 H' ∧ H' D = some (.lst (((ks.take i).map (val own ps ts kn)).map ov))) ⟨same_new hD, upd_same⟩ ?_ ?_ ?_⟩
      · rintro i H' _ ⟨s2, _⟩
        exact SqT.of (s2 _ _ ha)
      · rintro i v H' hi ⟨s2, hacc⟩
        have hil : i < ks.length := by
          have := (List.getElem?_eq_some_iff.mp hi).1
          omega
        obtain ⟨v', hv1, hv2⟩ := TdAll.at i _ _ (ks[i]).d hvs (by rw [List.getElem?_map, List.getElem?_eq_getElem hil] <;> rfl)
        rw [hi] at hv1
        cases hv1
        have hk := List.getElem_mem hil
        refine ⟨rfl, yes ⟨_, rfl, _, rfl, _, rfl, _, rfl, _, rfl, _, _, _, _, _, rfl, p1, p2, p3, p4, own, ps, ts, kn, ks[i], rfl, rfl, rfl, rfl, ta.same (s1.trans s2), Td.mono (TS.of s2) _ _ hv2, io.good ge _ hk, io.cov hcov ix _ hk, by have := io.dpk _ hk; omega, fun H2 s3 => ?_⟩⟩
        refine ⟨_, s3 _ _ hacc, small1000 (by rw [List.length_map, List.length_map, List.length_take]; omega), fun b u e => upd_else (s3 _ _ (s2 _ _ e)) (ne_of_none e hD), ?_⟩
        rw [upd_same, take_one hil, List.map_append, List.map_append]
        rfl
      · rintro H' ⟨s2, hacc⟩
        rw [lv, List.take_length] at hacc
        exact ⟨_, _, rfl, w1, D, _, _, rfl, rfl, hacc, io.lo ge.1 ix ta.bt ta.bk, q H' (s1.trans s2)⟩
theorem ok_truth_of (T : Tx K mg w) : FnOk P w K mg base CX0 15 T.f_truth_of T.fd_truth_of ["_law_expr", "_law_own", "_law_known", "_law_parts", "_law_truths"] (sp5 (rTruthOf 13)) := rec_truth_of T 13
end

/-! ### the law: settling, comparing, truths -/
def rSettled : V → V → V → V → Hp → VK → Prop := fun x y u v H Q => ∃ (p1 p2 p3 p4 : Addr) (z : St0) (evs pvs : List V), x = .ref p1 ∧ y = .ref p2 ∧ u = .ref p3 ∧ v = .ref p4 ∧ H p1 = some (.lst (z.own.map V.str)) ∧ H p2 = some (.lst evs) ∧ TdAll H (z.es.map E.d) evs ∧ H p3 = some (.lst pvs) ∧ TdAll H (z.ps.map E.d) pvs ∧
  H p4 = some (.tup (z.ts.map V.int)) ∧ z.sets ∧ z.ps.length ≤ 900 ∧ ∀ (p : Addr) (H' : Hp), Same H H' → H p = none → H' p = some (.lst ((z.iter z.es.length).map ov)) → Q (.ref p) H'
def rAlike : V → V → Hp → VK → Prop := fun x y H Q => ∃ (t u : Addr) (os : List O), x = .ref t ∧ y = .ref u ∧ H t = some (.tup (os.map ov)) ∧ H u = some (.lst (os.map ov)) ∧ os.length ≤ 900 ∧ Q (.bl true) H
def TuplesAt (H : Hp) (p : Addr) (m : Nat) : Prop := ∃ vs, H p = some (.lst vs) ∧ vs ≠ [] ∧ vs.length ≤ 100 ∧ ∀ v ∈ vs, ∃ (t : Addr) (ts : List Int), v = .ref t ∧ H t = some (.tup (ts.map V.int)) ∧ bitsI ts ∧ ts.length = m
def rTuples : V → V → Hp → VK → Prop := fun x y H Q => ∃ (d c : Addr) (m : Nat), x = .ref d ∧ y = .int m ∧ Dr d c H ∧ m ≤ 900 ∧ ∀ (p : Addr) (H' : Hp), TuplesAt H' p m → p ≠ d → p ≠ c → Dr d c H' → Keep d H H' → Q (.ref p) H'
section
variable {P : Program} {w : World} {K : PySem.W.Frag} {mg : Str → Option Value} {base : Heap}
theorem ok_settled (T : Tx K mg w) : FnOk P w K mg base CX0 16 T.f_settled T.fd_settled ["_law_own", "_law_exprs", "_law_parts", "_law_truths"] (sp4 rSettled) := by
  refine okR4 T.F_settled sc_settled rfl fun cdv A outer s H Q EE x y u v hr h => ?_
  obtain ⟨p1, p2, p3, p4, z, evs, pvs, rfl, rfl, rfl, rfl, h1, h2, hes, h3, hps, h4, ⟨zg, ⟨ge, gps, len⟩, hl1, hl2⟩, szp, q⟩ := h
  refine ⟨_, pss_cons (ps_setLc (i := 4) (own := [("_law_name", 7)]) (g := gName 7) (tt := tYes) rfl sc_settled.nd rfl rfl (sw_true rfl rfl rfl (by decide +kernel)) (pi_list (pv 0)) (blkOk_by (N := ["_law_own", "_law_exprs", "_law_parts", "_law_truths", "_law_known", "_law_turn", "_law_at", "_law_name"]) (sc := defScope s_settled) (by decide +kernel)) (fun _ _ _ _ _ => pg_name (i := 7) sc_settled.nd rfl (Or.inl rfl)) (fun _ _ _ _ _ => pts_nil) (fun _ _ _ _ _ => pe_non))
      (pss_cons (ps_for PassesOwn.never rfl (pi_range1 rfl T.z_range (pa_cons (pe_callB call_len_seq (by rfl) T.z_len (by decide +kernel) (pa_cons (pv 0) pa_nil)) pa_nil)) (pg_name (i := 5) sc_settled.nd rfl (Or.inl rfl))
      (pss_one (ps_for PassesOwn.never rfl (pi_range1 rfl T.z_range (pa_cons (pe_callB call_len_seq (by rfl) T.z_len (by decide +kernel) (pa_cons (pv 0) pa_nil)) pa_nil)) (pg_name (i := 6) sc_settled.nd rfl (Or.inl rfl))
      (pss_one (ps_asg (pe_call (ok_truth_of T) (hr.mono (by decide)) rfl T.m_truth_of T.F_truth_of.kp T.b_truth_of .nil pass0 (pa_cons (pe_ix ix_list (pv 1) (pv 6) (fun _ _ => rfl)) (pa_cons (pv 0) (pa_cons (pv 4) (pa_cons (pv 2) (pa_cons (pv 3) pa_nil)))))) (pg_sub (pv 4) (pv 6) set_list))))))
      (pss_one (ps_ret (pv 4)))), ?_⟩
  have lo : (z.own.map V.str).length = z.es.length := by rw [List.length_map, hl2]
  have le := TdAll.len _ _ hes
  rw [List.length_map] at le
  refine ⟨_, rfl, p1, rfl, ⟨_, SqL.of h1⟩, fun k hk => lc_list (K := K) (a := p1) (xs := z.own.map V.str) (fun i H' => H' = upd H k (.lst ((List.replicate i (none : O)).map ov))) rfl ?_ ?_ ?_⟩
  · rintro i H' _ rfl
    exact SqL.of (same_new hk _ _ h1)
  · rintro i x H' hi rfl
    have := (List.getElem?_eq_some_iff.mp hi).1
    refine ⟨rfl, yes ⟨_, upd_same, small1000 (by rw [List.length_map, List.length_replicate]; omega), ?_⟩⟩
    rw [upd_upd, List.replicate_succ', List.map_append]
    rfl
  rintro H' rfl
  rw [lo]
  have s0 : Same H (upd H k (.lst ((List.replicate z.es.length (none : O)).map ov))) := same_new hk
  have k0 : (upd H k (.lst ((List.replicate z.es.length (none : O)).map ov))) k = some (.lst ((z.iter 0).map ov)) := upd_same
  generalize upd H k (.lst ((List.replicate z.es.length (none : O)).map ov)) = H0 at s0 k0
  have hkn : ∀ {b : Addr} {u : HO}, H b = some u → b ≠ k := fun e => ne_of_none e hk
  refine ⟨_, rfl, p1, _, rfl, .inl (SqL.of (s0 _ _ h1)), ((z.own.map V.str).length : Int), rfl, by omega, by omega, ?_⟩
  refine for_range (lo := 0) (n := ((z.own.map V.str).length : Int).toNat) (fun j σ G => ∃ v5 v6 : Option V, σ = [some (.ref p1), some (.ref p2), some (.ref p3), some (.ref p4), some (.ref k), v5, v6, none] ∧ Same H G ∧ G k = some (.lst ((z.iter j).map ov))) ⟨none, none, rfl, s0, k0⟩ ?_ ?_
  · rintro j σ G hj ⟨v5, v6, rfl, s1, k1⟩
    have pj := St0.iter_pre zg j
    refine ⟨_, rfl, p1, _, rfl, .inl (SqL.of (s1 _ _ h1)), ((z.own.map V.str).length : Int), rfl, by omega, by omega, ?_⟩
    refine for_range (lo := 0) (n := ((z.own.map V.str).length : Int).toNat) (fun i σ G => ∃ v5 v6 : Option V, σ = [some (.ref p1), some (.ref p2), some (.ref p3), some (.ref p4), some (.ref k), v5, v6, none] ∧ Same H G ∧ G k = some (.lst ((z.upto (z.iter j) i).map ov))) ⟨_, _, rfl, s1, k1⟩ ?_ ?_
    · rintro i σ G hi ⟨v5, v6, rfl, s2, k2⟩
      rw [Int.toNat_natCast, lo] at hi
      obtain ⟨pu, lu⟩ := St0.upto_pre zg pj i
      obtain ⟨v, hv1, hv2⟩ := TdAll.at i _ _ (z.es[i]).d hes (by rw [List.getElem?_map, List.getElem?_eq_getElem hi] <;> rfl)
      obtain ⟨g1, g2, g3⟩ := ge z.es[i] (List.getElem_mem hi)
      have ta : TA0 z.own z.ps z.ts (z.upto (z.iter j) i) p1 k p3 p4 G := ⟨s2 _ _ h1, k2, ⟨pvs, s2 _ _ h3, TdAll.mono (TS.of s2) _ _ hps⟩, s2 _ _ h4, gps, hl1, by rw [pu.1, hl2], zg.ts, pu.2.1, szp⟩
      refine ⟨_, rfl, _, rfl, p2, _, _, _, rfl, rfl, SqL.of (s2 _ _ h2), (by rw [Int.zero_add]; exact at_n i hv1), _, rfl, _, rfl, _, rfl, _, rfl, _, _, _, _, _, rfl, p1, k, p3, p4, z.own, z.ps, z.ts, _, z.es[i], rfl, rfl, rfl, rfl, ta, Td.mono (TS.of s2) _ _ hv2, g1, g2, by have := g1.2; omega, fun H4 s4 => ?_⟩
      have k4 := s4 _ _ k2
      have hin : i < (z.upto (z.iter j) i).length := by rw [pu.1]; exact hi
      refine ⟨_, rfl, _, rfl, k, _, _, i, rfl, rfl, k4, (by rw [Int.zero_add]; exact ix_nat (by rw [List.length_map]; exact hin)), ?_⟩
      refine ⟨_, _, rfl, fun b u hb => upd_else (s4 _ _ (s2 _ _ hb)) (hkn hb), ?_⟩
      have one : z.upto (z.iter j) (i + 1) = (z.upto (z.iter j) i).set i (val z.own z.ps z.ts (z.upto (z.iter j) i) z.es[i]) := by
        show z.one _ i = _
        unfold St0.one
        rw [List.getElem?_eq_getElem hi]
      rw [upd_same, one, List.map_set]
    · rintro σ G ⟨v5, v6, rfl, s2, k2⟩
      rw [Int.toNat_natCast, lo] at k2
      exact ⟨_, _, rfl, s2, k2⟩
  · rintro σ G ⟨v5, v6, rfl, s1, k1⟩
    rw [Int.toNat_natCast, lo] at k1
    exact ⟨_, rfl, q k G s1 hk k1⟩
theorem ok_alike (T : Tx K mg w) : FnOk P w K mg base CX0 1 T.f_alike T.fd_alike ["_law_told", "_law_due"] (sp2 rAlike) := by
  refine okR2 T.F_alike sc_alike rfl fun cdv A outer s H Q EE x y hr h => ?_
  obtain ⟨t, u, os, rfl, rfl, ht, hu, len, q⟩ := h
  refine ⟨_, pss_cons (ps_if (PW.pt (pw_or (pt_not (pt_val (pe_callB call_isi (by rfl) T.z_isinstance (by decide +kernel) (pa_cons (pv 0) (pa_cons (pe_bltn (v := .ty "tuple") rfl T.z_tuple (by decide +kernel) rfl) pa_nil))))) (pw_or1 (pt_cmpR op_ne (pe_callB call_len_seq (by rfl) T.z_len (by decide +kernel) (pa_cons (pv 0) pa_nil)) (pe_callB call_len_seq (by rfl) T.z_len (by decide +kernel) (pa_cons (pv 1) pa_nil)) (nomark _))))) (pss_one (ps_ret pe_bl)) pss_nil)
      (pss_cons (ps_for PassesOwn.never rfl (pi_range1 rfl T.z_range (pa_cons (pe_callB call_len_seq (by rfl) T.z_len (by decide +kernel) (pa_cons (pv 1) pa_nil)) pa_nil)) (pg_name (i := 2) sc_alike.nd rfl (Or.inl rfl))
      (pss_one (ps_if (pt_cmpR op_isN (pe_ix ix_list (pv 1) (pv 2) (fun _ _ => rfl)) pe_non (nomark _)) (pss_one (ps_if (pt_cmpR op_notN (pe_ix ix_tup (pv 0) (pv 2) (fun _ _ => rfl)) pe_non (nomark _)) (pss_one (ps_ret pe_bl)) pss_nil)) (pss_one (ps_if (PW.pt (pw_or (pt_not (pt_val (pe_callB call_isi (by rfl) T.z_isinstance (by decide +kernel) (pa_cons (pe_ix ix_tup (pv 0) (pv 2) (fun _ _ => rfl)) (pa_cons (pe_bltn (v := .ty "int") rfl T.z_int (by decide +kernel) rfl) pa_nil))))) (pw_or (pt_val (pe_callB call_isi (by rfl) T.z_isinstance (by decide +kernel) (pa_cons (pe_ix ix_tup (pv 0) (pv 2) (fun _ _ => rfl)) (pa_cons (pe_bltn (v := .ty "bool") rfl T.z_bool (by decide +kernel) rfl) pa_nil)))) (pw_or1 (pt_cmpR (op_neD hr.units) (pe_ix ix_tup (pv 0) (pv 2) (fun _ _ => rfl)) (pe_ix ix_list (pv 1) (pv 2) (fun _ _ => rfl)) (nomark _)))))) (pss_one (ps_ret pe_bl)) pss_nil)))))
      (pss_one (ps_ret pe_bl))), ?_⟩
  refine ⟨_, rfl, _, .ty "tuple", _, _, true, rfl, .ty _, .base (.tup ht), kit_ty (by decide +kernel), _, rfl, iteF ?_⟩
  refine ⟨_, rfl, t, _, rfl, .inr (SqT.of ht), _, rfl, u, _, rfl, .inl (SqL.of hu), rfl, _, rfl, ite2 (fun h => ?_) (fun _ => ?_)⟩
  · have h' : (!decide (V.int ((os.map ov).length : Int) = V.int ((os.map ov).length : Int))) = true := h
    rw [decide_eq_true rfl] at h'
    cases h'
  refine ⟨_, rfl, u, _, rfl, .inl (SqL.of hu), ((os.map ov).length : Int), rfl, by rw [List.length_map]; omega, by rw [List.length_map]; omega, ?_⟩
  refine for_range (lo := 0) (n := ((os.map ov).length : Int).toNat) (fun i σ G => ∃ v2 : Option V, σ = [some (.ref t), some (.ref u), v2] ∧ G = H) ⟨none, rfl, rfl⟩ ?_ ?_
  · rintro i σ G hi ⟨v2, rfl, rfl⟩
    rw [Int.toNat_natCast, List.length_map] at hi
    have hoi := ovs_at (List.getElem?_eq_getElem hi)
    have hat : atI (os.map ov) (0 + (i : Int)) = some (ov os[i]) := by rw [Int.zero_add]; exact at_n i hoi
    refine ⟨_, rfl, _, rfl, u, _, _, _, rfl, rfl, SqL.of hu, hat, rfl, _, rfl, ?_⟩
    cases ho : os[i] with
    | none =>
      rw [ho] at hat
      refine iteT ⟨_, rfl, _, rfl, t, _, _, _, rfl, rfl, SqT.of ht, hat, rfl, _, rfl, iteF ?_⟩
      exact ⟨_, rfl, rfl⟩
    | some j =>
      rw [ho] at hat
      refine iteF ⟨_, rfl, _, rfl, t, _, _, _, rfl, rfl, SqT.of ht, hat, _, .ty "int", _, _, true, rfl, .ty _, .base (.int j), kit_ty (by decide +kernel), _, rfl, iteF ?_⟩
      refine ⟨_, rfl, _, rfl, t, _, _, _, rfl, rfl, SqT.of ht, hat, _, .ty "bool", _, _, false, rfl, .ty _, .base (.int j), kit_ty (by decide +kernel), _, rfl, iteF ?_⟩
      refine ⟨_, rfl, _, rfl, t, _, _, _, rfl, rfl, SqT.of ht, hat, _, rfl, _, rfl, u, _, _, _, rfl, rfl, SqL.of hu, hat, oD (some j), oD (some j), ov_dp _, ov_dp _, oD_shaped _, oD_shaped _, _, rfl, ?_⟩
      rw [oD_eqv, decide_eq_true rfl]
      exact iteF ⟨_, rfl, rfl⟩
  · rintro σ G ⟨v2, rfl, rfl⟩
    exact q
end

def rTupOf (K : PySem.W.Frag) : List V → Hp → VK → Prop := fun xs H Q => ∃ p ys, xs = [.ref p] ∧ ((SqL K H p ys ∧ ∀ l, H l = none → Q (.ref l) (upd H l (.tup ys))) ∨ (SqT K H p ys ∧ Q (.ref p) H))
theorem call_tup {X : Cx} : CallR X (.type "tuple") (rTupOf X.K) := call_tuple_of
def Tv (m : Nat) (H : Hp) (v : V) : Prop := ∃ (t : Addr) (ts : List Int), v = .ref t ∧ H t = some (.tup (ts.map V.int)) ∧ bitsI ts ∧ ts.length = m
theorem Tv.mono {m : Nat} {H H' : Hp} {v : V} (h : Tv m H v) (s : TS H H') : Tv m H' v := by
  obtain ⟨t, ts, h1, h2, h3⟩ := h
  exact ⟨t, ts, h1, s _ _ h2, h3⟩
theorem bits_snoc {ts : List Int} {t : Int} (h : bitsI ts) (ht : t = 0 ∨ t = 1) : bitsI (ts ++ [t]) := fun x hx => by
  rcases List.mem_append.mp hx with k | k
  · exact h x k
  · rw [List.mem_singleton.mp k]
    exact ht
section
variable {P : Program} {w : World} {K : PySem.W.Frag} {mg : Str → Option Value} {base : Heap}
theorem ok_tuples (T : Tx K mg w) : FnOk P w K mg base CX0 3 T.f_tuples T.fd_tuples ["_law_d", "_law_many"] (sp2 rTuples) := by
  refine okR2 T.F_tuples sc_tuples rfl fun cdv A outer s H Q EE x y hr h => ?_
  obtain ⟨d, c, m, rfl, rfl, dr, m9, q⟩ := h
  refine ⟨_, pss_cons (ps_if (pt_cmpR op_le (pv 1) pe_int (nomark _)) (pss_one (ps_ret (pe_lc (own := [("_law_number", 4)]) (g := gName 4) (tt := tYes) rfl sc_tuples.nd (pi_range1 rfl T.z_range (pa_cons (pe_op op_shl pe_int (pv 1)) pa_nil)) (blkOk_by (N := ["_law_d", "_law_many", "_law_found", "_law_step", "_law_number", "_law_at"]) (sc := defScope s_tuples) (by decide +kernel)) (fun _ _ _ _ _ => pg_name (i := 4) sc_tuples.nd rfl (by first | exact Or.inl rfl | exact Or.inr rfl)) (fun _ _ _ _ _ => pts_nil) (fun _ _ _ _ _ => (pe_callTy (show CallR _ (.type "tuple") (rTupOf K) from call_tup) (by rfl) T.z_tuple (by decide +kernel) (pa_cons (pe_lc (own := [("_law_at", 5)]) (g := gName 5) (tt := tYes) rfl sc_tuples.nd (pi_range1 rfl T.z_range (pa_cons (pv 1) pa_nil)) (blkOk_by (N := ["_law_d", "_law_many", "_law_found", "_law_step", "_law_number", "_law_at"]) (sc := _) (by rfl)) (fun _ _ _ _ _ => pg_name (i := 5) sc_tuples.nd rfl (Or.inl rfl)) (fun _ _ _ _ _ => pts_nil) (fun _ _ _ _ _ => (pe_op op_and (pe_op op_shr (pv 4) (pe_op op_sub (pe_op op_sub (pv 1) pe_int) (pv 5))) pe_int))) pa_nil)))))) pss_nil)
      (pss_cons (ps_set (i := 2) sc_tuples.nd rfl (Or.inl rfl) (pe_lst pa_nil))
      (pss_cons (ps_for PassesOwn.never rfl (pi_range1 rfl T.z_range (pa_cons pe_int pa_nil)) (pg_name (i := 3) sc_tuples.nd rfl (Or.inl rfl))
      (pss_one (ps_expr (pe_bm PySem.F.plainAttrs_list PySem.F.slot_list_append PySem.F.type_list_append mt_append (pv 2) (pa_cons (pe_callTy call_tuple_of (by rfl) T.z_tuple (by decide +kernel) (pa_cons (pe_lc (own := [("_law_at", 5)]) (g := gName 5) (tt := tYes) rfl sc_tuples.nd (pi_range1 rfl T.z_range (pa_cons (pv 1) pa_nil)) (blkOk_by (N := ["_law_d", "_law_many", "_law_found", "_law_step", "_law_number", "_law_at"]) (sc := defScope s_tuples) (by decide +kernel)) (fun _ _ _ _ _ => pg_name (i := 5) sc_tuples.nd rfl (Or.inl rfl)) (fun _ _ _ _ _ => pts_nil) (fun _ _ _ _ _ => (pe_call (ok_draw T) (hr.mono (by decide)) rfl T.m_draw T.F_draw.kp T.b_draw .nil pass0 (pa_cons (pv 0) (pa_cons pe_int pa_nil))))) pa_nil)) pa_nil)))))
      (pss_one (ps_ret (pv 2))))), ?_⟩
  refine ⟨_, rfl, _, _, rfl, rfl, _, rfl, ite2 (fun h3 => ?_) (fun _ => ?_)⟩
  · have h3' : m ≤ 3 := by have := of_decide_eq_true h3; omega
    have hN : 2 ^ m ≤ 8 := Nat.pow_le_pow_right (n := 2) (by decide) h3'
    have hN1 : 1 ≤ 2 ^ m := Nat.one_le_two_pow
    have eN : (1 * 2 ^ ((m : Int)).toNat : Int) = ((2 ^ m : Nat) : Int) := by
      rw [Int.one_mul, Int.toNat_natCast]
      simp
    refine ⟨_, rfl, _, _, rfl, rfl, ⟨by omega, by omega, by decide⟩, ((2 ^ m : Nat) : Int), (show [V.int (1 * 2 ^ ((m : Int)).toNat)] = [V.int ((2 ^ m : Nat) : Int)] from congrArg (fun z => [V.int z]) eN), by omega, by omega, fun D hD => ?_⟩
    have Dd := dr.dne hD
    have Dc := dr.cne hD
    refine lc_range (lo := 0) (n := ((2 ^ m : Nat) : Int).toNat) (fun i H' => Same H H' ∧ ∃ vs, H' D = some (.lst vs) ∧ vs.length = i ∧ ∀ v ∈ vs, Tv m H' v) ⟨same_new hD, [], upd_same, rfl, fun v hv => by cases hv⟩ ?_ ?_
    · rintro i H' hi ⟨sm, vs, h1, h2, h4⟩
      rw [Int.toNat_natCast] at hi
      refine ⟨rfl, yes ⟨_, rfl, (m : Int), rfl, by omega, by omega, fun D2 hD2 => ?_⟩⟩
      have DD : D ≠ D2 := ne_of_none h1 hD2
      refine lc_range (lo := 0) (n := (m : Int).toNat) (fun j H2 => ∃ ts : List Int, H2 = upd H' D2 (.lst (ts.map V.int)) ∧ ts.length = j ∧ bitsI ts) ⟨[], rfl, rfl, fun t ht => by cases ht⟩ ?_ ?_
      · rintro j H2 hj ⟨ts, rfl, e1, e2⟩
        rw [Int.toNat_natCast] at hj
        refine ⟨rfl, yes ⟨_, rfl, _, rfl, _, _, rfl, rfl, _, rfl, _, _, rfl, rfl, _, _, rfl, rfl, (by show (0 : Int) ≤ (m : Int) - 1 - (0 + (j : Int)); omega), _, _, rfl, rfl, ?_⟩⟩
        refine ⟨_, upd_same, small1000 (by rw [List.length_map]; omega), ts ++ [Builtin.bitAnd ((0 + (i : Int)) / 2 ^ ((m : Int) - 1 - (0 + (j : Int))).toNat) 1], ?_, by rw [List.length_append, e1]; rfl, bits_snoc e2 ?_⟩
        · rw [upd_upd, List.map_append]
          rfl
        · rw [bitAnd_m1]
          omega
      · rintro H2 ⟨ts, rfl, e1, e2⟩
        rw [Int.toNat_natCast] at e1
        refine ⟨D2, _, rfl, .inl ⟨SqL.of upd_same, fun t ht => ?_⟩⟩
        have s2 : Same H' (upd (upd H' D2 (.lst (ts.map V.int))) t (.tup (ts.map V.int))) := (same_new hD2).trans (same_new ht)
        have hv : Tv m (upd (upd H' D2 (.lst (ts.map V.int))) t (.tup (ts.map V.int))) (.ref t) := ⟨t, ts, rfl, upd_same, e2, e1⟩
        generalize upd (upd H' D2 (.lst (ts.map V.int))) t (.tup (ts.map V.int)) = H3 at s2 hv
        have h3 := s2 _ _ h1
        have tw := TS.wr (o := .lst (vs ++ [.ref t])) h3
        refine ⟨vs, h3, small1000 (by omega), fun b u e => upd_else (s2 _ _ (sm _ _ e)) (ne_of_none e hD), _, upd_same, by rw [List.length_append, h2]; rfl, fun v hv' => ?_⟩
        rcases List.mem_append.mp hv' with k | k
        · exact ((h4 v k).mono (TS.of s2)).mono tw
        · rw [List.mem_singleton.mp k]
          exact hv.mono tw
    · rintro H' ⟨sm, vs, h1, h2, h4⟩
      rw [Int.toNat_natCast] at h2
      refine q D H' ⟨vs, h1, fun z => ?_, by omega, h4⟩ Dd Dc (dr.same sm) (Keep.of sm)
      rw [z] at h2
      simp at h2
      omega
  · refine ⟨sl 0, fun F hF => ?_⟩
    have Fd := dr.dne hF
    have Fc := dr.cne hF
    refine ⟨6, rfl, by decide, by decide, ?_⟩
    refine for_range (lo := 0) (n := 6) (fun i σ G => ∃ v3 : Option V, σ = [some (.ref d), some (.int m), some (.ref F), v3, none, none] ∧ Dr d c G ∧ Keep d H G ∧ ∃ vs, G F = some (.lst vs) ∧ vs.length = i ∧ ∀ v ∈ vs, Tv m G v) ⟨none, rfl, dr.new hF, Keep.new hF, [], upd_same, rfl, fun v hv => by cases hv⟩ ?_ ?_
    · rintro i σ G hi ⟨v3, rfl, drG, kG, vs, h1, h2, h4⟩
      refine ⟨_, rfl, .inl ⟨rfl, _, SqL.of h1⟩, _, rfl, (m : Int), rfl, by omega, by omega, fun D hD => ?_⟩
      have Dd := drG.dne hD
      have Dc := drG.cne hD
      have FD : F ≠ D := ne_of_none h1 hD
      refine lc_range (lo := 0) (n := (m : Int).toNat) (fun j H2 => Dr d c H2 ∧ Keep d G H2 ∧ ∃ ts : List Int, H2 D = some (.lst (ts.map V.int)) ∧ ts.length = j ∧ bitsI ts) ⟨drG.new hD, Keep.new hD, [], upd_same, rfl, fun t ht => by cases ht⟩ ?_ ?_
      · rintro j H2 hj ⟨dr2, k2, ts, d1, e1, e2⟩
        rw [Int.toNat_natCast] at hj
        refine ⟨rfl, yes ⟨_, rfl, _, _, rfl, d, c, 2, rfl, rfl, dr2, by decide, by decide, fun r H3 a3 b3 dr3 k3 => ?_⟩⟩
        have d3 := k3 _ _ d1 Dd
        refine ⟨_, d3, small1000 (by rw [List.length_map]; omega), dr3.else Dd Dc, fun b u e n => upd_else ((k2.trans k3) _ _ e n) (ne_of_none e hD), ts ++ [r], ?_, by rw [List.length_append, e1]; rfl, bits_snoc e2 (by omega)⟩
        rw [upd_same, List.map_append]
        rfl
      · rintro H2 ⟨dr2, k2, ts, d1, e1, e2⟩
        rw [Int.toNat_natCast] at e1
        refine ⟨D, _, rfl, .inl ⟨SqL.of d1, fun t ht => ?_⟩⟩
        have hF2 := same_new (o := .tup (ts.map V.int)) ht _ _ (k2 _ _ h1 Fd)
        have hv : Tv m (upd H2 t (.tup (ts.map V.int))) (.ref t) := ⟨t, ts, rfl, upd_same, e2, e1⟩
        have k3 : Keep d G (upd H2 t (.tup (ts.map V.int))) := k2.trans (Keep.new ht)
        have ts3 : TS G (upd H2 t (.tup (ts.map V.int))) := TS.trans (TS.dr drG k2) (TS.new ht)
        have dr3 : Dr d c (upd H2 t (.tup (ts.map V.int))) := dr2.new ht
        generalize upd H2 t (.tup (ts.map V.int)) = H3 at hF2 hv k3 ts3 dr3
        refine ⟨F, vs, _, rfl, rfl, hF2, small1000 (by omega), ?_⟩
        have tw := TS.wr (o := .lst (vs ++ [.ref t])) hF2
        refine ⟨_, rfl, dr3.else Fd Fc, fun b u e n => upd_else ((kG.trans k3) _ _ e n) (ne_of_none e hF), _, upd_same, by rw [List.length_append, h2]; rfl, fun v hv' => ?_⟩
        rcases List.mem_append.mp hv' with k | k
        · exact ((h4 v k).mono ts3).mono tw
        · rw [List.mem_singleton.mp k]
          exact hv.mono tw
    · rintro σ G ⟨v3, rfl, drG, kG, vs, h1, h2, h4⟩
      refine ⟨_, rfl, q F G ⟨vs, h1, fun z => ?_, by omega, h4⟩ Fd Fc drG kG⟩
      rw [z] at h2
      simp at h2
end

/-! ### the law -/
theorem enterL_ex (own : List Str) : ∀ (ks : List E) (f : List E), ∃ g, enterL own ks f = f ++ g
  | [], f => ⟨[], by simp [enterL]⟩
  | k :: ks, f => by
    obtain ⟨g1, e1⟩ := E.enter_app own k f
    obtain ⟨g2, e2⟩ := enterL_ex own ks (k.enter own f)
    refine ⟨g1 ++ g2, ?_⟩
    show enterL own ks (k.enter own f) = _
    rw [e2, e1, List.append_assoc]
theorem enterL_cov (own : List Str) : ∀ (ks : List E) (f : List E), (∀ e ∈ ks, e.ok) → ∀ e ∈ ks, e.cov own (enterL own ks f)
  | [], _, _, _, h => by cases h
  | k :: ks, f, ho, e, he => by
    show e.cov own (enterL own ks (k.enter own f))
    rcases List.mem_cons.mp he with h | h
    · subst h
      obtain ⟨g, eg⟩ := enterL_ex own ks (e.enter own f)
      rw [eg]
      exact E.cov_app e (E.enter_cov own e f (ho e (by simp)))
    · exact enterL_cov own ks _ (fun x hx => ho x (by simp [hx])) e h
theorem Dr.keep {d c q : Addr} {H H' : Hp} (dr : Dr d c H) (k : Keep q H H') (n1 : d ≠ q) (n2 : c ≠ q) : Dr d c H' := by
  obtain ⟨cells, i, big, seed, cnt, h1, h2, h3⟩ := dr
  exact ⟨cells, i, big, seed, cnt, k _ _ h1 n1, k _ _ h2 n2, h3⟩
theorem cutV_from {xs : List V} {i : Nat} : cutV xs (some (i : Int)) none = xs.drop i := by
  unfold cutV
  rw [HT.sIx_nat]
  show (xs.drop (min i xs.length)).take (xs.length - min i xs.length) = _
  rcases Nat.le_total i xs.length with h | h
  · rw [Nat.min_eq_left h, List.take_of_length_le (by rw [List.length_drop]; exact Nat.le_refl _)]
  · rw [Nat.min_eq_right h, List.drop_eq_nil_of_le h, List.drop_eq_nil_of_le (Nat.le_refl _), List.take_nil]
theorem lB_31 {k : Nat} (h : k < 3) : lB k ≤ 31 := by
  rcases (show k = 0 ∨ k = 1 ∨ k = 2 by omega) with rfl | rfl | rfl <;> decide
theorem szs_31 : ∀ es : List E, (∀ e ∈ es, e.sz ≤ 31) → szs es ≤ 31 * es.length
  | [], _ => Nat.le_refl _
  | e :: r, h => by
    have h1 := h e (by simp)
    have h2 := szs_31 r fun x hx => h x (by simp [hx])
    show e.sz + szs r ≤ 31 * (r.length + 1)
    omega
theorem shapedOs {os : List O} : SeqAt.shaped (.tuple (os.map oD)) = true := by
  have h1 : ∀ os : List O, plainAll (os.map oD) = true := fun os => by
    induction os with
    | nil => rfl
    | cons o r ih =>
      show (plainD (oD o) && plainAll (r.map oD)) = true
      rw [oD_plain, ih]
      rfl
  have h2 : ∀ os : List O, PyData.depthAll (os.map oD) = 0 := fun os => by
    induction os with
    | nil => simp [PyData.depthAll]
    | cons o r ih =>
      simp only [List.map_cons, PyData.depthAll, ih]
      cases o <;> simp [oD, PyData.depth]
  show (PyData.canLay0 (.tuple (os.map oD)) && decide (PyData.depth (.tuple (os.map oD)) ≤ 64)) = true
  rw [show PyData.canLay0 (.tuple (os.map oD)) = true from plain_layAll _ (h1 os), decide_eq_true (by simp only [PyData.depth, h2]; omega)]
  rfl
theorem dp_os {K : PySem.W.Frag} {H : Hp} : ∀ os : List O, DpAll K H (os.map ov) (os.map oD)
  | [] => .nil
  | o :: r => .cons (ov_dp o) (dp_os r)
theorem kp0 {d : Addr} {H : Hp} : Keep d (fun _ => none) H := fun _ _ e => by cases e
def rLaw (K : PySem.W.Frag) : V → Hp → VK → Prop := fun x H Q => ∃ (a : Addr) (ns : List Int), x = .ref a ∧ SqL K H a (ns.map V.int) ∧ ns.length ≤ 63 ∧ ∀ H', Q (.bl true) H'
section
variable {P : Program} {w : World} {K : PySem.W.Frag} {mg : Str → Option Value} {base : Heap}
theorem ok_law (T : Tx K mg w) : FnOk P w K mg base CX0 29 T.f_law T.fd_law ["_law_script"] (sp1 (rLaw K)) := by
  refine okR1 T.F_law sc_law rfl fun cdv A outer s H Q EE x hr h => ?_
  obtain ⟨a, ns, rfl, hS, h63, q⟩ := h
  refine ⟨_, pss_cons (ps_set (i := 1) sc_law.nd rfl (Or.inl rfl) (pe_call (ok_begin T) (hr.mono (by decide)) rfl T.m_begin T.F_begin.kp T.b_begin .nil pass0 (pa_cons (pv 0) pa_nil)))
      (pss_cons (ps_set (i := 2) sc_law.nd rfl (Or.inl rfl) (pe_op op_add pe_int (pe_call (ok_draw T) (hr.mono (by decide)) rfl T.m_draw T.F_draw.kp T.b_draw .nil pass0 (pa_cons (pv 1) (pa_cons pe_int pa_nil)))))
      (C8.pss_cut (ps_if (pt_val (pe_call (ok_rare T) (hr.mono (by decide)) rfl T.m_rare T.F_rare.kp T.b_rare .nil pass0 (pa_cons (pv 1) (pa_cons pe_int pa_nil)))) (pss_one (ps_set (i := 2) sc_law.nd rfl (Or.inl rfl) (pe_op op_add (pv 2) pe_int))) pss_nil)
      (pss_cons (ps_set (i := 3) sc_law.nd rfl (Or.inl rfl) (pe_call (ok_names T) (hr.mono (by decide)) rfl T.m_names T.F_names.kp T.b_names .nil pass0 (pa_cons (pv 1) (pa_cons (pe_op op_add pe_int (pv 2)) pa_nil))))
      (pss_cons (ps_set (i := 4) sc_law.nd rfl (Or.inl rfl) (pe_slice sl_list (pv 3) (po_some pe_int) po_none))
      (pss_cons (ps_set (i := 5) sc_law.nd rfl (Or.inl rfl) (pe_lst pa_nil))
      (pss_cons (ps_for PassesOwn.never rfl (pi_range1 rfl T.z_range (pa_cons (pe_op op_add pe_int (pe_call (ok_draw T) (hr.mono (by decide)) rfl T.m_draw T.F_draw.kp T.b_draw .nil pass0 (pa_cons (pv 1) (pa_cons pe_int pa_nil)))) pa_nil)) (pg_name (i := 6) sc_law.nd rfl (Or.inl rfl))
      (pss_one (ps_expr (pe_bm PySem.F.plainAttrs_list PySem.F.slot_list_append PySem.F.type_list_append mt_append (pv 5) (pa_cons (pe_call (ok_free_part T) (hr.mono (by decide)) rfl T.m_free_part T.F_free_part.kp T.b_free_part .nil pass0 (pa_cons (pv 1) (pa_cons (pv 4) (pa_cons (pv 3) pa_nil)))) pa_nil)))))
      (pss_cons (ps_set (i := 7) sc_law.nd rfl (Or.inl rfl) (pe_lst pa_nil))
      (pss_cons (ps_for PassesOwn.never rfl (pi_range1 rfl T.z_range (pa_cons (pv 2) pa_nil)) (pg_name (i := 8) sc_law.nd rfl (Or.inl rfl))
      (pss_one (ps_expr (pe_bm PySem.F.plainAttrs_list PySem.F.slot_list_append PySem.F.type_list_append mt_append (pv 7) (pa_cons (pe_call (ok_linked T) (hr.mono (by decide)) rfl T.m_linked T.F_linked.kp T.b_linked .nil pass0 (pa_cons (pv 1) (pa_cons (pv 4) (pa_cons (pv 5) (pa_cons (pe_ix ix_list (pv 4) (pe_op op_mod (pe_callTy call_int1 (by rfl) T.z_int (by decide +kernel) (pa_cons (pe_op op_add (pv 8) pe_int) pa_nil)) (pv 2)) (fun _ _ => rfl)) (pa_cons (pe_call (ok_draw T) (hr.mono (by decide)) rfl T.m_draw T.F_draw.kp T.b_draw .nil pass0 (pa_cons (pv 1) (pa_cons pe_int pa_nil))) pa_nil)))))) pa_nil)))))
      (pss_cons (ps_set (i := 9) sc_law.nd rfl (Or.inl rfl) (pe_lst pa_nil))
      (pss_cons (ps_for PassesOwn.never rfl (pi_list (pv 7)) (pg_name (i := 10) sc_law.nd rfl (Or.inl rfl))
      (pss_one (ps_expr (pe_call (ok_enter T) (hr.mono (by decide)) rfl T.m_enter T.F_enter.kp T.b_enter .nil pass0 (pa_cons (pv 10) (pa_cons (pv 4) (pa_cons (pv 9) pa_nil)))))))
      (pss_cons (ps_set (i := 11) sc_law.nd rfl (Or.inl rfl) (pe_call (ok_tuples T) (hr.mono (by decide)) rfl T.m_tuples T.F_tuples.kp T.b_tuples .nil pass0 (pa_cons (pv 1) (pa_cons (pe_callB call_len_seq (by rfl) T.z_len (by decide +kernel) (pa_cons (pv 9) pa_nil)) pa_nil))))
      (pss_cons (ps_for PassesOwn.never rfl (pi_list (pv 11)) (pg_name (i := 12) sc_law.nd rfl (Or.inl rfl))
      (pss_cons (ps_set (i := 13) sc_law.nd rfl (Or.inl rfl) (pe_call (ok_settle T) (hr.mono (by decide)) rfl T.m_settle T.F_settle.kp T.b_settle .nil pass0 (pa_cons (pe_callTy call_tuple_fz (by rfl) T.z_tuple (by decide +kernel) (pa_cons (pv 4) pa_nil)) (pa_cons (pe_callTy call_tuple_of (by rfl) T.z_tuple (by decide +kernel) (pa_cons (pv 7) pa_nil)) (pa_cons (pe_callTy call_tuple_fz (by rfl) T.z_tuple (by decide +kernel) (pa_cons (pv 9) pa_nil)) (pa_cons (pv 12) pa_nil))))))
      (pss_one (ps_if (pt_not (pt_val (pe_call (ok_alike T) (hr.mono (by decide)) rfl T.m_alike T.F_alike.kp T.b_alike .nil pass0 (pa_cons (pv 13) (pa_cons (pe_call (ok_settled T) (hr.mono (by decide)) rfl T.m_settled T.F_settled.kp T.b_settled .nil pass0 (pa_cons (pv 4) (pa_cons (pv 7) (pa_cons (pv 9) (pa_cons (pv 12) pa_nil))))) pa_nil))))) (pss_one (ps_ret pe_bl)) pss_nil))))
      (pss_one (ps_ret (pe_cmpR (op_eqD hr.units) (pe_call (ok_settle T) (hr.mono (by decide)) rfl T.m_settle T.F_settle.kp T.b_settle .nil pass0 (pa_cons (pe_callTy call_tuple_fz (by rfl) T.z_tuple (by decide +kernel) (pa_cons (pv 4) pa_nil)) (pa_cons (pe_callTy call_tuple_of (by rfl) T.z_tuple (by decide +kernel) (pa_cons (pv 7) pa_nil)) (pa_cons (pe_callTy call_tuple_fz (by rfl) T.z_tuple (by decide +kernel) (pa_cons (pv 9) pa_nil)) (pa_cons (pe_ix ix_list (pv 11) pe_int (fun _ _ => rfl)) pa_nil))))) (pe_callTy call_tuple_of (by rfl) T.z_tuple (by decide +kernel) (pa_cons (pe_call (ok_settled T) (hr.mono (by decide)) rfl T.m_settled T.F_settled.kp T.b_settled .nil pass0 (pa_cons (pv 4) (pa_cons (pv 7) (pa_cons (pv 9) (pa_cons (pe_ix ix_list (pv 11) pe_int (fun _ _ => rfl)) pa_nil))))) pa_nil)) (nomark _)))))))))))))))), ?_⟩
  refine ⟨_, rfl, _, rfl, a, ns, rfl, hS, h63, fun d c H1 dr1 s1 => ?_⟩
  -- how many
  refine ⟨_, rfl, _, _, rfl, d, c, 4, rfl, rfl, dr1, by decide, by decide, fun r2 H2 a2 b2 dr2 k2 => ⟨_, _, rfl, rfl, ?_⟩⟩
  refine ⟨fun σ G => ∃ m : Nat, σ = [some (.ref a), some (.ref d), some (.int m), none, none, none, none, none, none, none, none, none, none, none] ∧ 1 ≤ m ∧ m ≤ 7 ∧ Dr d c G, ?_, ?_⟩
  · refine ⟨_, rfl, _, _, rfl, d, c, 6, rfl, rfl, dr2, by decide, by decide, fun rr H3 dr3 k3 => ⟨_, rfl, ?_⟩⟩
    obtain ⟨j, rfl⟩ := Int.eq_ofNat_of_zero_le a2
    cases rr with
    | true => exact iteT ⟨_, rfl, _, _, rfl, rfl, 1 + j + 3, (by show _ = [_, _, some (V.int ((1 + j + 3 : Nat) : Int)), _, _, _, _, _, _, _, _, _, _, _]; rfl), by omega, by omega, dr3⟩
    | false => exact iteF ⟨1 + j, rfl, by omega, by omega, dr3⟩
  rintro σ G ⟨m, rfl, m1, m7, dr3⟩
  -- names
  refine ⟨_, rfl, _, rfl, _, _, rfl, rfl, _, _, rfl, d, c, 5 + m, rfl, (show V.int (5 + (m : Int)) = V.int ((5 + m : Nat) : Int) from congrArg V.int (by omega)), dr3, by omega, fun p ys H4 nm pd pc dr4 k4 => ?_⟩
  refine ⟨_, rfl, _, rfl, p, _, rfl, SqL.of nm.1, fun p2 hp2 => ?_⟩
  rw [show (some (5 : Int)) = some (((5 : Nat) : Int)) from rfl, cutV_from, ← List.map_drop]
  have nm2 : Names (upd H4 p2 (.lst ((ys.drop 5).map V.str))) p2 m (ys.drop 5) := ⟨upd_same, by rw [List.length_drop, nm.2.1]; omega, fun y hy => nm.2.2 y (List.mem_of_mem_drop hy)⟩
  have pp : p ≠ p2 := ne_of_none nm.1 hp2
  have nm1 : Names (upd H4 p2 (.lst ((ys.drop 5).map V.str))) p (5 + m) ys := ⟨upd_else nm.1 pp, nm.2⟩
  have p2d := dr4.dne hp2
  have p2c := dr4.cne hp2
  have dr5 : Dr d c (upd H4 p2 (.lst ((ys.drop 5).map V.str))) := dr4.new hp2
  generalize upd H4 p2 (.lst ((ys.drop 5).map V.str)) = H5 at nm1 nm2 dr5
  generalize ys.drop 5 = own at nm2
  -- free parts
  refine ⟨sl 0, fun f hf => ?_⟩
  have fd := dr5.dne hf
  have fc := dr5.cne hf
  have fp2 : f ≠ p2 := (ne_of_none nm2.1 hf).symm
  have fp : f ≠ p := (ne_of_none nm1.1 hf).symm
  have dr6 : Dr d c (upd H5 f (.lst [])) := dr5.new hf
  have nf1 : Names (upd H5 f (.lst [])) p (5 + m) ys := ⟨upd_else nm1.1 fp.symm, nm1.2⟩
  have nf2 : Names (upd H5 f (.lst [])) p2 m own := ⟨upd_else nm2.1 fp2.symm, nm2.2⟩
  have f0 : (upd H5 f (.lst [])) f = some (.lst []) := upd_same
  generalize upd H5 f (.lst []) = H6 at dr6 nf1 nf2 f0
  refine ⟨_, rfl, _, _, rfl, d, c, 6, rfl, rfl, dr6, by decide, by decide, fun r7 H7 a7 b7 dr7 k7 => ⟨_, _, rfl, rfl, _, rfl, by omega, by omega, ?_⟩⟩
  refine for_range (lo := 0) (n := (2 + r7).toNat) (fun i σ G => ∃ (v6 : Option V) (fs : List E) (fv : List V), σ = [some (.ref a), some (.ref d), some (.int m), some (.ref p), some (.ref p2), some (.ref f), v6, none, none, none, none, none, none, none] ∧
    FP d c p2 p m (5 + m) own ys (fun _ => none) G ∧ G f = some (.lst fv) ∧ TdAll G (fs.map E.d) fv ∧ fs.length = i ∧ ∀ e ∈ fs, frE e)
    ⟨none, [], [], rfl, ⟨dr7, kp0, ⟨k7 _ _ nf2.1 p2d, nf2.2⟩, ⟨k7 _ _ nf1.1 pd, nf1.2⟩, p2d, pd⟩, k7 _ _ f0 fd, rfl, rfl, fun e he => by cases he⟩ ?_ ?_
  · rintro i σ G hi ⟨v6, fs, fv, rfl, fpG, hfG, tfG, lfG, gfG⟩
    have lv := TdAll.len _ _ tfG
    rw [List.length_map] at lv
    refine ⟨_, rfl, .inl ⟨rfl, _, SqL.of hfG⟩, _, rfl, _, rfl, _, rfl, _, _, _, rfl, d, c, p2, p, m, 5 + m, own, ys, rfl, rfl, rfl, ⟨fpG.dr, Keep.refl _ _, fpG.n1, fpG.n2, p2d, pd⟩, m1, by omega, by omega, by omega, fun v e H8 te fe dr8 k8 => ?_⟩
    have hf8 := k8 _ _ hfG fd
    have tw := TS.wr (o := .lst (fv ++ [v])) hf8
    refine ⟨f, fv, v, rfl, rfl, hf8, small1000 (by omega), _, fs ++ [e], fv ++ [v], rfl, ?_, upd_same, ?_, by rw [List.length_append, lfG]; rfl, fun x hx => ?_⟩
    · have g8 := fpG.go dr8 k8
      exact ⟨dr8.else fd fc, kp0, ⟨upd_else g8.n1.1 fp2.symm, g8.n1.2⟩, ⟨upd_else g8.n2.1 fp.symm, g8.n2.2⟩, p2d, pd⟩
    · rw [List.map_append]
      exact TdAll.mono tw _ _ (TdAll.app _ _ _ _ (TdAll.mono (TS.dr fpG.dr k8) _ _ tfG) ⟨v, [], rfl, te, rfl⟩)
    · rcases List.mem_append.mp hx with h | h
      · exact gfG x h
      · rw [List.mem_singleton.mp h]
        exact fe
  rintro σ G ⟨v6, fs, fv, rfl, fpG, hfG, tfG, lfG, gfG⟩
  have lv := TdAll.len _ _ tfG
  rw [List.length_map] at lv
  have fsne : fs ≠ [] := fun z => by
    rw [z] at lfG
    simp at lfG
    omega
  have fs20 : fs.length ≤ 20 := by omega
  have lp : LP d c p2 f m own fs (fun _ => none) G := ⟨fpG.dr, kp0, fpG.n1, ⟨fv, hfG, tfG, fsne, fs20, gfG⟩, p2d, fd⟩
  have fv6 := v6
  clear fpG nf1 nf2 nm1 nm nm2 f0 hfG tfG
  -- exprs
  refine ⟨sl 0, fun x hx => ?_⟩
  have xd := lp.dr.dne hx
  have xc := lp.dr.cne hx
  have xp2 : x ≠ p2 := (ne_of_none lp.n1.1 hx).symm
  have xf : x ≠ f := by
    obtain ⟨fv, h1, _⟩ := lp.fr
    exact (ne_of_none h1 hx).symm
  have lp1 := lp.new (o := .lst []) hx
  have x0 : (upd G x (.lst [])) x = some (.lst []) := upd_same
  generalize upd G x (.lst []) = G1 at lp1 x0
  refine ⟨_, rfl, (m : Int), rfl, by omega, by omega, ?_⟩
  refine for_range (lo := 0) (n := (m : Int).toNat) (fun i σ G => ∃ (v8 : Option V) (es : List E) (ev : List V), σ = [some (.ref a), some (.ref d), some (.int m), some (.ref p), some (.ref p2), some (.ref f), v6, some (.ref x), v8, none, none, none, none, none] ∧
    LP d c p2 f m own fs (fun _ => none) G ∧ G x = some (.lst ev) ∧ TdAll G (es.map E.d) ev ∧ es.length = i ∧ ∀ e ∈ es, e.ok ∧ e.dp ≤ 4 ∧ e.sz ≤ 31)
    ⟨none, [], [], rfl, lp1, x0, rfl, rfl, fun e he => by cases he⟩ ?_ ?_
  · rintro i σ G2 hi ⟨v8, es, ev, rfl, lp2, hx2, te2, le2, ge2⟩
    rw [Int.toNat_natCast] at hi
    have lev := TdAll.len _ _ te2
    rw [List.length_map] at lev
    have m0 : (0 : Int) < (m : Int) := by omega
    have i1 : 0 ≤ (0 + (i : Int) + 1) % (m : Int) := Int.emod_nonneg _ (by omega)
    have i2 : (0 + (i : Int) + 1) % (m : Int) < (m : Int) := Int.emod_lt_of_pos _ m0
    obtain ⟨zs, e1, oz, _⟩ := names_at lp2.n1 i1 i2
    refine ⟨_, rfl, .inl ⟨rfl, _, SqL.of hx2⟩, _, rfl, _, rfl, _, rfl, _, rfl, _, rfl, _, _, rfl, rfl, .inl ⟨_, rfl, _, rfl, _, _, rfl, rfl, m0, p2, _, _, _, rfl, rfl, SqL.of lp2.n1.1, e1, ?_⟩⟩
    refine ⟨_, rfl, _, _, rfl, d, c, 3, rfl, rfl, lp2.dr, by decide, by decide, fun r3 H3 a3 b3 dr3 k3 => ?_⟩
    have lp3 := lp2.go dr3 k3
    obtain ⟨kd, rfl⟩ := Int.eq_ofNat_of_zero_le a3
    have kd3 : kd < 3 := by omega
    refine ⟨_, _, _, _, _, rfl, d, c, p2, f, m, kd, own, fs, zs, rfl, rfl, rfl, rfl, rfl, oz, lp3.base, m1, by omega, kd3, fun v e H4 tv lk dr4 k4 => ?_⟩
    have lp4 := lp3.go dr4 k4
    have hx4 := k4 _ _ (k3 _ _ hx2 xd) xd
    have te4 := TdAll.mono (TS.dr lp3.dr k4) _ _ (TdAll.mono (TS.dr lp2.dr k3) _ _ te2)
    have tw := TS.wr (o := .lst (ev ++ [v])) hx4
    refine ⟨x, ev, v, rfl, rfl, hx4, small1000 (by omega), _, es ++ [e], ev ++ [v], rfl, lp4.wr hx4 rfl xd xc xp2 xf, upd_same, ?_, by rw [List.length_append, le2]; rfl, fun y hy => ?_⟩
    · rw [List.map_append]
      exact TdAll.mono tw _ _ (TdAll.app _ _ _ _ te4 ⟨v, [], rfl, tv, rfl⟩)
    · rcases List.mem_append.mp hy with h | h
      · exact ge2 y h
      · rw [List.mem_singleton.mp h]
        exact ⟨lk.1, by have := lk.2.1; omega, Nat.le_trans lk.2.2 (lB_31 kd3)⟩
  rintro σ G2 ⟨v8, es, ev, rfl, lp2, hx2, te2, le2, ge2⟩
  rw [Int.toNat_natCast] at le2
  have lev := TdAll.len _ _ te2
  rw [List.length_map] at lev
  have goodEs : ∀ e ∈ es, goodE e := fun e he => ⟨(ge2 e he).1, by have := (ge2 e he).2.1; omega⟩
  have s31 := szs_31 es fun e he => (ge2 e he).2.2
  have own2 := lp2.n1
  -- parts
  refine ⟨sl 0, fun t ht => ?_⟩
  have td := lp2.dr.dne ht
  have tc := lp2.dr.cne ht
  have tp2 : p2 ≠ t := ne_of_none own2.1 ht
  have tx : x ≠ t := ne_of_none hx2 ht
  have dr3 : Dr d c (upd G2 t (.lst [])) := lp2.dr.new ht
  have o3 : Names (upd G2 t (.lst [])) p2 m own := ⟨upd_else own2.1 tp2, own2.2⟩
  have x3 := upd_else (o := .lst []) hx2 tx
  have te3 := TdAll.mono (TS.new (o := .lst []) ht) _ _ te2
  have t3 : (upd G2 t (.lst [])) t = some (.lst []) := upd_same
  generalize upd G2 t (.lst []) = G3 at dr3 o3 x3 te3 t3
  refine ⟨_, rfl, x, rfl, ⟨_, SqL.of x3⟩, for_list (K := K) (a := x) (xs := ev) (fun i σ G => ∃ (v10 : Option V) (pvs : List V), σ = [some (.ref a), some (.ref d), some (.int m), some (.ref p), some (.ref p2), some (.ref f), v6, some (.ref x), v8, some (.ref t), v10, none, none, none] ∧
    Keep t G3 G ∧ G t = some (.lst pvs) ∧ TdAll G ((enterL own (es.take i) []).map E.d) pvs ∧ (∀ e ∈ enterL own (es.take i) [], goodE e) ∧ (enterL own (es.take i) []).length ≤ szs (es.take i))
    ⟨none, [], rfl, Keep.refl _ _, t3, rfl, (fun e he => by cases he), Nat.le_refl _⟩ ?_ ?_ ?_⟩
  · rintro i σ G _ ⟨v10, pvs, rfl, kG, _⟩
    exact SqL.of (kG _ _ x3 tx)
  · rintro i v σ G hi ⟨v10, pvs, rfl, kG, hG, tG, gG, lG⟩
    have hil : i < es.length := by
      have := (List.getElem?_eq_some_iff.mp hi).1
      omega
    obtain ⟨v', hv1, hv2⟩ := TdAll.at i _ _ (es[i]).d te3 (by rw [List.getElem?_map, List.getElem?_eq_getElem hil] <;> rfl)
    rw [hi] at hv1
    cases hv1
    have hk := List.getElem_mem hil
    have gk := goodEs _ hk
    have tsz := szs_take es (i + 1)
    rw [take_one hil, szs_app] at tsz
    have tsz' : szs (es.take i) + (es[i].sz + 0) ≤ szs es := tsz
    refine ⟨_, rfl, _, rfl, _, rfl, _, _, _, rfl, p2, t, es[i], own, enterL own (es.take i) [], pvs, rfl, rfl, tp2, Td.mono (TS.keep kG ⟨_, t3⟩) _ _ hv2, kG _ _ o3.1 tp2, hG, tG, gk, gG, by omega, by have := gk.2; omega, fun H' fv' k4 h4 t4 => ?_⟩
    have e1 : enterL own (es.take (i + 1)) [] = (es[i]).enter own (enterL own (es.take i) []) := by
      rw [take_one hil, enterL_app]
      rfl
    refine ⟨_, fv', rfl, kG.trans k4, h4, by rw [e1]; exact t4, ?_, ?_⟩
    · rw [e1]
      exact E.enter_good own _ _ gk gG
    · rw [e1, take_one hil, szs_app]
      have := E.enter_len own es[i] (enterL own (es.take i) [])
      show _ ≤ szs (es.take i) + (es[i].sz + 0)
      omega
  rintro σ G4 ⟨v10, pvs, rfl, kG, hG, tG, gG, lG⟩
  rw [lev, List.take_length] at tG gG lG
  have dr4 := dr3.keep kG td.symm tc.symm
  have o4 : Names G4 p2 m own := ⟨kG _ _ o3.1 tp2, o3.2⟩
  have x4 := kG _ _ x3 tx
  have te4 := TdAll.mono (TS.keep kG ⟨_, t3⟩) _ _ te3
  have cov := enterL_cov own es [] fun e he => (ge2 e he).1
  generalize enterL own es [] = ps at tG gG lG cov
  have lpv := TdAll.len _ _ tG
  rw [List.length_map] at lpv
  -- truths
  refine ⟨_, rfl, _, rfl, t, _, rfl, .inl (SqL.of hG), _, _, rfl, d, c, pvs.length, rfl, rfl, dr4, by omega, fun r H5 tup rd rcn dr5 k5 => ?_⟩
  have o5 : H5 p2 = some (.lst (own.map V.str)) := k5 _ _ o4.1 p2d
  have x5 := k5 _ _ x4 xd
  have te5 := TdAll.mono (TS.dr dr4 k5) _ _ te4
  have t5 := k5 _ _ hG td
  have tp5 := TdAll.mono (TS.dr dr4 k5) _ _ tG
  obtain ⟨rvs, r1, r2, r3, r4⟩ := tup
  have ex : ExOk own ps es := ⟨fun e he => ⟨goodEs e he, cov e he, by have := (ge2 e he).2.2; omega⟩, gG, by omega⟩
  have sets : ∀ ts : List Int, bitsI ts → ts.length = pvs.length → St0.sets ⟨own, ps, ts, es⟩ := fun ts hb hl => ⟨⟨hb, fun e he => (ge2 e he).1⟩, ex, by show ps.length = ts.length; omega, by show own.length = es.length; rw [o4.2.1, le2]⟩
  -- what settle and the law's own settling give
  have told : ∀ (ts : List Int) (tt : Addr) (G : Hp) (Qs : VK), bitsI ts → ts.length = pvs.length → Same H5 G → G tt = some (.tup (ts.map V.int)) →
      (∀ (p' : Addr) (H' : Hp), Same G H' → H' p' = some (.tup (((St0.mk own ps ts es).iter es.length).map ov)) → Qs (.ref p') H') → ∀ (l1 l2 l3 : Addr) (o1 o3 : HO), G l1 = none → Fz (upd G l1 o1) l1 (own.map V.str) → (upd G l1 o1) l2 = none → (upd (upd G l1 o1) l2 (.tup ev)) l3 = none → Fz (upd (upd (upd G l1 o1) l2 (.tup ev)) l3 o3) l3 pvs →
      rSettle (.ref l1) (.ref l2) (.ref l3) (.ref tt) (upd (upd (upd G l1 o1) l2 (.tup ev)) l3 o3) Qs := fun ts tt G Qs hb hl sm htt k l1 l2 l3 o1 o3 n1 f1 n2 n3 f3 => by
    have s1 : Same G (upd G l1 o1) := same_new n1
    have s2 : Same (upd G l1 o1) (upd (upd G l1 o1) l2 (.tup ev)) := same_new n2
    have s3 : Same (upd (upd G l1 o1) l2 (.tup ev)) (upd (upd (upd G l1 o1) l2 (.tup ev)) l3 o3) := same_new n3
    have sA := (s1.trans s2).trans s3
    exact ⟨l1, l2, l3, tt, ⟨own, ps, ts, es⟩, pvs, ev, rfl, rfl, rfl, rfl, f1.same (s2.trans s3), s3 _ _ upd_same, TdAll.mono (TS.of (sm.trans sA)) _ _ te5, f3, TdAll.mono (TS.of (sm.trans sA)) _ _ tp5, sA _ _ htt, sets ts hb hl, fun p' H' s' h' => k p' H' (sA.trans s') h'⟩
  have due : ∀ (ts : List Int) (tt : Addr) (G : Hp) (Qs : VK), bitsI ts → ts.length = pvs.length → Same H5 G → G tt = some (.tup (ts.map V.int)) →
      (∀ (p' : Addr) (H' : Hp), Same G H' → H' p' = some (.lst (((St0.mk own ps ts es).iter es.length).map ov)) → Qs (.ref p') H') → rSettled (.ref p2) (.ref x) (.ref t) (.ref tt) G Qs := fun ts tt G Qs hb hl sm htt k =>
    ⟨p2, x, t, tt, ⟨own, ps, ts, es⟩, ev, pvs, rfl, rfl, rfl, rfl, sm _ _ o5, sm _ _ x5, TdAll.mono (TS.of sm) _ _ te5, sm _ _ t5, TdAll.mono (TS.of sm) _ _ tp5, htt, sets ts hb hl, by show ps.length ≤ 900; omega, fun p' H' s' _ h' => k p' H' s' h'⟩
  have len : ∀ ts : List Int, bitsI ts → ts.length = pvs.length → ((St0.mk own ps ts es).iter es.length).length = es.length := fun ts hb hl => (St0.iter_pre (sets ts hb hl).1 _).1
  refine ⟨_, rfl, r, rfl, ⟨_, SqL.of r1⟩, for_list (K := K) (a := r) (xs := rvs) (fun i σ G => ∃ (v12 v13 : Option V), σ = [some (.ref a), some (.ref d), some (.int m), some (.ref p), some (.ref p2), some (.ref f), v6, some (.ref x), v8, some (.ref t), v10, some (.ref r), v12, v13] ∧ Same H5 G)
    ⟨none, none, rfl, Same.refl _⟩ ?_ ?_ ?_⟩
  · rintro i σ G _ ⟨v12, v13, rfl, sm⟩
    exact SqL.of (sm _ _ r1)
  · rintro i v σ G hi ⟨v12, v13, rfl, sm⟩
    obtain ⟨tt, ts, rfl, htt, hb, hl⟩ := r4 v (List.mem_of_getElem? hi)
    refine ⟨_, rfl, p2, _, rfl, SqL.of (sm _ _ o5), fun l1 oo1 n1 f1 => ?_⟩
    refine ⟨_, rfl, x, _, rfl, .inl ⟨SqL.of (same_new n1 _ _ (sm _ _ x5)), fun l2 n2 => ?_⟩⟩
    refine ⟨_, rfl, t, _, rfl, SqL.of (same_new n2 _ _ (same_new n1 _ _ (sm _ _ t5))), fun l3 oo3 n3 f3 => ?_⟩
    refine ⟨_, rfl, _, _, _, _, rfl, told ts tt G _ hb hl sm (sm _ _ htt) (fun p' H' s' h' => ?_) l1 l2 l3 oo1 oo3 n1 f1 n2 n3 f3⟩
    refine ⟨_, rfl, _, rfl, _, rfl, _, rfl, _, rfl, _, _, _, _, rfl, due ts tt H' _ hb hl (sm.trans s') (s' _ _ (sm _ _ htt)) fun p6 H6 s6 h6 => ?_⟩
    refine ⟨_, _, rfl, p', p6, _, rfl, rfl, s6 _ _ h', h6, by rw [len ts hb hl]; omega, _, rfl, iteF ?_⟩
    exact ⟨_, _, rfl, (sm.trans s').trans s6⟩
  · rintro σ G ⟨v12, v13, rfl, sm⟩
    obtain ⟨v0, hv0⟩ : ∃ v0, rvs[0]? = some v0 := by
      cases rvs with
      | nil => exact absurd rfl r2
      | cons a b => exact ⟨a, rfl⟩
    obtain ⟨tt, ts, rfl, htt, hb, hl⟩ := r4 v0 (List.mem_of_getElem? hv0)
    refine ⟨_, rfl, p2, _, rfl, SqL.of (sm _ _ o5), fun l1 oo1 n1 f1 => ?_⟩
    refine ⟨_, rfl, x, _, rfl, .inl ⟨SqL.of (same_new n1 _ _ (sm _ _ x5)), fun l2 n2 => ?_⟩⟩
    refine ⟨_, rfl, t, _, rfl, SqL.of (same_new n2 _ _ (same_new n1 _ _ (sm _ _ t5))), fun l3 oo3 n3 f3 => ?_⟩
    refine ⟨_, rfl, r, _, _, _, rfl, rfl, SqL.of (same_new n3 _ _ (same_new n2 _ _ (same_new n1 _ _ (sm _ _ r1)))), at_n 0 hv0, _, _, _, _, rfl, told ts tt G _ hb hl sm (sm _ _ htt) (fun p' H' s' h' => ?_) l1 l2 l3 oo1 oo3 n1 f1 n2 n3 f3⟩
    refine ⟨_, rfl, _, rfl, _, rfl, _, rfl, r, _, _, _, rfl, rfl, SqL.of (s' _ _ (sm _ _ r1)), at_n 0 hv0, _, _, _, _, rfl, due ts tt H' _ hb hl (sm.trans s') (s' _ _ (sm _ _ htt)) fun p6 H6 s6 h6 => ?_⟩
    refine ⟨p6, _, rfl, .inl ⟨SqL.of h6, fun p7 n7 => ?_⟩⟩
    refine ⟨_, _, .tup (SqT.of (same_new n7 _ _ (s6 _ _ h'))) (dp_os _), .tup (SqT.of upd_same) (dp_os _), shapedOs, shapedOs, ?_⟩
    rw [SeqAt.eqv_refl _ (SeqAt.canLay_of_shaped shapedOs)]
    exact q _
end

/-! ### the head -/
def d_operands_of : He.DefD := ⟨("operands_of", none), "operands_of", "operands_of", defArgs s_operands_of, defBody s_operands_of, defScope s_operands_of, [], []⟩
def d_not : He.DefD := ⟨("_not", none), "_not", "_not", defArgs s_not, defBody s_not, defScope s_not, [], []⟩
def d_and : He.DefD := ⟨("_and", none), "_and", "_and", defArgs s_and, defBody s_and, defScope s_and, [], []⟩
def d_or : He.DefD := ⟨("_or", none), "_or", "_or", defArgs s_or, defBody s_or, defScope s_or, [], []⟩
def d_xor : He.DefD := ⟨("_xor", none), "_xor", "_xor", defArgs s_xor, defBody s_xor, defScope s_xor, [], []⟩
def d_p_pick : He.DefD := ⟨("_pick", none), "_pick", "_pick", defArgs s_p_pick, defBody s_p_pick, defScope s_p_pick, [], []⟩
def d_p_truth_of : He.DefD := ⟨("truth_of", none), "truth_of", "truth_of", defArgs s_p_truth_of, defBody s_p_truth_of, defScope s_p_truth_of, [], []⟩
def d_settled_values : He.DefD := ⟨("settled_values", none), "settled_values", "settled_values", defArgs s_settled_values, defBody s_settled_values, defScope s_settled_values, [], []⟩
def d_run : He.DefD := ⟨("_run", none), "_run", "_run", defArgs s_run, defBody s_run, defScope s_run, [], []⟩
def d_codes_of : He.DefD := ⟨("codes_of", none), "codes_of", "codes_of", defArgs s_codes_of, defBody s_codes_of, defScope s_codes_of, [], []⟩
def d_code : He.DefD := ⟨("_code", none), "_code", "_code", defArgs s_code, defBody s_code, defScope s_code, [], []⟩
def d_settle : He.DefD := ⟨("settle", none), "settle", "settle", defArgs s_settle, defBody s_settle, defScope s_settle, [], []⟩
def d_begin : He.DefD := ⟨("_law_begin", none), "_law_begin", "_law_begin", defArgs s_begin, defBody s_begin, defScope s_begin, [], []⟩
def d_mixed : He.DefD := ⟨("_law_mixed", none), "_law_mixed", "_law_mixed", defArgs s_mixed, defBody s_mixed, defScope s_mixed, [], []⟩
def d_draw : He.DefD := ⟨("_law_draw", none), "_law_draw", "_law_draw", defArgs s_draw, defBody s_draw, defScope s_draw, [], []⟩
def d_draw_digit : He.DefD := ⟨("_law_draw_digit", none), "_law_draw_digit", "_law_draw_digit", defArgs s_draw_digit, defBody s_draw_digit, defScope s_draw_digit, [], []⟩
def d_pick : He.DefD := ⟨("_law_pick", none), "_law_pick", "_law_pick", defArgs s_pick, defBody s_pick, defScope s_pick, [], []⟩
def d_rare : He.DefD := ⟨("_law_rare", none), "_law_rare", "_law_rare", defArgs s_rare, defBody s_rare, defScope s_rare, [], []⟩
def d_pool : He.DefD := ⟨("_law_pool", none), "_law_pool", "_law_pool", defArgs s_pool, defBody s_pool, defScope s_pool, [], []⟩
def d_names : He.DefD := ⟨("_law_names", none), "_law_names", "_law_names", defArgs s_names, defBody s_names, defScope s_names, [], []⟩
def d_free_part : He.DefD := ⟨("_law_free_part", none), "_law_free_part", "_law_free_part", defArgs s_free_part, defBody s_free_part, defScope s_free_part, [], []⟩
def d_hangs_in : He.DefD := ⟨("_law_hangs_in", none), "_law_hangs_in", "_law_hangs_in", defArgs s_hangs_in, defBody s_hangs_in, defScope s_hangs_in, [], []⟩
def d_enter : He.DefD := ⟨("_law_enter", none), "_law_enter", "_law_enter", defArgs s_enter, defBody s_enter, defScope s_enter, [], []⟩
def d_side : He.DefD := ⟨("_law_side", none), "_law_side", "_law_side", defArgs s_side, defBody s_side, defScope s_side, [], []⟩
def d_linked : He.DefD := ⟨("_law_linked", none), "_law_linked", "_law_linked", defArgs s_linked, defBody s_linked, defScope s_linked, [], []⟩
def d_logic : He.DefD := ⟨("_law_logic", none), "_law_logic", "_law_logic", defArgs s_logic, defBody s_logic, defScope s_logic, [], []⟩
def d_truth_of : He.DefD := ⟨("_law_truth_of", none), "_law_truth_of", "_law_truth_of", defArgs s_truth_of, defBody s_truth_of, defScope s_truth_of, [], []⟩
def d_settled : He.DefD := ⟨("_law_settled", none), "_law_settled", "_law_settled", defArgs s_settled, defBody s_settled, defScope s_settled, [], []⟩
def d_alike : He.DefD := ⟨("_law_alike", none), "_law_alike", "_law_alike", defArgs s_alike, defBody s_alike, defScope s_alike, [], []⟩
def d_tuples : He.DefD := ⟨("_law_tuples", none), "_law_tuples", "_law_tuples", defArgs s_tuples, defBody s_tuples, defScope s_tuples, [], []⟩
def d_law : He.DefD := ⟨("law", none), "law", "law", defArgs s_law, defBody s_law, defScope s_law, [], []⟩
def fn : List He.DefD := [d_operands_of, d_not, d_and, d_or, d_xor, d_p_pick, d_p_truth_of, d_settled_values, d_run, d_codes_of, d_code, d_settle, d_begin, d_mixed, d_draw, d_draw_digit, d_pick, d_rare, d_pool, d_names, d_free_part, d_hangs_in, d_enter, d_side, d_linked, d_logic, d_truth_of, d_settled, d_alike, d_tuples, d_law]
def fa : List He.Fa := [.glo "operands_of", .glo "_not", .glo "_and", .glo "_or", .glo "_xor", .glo "_pick", .glo "truth_of", .glo "settled_values", .glo "_run", .glo "codes_of", .glo "_code", .glo "settle", .glo "_law_begin", .glo "_law_mixed", .glo "_law_draw", .glo "_law_draw_digit", .glo "_law_pick", .glo "_law_rare", .glo "_law_pool", .glo "_law_names", .glo "_law_free_part", .glo "_law_hangs_in", .glo "_law_enter", .glo "_law_side", .glo "_law_linked", .glo "_law_logic", .glo "_law_truth_of", .glo "_law_settled", .glo "_law_alike", .glo "_law_tuples", .glo "law", .free "abs", .free "bool", .free "divmod", .free "enumerate", .free "int", .free "isinstance", .free "len", .free "range", .free "tuple", .glo "LEAVES", .glo "LOGIC"]
def exB (K : PySem.W.Frag) : Bool := He.tupB K "LEAVES" [.str "int", .str "truth", .str "mode", .str "name"] && He.valsB K (He.ga K "LOGIC") [("not", .glo "_not"), ("and", .glo "_and"), ("or", .glo "_or"), ("xor", .glo "_xor"), ("pick", .glo "_pick")]
def tabs : List He.Tab := [(fun K => He.ga K "LOGIC", ["not", "and", "or", "xor", "pick"])]
abbrev theRow : PySem.W.OpenRow := PySem.W.OpenLaw.row PySem.Challenge.rw_keepsgoing_k35_settling
abbrev Seen : Type := He.AlT × Bool
def seenOf (K : PySem.W.Frag) : Seen := (He.obsT fa fn tabs K, exB K)
def fragOf (g : Addr → Option Obj) : PySem.W.Frag := He.frG g (He.asD g 4)
def hookM : PySem.W.Hook where
  α := Seen
  obs := fun s => seenOf (fragOf s.heap.get?)
  val := fun w => (He.valT fn tabs w, true)
  says := fun w h => ∃ K : PySem.W.Frag, K.In h ∧ He.SaysT fa fn tabs w K ∧ exB K = true
  of := fun _ _ e => ⟨_, He.frG_in, congrArg (fun z : Seen => z.1) e, congrArg (fun z : Seen => z.2) e⟩
  keeps := fun _ _ _ ⟨K, h1, h2⟩ k => ⟨K, PySem.W.Frag.In.keeps h1 k, h2⟩
def obM (s : PySem.W.SharedT) : Seen := seenOf (fragOf (HandSHeadRun.getT s))
theorem obM_eq (s : PySem.W.SharedT) : obM s = hookM.obs s.abs := by
  have e : HandSHeadRun.getT s = s.abs.heap.get? := funext (HandSHeadRun.getT_eq s)
  unfold obM
  rw [e] <;> rfl
def others : List PySem.Str := ["operands_of", "_not", "_and", "_or", "_xor", "_pick", "truth_of", "settled_values", "_run", "codes_of", "_code", "settle", "_law_begin", "_law_mixed", "_law_draw", "_law_draw_digit", "_law_pick", "_law_rare", "_law_pool", "_law_names", "_law_free_part", "_law_hangs_in", "_law_enter", "_law_side", "_law_linked", "_law_logic", "_law_truth_of", "_law_settled", "_law_alike", "_law_tuples", "LEAVES", "LOGIC"]
theorem runM (w : World) : HandSHeadRun.RunEq theRow (PySem.W.view theRow.prog [37]) hookM obM 3000 others w := by
  refine PySem.W.byRow2 "special-get-raises" (P := fun w => HandSHeadRun.RunEq theRow (PySem.W.view theRow.prog [37]) hookM obM 3000 others w) (fun w => ?_) (fun w => ?_) w
  · intro os
    kernel_rfl
  · intro os
    kernel_rfl
theorem factsM {P : Program} {w : World} {K : PySem.W.Frag} {h : Heap} {mg : Str → Option Value} {f : Addr} (X : K.In h) (G : h.Ns mainGlobals mg) (hfa : mg ("law" : Str) = some (.ref f)) (cT : He.SaysT fa fn tabs w K) (cex : exB K = true) :
    ∃ fd : FuncData, (∀ (s : Shared) (v : Value), BindsTo s fd ⟨[v], []⟩ [("_law_script", v)]) ∧ ∀ base : Heap, K.In base → base.Ns mainGlobals mg → FnOk P w K mg base CX0 29 f fd ["_law_script"] (sp1 (rLaw K)) := by
  have c := cT.d
  have ct := fun (i : Nat) (t : He.Tab) (h : tabs[i]? = some t) => cT.tab i (t := t) h
  obtain ⟨fd_operands_of, F_operands_of⟩ := c.def_ 0 (d := d_operands_of) rfl
  obtain ⟨fd_not, F_not⟩ := c.def_ 1 (d := d_not) rfl
  obtain ⟨fd_and, F_and⟩ := c.def_ 2 (d := d_and) rfl
  obtain ⟨fd_or, F_or⟩ := c.def_ 3 (d := d_or) rfl
  obtain ⟨fd_xor, F_xor⟩ := c.def_ 4 (d := d_xor) rfl
  obtain ⟨fd_p_pick, F_p_pick⟩ := c.def_ 5 (d := d_p_pick) rfl
  obtain ⟨fd_p_truth_of, F_p_truth_of⟩ := c.def_ 6 (d := d_p_truth_of) rfl
  obtain ⟨fd_settled_values, F_settled_values⟩ := c.def_ 7 (d := d_settled_values) rfl
  obtain ⟨fd_run, F_run⟩ := c.def_ 8 (d := d_run) rfl
  obtain ⟨fd_codes_of, F_codes_of⟩ := c.def_ 9 (d := d_codes_of) rfl
  obtain ⟨fd_code, F_code⟩ := c.def_ 10 (d := d_code) rfl
  obtain ⟨fd_settle, F_settle⟩ := c.def_ 11 (d := d_settle) rfl
  obtain ⟨fd_begin, F_begin⟩ := c.def_ 12 (d := d_begin) rfl
  obtain ⟨fd_mixed, F_mixed⟩ := c.def_ 13 (d := d_mixed) rfl
  obtain ⟨fd_draw, F_draw⟩ := c.def_ 14 (d := d_draw) rfl
  obtain ⟨fd_draw_digit, F_draw_digit⟩ := c.def_ 15 (d := d_draw_digit) rfl
  obtain ⟨fd_pick, F_pick⟩ := c.def_ 16 (d := d_pick) rfl
  obtain ⟨fd_rare, F_rare⟩ := c.def_ 17 (d := d_rare) rfl
  obtain ⟨fd_pool, F_pool⟩ := c.def_ 18 (d := d_pool) rfl
  obtain ⟨fd_names, F_names⟩ := c.def_ 19 (d := d_names) rfl
  obtain ⟨fd_free_part, F_free_part⟩ := c.def_ 20 (d := d_free_part) rfl
  obtain ⟨fd_hangs_in, F_hangs_in⟩ := c.def_ 21 (d := d_hangs_in) rfl
  obtain ⟨fd_enter, F_enter⟩ := c.def_ 22 (d := d_enter) rfl
  obtain ⟨fd_side, F_side⟩ := c.def_ 23 (d := d_side) rfl
  obtain ⟨fd_linked, F_linked⟩ := c.def_ 24 (d := d_linked) rfl
  obtain ⟨fd_logic, F_logic⟩ := c.def_ 25 (d := d_logic) rfl
  obtain ⟨fd_truth_of, F_truth_of⟩ := c.def_ 26 (d := d_truth_of) rfl
  obtain ⟨fd_settled, F_settled⟩ := c.def_ 27 (d := d_settled) rfl
  obtain ⟨fd_alike, F_alike⟩ := c.def_ 28 (d := d_alike) rfl
  obtain ⟨fd_tuples, F_tuples⟩ := c.def_ 29 (d := d_tuples) rfl
  obtain ⟨fd_law, F_law⟩ := c.def_ 30 (d := d_law) rfl
  obtain ⟨x_LOGIC', tb_LOGIC⟩ := He.ba (show (_ && _) = true from cex)
  have tb_LEAVES := x_LOGIC'
  obtain ⟨es_LOGIC, n_LOGIC, kd_LOGIC⟩ := ct 0 (fun K => He.ga K "LOGIC", ["not", "and", "or", "xor", "pick"]) rfl
  have kd_LOGIC_not : KDct K w (He.ga K "LOGIC") "not" (.ref (He.ga K "_not")) := by
    obtain ⟨u, hu, ru⟩ := He.valsB_ok tb_LOGIC (q := ("not", .glo "_not")) (by simp)
    exact ⟨_, _, u, kd_LOGIC.at_, kd_LOGIC.lit, hu, ru⟩
  have kd_LOGIC_and : KDct K w (He.ga K "LOGIC") "and" (.ref (He.ga K "_and")) := by
    obtain ⟨u, hu, ru⟩ := He.valsB_ok tb_LOGIC (q := ("and", .glo "_and")) (by simp)
    exact ⟨_, _, u, kd_LOGIC.at_, kd_LOGIC.lit, hu, ru⟩
  have kd_LOGIC_or : KDct K w (He.ga K "LOGIC") "or" (.ref (He.ga K "_or")) := by
    obtain ⟨u, hu, ru⟩ := He.valsB_ok tb_LOGIC (q := ("or", .glo "_or")) (by simp)
    exact ⟨_, _, u, kd_LOGIC.at_, kd_LOGIC.lit, hu, ru⟩
  have kd_LOGIC_xor : KDct K w (He.ga K "LOGIC") "xor" (.ref (He.ga K "_xor")) := by
    obtain ⟨u, hu, ru⟩ := He.valsB_ok tb_LOGIC (q := ("xor", .glo "_xor")) (by simp)
    exact ⟨_, _, u, kd_LOGIC.at_, kd_LOGIC.lit, hu, ru⟩
  have kd_LOGIC_pick : KDct K w (He.ga K "LOGIC") "pick" (.ref (He.ga K "_pick")) := by
    obtain ⟨u, hu, ru⟩ := He.valsB_ok tb_LOGIC (q := ("pick", .glo "_pick")) (by simp)
    exact ⟨_, _, u, kd_LOGIC.at_, kd_LOGIC.lit, hu, ru⟩
  have T : Tx K mg w := {
    f_operands_of := _, fd_operands_of := fd_operands_of, F_operands_of := F_operands_of, m_operands_of := He.glo_ok X G (c.fact 0 (f := .glo "operands_of") rfl), b_operands_of := F_operands_of.bindsN fun _ _ _ _ _ _ us hl => match us, hl with | [_], _ => rfl
    f_not := _, fd_not := fd_not, F_not := F_not, m_not := He.glo_ok X G (c.fact 1 (f := .glo "_not") rfl), b_not := F_not.bindsN fun _ _ _ _ _ _ us hl => match us, hl with | [_], _ => rfl
    f_and := _, fd_and := fd_and, F_and := F_and, m_and := He.glo_ok X G (c.fact 2 (f := .glo "_and") rfl), b_and := F_and.bindsN fun _ _ _ _ _ _ us hl => match us, hl with | [_, _], _ => rfl
    f_or := _, fd_or := fd_or, F_or := F_or, m_or := He.glo_ok X G (c.fact 3 (f := .glo "_or") rfl), b_or := F_or.bindsN fun _ _ _ _ _ _ us hl => match us, hl with | [_, _], _ => rfl
    f_xor := _, fd_xor := fd_xor, F_xor := F_xor, m_xor := He.glo_ok X G (c.fact 4 (f := .glo "_xor") rfl), b_xor := F_xor.bindsN fun _ _ _ _ _ _ us hl => match us, hl with | [_, _], _ => rfl
    f_p_pick := _, fd_p_pick := fd_p_pick, F_p_pick := F_p_pick, m_p_pick := He.glo_ok X G (c.fact 5 (f := .glo "_pick") rfl), b_p_pick := F_p_pick.bindsN fun _ _ _ _ _ _ us hl => match us, hl with | [_, _, _], _ => rfl
    f_p_truth_of := _, fd_p_truth_of := fd_p_truth_of, F_p_truth_of := F_p_truth_of, m_p_truth_of := He.glo_ok X G (c.fact 6 (f := .glo "truth_of") rfl), b_p_truth_of := F_p_truth_of.bindsN fun _ _ _ _ _ _ us hl => match us, hl with | [_, _], _ => rfl
    f_settled_values := _, fd_settled_values := fd_settled_values, F_settled_values := F_settled_values, m_settled_values := He.glo_ok X G (c.fact 7 (f := .glo "settled_values") rfl), b_settled_values := F_settled_values.bindsN fun _ _ _ _ _ _ us hl => match us, hl with | [_, _], _ => rfl
    f_run := _, fd_run := fd_run, F_run := F_run, m_run := He.glo_ok X G (c.fact 8 (f := .glo "_run") rfl), b_run := F_run.bindsN fun _ _ _ _ _ _ us hl => match us, hl with | [_, _, _], _ => rfl
    f_codes_of := _, fd_codes_of := fd_codes_of, F_codes_of := F_codes_of, m_codes_of := He.glo_ok X G (c.fact 9 (f := .glo "codes_of") rfl), b_codes_of := F_codes_of.bindsN fun _ _ _ _ _ _ us hl => match us, hl with | [_, _, _], _ => rfl
    f_code := _, fd_code := fd_code, F_code := F_code, m_code := He.glo_ok X G (c.fact 10 (f := .glo "_code") rfl), b_code := F_code.bindsN fun _ _ _ _ _ _ us hl => match us, hl with | [_, _, _], _ => rfl
    f_settle := _, fd_settle := fd_settle, F_settle := F_settle, m_settle := He.glo_ok X G (c.fact 11 (f := .glo "settle") rfl), b_settle := F_settle.bindsN fun _ _ _ _ _ _ us hl => match us, hl with | [_, _, _, _], _ => rfl
    f_begin := _, fd_begin := fd_begin, F_begin := F_begin, m_begin := He.glo_ok X G (c.fact 12 (f := .glo "_law_begin") rfl), b_begin := F_begin.bindsN fun _ _ _ _ _ _ us hl => match us, hl with | [_], _ => rfl
    f_mixed := _, fd_mixed := fd_mixed, F_mixed := F_mixed, m_mixed := He.glo_ok X G (c.fact 13 (f := .glo "_law_mixed") rfl), b_mixed := F_mixed.bindsN fun _ _ _ _ _ _ us hl => match us, hl with | [_, _], _ => rfl
    f_draw := _, fd_draw := fd_draw, F_draw := F_draw, m_draw := He.glo_ok X G (c.fact 14 (f := .glo "_law_draw") rfl), b_draw := F_draw.bindsN fun _ _ _ _ _ _ us hl => match us, hl with | [_, _], _ => rfl
    f_draw_digit := _, fd_draw_digit := fd_draw_digit, F_draw_digit := F_draw_digit, m_draw_digit := He.glo_ok X G (c.fact 15 (f := .glo "_law_draw_digit") rfl), b_draw_digit := F_draw_digit.bindsN fun _ _ _ _ _ _ us hl => match us, hl with | [_, _], _ => rfl
    f_pick := _, fd_pick := fd_pick, F_pick := F_pick, m_pick := He.glo_ok X G (c.fact 16 (f := .glo "_law_pick") rfl), b_pick := F_pick.bindsN fun _ _ _ _ _ _ us hl => match us, hl with | [_, _], _ => rfl
    f_rare := _, fd_rare := fd_rare, F_rare := F_rare, m_rare := He.glo_ok X G (c.fact 17 (f := .glo "_law_rare") rfl), b_rare := F_rare.bindsN fun _ _ _ _ _ _ us hl => match us, hl with | [_, _], _ => rfl
    f_pool := _, fd_pool := fd_pool, F_pool := F_pool, m_pool := He.glo_ok X G (c.fact 18 (f := .glo "_law_pool") rfl), b_pool := F_pool.bindsN fun _ _ _ _ _ _ us hl => match us, hl with | [], _ => rfl
    f_names := _, fd_names := fd_names, F_names := F_names, m_names := He.glo_ok X G (c.fact 19 (f := .glo "_law_names") rfl), b_names := F_names.bindsN fun _ _ _ _ _ _ us hl => match us, hl with | [_, _], _ => rfl
    f_free_part := _, fd_free_part := fd_free_part, F_free_part := F_free_part, m_free_part := He.glo_ok X G (c.fact 20 (f := .glo "_law_free_part") rfl), b_free_part := F_free_part.bindsN fun _ _ _ _ _ _ us hl => match us, hl with | [_, _, _], _ => rfl
    f_hangs_in := _, fd_hangs_in := fd_hangs_in, F_hangs_in := F_hangs_in, m_hangs_in := He.glo_ok X G (c.fact 21 (f := .glo "_law_hangs_in") rfl), b_hangs_in := F_hangs_in.bindsN fun _ _ _ _ _ _ us hl => match us, hl with | [_, _], _ => rfl
    f_enter := _, fd_enter := fd_enter, F_enter := F_enter, m_enter := He.glo_ok X G (c.fact 22 (f := .glo "_law_enter") rfl), b_enter := F_enter.bindsN fun _ _ _ _ _ _ us hl => match us, hl with | [_, _, _], _ => rfl
    f_side := _, fd_side := fd_side, F_side := F_side, m_side := He.glo_ok X G (c.fact 23 (f := .glo "_law_side") rfl), b_side := F_side.bindsN fun _ _ _ _ _ _ us hl => match us, hl with | [_, _, _, _], _ => rfl
    f_linked := _, fd_linked := fd_linked, F_linked := F_linked, m_linked := He.glo_ok X G (c.fact 24 (f := .glo "_law_linked") rfl), b_linked := F_linked.bindsN fun _ _ _ _ _ _ us hl => match us, hl with | [_, _, _, _, _], _ => rfl
    f_logic := _, fd_logic := fd_logic, F_logic := F_logic, m_logic := He.glo_ok X G (c.fact 25 (f := .glo "_law_logic") rfl), b_logic := F_logic.bindsN fun _ _ _ _ _ _ us hl => match us, hl with | [_, _], _ => rfl
    f_truth_of := _, fd_truth_of := fd_truth_of, F_truth_of := F_truth_of, m_truth_of := He.glo_ok X G (c.fact 26 (f := .glo "_law_truth_of") rfl), b_truth_of := F_truth_of.bindsN fun _ _ _ _ _ _ us hl => match us, hl with | [_, _, _, _, _], _ => rfl
    f_settled := _, fd_settled := fd_settled, F_settled := F_settled, m_settled := He.glo_ok X G (c.fact 27 (f := .glo "_law_settled") rfl), b_settled := F_settled.bindsN fun _ _ _ _ _ _ us hl => match us, hl with | [_, _, _, _], _ => rfl
    f_alike := _, fd_alike := fd_alike, F_alike := F_alike, m_alike := He.glo_ok X G (c.fact 28 (f := .glo "_law_alike") rfl), b_alike := F_alike.bindsN fun _ _ _ _ _ _ us hl => match us, hl with | [_, _], _ => rfl
    f_tuples := _, fd_tuples := fd_tuples, F_tuples := F_tuples, m_tuples := He.glo_ok X G (c.fact 29 (f := .glo "_law_tuples") rfl), b_tuples := F_tuples.bindsN fun _ _ _ _ _ _ us hl => match us, hl with | [_, _], _ => rfl
    f_law := _, fd_law := fd_law, F_law := F_law, m_law := He.glo_ok X G (c.fact 30 (f := .glo "law") rfl), b_law := F_law.bindsN fun _ _ _ _ _ _ us hl => match us, hl with | [_], _ => rfl
    z_abs := He.free_ok X G (c.fact 31 (f := .free "abs") rfl)
    z_bool := He.free_ok X G (c.fact 32 (f := .free "bool") rfl)
    z_divmod := He.free_ok X G (c.fact 33 (f := .free "divmod") rfl)
    z_enumerate := He.free_ok X G (c.fact 34 (f := .free "enumerate") rfl)
    z_int := He.free_ok X G (c.fact 35 (f := .free "int") rfl)
    z_isinstance := He.free_ok X G (c.fact 36 (f := .free "isinstance") rfl)
    z_len := He.free_ok X G (c.fact 37 (f := .free "len") rfl)
    z_range := He.free_ok X G (c.fact 38 (f := .free "range") rfl)
    z_tuple := He.free_ok X G (c.fact 39 (f := .free "tuple") rfl)
    mg_LEAVES := He.glo_ok X G (c.fact 40 (f := .glo "LEAVES") rfl), tp_LEAVES := fun H => He.tupB_ok tb_LEAVES H
    mg_LOGIC := He.glo_ok X G (c.fact 41 (f := .glo "LOGIC") rfl), kd_LOGIC_not := kd_LOGIC_not, kd_LOGIC_and := kd_LOGIC_and, kd_LOGIC_or := kd_LOGIC_or, kd_LOGIC_xor := kd_LOGIC_xor, kd_LOGIC_pick := kd_LOGIC_pick
  }
  have e := hfa.symm.trans T.m_law
  cases e
  have b := FunD.bindsA (ps := ["_law_script"]) T.F_law fun _ _ _ _ _ _ us hl => match us, hl with | [_], _ => rfl
  exact ⟨T.fd_law, fun s v => b s [v] rfl, fun base _ _ => ok_law T⟩
end My
open PySem PySem.W PySem.Calls PyProof.Rows
set_option maxRecDepth 100000 in
set_option maxHeartbeats 0 in
theorem PySem.Challenge.cw_keepsgoing_k35_settling_holds : PySem.Challenge.rw_keepsgoing_k35_settling.Holds := by
  w_on; o_law
  refine HandSHeadRun.head_any (r := My.theRow) (q := view My.theRow.prog [37]) (H := My.hookM) (ob := My.obM) (M := 3000) (loose := My.others) (d := HandSHeadRun.topDef My.theRow.prog 37) (kwd := []) My.obM_eq
    (by kernel_rfl) (fun s => by kernel_rfl) My.runM (by kernel_rfl) (by kernel_rfl) (by kernel_rfl) (by rfl) (by first | assumption | decide +kernel) (by decide +kernel) ⟨rfl, rfl, rfl, rfl, rfl, by decide +kernel⟩ ?hw ?hc
  case hw => w_witness2
  case hc =>
    refine L2.walk_ofE (l := PySem.Challenge.rw_keepsgoing_k35_settling) (n := 63) (k := 29) (x := "_law_script") (CX := L2.CX0) rfl (by decide) (by kernel_rfl) ⟨rfl, by decide, by decide⟩ ?F (fun _ _ _ _ z => z)
    intro w mg fa h Y G hmg0
    obtain ⟨K, KX, c, cx⟩ := Y
    have hmg : mg ("law" : PySem.Str) = some (.ref fa) := by
      have e : (HandSHeadRun.topDef My.theRow.prog 37).name = ("law" : PySem.Str) := by kernel_rfl
      rw [← e]
      exact hmg0
    obtain ⟨fd, hb, hF⟩ := My.factsM (P := My.theRow.prog) (w := w) KX G hmg c cx
    exact ⟨K, fd, My.sp1 (My.rLaw K), KX, hb, fun H a ns hl _ hS => ⟨_, rfl, a, ns, rfl, hS, hl, fun _ => rfl⟩, hF⟩

