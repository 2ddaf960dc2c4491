import PyProof.Rows.All
import Wide.All
import OpenK.AllK
import Wide.FinOn
import KE.KStateDown
import HandS.ForMost
import HandS.Walk
import HandS.IsInst
import HandS.TupAny
import HandS.Style
import HandS.More
import HandS.Codes
import HandS.Defaults
import HandS.WordsExc
import HandS.Head0
import HandS.Head1
import HandS.Head2
import HandS.HeadEnd
import HandS.HeadHook1
import HandS.HeadHook2
import PySem.Challenge.RW_keepsgoing_k26_whole_one_beat
set_option Elab.async false
set_option linter.all false
set_option maxRecDepth 100000
set_option maxHeartbeats 0
namespace My
open PySem PySem.Spec PyProof.Rows L2
/-! ### the text -/
def topS (i : Nat) : Stmt := PySem.Challenge.pw_keepsgoing_k26_whole_one_beat.main.body.getD i (.Pass ⟨0, 0, 0, 0⟩)
abbrev s_slowed : Stmt := topS 1
abbrev s_one_beat : Stmt := topS 2
abbrev s_plain : Stmt := topS 3
abbrev s_begin : Stmt := topS 5
abbrev s_mixed : Stmt := topS 6
abbrev s_draw : Stmt := topS 7
abbrev s_draw_digit : Stmt := topS 8
abbrev s_pick : Stmt := topS 9
abbrev s_rate : Stmt := topS 10
abbrev s_is_layer : Stmt := topS 11
abbrev s_passed : Stmt := topS 12
abbrev s_product : Stmt := topS 13
abbrev s_rate_due : Stmt := topS 14
abbrev s_beat_clock : Stmt := topS 15
abbrev s_parted : Stmt := topS 16
abbrev s_kept : Stmt := topS 17
abbrev s_bent : Stmt := topS 18
abbrev s_gaps : Stmt := topS 19
abbrev s_beat_due : Stmt := topS 20
abbrev s_ticks_of : Stmt := topS 21
abbrev s_values : Stmt := topS 22
abbrev s_law : Stmt := topS 23
theorem sc_slowed : FnScope ["rate", "many", "start", "n", "k"] ["rate", "many", "start"] (defScope s_slowed) := ⟨rfl, rfl, rfl, by decide +kernel, rfl, by decide +kernel, by decide +kernel⟩
theorem sc_one_beat : FnScope ["clock", "other"] ["clock", "other"] (defScope s_one_beat) := ⟨rfl, rfl, rfl, by decide +kernel, rfl, by decide +kernel, by decide +kernel⟩
theorem sc_plain : FnScope ["clock", "found", "rate", "layer"] ["clock"] (defScope s_plain) := ⟨rfl, rfl, rfl, by decide +kernel, rfl, by decide +kernel, by decide +kernel⟩
theorem sc_begin : FnScope ["_law_script", "_law_cell"] ["_law_script"] (defScope s_begin) := ⟨rfl, rfl, rfl, by decide +kernel, rfl, by decide +kernel, by decide +kernel⟩
theorem sc_mixed : FnScope ["_law_d", "_law_cell"] ["_law_d", "_law_cell"] (defScope s_mixed) := ⟨rfl, rfl, rfl, by decide +kernel, rfl, by decide +kernel, by decide +kernel⟩
theorem sc_draw : FnScope ["_law_d", "_law_many", "_law_cell"] ["_law_d", "_law_many"] (defScope s_draw) := ⟨rfl, rfl, rfl, by decide +kernel, rfl, by decide +kernel, by decide +kernel⟩
theorem sc_draw_digit : FnScope ["_law_d", "_law_many", "_law_pair"] ["_law_d", "_law_many"] (defScope s_draw_digit) := ⟨rfl, rfl, rfl, by decide +kernel, rfl, by decide +kernel, by decide +kernel⟩
theorem sc_pick : FnScope ["_law_d", "_law_row"] ["_law_d", "_law_row"] (defScope s_pick) := ⟨rfl, rfl, rfl, by decide +kernel, rfl, by decide +kernel, by decide +kernel⟩
theorem sc_rate : FnScope ["_law_d", "_law_most", "_law_many", "_law_first"] ["_law_d", "_law_most"] (defScope s_rate) := ⟨rfl, rfl, rfl, by decide +kernel, rfl, by decide +kernel, by decide +kernel⟩
theorem sc_is_layer : FnScope ["_law_d", "_law_name"] ["_law_d"] (defScope s_is_layer) := ⟨rfl, rfl, rfl, by decide +kernel, rfl, by decide +kernel, by decide +kernel⟩
theorem sc_passed : FnScope ["_law_layers", "_law_many", "_law_counts", "_law_found", "_law_tick", "_law_there", "_law_at", "_law_count", "_law_layer"] ["_law_layers", "_law_many"] (defScope s_passed) := ⟨rfl, rfl, rfl, by decide +kernel, rfl, by decide +kernel, by decide +kernel⟩
theorem sc_product : FnScope ["_law_layers", "_law_many", "_law_layer"] ["_law_layers"] (defScope s_product) := ⟨rfl, rfl, rfl, by decide +kernel, rfl, by decide +kernel, by decide +kernel⟩
theorem sc_rate_due : FnScope ["_law_clock", "_law_many", "_law_ticks", "_law_n", "_law_k", "_law_layer"] ["_law_clock"] (defScope s_rate_due) := ⟨rfl, rfl, rfl, by decide +kernel, rfl, by decide +kernel, by decide +kernel⟩
theorem sc_beat_clock : FnScope ["_law_d", "_law_layers", "_law_step"] ["_law_d"] (defScope s_beat_clock) := ⟨rfl, rfl, rfl, by decide +kernel, rfl, by decide +kernel, by decide +kernel⟩
theorem sc_parted : FnScope ["_law_d", "_law_layer", "_law_parts", "_law_n", "_law_first"] ["_law_d", "_law_layer"] (defScope s_parted) := ⟨rfl, rfl, rfl, by decide +kernel, rfl, by decide +kernel, by decide +kernel⟩
theorem sc_kept : FnScope ["_law_d", "_law_clock", "_law_way", "_law_at", "_law_layer", "_law_other", "_law_both"] ["_law_d", "_law_clock"] (defScope s_kept) := ⟨rfl, rfl, rfl, by decide +kernel, rfl, by decide +kernel, by decide +kernel⟩
theorem sc_bent : FnScope ["_law_d", "_law_clock", "_law_way", "_law_at", "_law_new", "_law_layer", "_law_many"] ["_law_d", "_law_clock"] (defScope s_bent) := ⟨rfl, rfl, rfl, by decide +kernel, rfl, by decide +kernel, by decide +kernel⟩
theorem sc_gaps : FnScope ["_law_clock", "_law_names", "_law_gaps_here", "_law_layer"] ["_law_clock"] (defScope s_gaps) := ⟨rfl, rfl, rfl, by decide +kernel, rfl, by decide +kernel, by decide +kernel⟩
theorem sc_beat_due : FnScope ["_law_clock", "_law_other", "_law_one", "_law_two", "_law_at"] ["_law_clock", "_law_other"] (defScope s_beat_due) := ⟨rfl, rfl, rfl, by decide +kernel, rfl, by decide +kernel, by decide +kernel⟩
theorem sc_ticks_of : FnScope ["_law_clock", "_law_values_here", "_law_many", "_law_counts", "_law_found", "_law_tick", "_law_there", "_law_at", "_law_layer", "_law_count"] ["_law_clock", "_law_values_here", "_law_many"] (defScope s_ticks_of) := ⟨rfl, rfl, rfl, by decide +kernel, rfl, by decide +kernel, by decide +kernel⟩
theorem sc_values : FnScope ["_law_d", "_law_clocks", "_law_many", "_law_values_here", "_law_clock", "_law_layer", "_law_row", "_law_others", "_law_shift", "_law_tick", "_law_one"] ["_law_d", "_law_clocks", "_law_many"] (defScope s_values) := ⟨rfl, rfl, rfl, by decide +kernel, rfl, by decide +kernel, by decide +kernel⟩
theorem sc_law : FnScope ["_law_script", "_law_d", "_law_clocks", "_law_turn", "_law_clock", "_law_step", "_law_other", "_law_due", "_law_values_here"] ["_law_script"] (defScope s_law) := ⟨rfl, rfl, rfl, by decide +kernel, rfl, by decide +kernel, by decide +kernel⟩
abbrev FnP (K : PySem.W.Frag) (x : Str) (st : Stmt) (f : Addr) (fd : FuncData) : Prop := FunD K x x (defArgs st) (defBody st) (defScope st) [] [] f fd
structure Tx (K : PySem.W.Frag) (mg : Str → Option Value) where
  f_slowed : Addr
  fd_slowed : FuncData
  F_slowed : FnP K "_slowed" s_slowed f_slowed fd_slowed
  m_slowed : mg "_slowed" = some (.ref f_slowed)
  b_slowed : Binds K fd_slowed ["rate", "many", "start"] []
  f_one_beat : Addr
  fd_one_beat : FuncData
  F_one_beat : FnP K "one_beat" s_one_beat f_one_beat fd_one_beat
  m_one_beat : mg "one_beat" = some (.ref f_one_beat)
  b_one_beat : Binds K fd_one_beat ["clock", "other"] []
  f_plain : Addr
  fd_plain : FuncData
  F_plain : FnP K "_plain" s_plain f_plain fd_plain
  m_plain : mg "_plain" = some (.ref f_plain)
  b_plain : Binds K fd_plain ["clock"] []
  f_begin : Addr
  fd_begin : FuncData
  F_begin : FnP K "_law_begin" s_begin f_begin fd_begin
  m_begin : mg "_law_begin" = some (.ref f_begin)
  b_begin : Binds K fd_begin ["_law_script"] []
  f_mixed : Addr
  fd_mixed : FuncData
  F_mixed : FnP K "_law_mixed" s_mixed f_mixed fd_mixed
  m_mixed : mg "_law_mixed" = some (.ref f_mixed)
  b_mixed : Binds K fd_mixed ["_law_d", "_law_cell"] []
  f_draw : Addr
  fd_draw : FuncData
  F_draw : FnP K "_law_draw" s_draw f_draw fd_draw
  m_draw : mg "_law_draw" = some (.ref f_draw)
  b_draw : Binds K fd_draw ["_law_d", "_law_many"] []
  f_draw_digit : Addr
  fd_draw_digit : FuncData
  F_draw_digit : FnP K "_law_draw_digit" s_draw_digit f_draw_digit fd_draw_digit
  m_draw_digit : mg "_law_draw_digit" = some (.ref f_draw_digit)
  b_draw_digit : Binds K fd_draw_digit ["_law_d", "_law_many"] []
  f_pick : Addr
  fd_pick : FuncData
  F_pick : FnP K "_law_pick" s_pick f_pick fd_pick
  m_pick : mg "_law_pick" = some (.ref f_pick)
  b_pick : Binds K fd_pick ["_law_d", "_law_row"] []
  f_rate : Addr
  fd_rate : FuncData
  F_rate : FnP K "_law_rate" s_rate f_rate fd_rate
  m_rate : mg "_law_rate" = some (.ref f_rate)
  b_rate : Binds K fd_rate ["_law_d", "_law_most"] []
  f_is_layer : Addr
  fd_is_layer : FuncData
  F_is_layer : FnP K "_law_is_layer" s_is_layer f_is_layer fd_is_layer
  m_is_layer : mg "_law_is_layer" = some (.ref f_is_layer)
  b_is_layer : Binds K fd_is_layer ["_law_d"] []
  f_passed : Addr
  fd_passed : FuncData
  F_passed : FnP K "_law_passed" s_passed f_passed fd_passed
  m_passed : mg "_law_passed" = some (.ref f_passed)
  b_passed : Binds K fd_passed ["_law_layers", "_law_many"] []
  f_product : Addr
  fd_product : FuncData
  F_product : FnP K "_law_product" s_product f_product fd_product
  m_product : mg "_law_product" = some (.ref f_product)
  b_product : Binds K fd_product ["_law_layers"] []
  f_rate_due : Addr
  fd_rate_due : FuncData
  F_rate_due : FnP K "_law_rate_due" s_rate_due f_rate_due fd_rate_due
  m_rate_due : mg "_law_rate_due" = some (.ref f_rate_due)
  b_rate_due : Binds K fd_rate_due ["_law_clock"] []
  f_beat_clock : Addr
  fd_beat_clock : FuncData
  F_beat_clock : FnP K "_law_beat_clock" s_beat_clock f_beat_clock fd_beat_clock
  m_beat_clock : mg "_law_beat_clock" = some (.ref f_beat_clock)
  b_beat_clock : Binds K fd_beat_clock ["_law_d"] []
  f_parted : Addr
  fd_parted : FuncData
  F_parted : FnP K "_law_parted" s_parted f_parted fd_parted
  m_parted : mg "_law_parted" = some (.ref f_parted)
  b_parted : Binds K fd_parted ["_law_d", "_law_layer"] []
  f_kept : Addr
  fd_kept : FuncData
  F_kept : FnP K "_law_kept" s_kept f_kept fd_kept
  m_kept : mg "_law_kept" = some (.ref f_kept)
  b_kept : Binds K fd_kept ["_law_d", "_law_clock"] []
  f_bent : Addr
  fd_bent : FuncData
  F_bent : FnP K "_law_bent" s_bent f_bent fd_bent
  m_bent : mg "_law_bent" = some (.ref f_bent)
  b_bent : Binds K fd_bent ["_law_d", "_law_clock"] []
  f_gaps : Addr
  fd_gaps : FuncData
  F_gaps : FnP K "_law_gaps" s_gaps f_gaps fd_gaps
  m_gaps : mg "_law_gaps" = some (.ref f_gaps)
  b_gaps : Binds K fd_gaps ["_law_clock"] []
  f_beat_due : Addr
  fd_beat_due : FuncData
  F_beat_due : FnP K "_law_beat_due" s_beat_due f_beat_due fd_beat_due
  m_beat_due : mg "_law_beat_due" = some (.ref f_beat_due)
  b_beat_due : Binds K fd_beat_due ["_law_clock", "_law_other"] []
  f_ticks_of : Addr
  fd_ticks_of : FuncData
  F_ticks_of : FnP K "_law_ticks_of" s_ticks_of f_ticks_of fd_ticks_of
  m_ticks_of : mg "_law_ticks_of" = some (.ref f_ticks_of)
  b_ticks_of : Binds K fd_ticks_of ["_law_clock", "_law_values_here", "_law_many"] []
  f_values : Addr
  fd_values : FuncData
  F_values : FnP K "_law_values" s_values f_values fd_values
  m_values : mg "_law_values" = some (.ref f_values)
  b_values : Binds K fd_values ["_law_d", "_law_clocks", "_law_many"] []
  f_law : Addr
  fd_law : FuncData
  F_law : FnP K "law" s_law f_law fd_law
  m_law : mg "law" = some (.ref f_law)
  b_law : Binds K fd_law ["_law_script"] []
  z_abs : mg "abs" = none
  z_divmod : mg "divmod" = none
  z_int : mg "int" = none
  z_len : mg "len" = none
  z_min : mg "min" = none
  z_range : mg "range" = none
  z_repr : mg "repr" = none
  z_tuple : mg "tuple" = none



/-! ### promises of defs with so many arguments -/
def sp0 (R : Hp → VK → Prop) : Sp := fun vs H Q _ => vs = [] ∧ R H Q
def sp1 (R : V → Hp → VK → Prop) : Sp := fun vs H Q _ => ∃ x, vs = [x] ∧ R x H Q
def sp2 (R : V → V → Hp → VK → Prop) : Sp := fun vs H Q _ => ∃ x y, vs = [x, y] ∧ R x y H Q
def sp3 (R : V → V → V → Hp → VK → Prop) : Sp := fun vs H Q _ => ∃ x y z, vs = [x, y, z] ∧ R x y z H Q
section
variable {P : Program} {w : World} {K : PySem.W.Frag} {mg : Str → Option Value} {base : Heap} {x : Str} {st : Stmt} {f : Addr} {fd : FuncData} {N ps : List Str} {k : Nat}
theorem okR {sp : Sp} (F : FunD K x x (defArgs st) (defBody st) (defScope st) [] [] f fd) (S : FnScope N ps (defScope st)) (len : ∀ vs H Q E, sp vs H Q E → vs.length = ps.length)
    (body : ∀ (cdv : Value) (A : Around) (outer : List Env) (s : Shared) (H : Hp) (vs : List V) (Q : VK) (E : XK), Room k (A.deeper (envOfC x (defScope st) s.heap.objs.size f cdv)) → sp vs H Q E →
      ∃ t, PSs (cxOf CX0 P w K mg base N x (defScope st) f cdv A outer s H E).nox (defBody st) t ∧ t { nx := fun _ H' => Q .non H', rt := Q } (start N vs) H) : FnOk P w K mg base CX0 (k + 1) f fd ps sp := by
  refine F.ok S len fun cdv A outer s H vs Q E hr h => ?_
  obtain ⟨t, h1, h2⟩ := body cdv A outer s H vs Q E hr h
  exact ⟨t, h1.nox, h2⟩
theorem okR0 {R : Hp → VK → Prop} (F : FunD K x x (defArgs st) (defBody st) (defScope st) [] [] f fd) (S : FnScope N ps (defScope st)) (hl : ps.length = 0)
    (body : ∀ (cdv : Value) (A : Around) (outer : List Env) (s : Shared) (H : Hp) (Q : VK) (E : XK), Room k (A.deeper (envOfC x (defScope st) s.heap.objs.size f cdv)) → R H Q →
      ∃ t, PSs (cxOf CX0 P w K mg base N x (defScope st) f cdv A outer s H E).nox (defBody st) t ∧ t { nx := fun _ H' => Q .non H', rt := Q } (start N []) H) : FnOk P w K mg base CX0 (k + 1) f fd ps (sp0 R) := by
  refine okR F S (fun vs H Q E h => ?_) fun cdv A outer s H vs Q E hr h => ?_
  · obtain ⟨rfl, _⟩ := h
    exact hl.symm
  · obtain ⟨rfl, h⟩ := h
    exact body cdv A outer s H Q E hr h
theorem okR1 {R : V → Hp → VK → Prop} (F : FunD K x x (defArgs st) (defBody st) (defScope st) [] [] f fd) (S : FnScope N ps (defScope st)) (hl : ps.length = 1)
    (body : ∀ (cdv : Value) (A : Around) (outer : List Env) (s : Shared) (H : Hp) (Q : VK) (E : XK) (a : V), Room k (A.deeper (envOfC x (defScope st) s.heap.objs.size f cdv)) → R a H Q →
      ∃ t, PSs (cxOf CX0 P w K mg base N x (defScope st) f cdv A outer s H E).nox (defBody st) t ∧ t { nx := fun _ H' => Q .non H', rt := Q } (start N [a]) H) : FnOk P w K mg base CX0 (k + 1) f fd ps (sp1 R) := by
  refine okR F S (fun vs H Q E h => ?_) fun cdv A outer s H vs Q E hr h => ?_
  · obtain ⟨_, rfl, _⟩ := h
    exact hl.symm
  · obtain ⟨a, rfl, h⟩ := h
    exact body cdv A outer s H Q E a hr h
theorem okR2 {R : V → V → Hp → VK → Prop} (F : FunD K x x (defArgs st) (defBody st) (defScope st) [] [] f fd) (S : FnScope N ps (defScope st)) (hl : ps.length = 2)
    (body : ∀ (cdv : Value) (A : Around) (outer : List Env) (s : Shared) (H : Hp) (Q : VK) (E : XK) (a b : V), Room k (A.deeper (envOfC x (defScope st) s.heap.objs.size f cdv)) → R a b H Q →
      ∃ t, PSs (cxOf CX0 P w K mg base N x (defScope st) f cdv A outer s H E).nox (defBody st) t ∧ t { nx := fun _ H' => Q .non H', rt := Q } (start N [a, b]) H) : FnOk P w K mg base CX0 (k + 1) f fd ps (sp2 R) := by
  refine okR F S (fun vs H Q E h => ?_) fun cdv A outer s H vs Q E hr h => ?_
  · obtain ⟨_, _, rfl, _⟩ := h
    exact hl.symm
  · obtain ⟨a, b, rfl, h⟩ := h
    exact body cdv A outer s H Q E a b hr h
theorem okR3 {R : V → V → V → Hp → VK → Prop} (F : FunD K x x (defArgs st) (defBody st) (defScope st) [] [] f fd) (S : FnScope N ps (defScope st)) (hl : ps.length = 3)
    (body : ∀ (cdv : Value) (A : Around) (outer : List Env) (s : Shared) (H : Hp) (Q : VK) (E : XK) (a b c : V), Room k (A.deeper (envOfC x (defScope st) s.heap.objs.size f cdv)) → R a b c H Q →
      ∃ t, PSs (cxOf CX0 P w K mg base N x (defScope st) f cdv A outer s H E).nox (defBody st) t ∧ t { nx := fun _ H' => Q .non H', rt := Q } (start N [a, b, c]) H) : FnOk P w K mg base CX0 (k + 1) f fd ps (sp3 R) := by
  refine okR F S (fun vs H Q E h => ?_) fun cdv A outer s H vs Q E hr h => ?_
  · obtain ⟨_, _, _, rfl, _⟩ := h
    exact hl.symm
  · obtain ⟨a, b, c, rfl, h⟩ := h
    exact body cdv A outer s H Q E a b c hr h
end
/-! ### heaps: all but the object at d stays -/
def Keep (d : Addr) (H H' : Hp) : Prop := ∀ b o, H b = some o → b ≠ d → H' b = some o
theorem Keep.refl (d : Addr) (H : Hp) : Keep d H H := fun _ _ h _ => h
theorem Keep.trans {d : Addr} {H H1 H2 : Hp} (a : Keep d H H1) (b : Keep d H1 H2) : Keep d H H2 := fun c o h n => b c o (a c o h n) n
theorem Keep.of {d : Addr} {H H1 : Hp} (a : Same H H1) : Keep d H H1 := fun c o h _ => a c o h
theorem Keep.new {d p : Addr} {H : Hp} {o : HO} (h : H p = none) : Keep d H (upd H p o) := fun b u e _ => by
  rw [upd_ne (ne_of_none e h)]
  exact e
theorem Keep.at {d : Addr} {H : Hp} {o : HO} : Keep d H (upd H d o) := fun b u e n => by
  rw [upd_ne n]
  exact e
theorem same_new {H : Hp} {p : Addr} {o : HO} (h : H p = none) : Same H (upd H p o) := fun b u e => by
  rw [upd_ne (ne_of_none e h)]
  exact e
theorem upd_else {H : Hp} {a b : Addr} {o u : HO} (h : H b = some u) (n : b ≠ a) : upd H a o b = some u := by
  rw [upd_ne n]
  exact h
theorem sl (n : Nat) (h : n ≤ 1000 := by decide) : n ≤ sizeLine := Nat.le_of_lt (small1000 h)
/-- a list's item by a written place -/
theorem at_n {xs : List V} {v : V} (j : Nat) (h : xs[j]? = some v) : atI xs (j : Int) = some v := atI_nat h
theorem yes {σ : L2.St} {H : Hp} {A B : Hp → Prop} (h : A H) : tYes σ H fun b H' => if b = true then A H' else B H' := by
  show if true = true then A H else B H
  rw [if_pos rfl]
  exact h

/-! ### the law's draws: d holds the script's numbers (a list at c), a place and three numbers -/
def Dr (d c : Addr) (H : Hp) : Prop := ∃ (cells : List Int) (i : Nat) (big seed cnt : Int), H d = some (.lst [.ref c, .int i, .int big, .int seed, .int cnt]) ∧ H c = some (.lst (cells.map V.int)) ∧ c ≠ d
theorem Dr.same {d c : Addr} {H H' : Hp} (h : Dr d c H) (s : Same H H') : Dr d c H' := by
  obtain ⟨cells, i, big, seed, cnt, h1, h2, h3⟩ := h
  exact ⟨cells, i, big, seed, cnt, s _ _ h1, s _ _ h2, h3⟩
theorem Dr.new {d c p : Addr} {H : Hp} {o : HO} (h : Dr d c H) (n : H p = none) : Dr d c (upd H p o) := h.same (same_new n)
theorem Dr.there {d c : Addr} {H : Hp} (h : Dr d c H) : ∃ xs, H d = some (.lst xs) := by
  obtain ⟨cells, i, big, seed, cnt, h1, h2, h3⟩ := h
  exact ⟨_, h1⟩
theorem Dr.dne {d c p : Addr} {H : Hp} (h : Dr d c H) (n : H p = none) : p ≠ d := by
  obtain ⟨_, h1⟩ := h.there
  exact (ne_of_none h1 n).symm
theorem Dr.cne {d c p : Addr} {H : Hp} (h : Dr d c H) (n : H p = none) : p ≠ c := by
  obtain ⟨cells, i, big, seed, cnt, h1, h2, h3⟩ := h
  exact (ne_of_none h2 n).symm
/-- another object than d and c is written -/
theorem Dr.else {d c p : Addr} {H : Hp} {o : HO} (h : Dr d c H) (n1 : p ≠ d) (n2 : p ≠ c) : Dr d c (upd H p o) := by
  obtain ⟨cells, i, big, seed, cnt, h1, h2, h3⟩ := h
  exact ⟨cells, i, big, seed, cnt, upd_else h1 n1.symm, upd_else h2 n2.symm, h3⟩
def rBegin (K : PySem.W.Frag) : V → Hp → VK → Prop := fun x H Q => ∃ (a : Addr) (ns : List Int), x = .ref a ∧ SqL K H a (ns.map V.int) ∧ ns.length ≤ 63 ∧
  ∀ (d c : Addr) (H' : Hp), Dr d c H' → Same H H' → Q (.ref d) H'
def rMixed : V → V → Hp → VK → Prop := fun x y H Q => ∃ (d c : Addr) (z : Int), x = .ref d ∧ y = .int z ∧ Dr d c H ∧ ∀ (r : Int) (H' : Hp), Dr d c H' → Keep d H H' → Q (.int r) H'
def rDraw : V → V → Hp → VK → Prop := fun x y H Q => ∃ (d c : Addr) (m : Int), x = .ref d ∧ y = .int m ∧ Dr d c H ∧ 0 < m ∧ m < 1000000000 ∧ ∀ (r : Int) (H' : Hp), 0 ≤ r → r < m → Dr d c H' → Keep d H H' → Q (.int r) H'
def rRare : V → V → Hp → VK → Prop := fun x y H Q => ∃ (d c : Addr) (m : Int), x = .ref d ∧ y = .int m ∧ Dr d c H ∧ 4 < m ∧ m < 1000000000 ∧ ∀ (r : Bool) (H' : Hp), Dr d c H' → Keep d H H' → Q (.bl r) H'
section
variable {P : Program} {w : World} {K : PySem.W.Frag} {mg : Str → Option Value} {base : Heap}
theorem ok_begin (T : Tx K mg) : FnOk P w K mg base CX0 1 T.f_begin T.fd_begin ["_law_script"] (sp1 (rBegin K)) := by
  refine okR1 T.F_begin sc_begin rfl fun cdv A outer s H Q E x hr h => ?_
  obtain ⟨a, ns, rfl, hS, h63, q⟩ := h
  refine ⟨_, pss_one (ps_ret (pe_lst (pa_cons (pe_lc (own := [("_law_cell", 1)]) (g := gName 1) (tt := tYes) rfl sc_begin.nd (pi_list (pv 0)) (blkOk_by (N := ["_law_script", "_law_cell"]) (sc := defScope s_begin) (by decide +kernel)) (fun _ _ _ _ _ => pg_name (i := 1) sc_begin.nd rfl (Or.inl rfl)) (fun _ _ _ _ _ => pts_nil) (fun _ _ _ _ _ => (pe_callTy call_int1 (by rfl) T.z_int (by decide +kernel) (pa_cons (pv 1) pa_nil)))) (pa_cons pe_int (pa_cons pe_int (pa_cons pe_int (pa_cons pe_int pa_nil))))))), ?_⟩
  refine ⟨_, rfl, a, rfl, ⟨_, hS⟩, fun D hD => lc_list (K := K) (a := a) (xs := ns.map V.int) (fun i H' => H' = upd H D (.lst ((ns.take i).map V.int))) rfl ?_ ?_ ?_⟩
  · rintro i H' _ rfl
    exact (same_new hD).seq hS
  · rintro i x H' hi rfl
    rw [List.getElem?_map] at hi
    obtain ⟨z, hz, rfl⟩ := Option.map_eq_some_iff.mp hi
    refine ⟨rfl, yes ?_⟩
    refine ⟨_, rfl, .inl ⟨_, rfl, ?_⟩⟩
    refine ⟨_, upd_same, ?_, ?_⟩
    · rw [List.length_map, List.length_take]
      exact small1000 (by omega)
    · rw [upd_upd, List.take_add_one, hz, List.map_append] <;> rfl
  · rintro H' rfl
    rw [show (List.map V.int ns).length = ns.length from List.length_map _, List.take_length]
    refine ⟨sl 5, fun p hp => ?_⟩
    have hDp : D ≠ p := ne_of_none upd_same hp
    exact q p D _ ⟨ns, 0, 0, 1234577, 0, upd_same, upd_else upd_same hDp, hDp⟩ ((same_new hD).trans (same_new hp))
theorem ok_mixed (T : Tx K mg) : FnOk P w K mg base CX0 1 T.f_mixed T.fd_mixed ["_law_d", "_law_cell"] (sp2 rMixed) := by
  refine okR2 T.F_mixed sc_mixed rfl fun cdv A outer s H Q E x y hr h => ?_
  obtain ⟨d, c, z, rfl, rfl, ⟨cells, i, big, seed, cnt, h1, h2, hn⟩, q⟩ := h
  refine ⟨_, pss_cons (ps_asg (pe_op op_add (pe_ix ix_list (pv 0) pe_int (fun _ _ => rfl)) pe_int) (pg_sub (pv 0) pe_int set_list))
      (pss_cons (ps_asg (pe_op op_mod (pe_callTy call_int1 (by rfl) T.z_int (by decide +kernel) (pa_cons (pe_op op_add (pe_op op_add (pe_op op_mul (pe_ix ix_list (pv 0) pe_int (fun _ _ => rfl)) pe_int) (pe_op op_mul (pe_op op_add (pv 1) (pe_ix ix_list (pv 0) pe_int (fun _ _ => rfl))) pe_int)) pe_int) pa_nil)) pe_int) (pg_sub (pv 0) pe_int set_list))
      (pss_cons (ps_asg (pe_op op_mod (pe_callTy call_int1 (by rfl) T.z_int (by decide +kernel) (pa_cons (pe_op op_add (pe_op op_add (pe_op op_mul (pe_ix ix_list (pv 0) pe_int (fun _ _ => rfl)) pe_int) (pe_op op_mul (pe_ix ix_list (pv 0) pe_int (fun _ _ => rfl)) pe_int)) pe_int) pa_nil)) pe_int) (pg_sub (pv 0) pe_int set_list))
      (pss_one (ps_ret (pe_op op_fdiv (pe_ix ix_list (pv 0) pe_int (fun _ _ => rfl)) pe_int))))), ?_⟩
  refine ⟨_, rfl, d, _, _, _, rfl, rfl, SqL.of h1, at_n 4 rfl, _, _, rfl, rfl, _, rfl, d, _, _, 4, rfl, rfl, h1, rfl, ?_⟩
  refine ⟨_, rfl, d, _, _, _, rfl, rfl, SqL.of upd_same, at_n 3 rfl, _, _, rfl, rfl, .inr (by decide), _, rfl, _, rfl, d, _, _, _, rfl, rfl, SqL.of upd_same, at_n 4 rfl, _, _, rfl, rfl, _, _, rfl, rfl, .inr (by decide), _, _, rfl, rfl, _, _, rfl, rfl, .inl ⟨_, rfl, ?_⟩⟩
  refine ⟨_, _, rfl, rfl, (by show (0 : Int) < 2147483647; decide), _, rfl, d, _, _, 3, rfl, rfl, upd_same, rfl, ?_⟩
  rw [upd_upd]
  refine ⟨_, rfl, d, _, _, _, rfl, rfl, SqL.of upd_same, at_n 3 rfl, _, _, rfl, rfl, .inr (by decide), _, rfl, d, _, _, _, rfl, rfl, SqL.of upd_same, at_n 4 rfl, _, _, rfl, rfl, .inr (by decide), _, _, rfl, rfl, _, _, rfl, rfl, .inl ⟨_, rfl, ?_⟩⟩
  refine ⟨_, _, rfl, rfl, (by show (0 : Int) < 2147483629; decide), _, rfl, d, _, _, 3, rfl, rfl, upd_same, rfl, ?_⟩
  rw [upd_upd]
  refine ⟨_, rfl, d, _, _, _, rfl, rfl, SqL.of upd_same, at_n 3 rfl, _, _, rfl, rfl, ⟨by decide, by decide⟩, ?_⟩
  exact q _ _ ⟨cells, i, big, _, _, upd_same, upd_else h2 hn, hn⟩ Keep.at
theorem ok_draw_digit (T : Tx K mg) : FnOk P w K mg base CX0 1 T.f_draw_digit T.fd_draw_digit ["_law_d", "_law_many"] (sp2 rDraw) := by
  refine okR2 T.F_draw_digit sc_draw_digit rfl fun cdv A outer s H Q E x y hr h => ?_
  obtain ⟨d, c, m, rfl, rfl, ⟨cells, i, big, seed, cnt, h1, h2, hn⟩, m0, m1, q⟩ := h
  refine ⟨_, pss_cons (ps_set (i := 2) sc_draw_digit.nd rfl (Or.inl rfl) (pe_callB call_divmod (by rfl) T.z_divmod (by decide +kernel) (pa_cons (pe_ix ix_list (pv 0) pe_int (fun _ _ => rfl)) (pa_cons (pv 1) pa_nil))))
      (pss_cons (ps_asg (pe_ix ix_tup (pv 2) pe_int (fun _ _ => rfl)) (pg_sub (pv 0) pe_int set_list))
      (pss_one (ps_ret (pe_ix ix_tup (pv 2) pe_int (fun _ _ => rfl))))), ?_⟩
  refine ⟨_, rfl, d, _, _, _, rfl, rfl, SqL.of h1, at_n 2 rfl, _, rfl, _, _, rfl, ⟨m0, by omega⟩, fun p hp => ?_⟩
  have hdp : d ≠ p := ne_of_none h1 hp
  have hcp : c ≠ p := ne_of_none h2 hp
  refine ⟨_, rfl, p, _, _, _, rfl, rfl, SqT.of upd_same, at_n 0 rfl, _, rfl, d, _, _, 2, rfl, rfl, upd_else h1 hdp, rfl, ?_⟩
  refine ⟨_, rfl, p, _, _, _, rfl, rfl, SqT.of (upd_else upd_same hdp.symm), at_n 1 rfl, ?_⟩
  refine q _ _ (Int.emod_nonneg _ (by omega)) (Int.emod_lt_of_pos _ m0) ⟨cells, i, _, seed, cnt, upd_same, upd_else (upd_else h2 hcp) hn, hn⟩ ((Keep.new hp).trans Keep.at)
theorem ok_draw (T : Tx K mg) : FnOk P w K mg base CX0 2 T.f_draw T.fd_draw ["_law_d", "_law_many"] (sp2 rDraw) := by
  refine okR2 T.F_draw sc_draw rfl fun cdv A outer s H Q E x y hr h => ?_
  obtain ⟨d, c, m, rfl, rfl, ⟨cells, i, big, seed, cnt, h1, h2, hn⟩, m0, m1, q⟩ := h
  have dr : Dr d c H := ⟨cells, i, big, seed, cnt, h1, h2, hn⟩
  refine ⟨_, pss_cons (ps_if (pt_cmpR op_gt (pe_ix ix_list (pv 0) pe_int (fun _ _ => rfl)) pe_int (nomark _)) (pss_one (ps_ret (pe_call (ok_draw_digit T) (hr.mono (by decide)) rfl T.m_draw_digit T.F_draw_digit.kp T.b_draw_digit .nil pass0 (pa_cons (pv 0) (pa_cons (pv 1) pa_nil))))) pss_nil)
      (pss_cons (ps_if (pt_cmpR op_lt (pe_ix ix_list (pv 0) pe_int (fun _ _ => rfl)) (pe_callB call_len_seq (by rfl) T.z_len (by decide +kernel) (pa_cons (pe_ix ix_list (pv 0) pe_int (fun _ _ => rfl)) pa_nil)) (nomark _)) (pss_cons (ps_set (i := 2) sc_draw.nd rfl (Or.inl rfl) (pe_ix ix_list (pe_ix ix_list (pv 0) pe_int (fun _ _ => rfl)) (pe_ix ix_list (pv 0) pe_int (fun _ _ => rfl)) (fun _ _ => rfl)))
      (pss_cons (ps_asg (pe_op op_add (pe_ix ix_list (pv 0) pe_int (fun _ _ => rfl)) pe_int) (pg_sub (pv 0) pe_int set_list))
      (pss_cons (ps_if (pt_cmpR op_ge (pe_callB call_abs (by rfl) T.z_abs (by decide +kernel) (pa_cons (pv 2) pa_nil)) (pe_op op_pow pe_int pe_int) (nomark _)) (pss_cons (ps_asg (pe_op op_and (pe_op op_fdiv (pe_callB call_abs (by rfl) T.z_abs (by decide +kernel) (pa_cons (pv 2) pa_nil)) pe_int) (pe_op op_sub (pe_op op_shl pe_int pe_int) pe_int)) (pg_sub (pv 0) pe_int set_list))
      (pss_one (ps_ret (pe_call (ok_draw_digit T) (hr.mono (by decide)) rfl T.m_draw_digit T.F_draw_digit.kp T.b_draw_digit .nil pass0 (pa_cons (pv 0) (pa_cons (pv 1) pa_nil)))))) pss_nil)
      (pss_one (ps_ret (pe_op op_mod (pe_callTy call_int1 (by rfl) T.z_int (by decide +kernel) (pa_cons (pe_call (ok_mixed T) (hr.mono (by decide)) rfl T.m_mixed T.F_mixed.kp T.b_mixed .nil pass0 (pa_cons (pv 0) (pa_cons (pv 2) pa_nil))) pa_nil)) (pv 1))))))) pss_nil)
      (pss_one (ps_ret (pe_op op_mod (pe_callTy call_int1 (by rfl) T.z_int (by decide +kernel) (pa_cons (pe_call (ok_mixed T) (hr.mono (by decide)) rfl T.m_mixed T.F_mixed.kp T.b_mixed .nil pass0 (pa_cons (pv 0) (pa_cons pe_int pa_nil))) pa_nil)) (pv 1))))), ?_⟩
  -- if d[2] > 0
  refine ⟨_, rfl, d, _, _, _, rfl, rfl, SqL.of h1, at_n 2 rfl, _, _, rfl, rfl, _, rfl, ite2 (fun _ => ?_) (fun _ => ?_)⟩
  · exact ⟨_, rfl, _, rfl, _, _, rfl, d, c, m, rfl, rfl, dr, m0, m1, q⟩
  -- if d[1] < len(d[0])
  refine ⟨_, rfl, d, _, _, _, rfl, rfl, SqL.of h1, at_n 1 rfl, _, rfl, d, _, _, _, rfl, rfl, SqL.of h1, at_n 0 rfl, c, _, rfl, .inl (SqL.of h2), _, _, rfl, rfl, _, rfl, ite2 (fun hc => ?_) (fun _ => ?_)⟩
  · have hi : i < cells.length := by
      have e : (i : Int) < ((cells.map V.int).length : Int) := of_decide_eq_true hc
      rw [List.length_map] at e
      omega
    obtain ⟨z, hz⟩ : ∃ z, cells[i]? = some z := ⟨cells[i], List.getElem?_eq_getElem hi⟩
    have hz' : (cells.map V.int)[i]? = some (.int z) := by
      rw [List.getElem?_map, hz]
      rfl
    -- cell = d[0][d[1]]; d[1] = d[1] + 1
    refine ⟨_, rfl, d, _, _, _, rfl, rfl, SqL.of h1, at_n 0 rfl, _, rfl, d, _, _, _, rfl, rfl, SqL.of h1, at_n 1 rfl, c, _, _, _, rfl, rfl, SqL.of h2, at_n i hz', ?_⟩
    refine ⟨_, rfl, d, _, _, _, rfl, rfl, SqL.of h1, at_n 1 rfl, _, _, rfl, rfl, _, rfl, d, _, _, 1, rfl, rfl, h1, rfl, ?_⟩
    have dr1 : Dr d c (upd H d (.lst [.ref c, .int (i + 1), .int big, .int seed, .int cnt])) := ⟨cells, i + 1, big, seed, cnt, upd_same, upd_else h2 hn, hn⟩
    -- if abs(cell) >= 10 ** 18
    refine ⟨_, rfl, _, rfl, _, _, rfl, rfl, ⟨by decide, by decide, by decide⟩, _, _, rfl, rfl, _, rfl, ite2 (fun _ => ?_) (fun _ => ?_)⟩
    · refine ⟨_, rfl, _, rfl, _, _, rfl, rfl, ⟨by decide, by decide⟩, _, _, rfl, rfl, ⟨by decide, by decide, by decide⟩, _, _, rfl, rfl, _, _, rfl, rfl, _, rfl, d, _, _, 2, rfl, rfl, upd_same, rfl, ?_⟩
      rw [upd_upd]
      refine ⟨_, rfl, _, rfl, _, _, rfl, d, c, m, rfl, rfl, ⟨cells, i + 1, _, seed, cnt, upd_same, upd_else h2 hn, hn⟩, m0, m1, fun r H' r0 r1 dr' kp => ?_⟩
      exact q r H' r0 r1 dr' (Keep.at.trans kp)
    · refine ⟨_, rfl, _, rfl, _, _, rfl, d, c, z, rfl, rfl, dr1, fun r H' dr' kp => .inl ⟨_, rfl, ?_⟩⟩
      exact ⟨_, rfl, _, _, rfl, rfl, m0, q _ _ (Int.emod_nonneg _ (by omega)) (Int.emod_lt_of_pos _ m0) dr' (Keep.at.trans kp)⟩
  · refine ⟨_, rfl, _, _, rfl, d, c, 7, rfl, rfl, dr, fun r H' dr' kp => .inl ⟨_, rfl, ?_⟩⟩
    exact ⟨_, rfl, _, _, rfl, rfl, m0, q _ _ (Int.emod_nonneg _ (by omega)) (Int.emod_lt_of_pos _ m0) dr' kp⟩
end

/-! ### data of tuples, in a heap -/
mutual
def Td (H : Hp) : PyData → V → Prop
  | .none, v => v = .non
  | .bool b, v => v = .bl b
  | .int i, v => v = .int i
  | .str x, v => v = .str x
  | .tuple ds, v => ∃ a xs, v = .ref a ∧ H a = some (.tup xs) ∧ TdAll H ds xs
  | .list _, _ => False
  | .dict _, _ => False
def TdAll (H : Hp) : List PyData → List V → Prop
  | [], xs => xs = []
  | d :: ds, xs => ∃ v r, xs = v :: r ∧ Td H d v ∧ TdAll H ds r
end
/-- tuples stay -/
def TS (H H' : Hp) : Prop := ∀ b xs, H b = some (.tup xs) → H' b = some (.tup xs)
theorem TS.refl (H : Hp) : TS H H := fun _ _ e => e
theorem TS.of {H H' : Hp} (s : Same H H') : TS H H' := fun b xs e => s b _ e
theorem TS.keep {d : Addr} {H H' : Hp} (k : Keep d H H') (h : ∃ xs, H d = some (.lst xs)) : TS H H' := fun b xs e => by
  obtain ⟨ys, h⟩ := h
  refine k b _ e ?_
  rintro rfl
  rw [h] at e
  cases e
theorem TS.trans {H H1 H2 : Hp} (a : TS H H1) (b : TS H1 H2) : TS H H2 := fun c o h => b c o (a c o h)
theorem TS.wr {H : Hp} {l : Addr} {xs : List V} {o : HO} (h : H l = some (.lst xs)) : TS H (upd H l o) := fun b ys e => by
  refine upd_else e ?_
  rintro rfl
  rw [h] at e
  cases e
theorem TS.dict {H : Hp} {l : Addr} {xs : List (Key × V)} {o : HO} (h : H l = some (.dK xs)) : TS H (upd H l o) := fun b ys e => by
  refine upd_else e ?_
  rintro rfl
  rw [h] at e
  cases e
theorem TS.new {H : Hp} {p : Addr} {o : HO} (h : H p = none) : TS H (upd H p o) := TS.of (same_new h)
theorem TS.dr {d c : Addr} {H H' : Hp} (dr : Dr d c H) (k : Keep d H H') : TS H H' := TS.keep k dr.there
mutual
theorem Td.mono {H H' : Hp} (s : TS H H') : ∀ (d : PyData) (v : V), Td H d v → Td H' d v
  | .none, _, h => h
  | .bool _, _, h => h
  | .int _, _, h => h
  | .str _, _, h => h
  | .tuple ds, _, ⟨a, xs, e, h1, h2⟩ => ⟨a, xs, e, s _ _ h1, TdAll.mono s ds xs h2⟩
  | .list _, _, h => h
  | .dict _, _, h => h
theorem TdAll.mono {H H' : Hp} (s : TS H H') : ∀ (ds : List PyData) (xs : List V), TdAll H ds xs → TdAll H' ds xs
  | [], _, h => h
  | d :: ds, _, ⟨v, r, e, h1, h2⟩ => ⟨v, r, e, Td.mono s d v h1, TdAll.mono s ds r h2⟩
end
mutual
theorem Td.dp {K : PySem.W.Frag} {H : Hp} : ∀ (d : PyData) (v : V), Td H d v → Dp K H v d
  | .none, _, h => by cases h; exact .non
  | .bool b, _, h => by cases h; exact .bl b
  | .int i, _, h => by cases h; exact .int i
  | .str x, _, h => by cases h; exact .str x
  | .tuple ds, _, ⟨a, xs, e, h1, h2⟩ => by subst e; exact .tup (SqT.of h1) (TdAll.dp ds xs h2)
  | .list _, _, h => h.elim
  | .dict _, _, h => h.elim
theorem TdAll.dp {K : PySem.W.Frag} {H : Hp} : ∀ (ds : List PyData) (xs : List V), TdAll H ds xs → DpAll K H xs ds
  | [], _, h => by cases h; exact .nil
  | d :: ds, _, ⟨v, r, e, h1, h2⟩ => by subst e; exact .cons (Td.dp d v h1) (TdAll.dp ds r h2)
end
theorem TdAll.len {H : Hp} : ∀ (ds : List PyData) (xs : List V), TdAll H ds xs → xs.length = ds.length
  | [], _, h => by cases h; rfl
  | _ :: ds, _, ⟨v, r, e, _, h2⟩ => by subst e; exact congrArg Nat.succ (TdAll.len ds r h2)
theorem TdAll.app {H : Hp} : ∀ (ds es : List PyData) (xs ys : List V), TdAll H ds xs → TdAll H es ys → TdAll H (ds ++ es) (xs ++ ys)
  | [], _, _, _, h, k => by cases h; exact k
  | _ :: ds, es, _, ys, ⟨v, r, e, h1, h2⟩, k => by subst e; exact ⟨v, r ++ ys, rfl, h1, TdAll.app ds es r ys h2 k⟩
theorem TdAll.tk {H : Hp} : ∀ (n : Nat) (ds : List PyData) (xs : List V), TdAll H ds xs → TdAll H (ds.take n) (xs.take n)
  | 0, _, _, _ => by simp only [List.take_zero]; exact rfl
  | _ + 1, [], _, h => by cases h; exact rfl
  | n + 1, _ :: ds, _, ⟨v, r, e, h1, h2⟩ => by subst e; exact ⟨v, r.take n, rfl, h1, TdAll.tk n ds r h2⟩
theorem TdAll.dr {H : Hp} : ∀ (n : Nat) (ds : List PyData) (xs : List V), TdAll H ds xs → TdAll H (ds.drop n) (xs.drop n)
  | 0, _, _, h => h
  | _ + 1, [], _, h => by cases h; exact rfl
  | n + 1, _ :: ds, _, ⟨v, r, e, h1, h2⟩ => by subst e; exact TdAll.dr n ds r h2
theorem TdAll.at {H : Hp} : ∀ (i : Nat) (ds : List PyData) (xs : List V) (d : PyData), TdAll H ds xs → ds[i]? = some d → ∃ v, xs[i]? = some v ∧ Td H d v
  | _, [], _, _, _, e => by simp at e
  | 0, _ :: ds, _, d, ⟨v, r, e, h1, h2⟩, k => by
    subst e
    simp at k
    subst k
    exact ⟨v, rfl, h1⟩
  | i + 1, _ :: ds, _, d, ⟨v, r, e, h1, h2⟩, k => by
    subst e
    obtain ⟨u, e1, e2⟩ := TdAll.at i ds r d h2 (by simpa using k)
    exact ⟨u, by simpa using e1, e2⟩
mutual
def plainD : PyData → Bool
  | .none => true
  | .bool _ => false
  | .int _ => true
  | .str x => PyData.strOk x
  | .tuple ds => plainAll ds
  | .list _ => false
  | .dict _ => false
def plainAll : List PyData → Bool
  | [] => true
  | d :: ds => plainD d && plainAll ds
end
mutual
theorem plain_lay : ∀ d : PyData, plainD d = true → PyData.canLay0 d = true
  | .none, _ => rfl
  | .bool _, h => by cases h
  | .int _, _ => rfl
  | .str _, h => h
  | .tuple ds, h => plain_layAll ds h
  | .list _, h => by cases h
  | .dict _, h => by cases h
theorem plain_layAll : ∀ ds : List PyData, plainAll ds = true → PyData.canLayAll0 ds = true
  | [], _ => rfl
  | d :: ds, h => by
    have h' := Bool.and_eq_true_iff.mp h
    show (PyData.canLay0 d && PyData.canLayAll0 ds) = true
    rw [plain_lay d h'.1, plain_layAll ds h'.2]
    rfl
end
mutual
theorem eqv_eq : ∀ d e : PyData, plainD d = true → plainD e = true → PyData.eqv d e = true → d = e
  | .none, e, _, he, h => by cases e <;> first | rfl | cases h
  | .bool _, _, hd, _, _ => by cases hd
  | .int i, e, _, he, h => by
    cases e <;> first | cases h | cases he | skip
    have := beq_iff_eq.mp (show (i == _) = true from h)
    rw [this]
  | .str x, e, _, _, h => by
    cases e <;> first | cases h | skip
    have := beq_iff_eq.mp (show (x == _) = true from h)
    rw [this]
  | .tuple ds, e, hd, he, h => by
    cases e <;> first | cases h | skip
    exact congrArg PyData.tuple (eqvAll_eq ds _ hd he h)
  | .list _, _, hd, _, _ => by cases hd
  | .dict _, _, hd, _, _ => by cases hd
theorem eqvAll_eq : ∀ ds es : List PyData, plainAll ds = true → plainAll es = true → PyData.eqvAll ds es = true → ds = es
  | [], [], _, _, _ => rfl
  | [], _ :: _, _, _, h => by cases h
  | _ :: _, [], _, _, h => by cases h
  | d :: ds, e :: es, hd, he, h => by
    have h1 := Bool.and_eq_true_iff.mp hd
    have h2 := Bool.and_eq_true_iff.mp he
    have h3 := Bool.and_eq_true_iff.mp (show (PyData.eqv d e && PyData.eqvAll ds es) = true from h)
    rw [eqv_eq d e h1.1 h2.1 h3.1, eqvAll_eq ds es h1.2 h2.2 h3.2]
end
theorem eqv_iff {d e : PyData} (hd : plainD d = true) (he : plainD e = true) : PyData.eqv d e = true ↔ d = e :=
  ⟨eqv_eq d e hd he, fun h => by rw [h]; exact SeqAt.eqv_refl e (plain_lay e he)⟩
theorem eqvAll_iff {d e : List PyData} (hd : plainAll d = true) (he : plainAll e = true) : PyData.eqvAll d e = true ↔ d = e :=
  ⟨eqvAll_eq d e hd he, fun h => by
    have h2 := SeqAt.eqv_refl (.tuple e) (plain_layAll e he)
    rw [h]
    exact h2⟩

/-- what the law finds: from the last layer to the first -/
def bwd : List (Int × Int) → Int × Int
  | [] => (1, 0)
  | (m, j) :: r => (m * (bwd r).1, j + m * (bwd r).2)

/-! ### the ticks that a clock lets by -/
def hit (n k t : Int) : Bool := decide (k ≤ t) && decide ((t - k) % n = 0)
def cnt (n k t : Int) : Int := (t - k + (n - 1)) / n
theorem hit_iff {n k t : Int} (hn : 1 ≤ n) : hit n k t = true ↔ ∃ q, 0 ≤ q ∧ t = k + n * q := by
  unfold hit
  rw [Bool.and_eq_true, decide_eq_true_iff, decide_eq_true_iff]
  constructor
  · rintro ⟨h1, h2⟩
    refine ⟨(t - k) / n, Int.ediv_nonneg (by omega) (by omega), ?_⟩
    have := Int.mul_ediv_add_emod (t - k) n
    omega
  · rintro ⟨q, h1, rfl⟩
    have h2 : 0 ≤ n * q := Int.mul_nonneg (by omega) h1
    refine ⟨by omega, ?_⟩
    rw [show k + n * q - k = n * q by omega]
    exact Int.mul_emod_right n q
theorem cnt_hit {n k q : Int} (hn : 1 ≤ n) : cnt n k (k + n * q) = q ∧ cnt n k (k + n * q + 1) = q + 1 := by
  unfold cnt
  constructor
  · rw [show k + n * q - k + (n - 1) = (n - 1) + n * q by omega, Int.add_mul_ediv_left _ _ (by omega), Int.ediv_eq_zero_of_lt (by omega) (by omega)]
    omega
  · rw [show k + n * q + 1 - k + (n - 1) = n * q + n * 1 by omega, ← Int.mul_add, Int.mul_ediv_cancel_left _ (by omega)]
theorem cnt_miss {n k t : Int} (hn : 1 ≤ n) (hk : 0 ≤ k) (hkn : k < n) (ht : 0 ≤ t) (h : hit n k t = false) : cnt n k (t + 1) = cnt n k t := by
  have hne : (t - k) % n ≠ 0 := by
    intro e
    have hd := Int.mul_ediv_add_emod (t - k) n
    rw [e] at hd
    have hq : hit n k t = true := by
      rw [hit_iff hn]
      refine ⟨(t - k) / n, ?_, by omega⟩
      by_cases hz : 0 ≤ (t - k) / n
      · exact hz
      · have h1 : n * ((t - k) / n) ≤ n * (-1) := Int.mul_le_mul_of_nonneg_left (by omega) (by omega)
        omega
    rw [h] at hq
    cases hq
  unfold cnt
  have hd := Int.mul_ediv_add_emod (t - k) n
  have h0 := Int.emod_nonneg (t - k) (show n ≠ 0 by omega)
  have h1 := Int.emod_lt_of_pos (t - k) (show 0 < n by omega)
  generalize (t - k) / n = y at hd
  generalize (t - k) % n = z at hd h0 h1 hne
  rw [show t + 1 - k + (n - 1) = z + n * (y + 1) by rw [Int.mul_add]; omega, show t - k + (n - 1) = (z - 1) + n * (y + 1) by rw [Int.mul_add]; omega, Int.add_mul_ediv_left _ _ (by omega), Int.add_mul_ediv_left _ _ (by omega), Int.ediv_eq_zero_of_lt h0 h1, Int.ediv_eq_zero_of_lt (by omega) (by omega)]
/-- the next layer lets by: so many ticks of the layers ahead were there -/
theorem hit_next {n k m j q : Int} (hn : 1 ≤ n) (hm : 1 ≤ m) : hit (n * m) (k + n * j) (k + n * q) = hit m j q := by
  have hnm : 1 ≤ n * m := by
    have := Int.mul_le_mul_of_nonneg_left hm (show 0 ≤ n by omega)
    omega
  rw [Bool.eq_iff_iff, hit_iff hnm, hit_iff hm]
  constructor
  · rintro ⟨y, h1, h2⟩
    refine ⟨y, h1, ?_⟩
    have h3 : n * q = n * (j + m * y) := by
      rw [Int.mul_add, ← Int.mul_assoc]
      omega
    exact Int.eq_of_mul_eq_mul_left (by omega) h3
  · rintro ⟨y, h1, rfl⟩
    refine ⟨y, h1, ?_⟩
    rw [Int.mul_add, Int.mul_assoc]
    omega
theorem hit_off {n k m j t : Int} (hn : 1 ≤ n) (hm : 1 ≤ m) (hj : 0 ≤ j) (h : hit n k t = false) : hit (n * m) (k + n * j) t = false := by
  have hnm : 1 ≤ n * m := by
    have := Int.mul_le_mul_of_nonneg_left hm (show 0 ≤ n by omega)
    omega
  cases e : hit (n * m) (k + n * j) t with
  | false => rfl
  | true =>
    obtain ⟨y, h1, h2⟩ := (hit_iff hnm).mp e
    have : hit n k t = true := by
      refine (hit_iff hn).mpr ⟨j + m * y, Int.add_nonneg hj (Int.mul_nonneg (by omega) h1), ?_⟩
      rw [h2, Int.mul_add, Int.mul_assoc]
      omega
    rw [h] at this
    cases this
def cnts (n k : Int) : List (Int × Int) → Int → List Int
  | [], _ => []
  | (m, j) :: r, t => cnt n k t :: cnts (n * m) (k + n * j) r t
theorem cnts_len : ∀ (ps : List (Int × Int)) (n k t : Int), (cnts n k ps t).length = ps.length
  | [], _, _, _ => rfl
  | (m, j) :: r, n, k, t => congrArg Nat.succ (cnts_len r (n * m) (k + n * j) t)
def goodP (p : Int × Int) : Prop := 1 ≤ p.1 ∧ p.1 ≤ 12 ∧ 0 ≤ p.2 ∧ p.2 < p.1
theorem step_ok {n k m j : Int} (hn : 1 ≤ n) (hk : 0 ≤ k) (hkn : k < n) (g : goodP (m, j)) : 1 ≤ n * m ∧ 0 ≤ k + n * j ∧ k + n * j < n * m := by
  obtain ⟨g1, _, g3, g4⟩ := g
  have g1' : 1 ≤ m := g1
  have g3' : 0 ≤ j := g3
  have g4' : j < m := g4
  have h1 : n * 1 ≤ n * m := Int.mul_le_mul_of_nonneg_left g1' (by omega)
  have h2 : 0 ≤ n * j := Int.mul_nonneg (by omega) g3'
  have h3 : n * (j + 1) ≤ n * m := Int.mul_le_mul_of_nonneg_left (by omega) (by omega)
  rw [Int.mul_add] at h3
  omega
theorem cnts_zero : ∀ (ps : List (Int × Int)) (n k : Int), 1 ≤ n → 0 ≤ k → k < n → (∀ p ∈ ps, goodP p) → cnts n k ps 0 = ps.map fun _ => (0 : Int)
  | [], _, _, _, _, _, _ => rfl
  | (m, j) :: r, n, k, hn, hk, hkn, g => by
    obtain ⟨s1, s2, s3⟩ := step_ok hn hk hkn (g (m, j) (by simp))
    show cnt n k 0 :: cnts (n * m) (k + n * j) r 0 = 0 :: r.map fun _ => (0 : Int)
    rw [cnts_zero r (n * m) (k + n * j) s1 s2 s3 fun p hp => g p (List.mem_cons_of_mem _ hp)]
    have e : cnt n k 0 = 0 := by
      unfold cnt
      exact Int.ediv_eq_zero_of_lt (by omega) (by omega)
    rw [e]
theorem bwd_ok : ∀ (ps : List (Int × Int)), (∀ p ∈ ps, goodP p) → 1 ≤ (bwd ps).1 ∧ 0 ≤ (bwd ps).2 ∧ (bwd ps).2 < (bwd ps).1
  | [], _ => by
    show (1 : Int) ≤ 1 ∧ (0 : Int) ≤ 0 ∧ (0 : Int) < 1
    omega
  | (m, j) :: r, g => by
    obtain ⟨g1, _, g3, g4⟩ := g (m, j) (by simp)
    have g1' : 1 ≤ m := g1
    have g3' : 0 ≤ j := g3
    have g4' : j < m := g4
    obtain ⟨h1, h2, h3⟩ := bwd_ok r fun p hp => g p (List.mem_cons_of_mem _ hp)
    show 1 ≤ m * (bwd r).1 ∧ 0 ≤ j + m * (bwd r).2 ∧ j + m * (bwd r).2 < m * (bwd r).1
    have e1 : m * 1 ≤ m * (bwd r).1 := Int.mul_le_mul_of_nonneg_left h1 (by omega)
    have e2 : 0 ≤ m * (bwd r).2 := Int.mul_nonneg (by omega) h2
    have e3 : m * ((bwd r).2 + 1) ≤ m * (bwd r).1 := Int.mul_le_mul_of_nonneg_left (by omega) (by omega)
    rw [Int.mul_add] at e3
    omega
theorem bwd_lt : ∀ (ps : List (Int × Int)), (∀ p ∈ ps, goodP p) → (bwd ps).1 < 2 ^ (4 * ps.length + 1)
  | [], _ => by
    show (1 : Int) < 2
    decide
  | (m, j) :: r, g => by
    obtain ⟨g1, g2, _, _⟩ := g (m, j) (by simp)
    have g2' : m ≤ 12 := g2
    have h := bwd_lt r fun p hp => g p (List.mem_cons_of_mem _ hp)
    obtain ⟨h1, _, _⟩ := bwd_ok r fun p hp => g p (List.mem_cons_of_mem _ hp)
    show m * (bwd r).1 < 2 ^ (4 * (r.length + 1) + 1)
    rw [show 4 * (r.length + 1) + 1 = (4 * r.length + 1) + 4 by omega, Int.pow_add]
    have e : m * (bwd r).1 ≤ 12 * (bwd r).1 := Int.mul_le_mul_of_nonneg_right g2' (by omega)
    have e2 : (2 : Int) ^ 4 = 16 := by decide
    rw [e2]
    omega
/-- the ticks that were let by so far -/
def foundAt (n k t : Int) : List Int := if t ≤ k then [] else if t ≤ k + n then [k] else [k, k + n]
theorem found_step {n k t : Int} (hn : 1 ≤ n) (hk : 0 ≤ k) (ht : 0 ≤ t) (h2 : t < k + 2 * n) : foundAt n k (t + 1) = if hit n k t = true then foundAt n k t ++ [t] else foundAt n k t := by
  by_cases h : hit n k t = true
  · rw [if_pos h]
    obtain ⟨q, h1, rfl⟩ := (hit_iff hn).mp h
    have hq : q = 0 ∨ q = 1 := by
      by_cases hz : q < 2
      · omega
      · have : n * 2 ≤ n * q := Int.mul_le_mul_of_nonneg_left (by omega) (by omega)
        omega
    rcases hq with rfl | rfl
    · unfold foundAt
      rw [Int.mul_zero, Int.add_zero, if_neg (by omega), if_pos (by omega), if_pos (Int.le_refl k)]
      rfl
    · unfold foundAt
      rw [Int.mul_one, if_neg (by omega), if_neg (by omega), if_neg (by omega), if_pos (Int.le_refl _)]
      rfl
  · rw [if_neg h]
    have h3 : t ≠ k := fun e => h ((hit_iff hn).mpr ⟨0, Int.le_refl 0, by omega⟩)
    have h4 : t ≠ k + n := fun e => h ((hit_iff hn).mpr ⟨1, by omega, by omega⟩)
    unfold foundAt
    by_cases a : t ≤ k
    · rw [if_pos a, if_pos (by omega)]
    · rw [if_neg a, if_neg (by omega)]
      by_cases b : t ≤ k + n
      · rw [if_pos b, if_pos (by omega)]
      · rw [if_neg b, if_neg (by omega)]

/-! ### clocks -/
inductive LD where
  | ev (n k : Int) (h : PyData)
  | is (x : Str) (v : PyData)
def LD.d : LD → PyData
  | .ev n k h => .tuple [.str "every", .int n, .int k, h]
  | .is x v => .tuple [.str "is", .str x, v]
def plainS (d : PyData) : Prop := plainD d = true ∧ d.depth ≤ 10
def LD.ok : LD → Prop
  | .ev n k h => goodP (n, k) ∧ plainS h
  | .is x v => plainD (.str x) = true ∧ plainS v
def ClkV (H : Hp) (v : V) (ls : List LD) : Prop := Td H (.tuple (ls.map LD.d)) v
theorem ClkV.mono {H H' : Hp} {v : V} {ls : List LD} (s : TS H H') (h : ClkV H v ls) : ClkV H' v ls := Td.mono s _ _ h
/-- the parts of a layer that stands in the heap -/
theorem ev_at {H : Hp} {v : V} {n k : Int} {h : PyData} (e : Td H (LD.ev n k h).d v) : ∃ b hv, v = .ref b ∧ H b = some (.tup [.str "every", .int n, .int k, hv]) ∧ Td H h hv := by
  obtain ⟨a, xs, rfl, h1, v1, r1, rfl, e1, v2, r2, rfl, e2, v3, r3, rfl, e3, v4, r4, rfl, e4, e5⟩ := e
  cases e1
  cases e2
  cases e3
  cases e5
  exact ⟨a, v4, rfl, h1, e4⟩
theorem is_at {H : Hp} {v : V} {x : Str} {y : PyData} (e : Td H (LD.is x y).d v) : ∃ b w, v = .ref b ∧ H b = some (.tup [.str "is", .str x, w]) ∧ Td H y w := by
  obtain ⟨a, xs, rfl, h1, v1, r1, rfl, e1, v2, r2, rfl, e2, v3, r3, rfl, e3, e5⟩ := e
  cases e1
  cases e2
  cases e5
  exact ⟨a, v3, rfl, h1, e3⟩
theorem ev_mk {H : Hp} {b : Addr} {n k : Int} {h : PyData} {hv : V} (e : H b = some (.tup [.str "every", .int n, .int k, hv])) (hh : Td H h hv) : Td H (LD.ev n k h).d (.ref b) :=
  ⟨b, _, rfl, e, _, _, rfl, rfl, _, _, rfl, rfl, _, _, rfl, rfl, _, _, rfl, hh, rfl⟩
theorem is_mk {H : Hp} {b : Addr} {x : Str} {y : PyData} {w : V} (e : H b = some (.tup [.str "is", .str x, w])) (hh : Td H y w) : Td H (LD.is x y).d (.ref b) :=
  ⟨b, _, rfl, e, _, _, rfl, rfl, _, _, rfl, rfl, _, _, rfl, hh, rfl⟩
def rd (p : Int × Int) : PyData := .tuple [.int p.1, .int p.2]
def pl : Int → Int → List LD → List PyData
  | n, k, [] => [rd (n, k)]
  | n, k, .ev m j _ :: r => pl (n * m) (k + n * j) r
  | n, k, .is x v :: r => rd (n, k) :: (LD.is x v).d :: pl 1 0 r
def grs : Int → Int → List LD → List (Int × Int)
  | n, k, [] => [(n, k)]
  | n, k, .ev m j _ :: r => grs (n * m) (k + n * j) r
  | n, k, .is _ _ :: r => (n, k) :: grs 1 0 r
def nms : List LD → List (Str × PyData)
  | [] => []
  | .ev _ _ _ :: r => nms r
  | .is x v :: r => (x, v) :: nms r
theorem pl_iff : ∀ (ls ls' : List LD) (n k n' k' : Int), pl n k ls = pl n' k' ls' ↔ grs n k ls = grs n' k' ls' ∧ nms ls = nms ls' := by
  have key : ∀ (ls : List LD) (n k : Int), ∃ r rs ms, grs n k ls = r :: rs ∧ nms ls = ms ∧ rs.length = ms.length ∧ pl n k ls = rd r :: ((ms.zip rs).flatMap fun q => [(LD.is q.1.1 q.1.2).d, rd q.2]) := by
    intro ls
    induction ls with
    | nil => exact fun n k => ⟨(n, k), [], [], rfl, rfl, rfl, rfl⟩
    | cons l r ih =>
      intro n k
      cases l with
      | ev m j h => exact ih (n * m) (k + n * j)
      | is x v =>
        obtain ⟨r1, rs, ms, e1, e2, e3, e4⟩ := ih 1 0
        refine ⟨(n, k), r1 :: rs, (x, v) :: ms, ?_, ?_, congrArg Nat.succ e3, ?_⟩
        · show (n, k) :: grs 1 0 r = _
          rw [e1]
        · show (x, v) :: nms r = _
          rw [e2]
        · show rd (n, k) :: (LD.is x v).d :: pl 1 0 r = _
          rw [e4]
          rfl
  have rdi : ∀ p q : Int × Int, rd p = rd q → p = q := by
    rintro ⟨a, b⟩ ⟨c, d⟩ h
    injection h with h
    injection h with h1 h
    injection h with h2 _
    injection h1 with h1
    injection h2 with h2
    rw [show a = c from h1, show b = d from h2]
  have fl : ∀ (ms ms' : List (Str × PyData)) (rs rs' : List (Int × Int)), rs.length = ms.length → rs'.length = ms'.length → ((ms.zip rs).flatMap fun q => [(LD.is q.1.1 q.1.2).d, rd q.2]) = ((ms'.zip rs').flatMap fun q => [(LD.is q.1.1 q.1.2).d, rd q.2]) → rs = rs' ∧ ms = ms' := by
    intro ms
    induction ms with
    | nil =>
      intro ms' rs rs' h1 h2 h
      cases rs with
      | cons _ _ => simp at h1
      | nil =>
        cases ms' with
        | nil =>
          cases rs' with
          | nil => exact ⟨rfl, rfl⟩
          | cons _ _ => simp at h2
        | cons m ms' =>
          cases rs' with
          | nil => simp at h2
          | cons _ _ => simp at h
    | cons m ms ih =>
      intro ms' rs rs' h1 h2 h
      cases rs with
      | nil => simp at h1
      | cons r rs =>
        cases ms' with
        | nil => simp at h
        | cons m' ms' =>
          cases rs' with
          | nil => simp at h2
          | cons r' rs' =>
            have h' : (LD.is m.1 m.2).d :: rd r :: ((ms.zip rs).flatMap fun q => [(LD.is q.1.1 q.1.2).d, rd q.2]) = (LD.is m'.1 m'.2).d :: rd r' :: ((ms'.zip rs').flatMap fun q => [(LD.is q.1.1 q.1.2).d, rd q.2]) := h
            injection h' with g1 h'
            injection h' with g2 h'
            obtain ⟨i1, i2⟩ := ih ms' rs rs' (by simpa using h1) (by simpa using h2) h'
            injection g1 with g1
            injection g1 with _ g1
            injection g1 with g3 g1
            injection g1 with g4 _
            injection g3 with g3
            rw [rdi _ _ g2, i1, i2]
            obtain ⟨x, v⟩ := m
            obtain ⟨x', v'⟩ := m'
            rw [show x = x' from g3, show v = v' from g4]
            exact ⟨rfl, rfl⟩
  intro ls ls' n k n' k'
  obtain ⟨r, rs, ms, e1, e2, e3, e4⟩ := key ls n k
  obtain ⟨r', rs', ms', f1, f2, f3, f4⟩ := key ls' n' k'
  rw [e1, e2, e4, f1, f2, f4]
  constructor
  · intro h
    injection h with h1 h2
    obtain ⟨i1, i2⟩ := fl ms ms' rs rs' e3 f3 h2
    rw [rdi _ _ h1, i1, i2]
    exact ⟨rfl, rfl⟩
  · rintro ⟨h1, h2⟩
    injection h1 with h1 h3
    rw [h1, h3, h2]
def okD (d : PyData) : Prop := plainD d = true ∧ d.depth ≤ 11
theorem LD.okD {l : LD} (h : l.ok) : okD l.d := by
  cases l with
  | ev n k x =>
    obtain ⟨_, h1, h2⟩ := h
    refine ⟨?_, ?_⟩
    · show (PyData.strOk "every" && (true && (true && (plainD x && true)))) = true
      rw [h1]
      decide +kernel
    · show max 0 (max 0 (max 0 (max x.depth 0))) + 1 ≤ 11
      omega
  | is x v =>
    obtain ⟨h0, h1, h2⟩ := h
    refine ⟨?_, ?_⟩
    · show (PyData.strOk "is" && (plainD (.str x) && (plainD v && true))) = true
      rw [h0, h1]
      decide +kernel
    · show max 0 (max 0 (max v.depth 0)) + 1 ≤ 11
      omega
theorem plainAll_of : ∀ ds : List PyData, (∀ d ∈ ds, okD d) → plainAll ds = true ∧ PyData.depthAll ds ≤ 11
  | [], _ => ⟨rfl, Nat.zero_le _⟩
  | d :: ds, h => by
    obtain ⟨h1, h2⟩ := plainAll_of ds fun e he => h e (List.mem_cons_of_mem _ he)
    obtain ⟨g1, g2⟩ := h d (by simp)
    refine ⟨?_, ?_⟩
    · show (plainD d && plainAll ds) = true
      rw [g1, h1]
      rfl
    · show max d.depth (PyData.depthAll ds) ≤ 11
      omega
theorem shaped_list {ds : List PyData} (h : ∀ d ∈ ds, okD d) : SeqAt.shaped (.list ds) = true := by
  obtain ⟨h1, h2⟩ := plainAll_of ds h
  show (PyData.canLayAll0 ds && decide (PyData.depthAll ds + 1 ≤ 64)) = true
  rw [plain_layAll ds h1, decide_eq_true (by omega)]
  rfl
theorem rd_ok (p : Int × Int) : okD (rd p) := ⟨rfl, by show max 0 (max 0 0) + 1 ≤ 11; decide⟩
theorem pl_ok : ∀ (ls : List LD) (n k : Int), (∀ l ∈ ls, l.ok) → ∀ d ∈ pl n k ls, okD d
  | [], n, k, _, d, hd => by
    rw [List.mem_singleton.mp hd]
    exact rd_ok _
  | .ev m j h :: r, n, k, g, d, hd => pl_ok r _ _ (fun l hl => g l (List.mem_cons_of_mem _ hl)) d hd
  | .is x v :: r, n, k, g, d, hd => by
    rcases List.mem_cons.mp hd with rfl | hd
    · exact rd_ok _
    · rcases List.mem_cons.mp hd with rfl | hd
      · exact LD.okD (g _ (by simp))
      · exact pl_ok r _ _ (fun l hl => g l (List.mem_cons_of_mem _ hl)) d hd
theorem pl_len : ∀ (ls : List LD) (n k : Int), (pl n k ls).length ≤ 2 * ls.length + 1
  | [], _, _ => Nat.le_refl _
  | .ev m j h :: r, n, k => by
    have := pl_len r (n * m) (k + n * j)
    show (pl (n * m) (k + n * j) r).length ≤ 2 * (r.length + 1) + 1
    omega
  | .is x v :: r, n, k => by
    have := pl_len r 1 0
    show (pl 1 0 r).length + 1 + 1 ≤ 2 * (r.length + 1) + 1
    omega
def rSlowed : V → V → V → Hp → VK → Prop := fun x y z H Q => ∃ (a : Addr) (n k m j : Int), x = .ref a ∧ H a = some (.tup [.int n, .int k]) ∧ y = .int m ∧ z = .int j ∧ 1 ≤ m ∧ m ≤ 12 ∧ 0 ≤ j ∧ j < m ∧ ∀ p, H p = none → Q (.ref p) (upd H p (.tup [.int (n * m), .int (k + n * j)]))
def rPlain : V → Hp → VK → Prop := fun x H Q => ∃ ls : List LD, ClkV H x ls ∧ (∀ l ∈ ls, l.ok) ∧ ls.length ≤ 100 ∧ ∀ (p : Addr) (xs : List V) (H' : Hp), Same H H' → H' p = some (.lst xs) → TdAll H' (pl 1 0 ls) xs → Q (.ref p) H'
def rOneBeat : V → V → Hp → VK → Prop := fun x y H Q => ∃ ls ls' : List LD, ClkV H x ls ∧ ClkV H y ls' ∧ (∀ l ∈ ls, l.ok) ∧ (∀ l ∈ ls', l.ok) ∧ ls.length ≤ 100 ∧ ls'.length ≤ 100 ∧ ∀ (b : Bool) (H' : Hp), Same H H' → (b = true ↔ grs 1 0 ls = grs 1 0 ls' ∧ nms ls = nms ls') → Q (.bl b) H'
theorem str_ne {x y : Str} (h : x ≠ y) : decide (V.str x = V.str y) = false := decide_eq_false fun z => h (V.str.inj z)
theorem drop_at {α : Type} {l : List α} {i : Nat} {x : α} (h : l[i]? = some x) : l.drop i = x :: l.drop (i + 1) := by
  obtain ⟨hlt, e⟩ := List.getElem?_eq_some_iff.mp h
  rw [← e]
  exact List.drop_eq_getElem_cons hlt
/-- the i-th layer of a clock that stands in the heap -/
theorem lay_at {H : Hp} {xs : List V} {ls : List LD} {i : Nat} {x : V} (h : TdAll H (ls.map LD.d) xs) (e : xs[i]? = some x) : ∃ l, ls[i]? = some l ∧ Td H l.d x := by
  have hl := TdAll.len _ _ h
  have hi : i < xs.length := (List.getElem?_eq_some_iff.mp e).1
  rw [List.length_map] at hl
  refine ⟨ls[i]'(by omega), List.getElem?_eq_getElem (by omega), ?_⟩
  obtain ⟨v, h1, h2⟩ := TdAll.at i _ _ ((ls[i]'(by omega)).d) h (by rw [List.getElem?_map, List.getElem?_eq_getElem (by omega)]; rfl)
  rw [e] at h1
  cases h1
  exact h2
section
variable {P : Program} {w : World} {K : PySem.W.Frag} {mg : Str → Option Value} {base : Heap}
theorem ok_slowed (T : Tx K mg) : FnOk P w K mg base CX0 1 T.f_slowed T.fd_slowed ["rate", "many", "start"] (sp3 rSlowed) := by
  refine okR3 T.F_slowed sc_slowed rfl fun cdv A outer s H Q E x y z hr h => ?_
  obtain ⟨a, n, k, m, j, rfl, ha, rfl, rfl, m1, m2, j1, j2, q⟩ := h
  refine ⟨_, pss_cons (ps_asg (pv 0) (pg_tup rfl (pgs_cons (pg_name (i := 3) sc_slowed.nd rfl (Or.inl rfl)) (pgs_cons (pg_name (i := 4) sc_slowed.nd rfl (Or.inl rfl)) pgs_nil))))
      (pss_one (ps_ret (pe_tup (pa_cons (pe_op op_mul (pv 3) (pv 1)) (pa_cons (pe_op op_add (pv 4) (pe_op op_mul (pv 3) (pv 2))) pa_nil))))), ?_⟩
  refine ⟨_, rfl, a, _, rfl, SqT.of ha, rfl, _, _, rfl, _, _, rfl, rfl, ?_⟩
  exact ⟨_, rfl, _, rfl, _, _, rfl, rfl, .inr ⟨by omega, by omega⟩, _, rfl, _, rfl, _, rfl, _, _, rfl, rfl, .inr ⟨by omega, by omega⟩, _, _, rfl, rfl, sl 2, fun p hp => q p hp⟩
theorem ok_plain (T : Tx K mg) : FnOk P w K mg base CX0 2 T.f_plain T.fd_plain ["clock"] (sp1 rPlain) := by
  refine okR1 T.F_plain sc_plain rfl fun cdv A outer s H Q E x hr h => ?_
  obtain ⟨ls, ⟨a, vs, rfl, ha, hp⟩, hg, hl1, q⟩ := h
  have hlen := TdAll.len _ _ hp
  rw [List.length_map] at hlen
  have hpl := pl_len ls 1 0
  refine ⟨_, pss_cons (ps_set (i := 1) sc_plain.nd rfl (Or.inl rfl) (pe_lst pa_nil))
      (pss_cons (ps_set (i := 2) sc_plain.nd rfl (Or.inl rfl) (pe_tup (pa_cons pe_int (pa_cons pe_int pa_nil))))
      (pss_cons (ps_for PassesOwn.never rfl (pi_tup (pv 0)) (pg_name (i := 3) sc_plain.nd rfl (Or.inl rfl))
      (pss_one (ps_if (pt_cmpR op_eq (pe_ix ix_tup (pv 3) pe_int (fun _ _ => rfl)) pe_str (nomark _)) (pss_one (ps_set (i := 2) sc_plain.nd rfl (Or.inl rfl) (pe_call (ok_slowed T) (hr.mono (by decide)) rfl T.m_slowed T.F_slowed.kp T.b_slowed .nil pass0 (pa_cons (pv 2) (pa_cons (pe_ix ix_tup (pv 3) pe_int (fun _ _ => rfl)) (pa_cons (pe_ix ix_tup (pv 3) pe_int (fun _ _ => rfl)) pa_nil)))))) (pss_cons (ps_expr (pe_bm PySem.F.plainAttrs_list PySem.F.slot_list_extend PySem.F.type_list_extend mt_extend (pv 1) (pa_cons (pe_lst (pa_cons (pv 2) (pa_cons (pv 3) pa_nil))) pa_nil)))
      (pss_one (ps_set (i := 2) sc_plain.nd rfl (Or.inl rfl) (pe_tup (pa_cons pe_int (pa_cons pe_int pa_nil)))))))))
      (pss_one (ps_ret (pe_op op_cat (pv 1) (pe_lst (pa_cons (pv 2) pa_nil))))))), ?_⟩
  refine ⟨sl 0, fun F hF => ⟨sl 2, fun r0 hr0 => ?_⟩⟩
  have s0 : Same H (upd H F (.lst [])) := same_new hF
  have Fr : F ≠ r0 := ne_of_none upd_same hr0
  have nF : ∀ {b : Addr} {o : HO}, H b = some o → b ≠ F := fun e => ne_of_none e hF
  have s1 := s0.trans (same_new (o := .tup [.int 1, .int 0]) hr0)
  refine ⟨_, rfl, a, rfl, ⟨_, SqT.of (s1 _ _ ha)⟩, for_tup (K := K) (a := a) (xs := vs) (fun i σ H' => ∃ (r : Addr) (n k : Int) (v : Option V) (fs : List V) (done : List PyData), σ = [some (.ref a), some (.ref F), some (.ref r), v] ∧ H' r = some (.tup [.int n, .int k]) ∧ Same H H' ∧ H' F = some (.lst fs) ∧ TdAll H' done fs ∧ pl 1 0 ls = done ++ pl n k (ls.drop i))
    ⟨r0, 1, 0, none, [], [], rfl, upd_same, s1, upd_else upd_same Fr, rfl, rfl⟩ (fun i σ H' _ ⟨_, _, _, _, _, _, _, _, s2, _⟩ => SqT.of (s2 _ _ ha)) ?_ ?_⟩
  · rintro i x σ H' hx ⟨r, n, k, v, fs, done, rfl, h1, s2, h3, h4, h5⟩
    obtain ⟨l, hl, hv⟩ := lay_at hp hx
    have hv' := Td.mono (TS.of s2) _ _ hv
    have hgl := hg l (List.mem_of_getElem? hl)
    rw [drop_at hl] at h5
    have hfl : fs.length + 2 ≤ 300 := by
      have e1 := TdAll.len _ _ h4
      have e2 : (pl 1 0 ls).length = done.length + (pl n k (l :: ls.drop (i + 1))).length := by rw [h5, List.length_append]
      omega
    cases l with
    | ev m j h =>
      obtain ⟨b, hv, rfl, hb, _⟩ := ev_at hv'
      obtain ⟨⟨g1, g2, g3, g4⟩, _⟩ := hgl
      refine ⟨_, rfl, b, _, _, _, rfl, rfl, SqT.of hb, at_n 0 rfl, rfl, _, rfl, ?_⟩
      rw [decide_eq_true (show V.str "every" = V.str "every" from rfl)]
      refine iteT ⟨_, rfl, _, rfl, b, _, _, _, rfl, rfl, SqT.of hb, at_n 1 rfl, _, rfl, b, _, _, _, rfl, rfl, SqT.of hb, at_n 2 rfl, _, _, _, rfl, r, n, k, m, j, rfl, h1, rfl, rfl, g1, g2, g3, g4, fun p hp' => ?_⟩
      exact ⟨p, _, _, _, fs, done, rfl, upd_same, s2.trans (same_new hp'), same_new hp' _ _ h3, TdAll.mono (TS.new hp') _ _ h4, h5⟩
    | is y w =>
      obtain ⟨b, wv, rfl, hb, hw⟩ := is_at hv'
      refine ⟨_, rfl, b, _, _, _, rfl, rfl, SqT.of hb, at_n 0 rfl, rfl, _, rfl, ?_⟩
      rw [str_ne (by decide +kernel)]
      refine iteF ⟨_, rfl, .inl ⟨rfl, _, SqL.of h3⟩, _, rfl, _, rfl, sl 2, fun t ht => ?_⟩
      have ht3 := same_new (o := .lst [.ref r, .ref b]) ht _ _ h3
      have Ft : F ≠ t := ne_of_none h3 ht
      refine ⟨F, t, fs, _, rfl, rfl, ht3, upd_same, Nat.le_of_lt (small1000 (by simp only [List.length_cons, List.length_nil]; omega)), sl 2, fun p hp' => ?_⟩
      have ts : TS H' (upd (upd (upd H' t (.lst [.ref r, .ref b])) F (.lst (fs ++ [.ref r, .ref b]))) p (.tup [.int 1, .int 0])) := ((TS.new ht).trans (TS.wr ht3)).trans (TS.new hp')
      have Fp : F ≠ p := ne_of_none upd_same hp'
      refine ⟨p, 1, 0, _, fs ++ [.ref r, .ref b], done ++ [rd (n, k), (LD.is y w).d], rfl, upd_same, fun c o e => ?_, upd_else upd_same Fp, ?_, ?_⟩
      · refine same_new hp' _ _ ?_
        exact upd_else (same_new ht _ _ (s2 _ _ e)) (nF e)
      · refine TdAll.app _ _ _ _ (TdAll.mono ts _ _ h4) ⟨_, _, rfl, ⟨r, _, rfl, ts _ _ h1, _, _, rfl, rfl, _, _, rfl, rfl, rfl⟩, _, _, rfl, Td.mono ts _ _ hv', rfl⟩
      · rw [h5, List.append_assoc]
        rfl
  · rintro σ H' ⟨r, n, k, v, fs, done, rfl, h1, s2, h3, h4, h5⟩
    rw [List.drop_eq_nil_of_le (by omega)] at h5
    have hfl : fs.length + 1 ≤ 300 := by
      have e1 := TdAll.len _ _ h4
      have e2 : (pl 1 0 ls).length = done.length + 1 := by rw [h5, List.length_append]; rfl
      omega
    refine ⟨_, rfl, _, rfl, sl 1, fun t ht => ?_⟩
    refine ⟨F, t, fs, _, rfl, rfl, same_new ht _ _ h3, upd_same, Nat.le_of_lt (small1000 (by simp only [List.length_cons, List.length_nil]; omega)), fun p hp' => ?_⟩
    have ts : TS H' (upd (upd H' t (.lst [.ref r])) p (.lst (fs ++ [.ref r]))) := (TS.new ht).trans (TS.new hp')
    refine q p _ _ (s2.trans ((same_new ht).trans (same_new hp'))) upd_same ?_
    rw [h5]
    exact TdAll.app _ _ _ _ (TdAll.mono ts _ _ h4) ⟨_, _, rfl, ⟨r, _, rfl, ts _ _ h1, _, _, rfl, rfl, _, _, rfl, rfl, rfl⟩, rfl⟩
theorem ok_one_beat (T : Tx K mg) : FnOk P w K mg base CX0 3 T.f_one_beat T.fd_one_beat ["clock", "other"] (sp2 rOneBeat) := by
  refine okR2 T.F_one_beat sc_one_beat rfl fun cdv A outer s H Q E x y hr h => ?_
  obtain ⟨ls, ls', c1, c2, g1, g2, n1, n2, q⟩ := h
  refine ⟨_, pss_one (ps_ret (pe_cmpR (op_eqD hr.units) (pe_call (ok_plain T) (hr.mono (by decide)) rfl T.m_plain T.F_plain.kp T.b_plain .nil pass0 (pa_cons (pv 0) pa_nil)) (pe_call (ok_plain T) (hr.mono (by decide)) rfl T.m_plain T.F_plain.kp T.b_plain .nil pass0 (pa_cons (pv 1) pa_nil)) (nomark _))), ?_⟩
  refine ⟨_, rfl, _, rfl, ls, c1, g1, n1, fun p xs H1 s1 hp1 ht1 => ⟨_, rfl, _, rfl, ls', c2.mono (TS.of s1), g2, n2, fun p2 ys H2 s2 hp2 ht2 => ?_⟩⟩
  refine ⟨.list (pl 1 0 ls), .list (pl 1 0 ls'), .lst (SqL.of (s2 _ _ hp1)) (TdAll.dp _ _ (TdAll.mono (TS.of s2) _ _ ht1)), .lst (SqL.of hp2) (TdAll.dp _ _ ht2), shaped_list (pl_ok ls 1 0 g1), shaped_list (pl_ok ls' 1 0 g2), ?_⟩
  refine q _ H2 (s1.trans s2) ?_
  show PyData.eqvAll (pl 1 0 ls) (pl 1 0 ls') = true ↔ _
  rw [eqvAll_iff (plainAll_of _ (pl_ok ls 1 0 g1)).1 (plainAll_of _ (pl_ok ls' 1 0 g2)).1]
  exact pl_iff ls ls' 1 0 1 0
end

theorem at_in {xs : List V} {r : Int} (h0 : 0 ≤ r) (h1 : r < (xs.length : Int)) : ∃ v, atI xs r = some v ∧ v ∈ xs := by
  obtain ⟨j, rfl⟩ := Int.eq_ofNat_of_zero_le h0
  exact ⟨xs[j], at_n j (List.getElem?_eq_getElem (by omega)), List.getElem_mem _⟩
theorem at_int {ns : List Int} {r : Int} (h0 : 0 ≤ r) (h1 : r < (ns.length : Int)) : ∃ n, atI (ns.map V.int) r = some (.int n) ∧ n ∈ ns := by
  obtain ⟨v, h, hm⟩ := at_in (xs := ns.map V.int) h0 (by rw [List.length_map]; exact h1)
  obtain ⟨n, hn, rfl⟩ := List.mem_map.mp hm
  exact ⟨n, h, hn⟩
theorem bl_eq {a b : Int} : decide (V.int a = V.int b) = decide (a = b) := decide_eq_decide.mpr ⟨V.int.inj, fun h => by rw [h]⟩
section
variable {P : Program} {w : World} {K : PySem.W.Frag} {mg : Str → Option Value} {base : Heap}

/-- a row of rates that stands at a (a list) -/
structure RowAt (H : Hp) (a : Addr) (vs : List V) (ps : List (Int × Int)) : Prop where
  ob : H a = some (.lst vs)
  len : vs.length = ps.length
  item : ∀ {i : Nat} {v : V}, vs[i]? = some v → ∃ n k b hm, ps[i]? = some (n, k) ∧ v = .ref b ∧ H b = some (.tup [.str "every", .int n, .int k, hm])
theorem RowAt.same {H H' : Hp} {a : Addr} {vs : List V} {ps : List (Int × Int)} (s : Same H H') (h : RowAt H a vs ps) : RowAt H' a vs ps := ⟨s _ _ h.ob, h.len, fun e => by
  obtain ⟨n, k, b, hm, h1, h2, h3⟩ := h.item e
  exact ⟨n, k, b, hm, h1, h2, s _ _ h3⟩⟩
def rProduct : V → Hp → VK → Prop := fun x H Q => ∃ (a : Addr) (vs : List V) (ps : List (Int × Int)), x = .ref a ∧ RowAt H a vs ps ∧ (∀ p ∈ ps, goodP p) ∧ Q (.int (bwd ps).1) H
theorem ok_product (T : Tx K mg) : FnOk P w K mg base CX0 1 T.f_product T.fd_product ["_law_layers"] (sp1 rProduct) := by
  refine okR1 T.F_product sc_product rfl fun cdv A outer s H Q E x hr h => ?_
  obtain ⟨a, vs, ps, rfl, hrow, hg, q⟩ := h
  refine ⟨_, pss_cons (ps_set (i := 1) sc_product.nd rfl (Or.inl rfl) pe_int)
      (pss_cons (ps_for PassesOwn.never rfl (pi_list (pv 0)) (pg_name (i := 2) sc_product.nd rfl (Or.inl rfl))
      (pss_one (ps_set (i := 1) sc_product.nd rfl (Or.inl rfl) (pe_op op_mul (pv 1) (pe_ix ix_tup (pv 2) pe_int (fun _ _ => rfl))))))
      (pss_one (ps_ret (pv 1)))), ?_⟩
  refine ⟨_, rfl, a, rfl, ⟨_, SqL.of hrow.ob⟩, for_list (K := K) (a := a) (xs := vs) (fun i σ H' => ∃ (m : Int) (v : Option V), σ = [some (.ref a), some (.int m), v] ∧ H' = H ∧ m * (bwd (ps.drop i)).1 = (bwd ps).1)
    ⟨1, none, rfl, rfl, by rw [List.drop_zero, Int.one_mul]⟩ (fun i σ H' _ ⟨_, _, _, e, _⟩ => by rw [e]; exact SqL.of hrow.ob) ?_ ?_⟩
  · rintro i x σ H' hx ⟨m, v, rfl, rfl, h2⟩
    obtain ⟨n, k, b, hm, hp, rfl, hb⟩ := hrow.item hx
    obtain ⟨g1, g2, g3, g4⟩ := hg _ (List.mem_of_getElem? hp)
    rw [drop_at hp] at h2
    refine ⟨_, rfl, _, rfl, b, _, _, _, rfl, rfl, SqT.of hb, at_n 1 rfl, _, _, rfl, rfl, .inr ⟨by have : 1 ≤ n := g1; omega, by have : n ≤ 12 := g2; omega⟩, _, _, rfl, rfl, ?_⟩
    rw [← h2]
    show m * n * _ = m * (n * _)
    rw [Int.mul_assoc]
  · rintro σ H' ⟨m, v, rfl, rfl, h2⟩
    rw [List.drop_eq_nil_of_le (by have := hrow.len; omega)] at h2
    have e : m = (bwd ps).1 := by
      have h3 : m * 1 = (bwd ps).1 := h2
      omega
    refine ⟨_, rfl, ?_⟩
    rw [e]
    exact q
def rPassed : V → V → Hp → VK → Prop := fun x y H Q => ∃ (a : Addr) (vs : List V) (ps : List (Int × Int)), x = .ref a ∧ y = .int (2 * (bwd ps).1) ∧ RowAt H a vs ps ∧ (∀ p ∈ ps, goodP p) ∧ ps.length ≤ 1000 ∧ (bwd ps).1 ≤ 2000 ∧
  ∀ (p : Addr) (H' : Hp), Same H H' → H' p = some (.lst [.int (bwd ps).2, .int ((bwd ps).2 + (bwd ps).1)]) → Q (.ref p) H'
theorem ok_passed (T : Tx K mg) : FnOk P w K mg base CX0 1 T.f_passed T.fd_passed ["_law_layers", "_law_many"] (sp2 rPassed) := by
  refine okR2 T.F_passed sc_passed rfl fun cdv A outer s H Q E x y hr h => ?_
  obtain ⟨a, vs, ps, rfl, rfl, hrow, hg, hpl, hN, q⟩ := h
  obtain ⟨N1, K0, KN⟩ := bwd_ok ps hg
  have hvl := hrow.len
  refine ⟨_, pss_cons (ps_setLc (i := 2) (own := [("_law_layer", 8)]) (g := gName 8) (tt := tYes) rfl sc_passed.nd rfl rfl (sw_true rfl rfl rfl (by decide +kernel)) (pi_list (pv 0)) (blkOk_by (N := ["_law_layers", "_law_many", "_law_counts", "_law_found", "_law_tick", "_law_there", "_law_at", "_law_count", "_law_layer"]) (sc := defScope s_passed) (by decide +kernel)) (fun _ _ _ _ _ => pg_name (i := 8) sc_passed.nd rfl (Or.inl rfl)) (fun _ _ _ _ _ => pts_nil) (fun _ _ _ _ _ => pe_int))
      (pss_cons (ps_set (i := 3) sc_passed.nd rfl (Or.inl rfl) (pe_lst pa_nil))
      (pss_cons (ps_for PassesOwn.never rfl (pi_range1 rfl T.z_range (pa_cons (pv 1) pa_nil)) (pg_name (i := 4) sc_passed.nd rfl (Or.inl rfl))
      (pss_cons (ps_set (i := 5) sc_passed.nd rfl (Or.inl rfl) pe_bl)
      (pss_cons (ps_for PassesOwn.never rfl (pi_range1 rfl T.z_range (pa_cons (pe_callB call_len_seq (by rfl) T.z_len (by decide +kernel) (pa_cons (pv 0) pa_nil)) pa_nil)) (pg_name (i := 6) sc_passed.nd rfl (Or.inl rfl))
      (pss_one (ps_if (pt_val (pv 5)) (pss_cons (ps_set (i := 7) sc_passed.nd rfl (Or.inl rfl) (pe_ix ix_list (pv 2) (pv 6) (fun _ _ => rfl)))
      (pss_cons (ps_asg (pe_op op_add (pv 7) pe_int) (pg_sub (pv 2) (pv 6) set_list))
      (pss_one (ps_set (i := 5) sc_passed.nd rfl (Or.inl rfl) (pe_and (pe_cmpR op_ge (pv 7) (pe_ix ix_tup (pe_ix ix_list (pv 0) (pv 6) (fun _ _ => rfl)) pe_int (fun _ _ => rfl)) (nomark _)) (pe_one (pe_cmpR op_eq (pe_op op_mod (pe_callTy call_int1 (by rfl) T.z_int (by decide +kernel) (pa_cons (pe_op op_sub (pv 7) (pe_ix ix_tup (pe_ix ix_list (pv 0) (pv 6) (fun _ _ => rfl)) pe_int (fun _ _ => rfl))) pa_nil)) (pe_ix ix_tup (pe_ix ix_list (pv 0) (pv 6) (fun _ _ => rfl)) pe_int (fun _ _ => rfl))) pe_int (nomark _)))))))) pss_nil)))
      (pss_one (ps_if (pt_val (pv 5)) (pss_one (ps_expr (pe_bm PySem.F.plainAttrs_list PySem.F.slot_list_append PySem.F.type_list_append mt_append (pv 3) (pa_cons (pv 4) pa_nil)))) pss_nil)))))
      (pss_one (ps_ret (pv 3))))), ?_⟩
  -- counts = [0 for layer in layers]
  refine ⟨_, rfl, a, rfl, ⟨_, SqL.of hrow.ob⟩, fun D hD => lc_list (K := K) (a := a) (xs := vs) (fun i H' => H' = upd H D (.lst ((List.replicate i (0 : Int)).map V.int))) rfl ?_ ?_ ?_⟩
  · rintro i H' _ rfl
    exact SqL.of (same_new hD _ _ hrow.ob)
  · rintro i x H' hi rfl
    have hil : i < vs.length := (List.getElem?_eq_some_iff.mp hi).1
    refine ⟨rfl, yes ⟨_, upd_same, ?_, ?_⟩⟩
    · rw [List.length_map, List.length_replicate]
      exact small1000 (by omega)
    · rw [upd_upd, List.replicate_succ', List.map_append]
      rfl
  rintro H1 rfl
  have ez : List.replicate vs.length (0 : Int) = cnts 1 0 ps 0 := by
    rw [cnts_zero ps 1 0 (by decide) (by decide) (by decide) hg, hvl]
    exact List.map_const'.symm
  rw [ez]
  have s1 : Same H (upd H D (.lst ((cnts 1 0 ps 0).map V.int))) := same_new hD
  have hD1 : (upd H D (.lst ((cnts 1 0 ps 0).map V.int))) D = some (.lst ((cnts 1 0 ps 0).map V.int)) := upd_same
  generalize upd H D (.lst ((cnts 1 0 ps 0).map V.int)) = H1 at s1 hD1
  -- found = []
  refine ⟨sl 0, fun F hF => ?_⟩
  have DF : D ≠ F := ne_of_none hD1 hF
  have s2 : Same H (upd H1 F (.lst [])) := s1.trans (same_new hF)
  have nD : ∀ {b : Addr} {o : HO}, H b = some o → b ≠ D := fun e => ne_of_none e hD
  have nF : ∀ {b : Addr} {o : HO}, H b = some o → b ≠ F := fun e => ne_of_none (s1 _ _ e) hF
  -- what all turns keep
  refine ⟨_, rfl, 2 * (bwd ps).1, rfl, by omega, by omega, for_range (lo := 0) (n := (2 * (bwd ps).1).toNat) (fun i σ H' => ∃ (v4 v5 v6 v7 : Option V), σ = [some (.ref a), some (.int (2 * (bwd ps).1)), some (.ref D), some (.ref F), v4, v5, v6, v7, none] ∧ Same H H' ∧ H' D = some (.lst ((cnts 1 0 ps (i : Int)).map V.int)) ∧ H' F = some (.lst ((foundAt (bwd ps).1 (bwd ps).2 (i : Int)).map V.int)))
    ⟨none, none, none, none, rfl, s2, upd_else hD1 DF, ?_⟩ ?_ ?_⟩
  · rw [upd_same]
    have e : foundAt (bwd ps).1 (bwd ps).2 ((0 : Nat) : Int) = [] := if_pos K0
    rw [e]
    rfl
  · rintro i σ H' hi ⟨v4, v5, v6, v7, rfl, s3, hD3, hF3⟩
    have hz : (0 : Int) + (i : Int) = (i : Int) := by omega
    -- there = True; for at in range(len(layers))
    refine ⟨_, rfl, a, vs, rfl, .inl (SqL.of (s3 _ _ hrow.ob)), vs.length, rfl, by omega, by omega, ?_⟩
    refine for_range (lo := 0) (n := ((vs.length : Nat) : Int).toNat) (fun l σ G => ∃ (n k : Int) (pre : List Int) (v6 v7 : Option V), σ = [some (.ref a), some (.int (2 * (bwd ps).1)), some (.ref D), some (.ref F), some (.int (0 + (i : Int))), some (.bl (hit n k i)), v6, v7, none] ∧ Same H G ∧ G F = some (.lst ((foundAt (bwd ps).1 (bwd ps).2 (i : Int)).map V.int)) ∧
        G D = some (.lst ((pre ++ cnts n k (ps.drop l) i).map V.int)) ∧ pre.length = l ∧ cnts 1 0 ps (i + 1) = pre ++ cnts n k (ps.drop l) (i + 1) ∧ 1 ≤ n ∧ 0 ≤ k ∧ k < n ∧ n * (bwd (ps.drop l)).1 = (bwd ps).1 ∧ k + n * (bwd (ps.drop l)).2 = (bwd ps).2)
      ⟨1, 0, [], v6, v7, ?_, s3, hF3, hD3, rfl, rfl, by decide, by decide, by decide, by rw [List.drop_zero, Int.one_mul], by rw [List.drop_zero, Int.one_mul, Int.zero_add]⟩ ?_ ?_
    · have e : hit 1 0 (i : Int) = true := (hit_iff (by decide)).mpr ⟨i, by omega, by omega⟩
      rw [e]
      rfl
    · rintro l σ G hl ⟨n, k, pre, v6, v7, rfl, s4, hF4, hD4, e1, e2, n1, k0, kn, e3, e4⟩
      have hlv : l < vs.length := by omega
      obtain ⟨m, j, b, hm, hp, ev, hb⟩ := hrow.item (List.getElem?_eq_getElem hlv)
      have gp := hg _ (List.mem_of_getElem? hp)
      obtain ⟨g1, g2, g3, g4⟩ := id gp
      have g1' : 1 ≤ m := g1
      have g3' : 0 ≤ j := g3
      obtain ⟨t1, t2, t3⟩ := step_ok n1 k0 kn gp
      have hd := drop_at hp
      rw [hd] at hD4 e2 e3 e4
      have e3' : n * m * (bwd (ps.drop (l + 1))).1 = (bwd ps).1 := by
        rw [← e3, Int.mul_assoc]
        rfl
      have e4' : k + n * j + n * m * (bwd (ps.drop (l + 1))).2 = (bwd ps).2 := by
        rw [← e4, Int.mul_assoc, Int.add_assoc, ← Int.mul_add]
        rfl
      have hDl : (pre ++ cnts n k ((m, j) :: ps.drop (l + 1)) i)[l]? = some (cnt n k i) := by
        rw [List.getElem?_append_right (by omega), e1, Nat.sub_self]
        rfl
      have hset : ∀ z : Int, (pre ++ cnts n k ((m, j) :: ps.drop (l + 1)) i).set l z = (pre ++ [z]) ++ cnts (n * m) (k + n * j) (ps.drop (l + 1)) i := fun z => by
        rw [List.set_append_right _ _ (by omega), e1, Nat.sub_self, List.append_assoc]
        rfl
      have hvs : vs[l]? = some (.ref b) := by
        rw [List.getElem?_eq_getElem hlv, ev]
      have z0 : (0 : Int) + (l : Int) = ((l : Nat) : Int) := by omega
      have lenD : (pre ++ cnts n k ((m, j) :: ps.drop (l + 1)) i).length = vs.length := by
        rw [List.length_append, cnts_len, List.length_cons, List.length_drop]
        omega
      have e2' : cnts 1 0 ps (i + 1) = (pre ++ [cnt n k (i + 1)]) ++ cnts (n * m) (k + n * j) (ps.drop (l + 1)) (i + 1) := by
        rw [e2, List.append_assoc]
        rfl
      refine ⟨_, rfl, _, rfl, ?_⟩
      cases hh : hit n k i with
      | false =>
        refine iteF ?_
        refine ⟨n * m, k + n * j, pre ++ [cnt n k (i + 1)], some (.int (0 + (l : Int))), v7, ?_, s4, hF4, ?_, by rw [List.length_append, e1]; rfl, e2', t1, t2, t3, e3', e4'⟩
        · rw [hit_off n1 g1' g3' hh]
          rfl
        · rw [hD4, cnt_miss n1 k0 kn (by omega) hh, List.append_assoc]
          rfl
      | true =>
        obtain ⟨qq, q0, hq⟩ := (hit_iff n1).mp hh
        obtain ⟨c1, c2⟩ := cnt_hit (k := k) (q := qq) n1
        rw [← hq] at c1 c2
        have hn : hit (n * m) (k + n * j) i = hit m j qq := by
          rw [hq]
          exact hit_next n1 g1'
        refine iteT ?_
        refine ⟨_, rfl, _, rfl, D, _, _, .int (cnt n k i), rfl, rfl, SqL.of hD4, ?_, ?_⟩
        · rw [z0]
          refine at_n l ?_
          rw [List.getElem?_map, hDl]
          rfl
        refine ⟨_, rfl, _, _, rfl, rfl, _, rfl, _, rfl, D, _, _, l, rfl, rfl, hD4, ?_, ?_⟩
        · rw [List.length_map, lenD, z0]
          unfold ixN
          rw [if_pos (by omega), if_pos (by omega)]
          rfl
        have hG5 : Same H (upd G D (.lst (((pre ++ cnts n k ((m, j) :: ps.drop (l + 1)) i).map V.int).set l (.int (cnt n k i + 1))))) := fun b o e => upd_else (s4 _ _ e) (nD e)
        have hD5 : (upd G D (.lst (((pre ++ cnts n k ((m, j) :: ps.drop (l + 1)) i).map V.int).set l (.int (cnt n k i + 1))))) D = some (.lst (((pre ++ [cnt n k (i + 1)]) ++ cnts (n * m) (k + n * j) (ps.drop (l + 1)) i).map V.int)) := by
          rw [upd_same, ← hset, List.map_set, c1, c2]
        have hF5 := upd_else (a := D) (o := .lst (((pre ++ cnts n k ((m, j) :: ps.drop (l + 1)) i).map V.int).set l (.int (cnt n k i + 1)))) hF4 DF.symm
        generalize upd G D (.lst (((pre ++ cnts n k ((m, j) :: ps.drop (l + 1)) i).map V.int).set l (.int (cnt n k i + 1)))) = G5 at hG5 hD5 hF5
        have fin : ∀ bb : Bool, bb = hit m j qq → ∃ (n' k' : Int) (pre' : List Int) (v6 v7 : Option V), [some (V.ref a), some (.int (2 * (bwd ps).1)), some (.ref D), some (.ref F), some (.int (0 + (i : Int))), some (.bl bb), some (.int (0 + (l : Int))), some (.int (cnt n k i)), none] = [some (.ref a), some (.int (2 * (bwd ps).1)), some (.ref D), some (.ref F), some (.int (0 + (i : Int))), some (.bl (hit n' k' i)), v6, v7, none] ∧ Same H G5 ∧ G5 F = some (.lst ((foundAt (bwd ps).1 (bwd ps).2 (i : Int)).map V.int)) ∧
            G5 D = some (.lst ((pre' ++ cnts n' k' (ps.drop (l + 1)) i).map V.int)) ∧ pre'.length = l + 1 ∧ cnts 1 0 ps (i + 1) = pre' ++ cnts n' k' (ps.drop (l + 1)) (i + 1) ∧ 1 ≤ n' ∧ 0 ≤ k' ∧ k' < n' ∧ n' * (bwd (ps.drop (l + 1))).1 = (bwd ps).1 ∧ k' + n' * (bwd (ps.drop (l + 1))).2 = (bwd ps).2 := fun bb hbb => by
          refine ⟨n * m, k + n * j, pre ++ [cnt n k (i + 1)], some (.int (0 + (l : Int))), some (.int (cnt n k i)), ?_, hG5, hF5, hD5, by rw [List.length_append, e1]; rfl, e2', t1, t2, t3, e3', e4'⟩
          rw [hn, hbb]
        have hb5 := hG5 _ _ hb
        have ha5 := hG5 _ _ hrow.ob
        have hat : atI vs (0 + (l : Int)) = some (.ref b) := by
          rw [z0]
          exact at_n l hvs
        refine ⟨_, rfl, _, rfl, _, rfl, a, _, _, _, rfl, rfl, SqL.of ha5, hat, b, _, _, _, rfl, rfl, SqT.of hb5, at_n 2 rfl, _, _, rfl, rfl, _, rfl, ite2 (fun hc => ?_) (fun hc => ?_)⟩
        · refine ⟨_, rfl, _, rfl, _, rfl, a, _, _, _, rfl, rfl, SqL.of ha5, hat, b, _, _, _, rfl, rfl, SqT.of hb5, at_n 2 rfl, _, _, rfl, rfl, .inl ⟨_, rfl, _, rfl, _, rfl, a, _, _, _, rfl, rfl, SqL.of ha5, hat, b, _, _, _, rfl, rfl, SqT.of hb5, at_n 1 rfl, _, _, rfl, rfl, (by show 0 < m; omega), rfl, ?_⟩⟩
          refine fin _ ?_
          rw [bl_eq, c1]
          have hc' : j ≤ cnt n k i := of_decide_eq_true hc
          rw [c1] at hc'
          unfold hit
          rw [decide_eq_true hc', Bool.true_and]
        · have hc' : ¬ j ≤ cnt n k i := fun z => hc (decide_eq_true z)
          rw [c1] at hc'
          refine fin _ ?_
          unfold hit
          rw [decide_eq_false hc', Bool.false_and]
    · rintro σ G ⟨n, k, pre, v6, v7, rfl, s4, hF4, hD4, e1, e2, n1, k0, kn, e3, e4⟩
      rw [show ((vs.length : Nat) : Int).toNat = vs.length by omega, List.drop_eq_nil_of_le (by omega)] at hD4 e2 e3 e4
      have en : n = (bwd ps).1 := by
        have h3 : n * 1 = (bwd ps).1 := e3
        omega
      have ek : k = (bwd ps).2 := by
        have h3 : k + n * 0 = (bwd ps).2 := e4
        omega
      have hD6 : G D = some (.lst ((cnts 1 0 ps ((i + 1 : Nat) : Int)).map V.int)) := by
        rw [hD4]
        have e5 : cnts 1 0 ps ((i + 1 : Nat) : Int) = pre ++ [] := e2
        rw [e5]
        rfl
      have fs := found_step (n := (bwd ps).1) (k := (bwd ps).2) (t := (i : Int)) N1 K0 (by omega) (by omega)
      rw [en, ek]
      refine ⟨_, rfl, _, rfl, ite2 (fun hh => ?_) (fun hh => ?_)⟩
      · rw [if_pos hh] at fs
        refine ⟨_, rfl, .inl ⟨rfl, _, SqL.of hF4⟩, _, rfl, F, _, _, rfl, rfl, hF4, ?_, ?_⟩
        · rw [List.length_map]
          unfold foundAt
          split
          · exact small1000 (by simp)
          · split
            · exact small1000 (by simp)
            · exact small1000 (by simp)
        · refine ⟨_, _, _, _, rfl, fun b o e => upd_else (s4 _ _ e) (nF e), upd_else hD6 DF, ?_⟩
          rw [upd_same]
          have fs' : foundAt (bwd ps).1 (bwd ps).2 ((i + 1 : Nat) : Int) = foundAt (bwd ps).1 (bwd ps).2 (i : Int) ++ [(i : Int)] := fs
          rw [fs', List.map_append, hz]
          rfl
      · rw [if_neg hh] at fs
        refine ⟨_, _, _, _, rfl, s4, hD6, ?_⟩
        have fs' : foundAt (bwd ps).1 (bwd ps).2 ((i + 1 : Nat) : Int) = foundAt (bwd ps).1 (bwd ps).2 (i : Int) := fs
        rw [fs']
        exact hF4
  · rintro σ H' ⟨v4, v5, v6, v7, rfl, s3, hD3, hF3⟩
    have e : foundAt (bwd ps).1 (bwd ps).2 (((2 * (bwd ps).1).toNat : Nat) : Int) = [(bwd ps).2, (bwd ps).2 + (bwd ps).1] := by
      unfold foundAt
      rw [if_neg (by omega), if_neg (by omega)]
    rw [e] at hF3
    exact ⟨_, rfl, q F H' s3 hF3⟩

/-- what a row of rates is worth -/
def rDue : V → Hp → VK → Prop := fun x H Q => ∃ (a : Addr) (vs : List V) (ps : List (Int × Int)), x = .ref a ∧ RowAt H a vs ps ∧ (∀ p ∈ ps, goodP p) ∧ ps.length ≤ 1000 ∧ ∀ (p : Addr) (H' : Hp), Same H H' → H' p = some (.tup [.int (bwd ps).1, .int (bwd ps).2]) → Q (.ref p) H'
theorem ok_rate_due (T : Tx K mg) : FnOk P w K mg base CX0 2 T.f_rate_due T.fd_rate_due ["_law_clock"] (sp1 rDue) := by
  refine okR1 T.F_rate_due sc_rate_due rfl fun cdv A outer s H Q E x hr h => ?_
  obtain ⟨a, vs, ps, rfl, row, gp, pl, q⟩ := h
  have hvl := row.len
  obtain ⟨N1, K0, KN⟩ := bwd_ok ps gp
  refine ⟨_, pss_cons (ps_if (pt_truth (pe_lc (own := [("_law_layer", 5)]) (g := gName 5)  rfl sc_rate_due.nd (pi_list (pv 0)) (blkOk_by (N := ["_law_clock", "_law_many", "_law_ticks", "_law_n", "_law_k", "_law_layer"]) (sc := defScope s_rate_due) (by decide +kernel)) (fun _ _ _ _ _ => pg_name (i := 5) sc_rate_due.nd rfl (Or.inl rfl)) (fun _ _ _ _ _ => pts_one (pt_cmpR op_eq (pe_ix (show IxR _ (rIxT K) from ix_tup) (pv 5) pe_int (fun _ _ => rfl)) pe_str (nomark _))) (fun _ _ _ _ _ => (pv 5))) (by intro _; rfl)) (pss_one (ps_ret pe_non)) pss_nil)
      (pss_cons (ps_set (i := 1) sc_rate_due.nd rfl (Or.inl rfl) (pe_call (ok_product T) (hr.mono (by decide)) rfl T.m_product T.F_product.kp T.b_product .nil pass0 (pa_cons (pv 0) pa_nil)))
      (pss_cons (ps_if (pt_cmpR op_le (pv 1) pe_int (nomark _)) (pss_cons (ps_set (i := 2) sc_rate_due.nd rfl (Or.inl rfl) (pe_call (ok_passed T) (hr.mono (by decide)) rfl T.m_passed T.F_passed.kp T.b_passed .nil pass0 (pa_cons (pv 0) (pa_cons (pe_op op_mul pe_int (pv 1)) pa_nil))))
      (pss_one (ps_ret (pe_tup (pa_cons (pe_op op_sub (pe_ix ix_list (pv 2) pe_int (fun _ _ => rfl)) (pe_ix ix_list (pv 2) pe_int (fun _ _ => rfl))) (pa_cons (pe_ix ix_list (pv 2) pe_int (fun _ _ => rfl)) pa_nil)))))) pss_nil)
      (pss_cons (ps_set (i := 3) sc_rate_due.nd rfl (Or.inl rfl) pe_int)
      (pss_cons (ps_set (i := 4) sc_rate_due.nd rfl (Or.inl rfl) pe_int)
      (pss_cons (ps_for PassesOwn.never rfl (pi_list (pe_revL (pv 0))) (pg_name (i := 5) sc_rate_due.nd rfl (Or.inl rfl))
      (pss_cons (ps_set (i := 4) sc_rate_due.nd rfl (Or.inl rfl) (pe_op op_add (pe_ix ix_tup (pv 5) pe_int (fun _ _ => rfl)) (pe_op op_mul (pe_ix ix_tup (pv 5) pe_int (fun _ _ => rfl)) (pv 4))))
      (pss_one (ps_set (i := 3) sc_rate_due.nd rfl (Or.inl rfl) (pe_op op_mul (pe_ix ix_tup (pv 5) pe_int (fun _ _ => rfl)) (pv 3))))))
      (pss_one (ps_ret (pe_tup (pa_cons (pv 3) (pa_cons (pv 4) pa_nil)))))))))), ?_⟩
  refine ⟨_, rfl, a, rfl, ⟨_, SqL.of row.ob⟩, fun D hD => lc_list (K := K) (a := a) (xs := vs) (fun i H' => H' = upd H D (.lst [])) rfl ?_ ?_ ?_⟩
  · rintro i H' _ rfl
    exact SqL.of (same_new hD _ _ row.ob)
  · rintro i x H' hi rfl
    obtain ⟨n, k, b, hm, hp, rfl, hb⟩ := row.item hi
    refine ⟨rfl, _, rfl, b, _, _, _, rfl, rfl, SqT.of (same_new hD _ _ hb), at_n 0 rfl, rfl, _, rfl, ?_⟩
    rw [str_ne (by decide +kernel)]
    exact iteF rfl
  rintro H' rfl
  have s1 : Same H (upd H D (.lst [])) := same_new hD
  refine ⟨_, .inl ⟨[], SqL.of upd_same, rfl⟩, ?_⟩
  generalize upd H D (.lst []) = H1 at s1
  refine iteF ?_
  have row1 : RowAt H1 a vs ps := row.same s1
  refine ⟨_, rfl, _, rfl, a, vs, ps, rfl, row1, gp, ?_⟩
  refine ⟨_, rfl, _, _, rfl, rfl, _, rfl, ite2 (fun hc => ?_) (fun hc => ?_)⟩
  · have hc' : (bwd ps).1 ≤ 2000 := of_decide_eq_true hc
    refine ⟨_, rfl, _, rfl, _, _, rfl, rfl, .inl ⟨by decide, by decide⟩, _, _, rfl, a, vs, ps, rfl, rfl, row1, gp, pl, hc', fun F H2 s2 hF => ?_⟩
    refine ⟨_, rfl, F, _, _, _, rfl, rfl, SqL.of hF, at_n 1 rfl, _, rfl, F, _, _, _, rfl, rfl, SqL.of hF, at_n 0 rfl, _, _, rfl, rfl, _, rfl, F, _, _, _, rfl, rfl, SqL.of hF, at_n 0 rfl, sl 2, fun t ht => ?_⟩
    refine q _ _ (s1.trans (s2.trans (same_new ht))) ?_
    rw [upd_same]
    show some (HO.tup [V.int ((bwd ps).2 + (bwd ps).1 - (bwd ps).2), V.int (bwd ps).2]) = _
    rw [show (bwd ps).2 + (bwd ps).1 - (bwd ps).2 = (bwd ps).1 by omega]
  · refine ⟨_, rfl, a, vs, rfl, SqL.of row1.ob, fun R hR => ?_⟩
    have hRev : (upd H1 R (.lst vs.reverse)) R = some (.lst vs.reverse) := upd_same
    have s2 : Same H1 (upd H1 R (.lst vs.reverse)) := same_new hR
    generalize upd H1 R (.lst vs.reverse) = H2 at hRev s2
    have row2 : RowAt H2 a vs ps := row1.same s2
    refine ⟨R, rfl, ⟨_, SqL.of hRev⟩, for_list (K := K) (a := R) (xs := vs.reverse) (fun i σ H' => ∃ (v2 v5 : Option V) (n k : Int), σ = [some (.ref a), some (.int (bwd ps).1), v2, some (.int n), some (.int k), v5] ∧ H' = H2 ∧ (n, k) = bwd (ps.drop (ps.length - i)))
      ⟨_, _, 1, 0, rfl, rfl, by rw [Nat.sub_zero, List.drop_length]; rfl⟩ (fun i σ H' _ ⟨_, _, _, _, _, e, _⟩ => by rw [e]; exact SqL.of hRev) ?_ ?_⟩
    · rintro i x σ H' hx ⟨v2, v5, n, k, rfl, rfl, e⟩
      have hil : i < vs.reverse.length := (List.getElem?_eq_some_iff.mp hx).1
      rw [List.length_reverse] at hil
      rw [List.getElem?_reverse (by omega)] at hx
      obtain ⟨m, j, b, hm, hmj, rfl, hb⟩ := row2.item hx
      rw [hvl] at hmj
      obtain ⟨g1, g2, g3, g4⟩ := gp _ (List.mem_of_getElem? hmj)
      have g1' : 1 ≤ m := g1
      have g2' : m ≤ 12 := g2
      have ed : ps.drop (ps.length - (i + 1)) = (m, j) :: ps.drop (ps.length - i) := by
        have h1 := drop_at hmj
        rw [show ps.length - 1 - i = ps.length - (i + 1) by omega, show ps.length - (i + 1) + 1 = ps.length - i by omega] at h1
        exact h1
      refine ⟨_, rfl, b, _, _, _, rfl, rfl, SqT.of hb, at_n 2 rfl, _, rfl, b, _, _, _, rfl, rfl, SqT.of hb, at_n 1 rfl, _, rfl, _, _, rfl, rfl, .inl ⟨by omega, by omega⟩, _, _, rfl, rfl, ?_⟩
      refine ⟨_, rfl, b, _, _, _, rfl, rfl, SqT.of hb, at_n 1 rfl, _, rfl, _, _, rfl, rfl, .inl ⟨by omega, by omega⟩, _, _, _, _, rfl, rfl, ?_⟩
      rw [ed]
      show _ = (m * (bwd (ps.drop (ps.length - i))).1, j + m * (bwd (ps.drop (ps.length - i))).2)
      rw [← e]
    · rintro σ H' ⟨v2, v5, n, k, rfl, rfl, e⟩
      rw [List.length_reverse, show ps.length - vs.length = 0 by omega, List.drop_zero] at e
      refine ⟨_, rfl, _, rfl, sl 2, fun t ht => ?_⟩
      refine q _ _ (s1.trans (s2.trans (same_new ht))) ?_
      rw [upd_same, ← e]
end

/-! ### a clock in gaps between its layers «is» -/
def gapsP : List (Int × Int) → List LD → List (List (Int × Int))
  | cur, [] => [cur]
  | cur, .ev n k _ :: r => gapsP (cur ++ [(n, k)]) r
  | cur, .is _ _ :: r => cur :: gapsP [] r
theorem bwd_snoc : ∀ (xs : List (Int × Int)) (m j : Int), bwd (xs ++ [(m, j)]) = ((bwd xs).1 * m, (bwd xs).2 + (bwd xs).1 * j)
  | [], m, j => by
    show (m * 1, j + m * 0) = ((1 : Int) * m, (0 : Int) + 1 * j)
    rw [Int.mul_one, Int.mul_zero, Int.one_mul, Int.one_mul, Int.add_zero, Int.zero_add]
  | (n, k) :: r, m, j => by
    show (n * (bwd (r ++ [(m, j)])).1, k + n * (bwd (r ++ [(m, j)])).2) = (n * (bwd r).1 * m, k + n * (bwd r).2 + n * (bwd r).1 * j)
    rw [bwd_snoc r m j, Int.mul_assoc, Int.mul_add, ← Int.mul_assoc n (bwd r).1 j, Int.add_assoc]
theorem gaps_rates : ∀ (ls : List LD) (cur : List (Int × Int)), (gapsP cur ls).map bwd = grs (bwd cur).1 (bwd cur).2 ls
  | [], cur => rfl
  | .ev n k h :: r, cur => by
    show (gapsP (cur ++ [(n, k)]) r).map bwd = grs ((bwd cur).1 * n) ((bwd cur).2 + (bwd cur).1 * k) r
    rw [gaps_rates r, bwd_snoc]
  | .is x v :: r, cur => by
    show bwd cur :: (gapsP [] r).map bwd = ((bwd cur).1, (bwd cur).2) :: grs 1 0 r
    rw [gaps_rates r []]
    rfl
theorem gaps_good : ∀ (ls : List LD) (cur : List (Int × Int)), (∀ p ∈ cur, goodP p) → (∀ l ∈ ls, l.ok) → ∀ ps ∈ gapsP cur ls, (∀ p ∈ ps, goodP p) ∧ ps.length ≤ cur.length + ls.length
  | [], cur, hc, _, ps, h => by
    rw [List.mem_singleton.mp h]
    exact ⟨hc, Nat.le_add_right _ _⟩
  | .ev n k h :: r, cur, hc, hg, ps, hp => by
    obtain ⟨g1, g2⟩ := gaps_good r (cur ++ [(n, k)]) (fun p hq => by
      rcases List.mem_append.mp hq with hq | hq
      · exact hc p hq
      · rw [List.mem_singleton.mp hq]
        exact (hg (.ev n k h) (by simp)).1) (fun l hl => hg l (List.mem_cons_of_mem _ hl)) ps hp
    refine ⟨g1, ?_⟩
    rw [List.length_append] at g2
    simp only [List.length_cons, List.length_nil] at g2 ⊢
    omega
  | .is x v :: r, cur, hc, hg, ps, hp => by
    rcases List.mem_cons.mp hp with rfl | hp
    · exact ⟨hc, Nat.le_add_right _ _⟩
    · obtain ⟨g1, g2⟩ := gaps_good r [] (fun p h => by cases h) (fun l hl => hg l (List.mem_cons_of_mem _ hl)) ps hp
      refine ⟨g1, ?_⟩
      simp only [List.length_cons, List.length_nil] at g2 ⊢
      omega
theorem gaps_len : ∀ (ls : List LD) (cur : List (Int × Int)), (gapsP cur ls).length = (nms ls).length + 1
  | [], _ => rfl
  | .ev n k h :: r, cur => gaps_len r (cur ++ [(n, k)])
  | .is x v :: r, cur => congrArg Nat.succ (gaps_len r [])
def nmd (q : Str × PyData) : PyData := .tuple [.str q.1, q.2]
theorem RowAt.mono {H H' : Hp} {a : Addr} {vs : List V} {ps : List (Int × Int)} (s : TS H H') (e : H' a = some (.lst vs)) (h : RowAt H a vs ps) : RowAt H' a vs ps := ⟨e, h.len, fun e => by
  obtain ⟨n, k, b, hm, h1, h2, h3⟩ := h.item e
  exact ⟨n, k, b, hm, h1, h2, s _ _ h3⟩⟩
theorem nms_le : ∀ ls : List LD, (nms ls).length ≤ ls.length
  | [] => Nat.le_refl _
  | .ev _ _ _ :: r => Nat.le_succ_of_le (nms_le r)
  | .is _ _ :: r => Nat.succ_le_succ (nms_le r)
theorem nms_ok : ∀ ls : List LD, (∀ l ∈ ls, l.ok) → ∀ d ∈ (nms ls).map nmd, okD d
  | [], _, d, h => by cases h
  | .ev _ _ _ :: r, g, d, h => nms_ok r (fun l hl => g l (List.mem_cons_of_mem _ hl)) d h
  | .is x v :: r, g, d, h => by
    rcases List.mem_cons.mp h with rfl | h
    · obtain ⟨h0, h1, h2⟩ := g (.is x v) (by simp)
      refine ⟨?_, ?_⟩
      · show (plainD (.str x) && (plainD v && true)) = true
        rw [h0, h1]
        rfl
      · show max 0 (max v.depth 0) + 1 ≤ 11
        omega
    · exact nms_ok r (fun l hl => g l (List.mem_cons_of_mem _ hl)) d h
def rGaps : V → Hp → VK → Prop := fun x H Q => ∃ ls : List LD, ClkV H x ls ∧ (∀ l ∈ ls, l.ok) ∧ ls.length ≤ 100 ∧ ∀ (o n g : Addr) (nv : List V) (gs : List Addr) (H' : Hp), Same H H' → H' o = some (.lst [.ref n, .ref g]) → H' n = some (.lst nv) → TdAll H' ((nms ls).map nmd) nv → H' g = some (.lst (gs.map V.ref)) →
  gs.length = (gapsP [] ls).length → (∀ (j : Nat) (q : Addr), gs[j]? = some q → ∃ vs ps, (gapsP [] ls)[j]? = some ps ∧ RowAt H' q vs ps) → Q (.ref o) H'
/-- the names and gaps so far: the last gap stands at I -/
structure GapsSt (H H' : Hp) (n g : Addr) (ls rest : List LD) : Prop where
  ex : ∃ (nv : List V) (dn : List (Str × PyData)) (gs0 : List Addr) (I : Addr) (gd0 : List (List (Int × Int))) (vI : List V) (cur : List (Int × Int)),
    H' n = some (.lst nv) ∧ TdAll H' (dn.map nmd) nv ∧ nms ls = dn ++ nms rest ∧ H' g = some (.lst ((gs0 ++ [I]).map V.ref)) ∧ ¬ I ∈ gs0 ∧ (∀ q ∈ gs0 ++ [I], H q = none ∧ q ≠ n ∧ q ≠ g) ∧ gs0.length = gd0.length ∧
    (∀ (j : Nat) (q : Addr), gs0[j]? = some q → ∃ vs ps, gd0[j]? = some ps ∧ RowAt H' q vs ps) ∧ RowAt H' I vI cur ∧ gapsP [] ls = gd0 ++ gapsP cur rest
  same : Same H H'
theorem mem_at {α : Type} {xs : List α} {j : Nat} {q : α} (h : xs[j]? = some q) : q ∈ xs := List.mem_of_getElem? h
section
variable {P : Program} {w : World} {K : PySem.W.Frag} {mg : Str → Option Value} {base : Heap}
theorem ok_gaps (T : Tx K mg) : FnOk P w K mg base CX0 1 T.f_gaps T.fd_gaps ["_law_clock"] (sp1 rGaps) := by
  refine okR1 T.F_gaps sc_gaps rfl fun cdv A outer s H Q E x hr h => ?_
  obtain ⟨ls, ⟨a, vs, rfl, ha, hp⟩, hg, hl1, q⟩ := h
  have hlen := TdAll.len _ _ hp
  rw [List.length_map] at hlen
  refine ⟨_, pss_cons (ps_set (i := 1) sc_gaps.nd rfl (Or.inl rfl) (pe_lst pa_nil))
      (pss_cons (ps_set (i := 2) sc_gaps.nd rfl (Or.inl rfl) (pe_lst (pa_cons (pe_lst pa_nil) pa_nil)))
      (pss_cons (ps_for PassesOwn.never rfl (pi_tup (pv 0)) (pg_name (i := 3) sc_gaps.nd rfl (Or.inl rfl))
      (pss_one (ps_if (pt_cmpR op_eq (pe_ix ix_tup (pv 3) pe_int (fun _ _ => rfl)) pe_str (nomark _)) (pss_cons (ps_expr (pe_bm PySem.F.plainAttrs_list PySem.F.slot_list_append PySem.F.type_list_append mt_append (pv 1) (pa_cons (pe_slice sl_tupA (pv 3) (po_some pe_int) po_none) pa_nil)))
      (pss_one (ps_expr (pe_bm PySem.F.plainAttrs_list PySem.F.slot_list_append PySem.F.type_list_append mt_append (pv 2) (pa_cons (pe_lst pa_nil) pa_nil))))) (pss_one (ps_expr (pe_bm PySem.F.plainAttrs_list PySem.F.slot_list_append PySem.F.type_list_append mt_append (pe_ix ix_list (pv 2) (pe_un un_neg pe_int) (fun _ _ => rfl)) (pa_cons (pv 3) pa_nil)))))))
      (pss_one (ps_ret (pe_lst (pa_cons (pv 1) (pa_cons (pv 2) pa_nil))))))), ?_⟩
  refine ⟨sl 0, fun n hn => ⟨sl 0, fun I0 hI0 => ⟨sl 1, fun g hg0 => ?_⟩⟩⟩
  have nI : n ≠ I0 := ne_of_none upd_same hI0
  have Ig : I0 ≠ g := ne_of_none upd_same hg0
  have ng : n ≠ g := ne_of_none (upd_else upd_same nI) hg0
  have s1 : Same H (upd H n (.lst [])) := same_new hn
  have s2 := s1.trans (same_new (o := .lst []) hI0)
  have s3 := s2.trans (same_new (o := .lst [V.ref I0]) hg0)
  have hgN : H g = none := s2.free hg0
  refine ⟨_, rfl, a, rfl, ⟨_, SqT.of (s3 _ _ ha)⟩, for_tup (K := K) (a := a) (xs := vs) (fun i σ H' => ∃ v : Option V, σ = [some (.ref a), some (.ref n), some (.ref g), v] ∧ GapsSt H H' n g ls (ls.drop i))
    ⟨none, rfl, ⟨[], [], [], I0, [], [], [], ?_, rfl, rfl, upd_same, (fun z => by cases z), ?_, rfl, ?_, ⟨?_, rfl, ?_⟩, rfl⟩, s3⟩ (fun i σ H' _ ⟨_, _, G⟩ => SqT.of (G.same _ _ ha)) ?_ ?_⟩
  · exact upd_else (upd_else upd_same nI) ng
  · intro q hq
    rw [List.nil_append] at hq
    rw [List.mem_singleton.mp hq]
    exact ⟨s1.free hI0, nI.symm, Ig⟩
  · intro j q h
    simp at h
  · exact upd_else upd_same Ig
  · intro i v h
    simp at h
  · rintro i x σ H' hx ⟨v, rfl, ⟨⟨nv, dn, gs0, I, gd0, vI, cur, e1, e2, e3, e4, e5, e6, e7, e8, e9, e10⟩, sm⟩⟩
    obtain ⟨l, hl, hv⟩ := lay_at hp hx
    have hv' := Td.mono (TS.of sm) _ _ hv
    rw [drop_at hl] at e3 e10
    obtain ⟨Ih, In, Ig'⟩ := e6 I (by simp)
    have nle := nms_le ls
    have glen : gs0.length ≤ 200 := by
      have h1 := gaps_len ls []
      have h2 : (gapsP [] ls).length = gd0.length + (gapsP cur (l :: ls.drop (i + 1))).length := by rw [e10, List.length_append]
      omega
    cases l with
    | ev m j h =>
      obtain ⟨b, hmm, rfl, hb, _⟩ := ev_at hv'
      have vIlen : vI.length ≤ 200 := by
        have h1 : cur ++ [(m, j)] ∈ gapsP (cur ++ [(m, j)]) (ls.drop (i + 1)) ∨ True := .inr trivial
        have h2 := e9.len
        have h3 : ∀ (r : List LD) (c : List (Int × Int)), ∃ ps ∈ gapsP c r, c.length ≤ ps.length := by
          intro r
          induction r with
          | nil => exact fun c => ⟨c, by simp [gapsP], Nat.le_refl _⟩
          | cons l r ih =>
            intro c
            cases l with
            | ev n k h =>
              obtain ⟨ps, h4, h5⟩ := ih (c ++ [(n, k)])
              rw [List.length_append] at h5
              exact ⟨ps, h4, by simp only [List.length_singleton] at h5; omega⟩
            | is x v => exact ⟨c, by simp [gapsP], Nat.le_refl _⟩
        obtain ⟨ps, h4, h5⟩ := h3 (LD.ev m j h :: ls.drop (i + 1)) cur
        have h6 := (gaps_good ls [] (fun p h => by cases h) hg ps (by rw [e10]; exact List.mem_append_right _ h4)).2
        simp only [List.length_nil] at h6
        omega
      refine ⟨_, rfl, b, _, _, _, rfl, rfl, SqT.of hb, at_n 0 rfl, rfl, _, rfl, ?_⟩
      rw [str_ne (by decide +kernel)]
      refine iteF ⟨_, rfl, _, rfl, g, _, _, .ref I, rfl, rfl, SqL.of e4, ?_, .inl ⟨rfl, _, SqL.of e9.ob⟩, _, rfl, I, _, _, rfl, rfl, e9.ob, small1000 (by omega), _, rfl, ⟨nv, dn, gs0, I, gd0, vI ++ [.ref b], cur ++ [(m, j)], upd_else e1 In.symm, ?_, e3, upd_else e4 Ig'.symm, e5, e6, e7, fun j' q' h' => ?_, ⟨upd_same, ?_, ?_⟩, e10⟩, fun c o e => upd_else (sm _ _ e) (ne_of_none e Ih)⟩
      · rw [List.map_append]
        exact atI_last _ _
      · exact TdAll.mono (TS.wr e9.ob) _ _ e2
      · obtain ⟨vs', ps', h1, h2⟩ := e8 j' q' h'
        refine ⟨vs', ps', h1, h2.mono (TS.wr e9.ob) (upd_else h2.ob ?_)⟩
        rintro rfl
        exact e5 (mem_at h')
      · rw [List.length_append, List.length_append, e9.len]
        rfl
      · intro i' v' h'
        by_cases hi' : i' < vI.length
        · rw [List.getElem?_append_left hi'] at h'
          obtain ⟨n', k', b', hm', h1, h2, h3⟩ := e9.item h'
          exact ⟨n', k', b', hm', by rw [List.getElem?_append_left (by rw [← e9.len]; exact hi')]; exact h1, h2, TS.wr e9.ob _ _ h3⟩
        · have hlt : i' < (vI ++ [V.ref b]).length := (List.getElem?_eq_some_iff.mp h').1
          rw [List.length_append] at hlt
          simp only [List.length_singleton] at hlt
          have ei : i' = vI.length := by omega
          subst ei
          rw [List.getElem?_append_right (Nat.le_refl _), Nat.sub_self] at h'
          cases h'
          exact ⟨m, j, b, hmm, by rw [e9.len, List.getElem?_append_right (Nat.le_refl _), Nat.sub_self]; rfl, rfl, TS.wr e9.ob _ _ hb⟩
    | is y w =>
      obtain ⟨b, wv, rfl, hb, hw⟩ := is_at hv'
      have nvl : nv.length ≤ 200 := by
        have h1 := TdAll.len _ _ e2
        have h2 : (nms ls).length = dn.length + (nms (LD.is y w :: ls.drop (i + 1))).length := by rw [e3, List.length_append]
        rw [List.length_map] at h1
        omega
      refine ⟨_, rfl, b, _, _, _, rfl, rfl, SqT.of hb, at_n 0 rfl, rfl, _, rfl, ?_⟩
      rw [decide_eq_true (show V.str "is" = V.str "is" from rfl)]
      refine iteT ⟨_, rfl, .inl ⟨rfl, _, SqL.of e1⟩, _, rfl, _, rfl, b, _, rfl, SqT.of hb, (fun z => absurd z.1 (show ¬ HT.sIx 3 0 (some 1) = 0 by decide)), fun _ t ht => ?_⟩
      have hcut : cutV [V.str "is", .str y, wv] (some 1) none = [V.str y, wv] := rfl
      rw [hcut]
      have nt : n ≠ t := ne_of_none e1 ht
      have e1t : (upd H' t (.tup [.str y, wv])) n = some (.lst nv) := upd_else e1 nt
      refine ⟨n, _, _, rfl, rfl, e1t, small1000 (by omega), ?_⟩
      have ts1 : TS H' (upd (upd H' t (.tup [.str y, wv])) n (.lst (nv ++ [.ref t]))) := (TS.new ht).trans (TS.wr e1t)
      have keepL : ∀ {c : Addr} {xs : List V}, H' c = some (.lst xs) → c ≠ n → (upd (upd H' t (.tup [.str y, wv])) n (.lst (nv ++ [.ref t]))) c = some (.lst xs) := fun e ne => upd_else (same_new ht _ _ e) ne
      have sm1 : Same H (upd (upd H' t (.tup [.str y, wv])) n (.lst (nv ++ [.ref t]))) := fun c o e => upd_else (same_new ht _ _ (sm _ _ e)) (ne_of_none e hn)
      have en1 : (upd (upd H' t (.tup [.str y, wv])) n (.lst (nv ++ [.ref t]))) n = some (.lst (nv ++ [.ref t])) := upd_same
      have et1 : (upd (upd H' t (.tup [.str y, wv])) n (.lst (nv ++ [.ref t]))) t = some (.tup [.str y, wv]) := upd_else upd_same nt.symm
      have eg1 := keepL e4 ng.symm
      have eI1 := keepL e9.ob In
      have erow : ∀ (j' : Nat) (q' : Addr), gs0[j']? = some q' → ∃ vs ps, gd0[j']? = some ps ∧ RowAt (upd (upd H' t (.tup [.str y, wv])) n (.lst (nv ++ [.ref t]))) q' vs ps := fun j' q' h' => by
        obtain ⟨vs', ps', h1, h2⟩ := e8 j' q' h'
        exact ⟨vs', ps', h1, h2.mono ts1 (keepL h2.ob (e6 q' (List.mem_append_left _ (mem_at h'))).2.1)⟩
      have erI := e9.mono ts1 eI1
      have e2' := TdAll.mono ts1 _ _ e2
      have hw' := Td.mono ts1 _ _ hw
      have freeAll : ∀ c ∈ gs0 ++ [I], ∃ xs, (upd (upd H' t (.tup [.str y, wv])) n (.lst (nv ++ [.ref t]))) c = some (.lst xs) := fun c hc => by
        rcases List.mem_append.mp hc with h | h
        · obtain ⟨j', hj', rfl⟩ := List.mem_iff_getElem.mp h
          obtain ⟨vs', ps', _, h2⟩ := erow j' _ (List.getElem?_eq_getElem hj')
          exact ⟨vs', h2.ob⟩
        · rw [List.mem_singleton.mp h]
          exact ⟨vI, eI1⟩
      generalize upd (upd H' t (.tup [.str y, wv])) n (.lst (nv ++ [.ref t])) = H1 at sm1 en1 et1 eg1 eI1 erow erI e2' hw' freeAll
      refine ⟨_, rfl, .inl ⟨rfl, _, SqL.of eg1⟩, sl 0, fun J hJ => ?_⟩
      have gJ : g ≠ J := ne_of_none eg1 hJ
      have nJ : n ≠ J := ne_of_none en1 hJ
      have eg2 : (upd H1 J (.lst [])) g = some (.lst ((gs0 ++ [I]).map V.ref)) := upd_else eg1 gJ
      refine ⟨g, _, _, rfl, rfl, eg2, small1000 (by rw [List.length_map, List.length_append]; simp only [List.length_singleton]; omega), ?_⟩
      have ts2 : TS H1 (upd (upd H1 J (.lst [])) g (.lst ((gs0 ++ [I]).map V.ref ++ [.ref J]))) := (TS.new hJ).trans (TS.wr eg2)
      have keep2 : ∀ {c : Addr} {o : HO}, H1 c = some o → c ≠ g → (upd (upd H1 J (.lst [])) g (.lst ((gs0 ++ [I]).map V.ref ++ [.ref J]))) c = some o := fun e ne => upd_else (same_new hJ _ _ e) ne
      refine ⟨_, rfl, ⟨nv ++ [.ref t], dn ++ [(y, w)], gs0 ++ [I], J, gd0 ++ [cur], [], [], keep2 en1 ng, ?_, ?_, ?_, ?_, ?_, ?_, ?_, ⟨upd_else upd_same gJ.symm, rfl, ?_⟩, ?_⟩, fun c o e => keep2 (sm1 _ _ e) (ne_of_none e hgN)⟩
      · have em : (dn ++ [(y, w)]).map nmd = dn.map nmd ++ [nmd (y, w)] := List.map_append
        rw [em]
        refine TdAll.app _ _ _ _ (TdAll.mono ts2 _ _ e2') ?_
        exact ⟨_, _, rfl, ⟨t, _, rfl, ts2 _ _ et1, _, _, rfl, rfl, _, _, rfl, Td.mono ts2 _ _ hw', rfl⟩, rfl⟩
      · rw [e3, List.append_assoc]
        rfl
      · rw [upd_same, List.map_append (l₂ := [J])]
        rfl
      · intro hm
        obtain ⟨xs, hx'⟩ := freeAll J hm
        rw [hJ] at hx'
        cases hx'
      · intro c hc
        rcases List.mem_append.mp hc with h | h
        · exact e6 c h
        · rw [List.mem_singleton.mp h]
          exact ⟨sm1.free hJ, nJ.symm, gJ.symm⟩
      · rw [List.length_append, List.length_append, e7]
        rfl
      · intro j' q' h'
        by_cases hj' : j' < gs0.length
        · rw [List.getElem?_append_left hj'] at h'
          obtain ⟨vs', ps', h1, h2⟩ := erow j' q' h'
          exact ⟨vs', ps', by rw [List.getElem?_append_left (by rw [← e7]; exact hj')]; exact h1, h2.mono ts2 (keep2 h2.ob (e6 q' (List.mem_append_left _ (mem_at h'))).2.2)⟩
        · have hlt : j' < (gs0 ++ [I]).length := (List.getElem?_eq_some_iff.mp h').1
          rw [List.length_append] at hlt
          simp only [List.length_singleton] at hlt
          have ej : j' = gs0.length := by omega
          subst ej
          rw [List.getElem?_append_right (Nat.le_refl _), Nat.sub_self] at h'
          cases h'
          exact ⟨vI, cur, by rw [e7, List.getElem?_append_right (Nat.le_refl _), Nat.sub_self]; rfl, erI.mono ts2 (keep2 eI1 Ig')⟩
      · intro i' v' h'
        simp at h'
      · rw [e10, List.append_assoc]
        rfl
  · rintro σ H' ⟨v, rfl, ⟨⟨nv, dn, gs0, I, gd0, vI, cur, e1, e2, e3, e4, e5, e6, e7, e8, e9, e10⟩, sm⟩⟩
    rw [List.drop_eq_nil_of_le (by omega)] at e3 e10
    have e3' : nms ls = dn := by
      rw [e3]
      exact List.append_nil _
    refine ⟨_, rfl, _, rfl, sl 2, fun o ho => ?_⟩
    have so : Same H' (upd H' o (.lst [.ref n, .ref g])) := same_new ho
    refine q o n g nv (gs0 ++ [I]) _ (sm.trans so) upd_same (so _ _ e1) ?_ (so _ _ e4) ?_ fun j q' h' => ?_
    · rw [e3']
      exact TdAll.mono (TS.of so) _ _ e2
    · rw [e10, List.length_append, List.length_append, e7]
      rfl
    · by_cases hj' : j < gs0.length
      · rw [List.getElem?_append_left hj'] at h'
        obtain ⟨vs', ps', h1, h2⟩ := e8 j q' h'
        exact ⟨vs', ps', by rw [e10, List.getElem?_append_left (by rw [← e7]; exact hj')]; exact h1, h2.same so⟩
      · have hlt : j < (gs0 ++ [I]).length := (List.getElem?_eq_some_iff.mp h').1
        rw [List.length_append] at hlt
        simp only [List.length_singleton] at hlt
        have ej : j = gs0.length := by omega
        subst ej
        rw [List.getElem?_append_right (Nat.le_refl _), Nat.sub_self] at h'
        cases h'
        exact ⟨vI, cur, by rw [e10, e7, List.getElem?_append_right (Nat.le_refl _), Nat.sub_self]; rfl, e9.same so⟩
def rBeatDue : V → V → Hp → VK → Prop := fun x y H Q => ∃ ls ls' : List LD, ClkV H x ls ∧ ClkV H y ls' ∧ (∀ l ∈ ls, l.ok) ∧ (∀ l ∈ ls', l.ok) ∧ ls.length ≤ 100 ∧ ls'.length ≤ 100 ∧ ∀ (b : Bool) (H' : Hp), Same H H' → (b = true ↔ grs 1 0 ls = grs 1 0 ls' ∧ nms ls = nms ls') → Q (.bl b) H'
theorem nmd_inj {a b : List (Str × PyData)} (h : a.map nmd = b.map nmd) : a = b := by
  induction a generalizing b with
  | nil =>
    cases b with
    | nil => rfl
    | cons _ _ => cases h
  | cons p r ih =>
    cases b with
    | nil => cases h
    | cons q s =>
      obtain ⟨x, v⟩ := p
      obtain ⟨y, w⟩ := q
      injection h with h1 h2
      injection h1 with h1
      injection h1 with h3 h1
      injection h1 with h4 _
      injection h3 with h3
      rw [ih h2, show x = y from h3, show v = w from h4]
theorem ok_beat_due (T : Tx K mg) : FnOk P w K mg base CX0 3 T.f_beat_due T.fd_beat_due ["_law_clock", "_law_other"] (sp2 rBeatDue) := by
  refine okR2 T.F_beat_due sc_beat_due rfl fun cdv A outer s H Q E x y hr h => ?_
  obtain ⟨ls, ls', c1, c2, g1, g2, n1, n2, q⟩ := h
  refine ⟨_, pss_cons (ps_set (i := 2) sc_beat_due.nd rfl (Or.inl rfl) (pe_call (ok_gaps T) (hr.mono (by decide)) rfl T.m_gaps T.F_gaps.kp T.b_gaps .nil pass0 (pa_cons (pv 0) pa_nil)))
      (pss_cons (ps_set (i := 3) sc_beat_due.nd rfl (Or.inl rfl) (pe_call (ok_gaps T) (hr.mono (by decide)) rfl T.m_gaps T.F_gaps.kp T.b_gaps .nil pass0 (pa_cons (pv 1) pa_nil)))
      (pss_cons (ps_if (pt_cmpR (op_neD hr.units) (pe_ix ix_list (pv 2) pe_int (fun _ _ => rfl)) (pe_ix ix_list (pv 3) pe_int (fun _ _ => rfl)) (nomark _)) (pss_one (ps_ret pe_bl)) pss_nil)
      (pss_cons (ps_for PassesOwn.never rfl (pi_range1 rfl T.z_range (pa_cons (pe_callB call_len_seq (by rfl) T.z_len (by decide +kernel) (pa_cons (pe_ix ix_list (pv 2) pe_int (fun _ _ => rfl)) pa_nil)) pa_nil)) (pg_name (i := 4) sc_beat_due.nd rfl (Or.inl rfl))
      (pss_one (ps_if (pt_cmpR (op_neD hr.units) (pe_call (ok_rate_due T) (hr.mono (by decide)) rfl T.m_rate_due T.F_rate_due.kp T.b_rate_due .nil pass0 (pa_cons (pe_ix ix_list (pe_ix ix_list (pv 2) pe_int (fun _ _ => rfl)) (pv 4) (fun _ _ => rfl)) pa_nil)) (pe_call (ok_rate_due T) (hr.mono (by decide)) rfl T.m_rate_due T.F_rate_due.kp T.b_rate_due .nil pass0 (pa_cons (pe_ix ix_list (pe_ix ix_list (pv 3) pe_int (fun _ _ => rfl)) (pv 4) (fun _ _ => rfl)) pa_nil)) (nomark _)) (pss_one (ps_ret pe_bl)) pss_nil)))
      (pss_one (ps_ret pe_bl))))), ?_⟩
  refine ⟨_, rfl, _, rfl, ls, c1, g1, n1, fun o1 m1 k1 nv1 gs1 H1 s1 a1 a2 a3 a4 a5 a6 => ⟨_, rfl, _, rfl, ls', c2.mono (TS.of s1), g2, n2, fun o2 m2 k2 nv2 gs2 H2 s2 b1 b2 b3 b4 b5 b6 => ?_⟩⟩
  have o1' := s2 _ _ a1
  have m1' := s2 _ _ a2
  have k1' := s2 _ _ a4
  have hlen1 := gaps_len ls []
  have hlen2 := gaps_len ls' []
  refine ⟨_, rfl, o1, _, _, _, rfl, rfl, SqL.of o1', at_n 0 rfl, _, rfl, o2, _, _, _, rfl, rfl, SqL.of b1, at_n 0 rfl, ?_⟩
  refine ⟨.list ((nms ls).map nmd), .list ((nms ls').map nmd), .lst (SqL.of m1') (TdAll.dp _ _ (TdAll.mono (TS.of s2) _ _ a3)), .lst (SqL.of b2) (TdAll.dp _ _ b3), shaped_list (nms_ok ls g1), shaped_list (nms_ok ls' g2), _, rfl, ?_⟩
  have en : PyData.eqv (.list ((nms ls).map nmd)) (.list ((nms ls').map nmd)) = true ↔ nms ls = nms ls' := by
    show PyData.eqvAll _ _ = true ↔ _
    rw [eqvAll_iff (plainAll_of _ (nms_ok ls g1)).1 (plainAll_of _ (nms_ok ls' g2)).1]
    exact ⟨nmd_inj, fun h => by rw [h]⟩
  cases hb : PyData.eqv (.list ((nms ls).map nmd)) (.list ((nms ls').map nmd)) with
  | false =>
    refine iteT (q false H2 (s1.trans s2) ⟨(fun z => by cases z), fun z => ?_⟩)
    rw [en.mpr z.2] at hb
    cases hb
  | true =>
    have hn := en.mp hb
    refine iteF ⟨_, rfl, o1, _, _, _, rfl, rfl, SqL.of o1', at_n 1 rfl, k1, _, rfl, .inl (SqL.of k1'), _, rfl, by omega, by rw [List.length_map]; have := nms_le ls; omega, ?_⟩
    have hl : gs1.length = gs2.length := by rw [a5, b5, hlen1, hlen2, hn]
    refine for_range (lo := 0) (n := (((gs1.map V.ref).length : Nat) : Int).toNat) (fun i σ H' => ∃ v : Option V, σ = [some x, some y, some (.ref o1), some (.ref o2), v] ∧ Same H2 H' ∧ ∀ j, j < i → (grs 1 0 ls)[j]? = (grs 1 0 ls')[j]?) ⟨none, rfl, Same.refl _, fun j h => absurd h (Nat.not_lt_zero j)⟩ ?_ ?_
    · rintro i σ H' hi ⟨v, rfl, s3, e⟩
      rw [List.length_map] at hi
      have hi1 : i < gs1.length := by omega
      have hi2 : i < gs2.length := by omega
      have z0 : (0 : Int) + (i : Int) = ((i : Nat) : Int) := by omega
      obtain ⟨vs1, ps1, p1, r1⟩ := a6 i _ (List.getElem?_eq_getElem hi1)
      obtain ⟨vs2, ps2, p2, r2⟩ := b6 i _ (List.getElem?_eq_getElem hi2)
      obtain ⟨gp1, gl1⟩ := gaps_good ls [] (fun p h => by cases h) g1 ps1 (List.mem_of_getElem? p1)
      obtain ⟨gp2, gl2⟩ := gaps_good ls' [] (fun p h => by cases h) g2 ps2 (List.mem_of_getElem? p2)
      simp only [List.length_nil] at gl1 gl2
      have at1 : atI (gs1.map V.ref) (0 + (i : Int)) = some (.ref gs1[i]) := by
        rw [z0]
        exact at_n i (by rw [List.getElem?_map, List.getElem?_eq_getElem hi1]; rfl)
      have at2 : atI (gs2.map V.ref) (0 + (i : Int)) = some (.ref gs2[i]) := by
        rw [z0]
        exact at_n i (by rw [List.getElem?_map, List.getElem?_eq_getElem hi2]; rfl)
      have r1' := r1.same (s2.trans s3)
      have r2' := r2.same s3
      refine ⟨_, rfl, o1, _, _, _, rfl, rfl, SqL.of (s3 _ _ o1'), at_n 1 rfl, _, rfl, k1, _, _, _, rfl, rfl, SqL.of (s3 _ _ k1'), at1, _, rfl, _, vs1, ps1, rfl, r1', gp1, by omega, fun t1 Ha sa ht1 => ?_⟩
      refine ⟨_, rfl, o2, _, _, _, rfl, rfl, SqL.of (sa _ _ (s3 _ _ b1)), at_n 1 rfl, _, rfl, k2, _, _, _, rfl, rfl, SqL.of (sa _ _ (s3 _ _ b4)), at2, _, rfl, _, vs2, ps2, rfl, r2'.same sa, gp2, by omega, fun t2 Hb sb ht2 => ?_⟩
      have d1 : Dp K Hb (.ref t1) (rd (bwd ps1)) := .tup (SqT.of (sb _ _ ht1)) (.cons (.int _) (.cons (.int _) .nil))
      have d2 : Dp K Hb (.ref t2) (rd (bwd ps2)) := .tup (SqT.of ht2) (.cons (.int _) (.cons (.int _) .nil))
      refine ⟨rd (bwd ps1), rd (bwd ps2), d1, d2, rfl, rfl, _, rfl, ?_⟩
      have er := eqv_iff (rd_ok (bwd ps1)).1 (rd_ok (bwd ps2)).1
      have q1 : (grs 1 0 ls)[i]? = some (bwd ps1) := by
        have := gaps_rates ls []
        rw [show (bwd ([] : List (Int × Int))).1 = 1 from rfl, show (bwd ([] : List (Int × Int))).2 = 0 from rfl] at this
        rw [← this, List.getElem?_map, p1]
        rfl
      have q2 : (grs 1 0 ls')[i]? = some (bwd ps2) := by
        have := gaps_rates ls' []
        rw [show (bwd ([] : List (Int × Int))).1 = 1 from rfl, show (bwd ([] : List (Int × Int))).2 = 0 from rfl] at this
        rw [← this, List.getElem?_map, p2]
        rfl
      cases hq : PyData.eqv (rd (bwd ps1)) (rd (bwd ps2)) with
      | false =>
        refine iteT (q false _ ((s1.trans s2).trans (s3.trans (sa.trans sb))) ⟨(fun z => by cases z), fun z => ?_⟩)
        rw [z.1, q2] at q1
        have e5 := Option.some.inj q1
        rw [e5] at hq
        rw [(eqv_iff (rd_ok (bwd ps1)).1 (rd_ok (bwd ps1)).1).mpr rfl] at hq
        cases hq
      | true =>
        have e6 := er.mp hq
        refine iteF ⟨_, rfl, s3.trans (sa.trans sb), fun j hj => ?_⟩
        by_cases hji : j < i
        · exact e j hji
        · have ej : j = i := by omega
          subst ej
          rw [q1, q2]
          injection e6 with e6
          injection e6 with e7 e6
          injection e6 with e8 _
          injection e7 with e7
          injection e8 with e8
          exact congrArg some (Prod.ext e7 e8)
    · rintro σ H' ⟨v, rfl, s3, e⟩
      rw [List.length_map] at e
      refine q true H' ((s1.trans s2).trans s3) ⟨fun _ => ⟨?_, hn⟩, fun _ => rfl⟩
      have L1 : (grs 1 0 ls).length = gs1.length := by
        have := congrArg List.length (gaps_rates ls [])
        rw [List.length_map] at this
        rw [a5, this]
        rfl
      have L2' : (grs 1 0 ls').length = gs2.length := by
        have := congrArg List.length (gaps_rates ls' [])
        rw [List.length_map] at this
        rw [b5, this]
        rfl
      refine List.ext_getElem? fun j => ?_
      by_cases hj : j < gs1.length
      · exact e j (by omega)
      · rw [List.getElem?_eq_none (by omega), List.getElem?_eq_none (by omega)]
end

/-- one of the values of a list -/
def rPickL : V → V → Hp → VK → Prop := fun x y H Q => ∃ (d c p : Addr) (items : List V), x = .ref d ∧ Dr d c H ∧ items ≠ [] ∧ items.length ≤ 1000 ∧ y = .ref p ∧ p ≠ d ∧ H p = some (.lst items) ∧ ∀ (v : V) (H' : Hp), v ∈ items → Dr d c H' → Keep d H H' → Q v H'
section
variable {P : Program} {w : World} {K : PySem.W.Frag} {mg : Str → Option Value} {base : Heap}
theorem ok_pick (T : Tx K mg) : FnOk P w K mg base CX0 3 T.f_pick T.fd_pick ["_law_d", "_law_row"] (sp2 rPickL) := by
  refine okR2 T.F_pick sc_pick rfl fun cdv A outer s H Q E x y hr h => ?_
  obtain ⟨d, c, p, items, rfl, dr, hne, hlen, rfl, hpd, hp, q⟩ := h
  have hpos : 0 < items.length := by
    cases items with
    | nil => exact absurd rfl hne
    | cons a r => exact Nat.succ_pos _
  refine ⟨_, pss_one (ps_ret (pe_ix ix_list (pv 1) (pe_call (ok_draw T) (hr.mono (by decide)) rfl T.m_draw T.F_draw.kp T.b_draw .nil pass0 (pa_cons (pv 0) (pa_cons (pe_callB call_len_seq (by rfl) T.z_len (by decide +kernel) (pa_cons (pv 1) pa_nil)) pa_nil))) (fun _ _ => rfl))), ?_⟩
  refine ⟨_, rfl, _, rfl, _, rfl, p, items, rfl, .inl (SqL.of hp), _, _, rfl, d, c, _, rfl, rfl, dr, by omega, by omega, fun r H' r0 r1 dr' kp => ?_⟩
  obtain ⟨j, rfl⟩ := Int.eq_ofNat_of_zero_le r0
  have hj : j < items.length := by omega
  exact ⟨p, items, _, items[j], rfl, rfl, SqL.of (kp _ _ hp hpd), at_n j (List.getElem?_eq_getElem hj), q _ _ (List.getElem_mem hj) dr' kp⟩
end

/-! ### clocks that are drawn -/
theorem u1 {u : Nat} (h : u + 64 < cLine) : u + 1 < cLine := by omega
theorem at_td {H : Hp} {ds : List PyData} {xs : List V} {r : Int} (h : TdAll H ds xs) (h0 : 0 ≤ r) (h1 : r < (ds.length : Int)) : ∃ v e, atI xs r = some v ∧ Td H e v ∧ e ∈ ds := by
  obtain ⟨j, rfl⟩ := Int.eq_ofNat_of_zero_le h0
  have hj : j < ds.length := by omega
  obtain ⟨v, e1, e2⟩ := TdAll.at j ds xs ds[j] h (List.getElem?_eq_getElem hj)
  exact ⟨v, ds[j], at_n j e1, e2, List.getElem_mem _⟩
theorem plainS_small {d : PyData} (h : plainD d = true) (h2 : d.depth ≤ 10) : plainS d := ⟨h, h2⟩
def rRate : V → V → Hp → VK → Prop := fun x y H Q => ∃ (d c : Addr) (m : Int), x = .ref d ∧ y = .int m ∧ Dr d c H ∧ 1 ≤ m ∧ m ≤ 12 ∧ ∀ (v : V) (n k : Int) (h : PyData) (H' : Hp), (LD.ev n k h).ok → Td H' (LD.ev n k h).d v → Dr d c H' → Keep d H H' → Q v H'
def rIs : V → Hp → VK → Prop := fun x H Q => ∃ d c : Addr, x = .ref d ∧ Dr d c H ∧ ∀ (v : V) (z : Str) (y : PyData) (H' : Hp), (LD.is z y).ok → Td H' (LD.is z y).d v → Dr d c H' → Keep d H H' → Q v H'
section
variable {P : Program} {w : World} {K : PySem.W.Frag} {mg : Str → Option Value} {base : Heap}
theorem ok_rate (T : Tx K mg) : FnOk P w K mg base CX0 3 T.f_rate T.fd_rate ["_law_d", "_law_most"] (sp2 rRate) := by
  refine okR2 T.F_rate sc_rate rfl fun cdv A outer s H Q E x y hr h => ?_
  obtain ⟨d, c, m, rfl, rfl, dr, m1, m2, q⟩ := h
  refine ⟨_, pss_cons (ps_set (i := 2) sc_rate.nd rfl (Or.inl rfl) (pe_ix ix_list (pe_lst (pa_cons pe_int (pa_cons pe_int (pa_cons pe_int (pa_cons pe_int (pa_cons (pe_op op_add pe_int (pe_call (ok_draw T) (hr.mono (by decide)) rfl T.m_draw T.F_draw.kp T.b_draw .nil pass0 (pa_cons (pv 0) (pa_cons (pv 1) pa_nil)))) (pa_cons (pe_op op_add pe_int (pe_call (ok_draw T) (hr.mono (by decide)) rfl T.m_draw T.F_draw.kp T.b_draw .nil pass0 (pa_cons (pv 0) (pa_cons (pv 1) pa_nil)))) pa_nil))))))) (pe_call (ok_draw T) (hr.mono (by decide)) rfl T.m_draw T.F_draw.kp T.b_draw .nil pass0 (pa_cons (pv 0) (pa_cons pe_int pa_nil))) (fun _ _ => rfl)))
      (pss_cons (ps_set (i := 3) sc_rate.nd rfl (Or.inl rfl) (pe_ix ix_list (pe_lst (pa_cons pe_int (pa_cons (pe_op op_sub (pv 2) pe_int) (pa_cons (pe_call (ok_draw T) (hr.mono (by decide)) rfl T.m_draw T.F_draw.kp T.b_draw .nil pass0 (pa_cons (pv 0) (pa_cons (pv 2) pa_nil))) pa_nil)))) (pe_call (ok_draw T) (hr.mono (by decide)) rfl T.m_draw T.F_draw.kp T.b_draw .nil pass0 (pa_cons (pv 0) (pa_cons pe_int pa_nil))) (fun _ _ => rfl)))
      (pss_one (ps_ret (pe_tup (pa_cons pe_str (pa_cons (pv 2) (pa_cons (pv 3) (pa_cons (pe_ix ix_list (pe_lst (pa_cons pe_non (pa_cons pe_non (pa_cons pe_str (pa_cons pe_str pa_nil))))) (pe_call (ok_draw T) (hr.mono (by decide)) rfl T.m_draw T.F_draw.kp T.b_draw .nil pass0 (pa_cons (pv 0) (pa_cons pe_int pa_nil))) (fun _ _ => rfl)) pa_nil)))))))), ?_⟩
  refine ⟨_, rfl, _, rfl, _, _, rfl, d, c, m, rfl, rfl, dr, by omega, by omega, fun r1 H1 a1 b1 dr1 kp1 => ⟨_, _, rfl, rfl, _, rfl, _, rfl, _, _, rfl, d, c, m, rfl, rfl, dr1, by omega, by omega, fun r2 H2 a2 b2 dr2 kp2 => ⟨_, _, rfl, rfl, sl 6, fun p hp => ⟨_, rfl, _, _, rfl, d, c, 6, rfl, rfl, dr2.new hp, by decide, by decide, fun r3 H3 a3 b3 dr3 kp3 => ?_⟩⟩⟩⟩
  obtain ⟨n, hn, hm⟩ := at_int (ns := [2, 2, 3, 4, 1 + r1, 1 + r2]) a3 b3
  have n12 : 1 ≤ n ∧ n ≤ 12 := by
    simp only [List.mem_cons, List.not_mem_nil, or_false] at hm
    omega
  have pd := dr2.dne hp
  refine ⟨p, _, _, _, rfl, rfl, SqL.of (kp3 _ _ upd_same pd), hn, ?_⟩
  have kpA : Keep d H H3 := kp1.trans (kp2.trans ((Keep.new hp).trans kp3))
  -- first
  refine ⟨_, rfl, _, _, rfl, rfl, _, rfl, _, rfl, _, _, rfl, d, c, n, rfl, rfl, dr3, by omega, by omega, fun r4 H4 a4 b4 dr4 kp4 => ⟨sl 3, fun p2 hp2 => ⟨_, rfl, _, _, rfl, d, c, 3, rfl, rfl, dr4.new hp2, by decide, by decide, fun r5 H5 a5 b5 dr5 kp5 => ?_⟩⟩⟩
  obtain ⟨k, hk, hm2⟩ := at_int (ns := [0, n - 1, r4]) a5 b5
  have k12 : 0 ≤ k ∧ k < n := by
    simp only [List.mem_cons, List.not_mem_nil, or_false] at hm2
    omega
  have pd2 := dr4.dne hp2
  refine ⟨p2, _, _, _, rfl, rfl, SqL.of (kp5 _ _ upd_same pd2), hk, ?_⟩
  have kpB : Keep d H H5 := kpA.trans (kp4.trans ((Keep.new hp2).trans kp5))
  -- return
  refine ⟨_, rfl, _, rfl, sl 4, fun p3 hp3 => ⟨_, rfl, _, _, rfl, d, c, 4, rfl, rfl, dr5.new hp3, by decide, by decide, fun r6 H6 a6 b6 dr6 kp6 => ?_⟩⟩
  obtain ⟨v, e, hv, he, hm⟩ := at_td (H := H6) (ds := [.none, .none, .str "a", .str "pump.x"]) (xs := [.non, .non, .str "a", .str "pump.x"]) ⟨_, _, rfl, rfl, _, _, rfl, rfl, _, _, rfl, rfl, _, _, rfl, rfl, rfl⟩ a6 b6
  have pd3 := dr5.dne hp3
  refine ⟨p3, _, _, _, rfl, rfl, SqL.of (kp6 _ _ upd_same pd3), hv, sl 4, fun t ht => ?_⟩
  have eok : plainS e := by
    simp only [List.mem_cons, List.not_mem_nil, or_false] at hm
    rcases hm with rfl | rfl | rfl | rfl
    · exact ⟨rfl, by decide⟩
    · exact ⟨rfl, by decide⟩
    · exact ⟨by decide +kernel, by decide⟩
    · exact ⟨by decide +kernel, by decide⟩
  exact q _ n k e _ ⟨⟨n12.1, n12.2, k12.1, k12.2⟩, eok⟩ (ev_mk upd_same (Td.mono (TS.new ht) _ _ he)) (dr6.new ht) (kpB.trans ((Keep.new hp3).trans (kp6.trans (Keep.new ht))))
theorem ok_is_layer (T : Tx K mg) : FnOk P w K mg base CX0 3 T.f_is_layer T.fd_is_layer ["_law_d"] (sp1 rIs) := by
  refine okR1 T.F_is_layer sc_is_layer rfl fun cdv A outer s H Q E x hr h => ?_
  obtain ⟨d, c, rfl, dr, q⟩ := h
  refine ⟨_, pss_cons (ps_set (i := 1) sc_is_layer.nd rfl (Or.inl rfl) (pe_ix ix_list (pe_lst (pa_cons pe_str (pa_cons pe_str (pa_cons pe_str (pa_cons pe_str (pa_cons pe_str pa_nil)))))) (pe_call (ok_draw T) (hr.mono (by decide)) rfl T.m_draw T.F_draw.kp T.b_draw .nil pass0 (pa_cons (pv 0) (pa_cons pe_int pa_nil))) (fun _ _ => rfl)))
      (pss_cons (ps_if (pt_cmpR op_eq (pv 1) pe_str (nomark _)) (pss_one (ps_ret (pe_tup (pa_cons pe_str (pa_cons (pv 1) (pa_cons (pe_tup (pa_cons pe_str (pa_cons (pe_tup (pa_cons pe_str (pa_cons pe_str (pa_cons pe_str pa_nil)))) (pa_cons (pe_call (ok_draw T) (hr.mono (by decide)) rfl T.m_draw T.F_draw.kp T.b_draw .nil pass0 (pa_cons (pv 0) (pa_cons pe_int pa_nil))) pa_nil)))) pa_nil)))))) pss_nil)
      (pss_one (ps_ret (pe_tup (pa_cons pe_str (pa_cons (pv 1) (pa_cons (pe_tup (pa_cons pe_str (pa_cons (pe_call (ok_draw T) (hr.mono (by decide)) rfl T.m_draw T.F_draw.kp T.b_draw .nil pass0 (pa_cons (pv 0) (pa_cons pe_int pa_nil))) pa_nil))) pa_nil))))))), ?_⟩
  refine ⟨sl 5, fun p hp => ⟨_, rfl, _, _, rfl, d, c, 5, rfl, rfl, dr.new hp, by decide, by decide, fun r1 H1 a1 b1 dr1 kp1 => ?_⟩⟩
  obtain ⟨v, hv, hm⟩ := at_in (xs := ([("a" : Str), "b", "c", "m@now", "a@here"]).map V.str) a1 b1
  obtain ⟨y, hy, rfl⟩ := List.mem_map.mp hm
  have yok : plainD (.str y) = true := by
    simp only [List.mem_cons, List.not_mem_nil, or_false] at hy
    rcases hy with rfl | rfl | rfl | rfl | rfl <;> decide +kernel
  refine ⟨p, _, _, _, rfl, rfl, SqL.of (kp1 _ _ upd_same (dr.dne hp)), hv, ?_⟩
  have kpA : Keep d H H1 := (Keep.new hp).trans kp1
  refine ⟨_, rfl, rfl, _, rfl, ite2 (fun _ => ?_) (fun _ => ?_)⟩
  · refine ⟨_, rfl, sl 3, fun t ht => ⟨_, rfl, _, _, rfl, d, c, 3, rfl, rfl, dr1.new ht, by decide, by decide, fun r2 H2 a2 b2 dr2 kp2 => ⟨sl 3, fun t2 ht2 => ⟨sl 3, fun t3 ht3 => ?_⟩⟩⟩⟩
    have tt1 : H2 t = some (.tup [.str "on", .str "off", .str "idle"]) := kp2 _ _ upd_same (dr1.dne ht)
    refine q _ y (.tuple [.str "mode", .tuple [.str "on", .str "off", .str "idle"], .int r2]) _ ⟨yok, ?_, ?_⟩ (is_mk upd_same ?_) ((dr2.new ht2).new ht3) (kpA.trans ((Keep.new ht).trans (kp2.trans ((Keep.new ht2).trans (Keep.new ht3)))))
    · show ((PyData.strOk "mode") && ((PyData.strOk "on" && (PyData.strOk "off" && (PyData.strOk "idle" && true))) && (true && true))) = true
      decide +kernel
    · show max 0 (max (max 0 (max 0 (max 0 0)) + 1) (max 0 0)) + 1 ≤ 10
      decide
    · exact ⟨t2, _, rfl, same_new ht3 _ _ upd_same, _, _, rfl, rfl, _, _, rfl, ⟨t, _, rfl, same_new ht3 _ _ (same_new ht2 _ _ tt1), _, _, rfl, rfl, _, _, rfl, rfl, _, _, rfl, rfl, rfl⟩, _, _, rfl, rfl, rfl⟩
  · refine ⟨_, rfl, _, rfl, _, _, rfl, d, c, 2, rfl, rfl, dr1, by decide, by decide, fun r2 H2 a2 b2 dr2 kp2 => ⟨sl 2, fun t2 ht2 => ⟨sl 3, fun t3 ht3 => ?_⟩⟩⟩
    refine q _ y (.tuple [.str "truth", .int r2]) _ ⟨yok, ?_, ?_⟩ (is_mk upd_same ?_) ((dr2.new ht2).new ht3) (kpA.trans (kp2.trans ((Keep.new ht2).trans (Keep.new ht3))))
    · show ((PyData.strOk "truth") && (true && true)) = true
      decide +kernel
    · show max 0 (max 0 0) + 1 ≤ 10
      decide
    · exact ⟨t2, _, rfl, same_new ht3 _ _ upd_same, _, _, rfl, rfl, _, _, rfl, rfl, rfl⟩
/-- the layers that grow in the list at D -/
def Grow (d c : Addr) (H : Hp) (D : Addr) (n : Nat) (G : Hp) : Prop := ∃ (vs : List V) (ls : List LD), G D = some (.lst vs) ∧ TdAll G (ls.map LD.d) vs ∧ (∀ l ∈ ls, l.ok) ∧ ls.length ≤ n ∧ Dr d c G ∧ Keep d H G
def rBeat : V → Hp → VK → Prop := fun x H Q => ∃ d c : Addr, x = .ref d ∧ Dr d c H ∧ ∀ (v : V) (ls : List LD) (H' : Hp), ClkV H' v ls → (∀ l ∈ ls, l.ok) → ls.length ≤ 6 → Dr d c H' → Keep d H H' → Q v H'
theorem map_ins (ls : List LD) (i : Nat) (l : LD) : (ls.take i ++ [l] ++ ls.drop i).map LD.d = (ls.map LD.d).take i ++ [l.d] ++ (ls.map LD.d).drop i := by
  rw [List.map_append, List.map_append, List.map_take, List.map_drop]
  rfl
theorem ok_beat_clock (T : Tx K mg) : FnOk P w K mg base CX0 4 T.f_beat_clock T.fd_beat_clock ["_law_d"] (sp1 rBeat) := by
  refine okR1 T.F_beat_clock sc_beat_clock rfl fun cdv A outer s H Q E x hr h => ?_
  obtain ⟨d, c, rfl, dr, q⟩ := h
  refine ⟨_, pss_cons (ps_setLc (i := 1) (own := [("_law_step", 2)]) (g := gName 2) (tt := tYes) rfl sc_beat_clock.nd rfl rfl (sw_true rfl rfl rfl (by decide +kernel)) (pi_range1 rfl T.z_range (pa_cons (pe_call (ok_draw T) (hr.mono (by decide)) rfl T.m_draw T.F_draw.kp T.b_draw .nil pass0 (pa_cons (pv 0) (pa_cons pe_int pa_nil))) pa_nil)) (blkOk_by (N := ["_law_d", "_law_layers", "_law_step"]) (sc := defScope s_beat_clock) (by decide +kernel)) (fun _ _ _ _ _ => pg_name (i := 2) sc_beat_clock.nd rfl (Or.inl rfl)) (fun _ _ _ _ _ => pts_nil) (fun _ _ _ _ _ => (pe_call (ok_rate T) (hr.mono (by decide)) rfl T.m_rate T.F_rate.kp T.b_rate .nil pass0 (pa_cons (pv 0) (pa_cons pe_int pa_nil)))))
      (pss_cons (ps_for PassesOwn.never rfl (pi_range1 rfl T.z_range (pa_cons (pe_ix ix_list (pe_lst (pa_cons pe_int (pa_cons pe_int (pa_cons pe_int (pa_cons pe_int (pa_cons pe_int (pa_cons pe_int pa_nil))))))) (pe_call (ok_draw T) (hr.mono (by decide)) rfl T.m_draw T.F_draw.kp T.b_draw .nil pass0 (pa_cons (pv 0) (pa_cons pe_int pa_nil))) (fun _ _ => rfl)) pa_nil)) (pg_name (i := 2) sc_beat_clock.nd rfl (Or.inl rfl))
      (pss_one (ps_expr (pe_bm PySem.F.plainAttrs_list PySem.F.slot_list_insert PySem.F.type_list_insert mt_insert (pv 1) (pa_cons (pe_call (ok_draw T) (hr.mono (by decide)) rfl T.m_draw T.F_draw.kp T.b_draw .nil pass0 (pa_cons (pv 0) (pa_cons (pe_op op_add (pe_callB call_len_seq (by rfl) T.z_len (by decide +kernel) (pa_cons (pv 1) pa_nil)) pe_int) pa_nil))) (pa_cons (pe_call (ok_is_layer T) (hr.mono (by decide)) rfl T.m_is_layer T.F_is_layer.kp T.b_is_layer .nil pass0 (pa_cons (pv 0) pa_nil)) pa_nil))))))
      (pss_one (ps_ret (pe_callTy call_tuple_of (by rfl) T.z_tuple (by decide +kernel) (pa_cons (pv 1) pa_nil))))), ?_⟩
  refine ⟨_, rfl, _, _, rfl, d, c, 4, rfl, rfl, dr, by decide, by decide, fun r1 H5 a1 b1 dr5 k5 => ⟨r1, rfl, by omega, by omega, fun D hD => ?_⟩⟩
  have Dd := dr5.dne hD
  have Dc := dr5.cne hD
  have nD : ∀ {b : Addr} {o : HO}, H b = some o → b ≠ d → b ≠ D := fun e n => ne_of_none (k5 _ _ e n) hD
  refine lc_range (lo := 0) (n := r1.toNat) (fun i H' => Grow d c H D i H') ⟨[], [], upd_same, rfl, (fun l hl => by cases hl), Nat.le_refl _, dr5.new hD, k5.trans (Keep.new hD)⟩ ?_ ?_
  · rintro i H' hi ⟨acc, ls, e1, e2, e3, e4, dr', k'⟩
    refine ⟨rfl, yes ⟨_, rfl, _, _, rfl, d, c, 12, rfl, rfl, dr', by decide, by decide, fun v n k hm H6 gp hv dr6 kp6 => ?_⟩⟩
    have hacc : H6 D = some (.lst acc) := kp6 _ _ e1 Dd
    have hl := TdAll.len _ _ e2
    rw [List.length_map] at hl
    refine ⟨acc, hacc, small1000 (by omega), acc ++ [v], ls ++ [.ev n k hm], upd_same, ?_, fun l hl => ?_, by rw [List.length_append]; simp only [List.length_singleton]; omega, dr6.else Dd Dc, fun b o e n => upd_else (k'.trans kp6 _ _ e n) (nD e n)⟩
    · have ts : TS H' (upd H6 D (.lst (acc ++ [v]))) := (TS.dr dr' kp6).trans (TS.wr hacc)
      rw [List.map_append]
      exact TdAll.app _ _ _ _ (TdAll.mono ts _ _ e2) ⟨_, _, rfl, Td.mono (TS.wr hacc) _ _ hv, rfl⟩
    · rcases List.mem_append.mp hl with h | h
      · exact e3 l h
      · rw [List.mem_singleton.mp h]
        exact gp
  rintro H' ⟨acc, ls, e1, e2, e3, e4, dr', k'⟩
  refine ⟨sl 6, fun p hp => ⟨_, rfl, _, _, rfl, d, c, 6, rfl, rfl, dr'.new hp, by decide, by decide, fun r8 H8 a8 b8 dr8 kp8 => ?_⟩⟩
  obtain ⟨m, hm, hmm⟩ := at_int (ns := [0, 0, 1, 1, 2, 3]) a8 b8
  have m3 : 0 ≤ m ∧ m ≤ 3 := by
    simp only [List.mem_cons, List.not_mem_nil, or_false] at hmm
    omega
  have Dp : D ≠ p := ne_of_none e1 hp
  have ts8 : TS H' H8 := (TS.new hp).trans (TS.dr (dr'.new hp) kp8)
  refine ⟨p, _, _, _, rfl, rfl, SqL.of (kp8 _ _ upd_same (dr'.dne hp)), hm, m, rfl, by omega, by omega, ?_⟩
  refine for_range (lo := 0) (n := m.toNat) (fun i σ G => ∃ v4 : Option V, σ = [some (.ref d), some (.ref D), v4] ∧ Grow d c H D (3 + i) G)
      ⟨_, rfl, acc, ls, kp8 _ _ (upd_else e1 Dp) Dd, TdAll.mono ts8 _ _ e2, e3, by omega, dr8, k'.trans ((Keep.new hp).trans kp8)⟩ ?_ ?_
  · rintro i σ G hi ⟨v4, rfl, acc, ls, f1, f2, f3, f4, drG, kG⟩
    have hl := TdAll.len _ _ f2
    rw [List.length_map] at hl
    refine ⟨_, rfl, .inl ⟨rfl, _, SqL.of f1⟩, _, rfl, _, rfl, D, acc, rfl, .inl (SqL.of f1), _, _, rfl, rfl, _, _, rfl, d, c, _, rfl, rfl, drG, by omega, by omega, fun rA HA aA bA drA kpA => ⟨_, rfl, _, rfl, d, c, rfl, drA, fun v z y HB gz hv drB kpB => ?_⟩⟩
    have f1' : HB D = some (.lst acc) := kpB _ _ (kpA _ _ f1 Dd) Dd
    refine ⟨D, acc, rA, v, rfl, rfl, f1', small1000 (by omega), aA, by omega, ?_⟩
    have ts : TS G (upd HB D (.lst (acc.take rA.toNat ++ [v] ++ acc.drop rA.toNat))) := ((TS.dr drG kpA).trans (TS.dr drA kpB)).trans (TS.wr f1')
    have f2' := TdAll.mono ts _ _ f2
    refine ⟨_, rfl, _, ls.take rA.toNat ++ [.is z y] ++ ls.drop rA.toNat, upd_same, ?_, fun l hl => ?_, ?_, drB.else Dd Dc, fun b o e n => upd_else (kpB _ _ (kpA _ _ (kG _ _ e n) n) n) (nD e n)⟩
    · rw [map_ins]
      exact TdAll.app _ _ _ _ (TdAll.app _ _ _ _ (TdAll.tk _ _ _ f2') ⟨_, _, rfl, Td.mono (TS.wr f1') _ _ hv, rfl⟩) (TdAll.dr _ _ _ f2')
    · rcases List.mem_append.mp hl with h | h
      · rcases List.mem_append.mp h with h | h
        · exact f3 l (List.mem_of_mem_take h)
        · rw [List.mem_singleton.mp h]
          exact gz
      · exact f3 l (List.mem_of_mem_drop h)
    · simp only [List.length_append, List.length_take, List.length_drop, List.length_singleton]
      omega
  · rintro σ G ⟨v4, rfl, acc, ls, f1, f2, f3, f4, drG, kG⟩
    refine ⟨_, rfl, D, acc, rfl, .inl ⟨SqL.of f1, fun t ht => ?_⟩⟩
    exact q _ ls _ ⟨t, acc, rfl, upd_same, TdAll.mono (TS.new ht) _ _ f2⟩ f3 (by omega) (drG.new ht) (kG.trans (Keep.new ht))
end

/-! ### slices and sums of tuples, as data -/
def cutD (ds : List PyData) (lo hi : Option Int) : List PyData := (ds.drop (HT.sIx ds.length 0 lo)).take (HT.sIx ds.length ds.length hi - HT.sIx ds.length 0 lo)
theorem slD {K : PySem.W.Frag} {H : Hp} {v : V} {ds : List PyData} {lo hi : Option Int} {Q : VK} (h : Td H (.tuple ds) v)
    (q : ∀ (p : V) (H' : Hp), Same H H' → Td H' (.tuple (cutD ds lo hi)) p → Q p H') : rSlA K v lo hi H Q := by
  obtain ⟨a, xs, rfl, ha, hx⟩ := h
  have hl := TdAll.len _ _ hx
  refine ⟨a, xs, rfl, SqT.of ha, fun w => ?_, fun _ p hp => ?_⟩
  · rw [hl] at w
    refine q (.ref a) H (Same.refl _) ⟨a, xs, rfl, ha, ?_⟩
    have e : cutD ds lo hi = ds := by
      unfold cutD
      rw [w.1, w.2, List.drop_zero, Nat.sub_zero, List.take_length]
    rw [e]
    exact hx
  · refine q (.ref p) _ (same_new hp) ⟨p, _, rfl, upd_same, ?_⟩
    have e : cutV xs lo hi = (xs.drop (HT.sIx ds.length 0 lo)).take (HT.sIx ds.length ds.length hi - HT.sIx ds.length 0 lo) := by
      unfold cutV
      rw [hl]
    rw [e]
    exact TdAll.mono (TS.new hp) _ _ (TdAll.tk _ _ _ (TdAll.dr _ _ _ hx))
theorem nil_of_len {α β : Type} {xs : List α} {ds : List β} (h : xs.length = ds.length) (e : xs = []) : ds = [] := by
  subst e
  cases ds with
  | nil => rfl
  | cons _ _ => cases h
theorem catD {K : PySem.W.Frag} {H : Hp} {x y : V} {ds es : List PyData} {Q : VK} (hx : Td H (.tuple ds) x) (hy : Td H (.tuple es) y) (hz : ds.length + es.length ≤ 1000)
    (q : ∀ (p : V) (H' : Hp), Same H H' → Td H' (.tuple (ds ++ es)) p → Q p H') : rCatA K x y H Q := by
  obtain ⟨a, xs, rfl, ha, h1⟩ := hx
  obtain ⟨b, ys, rfl, hb, h2⟩ := hy
  have l1 := TdAll.len _ _ h1
  have l2 := TdAll.len _ _ h2
  refine ⟨a, b, xs, ys, rfl, rfl, SqT.of ha, SqT.of hb, Nat.le_of_lt (small1000 (by omega)), fun e => ?_, fun _ e => ?_, fun _ _ p hp => ?_⟩
  · rw [nil_of_len l1 e] at q
    exact q _ H (Same.refl _) ⟨b, ys, rfl, hb, h2⟩
  · rw [nil_of_len l2 e, List.append_nil] at q
    exact q _ H (Same.refl _) ⟨a, xs, rfl, ha, h1⟩
  · exact q _ _ (same_new hp) ⟨p, _, rfl, upd_same, TdAll.mono (TS.new hp) _ _ (TdAll.app _ _ _ _ h1 h2)⟩
theorem slC {K : PySem.W.Frag} {H : Hp} {v : V} {ls : List LD} {lo hi : Option Int} {Q : VK} (h : ClkV H v ls)
    (q : ∀ (p : V) (H' : Hp) (ls' : List LD), Same H H' → ClkV H' p ls' → (∀ l ∈ ls', l ∈ ls) → ls'.length = min (HT.sIx ls.length ls.length hi - HT.sIx ls.length 0 lo) (ls.length - HT.sIx ls.length 0 lo) → Q p H') : rSlA K v lo hi H Q := by
  refine slD h fun p H' s hp => q p H' ((ls.drop (HT.sIx ls.length 0 lo)).take (HT.sIx ls.length ls.length hi - HT.sIx ls.length 0 lo)) s ?_ (fun l hl => List.mem_of_mem_drop (List.mem_of_mem_take hl)) ?_
  · unfold cutD at hp
    rw [List.length_map] at hp
    unfold ClkV
    rw [List.map_take, List.map_drop]
    exact hp
  · rw [List.length_take, List.length_drop]
theorem slF {K : PySem.W.Frag} {σ : L2.St} {H : Hp} {v : V} {ls : List LD} {lo : Option Int} {Q : VK} (h : ClkV H v ls)
    (q : ∀ (p : V) (H' : Hp) (ls' : List LD), Same H H' → ClkV H' p ls' → (∀ l ∈ ls', l ∈ ls) → ls'.length = min (ls.length - HT.sIx ls.length 0 lo) (ls.length - HT.sIx ls.length 0 lo) → Q p H') : tNoPart σ H fun u H' => rSlA K v lo u H' Q := slC h q
theorem catC {K : PySem.W.Frag} {H : Hp} {x y : V} {l1 l2 : List LD} {Q : VK} (hx : ClkV H x l1) (hy : ClkV H y l2) (hz : l1.length + l2.length ≤ 1000)
    (q : ∀ (p : V) (H' : Hp), Same H H' → ClkV H' p (l1 ++ l2) → Q p H') : rCatA K x y H Q := by
  refine catD hx hy (by rw [List.length_map, List.length_map]; exact hz) fun p H' s hp => q p H' s ?_
  unfold ClkV
  rw [List.map_append]
  exact hp
theorem one_clk {H : Hp} {v : V} {l : LD} {t : Addr} (hv : Td H l.d v) (ht : H t = none) : ClkV (upd H t (.tup [v])) (.ref t) [l] :=
  ⟨t, _, rfl, upd_same, _, _, rfl, Td.mono (TS.new ht) _ _ hv, rfl⟩
theorem or_both {a : Bool} {A B T : Prop} (hA : A) (hT : A → ¬ a = true → T) : if a = true then (if true = true then A else B) else T := by
  by_cases h : a = true
  · rw [if_pos h, if_pos rfl]
    exact hA
  · rw [if_neg h]
    exact hT hA h
theorem app_ok {l1 l2 : List LD} (h1 : ∀ l ∈ l1, l.ok) (h2 : ∀ l ∈ l2, l.ok) : ∀ l ∈ l1 ++ l2, l.ok := fun l hl => by
  rcases List.mem_append.mp hl with h | h
  · exact h1 l h
  · exact h2 l h
theorem one_ok {k : LD} (h : k.ok) : ∀ l ∈ [k], l.ok := fun l hl => by
  rw [List.mem_singleton.mp hl]
  exact h
def rParted : V → V → Hp → VK → Prop := fun x y H Q => ∃ (d c : Addr) (n k : Int) (h : PyData), x = .ref d ∧ Dr d c H ∧ (LD.ev n k h).ok ∧ Td H (LD.ev n k h).d y ∧ ∀ (v : V) (l1 l2 : LD) (H' : Hp), ClkV H' v [l1, l2] → l1.ok → l2.ok → Dr d c H' → Keep d H H' → Q v H'
theorem part_ok {n k m : Int} (g : goodP (n, k)) (h1 : 1 ≤ m) (h2 : m ≤ n) (h3 : n % m = 0) : goodP (m, k % m) ∧ goodP (n / m, k / m) := by
  obtain ⟨g1, g2, g3, g4⟩ := g
  have g1' : 1 ≤ n := g1
  have g2' : n ≤ 12 := g2
  have g3' : 0 ≤ k := g3
  have g4' : k < n := g4
  have e := Int.mul_ediv_add_emod n m
  rw [h3, Int.add_zero] at e
  have e2 := Int.mul_ediv_add_emod k m
  have e3 := Int.emod_nonneg k (show m ≠ 0 by omega)
  have e4 := Int.emod_lt_of_pos k (show 0 < m by omega)
  have e5 : 0 ≤ k / m := Int.ediv_nonneg g3' (by omega)
  have e6 : n / m ≤ n := Int.ediv_le_self _ (by omega)
  have e7 : 1 ≤ n / m := by
    by_cases h : 1 ≤ n / m
    · exact h
    · have : m * (n / m) ≤ m * 0 := Int.mul_le_mul_of_nonneg_left (by omega) (by omega)
      omega
  refine ⟨⟨h1, by show m ≤ 12; omega, e3, e4⟩, e7, by show n / m ≤ 12; omega, e5, ?_⟩
  show k / m < n / m
  by_cases h : k / m < n / m
  · exact h
  · have : m * (n / m) ≤ m * (k / m) := Int.mul_le_mul_of_nonneg_left (by omega) (by omega)
    omega
section
variable {P : Program} {w : World} {K : PySem.W.Frag} {mg : Str → Option Value} {base : Heap}
theorem ok_parted (T : Tx K mg) : FnOk P w K mg base CX0 4 T.f_parted T.fd_parted ["_law_d", "_law_layer"] (sp2 rParted) := by
  refine okR2 T.F_parted sc_parted rfl fun cdv A outer s H Q E x y hr h => ?_
  obtain ⟨d, c, n, k, h, rfl, dr, ⟨gp, hok⟩, hy, q⟩ := h
  obtain ⟨b, hv, rfl, hb, hh⟩ := ev_at hy
  obtain ⟨g1, g2, g3, g4⟩ := id gp
  have g1' : 1 ≤ n := g1
  have g2' : n ≤ 12 := g2
  refine ⟨_, pss_cons (ps_setLc (i := 2) (own := [("_law_n", 3)]) (g := gName 3)  rfl sc_parted.nd rfl rfl (sw_true rfl rfl rfl (by decide +kernel)) (pi_range2 rfl T.z_range (pa_cons pe_int (pa_cons (pe_op op_add (pe_ix (show IxR _ (rIxT K) from ix_tup) (pv 1) pe_int (fun _ _ => rfl)) pe_int) pa_nil))) (blkOk_by (N := ["_law_d", "_law_layer", "_law_parts", "_law_n", "_law_first"]) (sc := defScope s_parted) (by decide +kernel)) (fun _ _ _ _ _ => pg_name (i := 3) sc_parted.nd rfl (Or.inl rfl)) (fun _ _ _ _ _ => pts_one (pt_cmpR op_eq (pe_op op_mod (pe_callTy call_int1 (by rfl) T.z_int (by decide +kernel) (pa_cons (pe_ix (show IxR _ (rIxT K) from ix_tup) (pv 1) pe_int (fun _ _ => rfl)) pa_nil)) (pv 3)) pe_int (nomark _))) (fun _ _ _ _ _ => (pv 3)))
      (pss_cons (ps_set (i := 3) sc_parted.nd rfl (Or.inl rfl) (pe_call (ok_pick T) (hr.mono (by decide)) rfl T.m_pick T.F_pick.kp T.b_pick .nil pass0 (pa_cons (pv 0) (pa_cons (pv 2) pa_nil))))
      (pss_cons (ps_set (i := 4) sc_parted.nd rfl (Or.inl rfl) (pe_tup (pa_cons pe_str (pa_cons (pv 3) (pa_cons (pe_op op_mod (pe_callTy call_int1 (by rfl) T.z_int (by decide +kernel) (pa_cons (pe_ix ix_tup (pv 1) pe_int (fun _ _ => rfl)) pa_nil)) (pv 3)) (pa_cons (pe_ix ix_tup (pv 1) pe_int (fun _ _ => rfl)) pa_nil))))))
      (pss_one (ps_ret (pe_tup (pa_cons (pv 4) (pa_cons (pe_tup (pa_cons pe_str (pa_cons (pe_op op_fdiv (pe_ix (show IxR _ (rIxT K) from ix_tup) (pv 1) pe_int (fun _ _ => rfl)) (pv 3)) (pa_cons (pe_op op_fdiv (pe_ix ix_tup (pv 1) pe_int (fun _ _ => rfl)) (pv 3)) (pa_cons (pe_ix ix_list (pe_lst (pa_cons pe_non (pa_cons pe_str (pa_cons (pe_ix ix_tup (pv 1) pe_int (fun _ _ => rfl)) pa_nil)))) (pe_call (ok_draw T) (hr.mono (by decide)) rfl T.m_draw T.F_draw.kp T.b_draw .nil pass0 (pa_cons (pv 0) (pa_cons pe_int pa_nil))) (fun _ _ => rfl)) pa_nil))))) pa_nil))))))), ?_⟩
  refine ⟨_, rfl, b, _, _, _, rfl, rfl, SqT.of hb, at_n 1 rfl, _, _, rfl, rfl, 1, n + 1, rfl, ⟨by decide, by decide, by omega, by omega⟩, fun D hD => ?_⟩
  have Db : b ≠ D := ne_of_none hb hD
  refine lc_range (lo := 1) (n := (n + 1 - 1).toNat) (fun i H' => ∃ acc : List Int, H' = upd H D (.lst (acc.map V.int)) ∧ (∀ m ∈ acc, 1 ≤ m ∧ m ≤ n ∧ n % m = 0) ∧ acc.length ≤ i ∧ (1 ≤ i → acc ≠ [])) ⟨[], rfl, (fun m hm => by cases hm), Nat.le_refl _, (fun h => absurd h (by decide))⟩ ?_ ?_
  · rintro i H' hi ⟨acc, rfl, e1, e2, e3⟩
    have hb' : (upd H D (.lst (acc.map V.int))) b = _ := upd_else hb Db
    refine ⟨rfl, _, rfl, b, _, _, _, rfl, rfl, SqT.of hb', at_n 1 rfl, .inl ⟨_, rfl, _, rfl, _, _, rfl, rfl, (by show 0 < 1 + (i : Int); omega), rfl, _, rfl, ite2 (fun hc => ?_) (fun hc => ?_)⟩⟩
    · rw [bl_eq] at hc
      have hc' : n % (1 + (i : Int)) = 0 := of_decide_eq_true hc
      refine ⟨_, rfl, acc.map V.int, upd_same, small1000 (by rw [List.length_map]; omega), acc ++ [1 + (i : Int)], ?_, fun m hm => ?_, ?_, fun _ z => ?_⟩
      · rw [upd_upd, List.map_append] <;> rfl
      · rcases List.mem_append.mp hm with h | h
        · exact e1 m h
        · rw [List.mem_singleton.mp h]
          exact ⟨by omega, by omega, hc'⟩
      · rw [List.length_append]
        exact Nat.add_le_add_right e2 1
      · have := congrArg List.length z
        rw [List.length_append] at this
        cases this
    · refine ⟨acc, rfl, e1, Nat.le_succ_of_le e2, fun _ => ?_⟩
      by_cases hz : i = 0
      · subst hz
        rw [bl_eq] at hc
        exact absurd (decide_eq_true (show n % (1 + ((0 : Nat) : Int)) = 0 from Int.emod_one n)) hc
      · exact e3 (by omega)
  rintro H' ⟨acc, rfl, e1, e2, e3⟩
  have Dd := dr.dne hD
  have dr1 : Dr d c (upd H D (.lst (acc.map V.int))) := dr.new hD
  have hne := e3 (by omega)
  refine ⟨_, rfl, _, rfl, _, _, rfl, d, c, D, acc.map V.int, rfl, dr1, (fun z => hne (List.map_eq_nil_iff.mp z)), (by rw [List.length_map]; omega), rfl, Dd, upd_same, fun v H1 hm dr2 k2 => ?_⟩
  obtain ⟨m, hm', rfl⟩ := List.mem_map.mp hm
  obtain ⟨m1, m2, m3⟩ := e1 m hm'
  obtain ⟨o1, o2⟩ := part_ok gp m1 m2 m3
  have ts1 : TS H H1 := (TS.new hD).trans (TS.dr dr1 k2)
  have kp1 : Keep d H H1 := (Keep.new hD).trans k2
  have hb1 := ts1 _ _ hb
  have hh1 := Td.mono ts1 _ _ hh
  -- first
  refine ⟨_, rfl, _, rfl, b, _, _, _, rfl, rfl, SqT.of hb1, at_n 2 rfl, .inl ⟨_, rfl, _, rfl, _, _, rfl, rfl, (by show 0 < m; omega), _, rfl, b, _, _, _, rfl, rfl, SqT.of hb1, at_n 3 rfl, sl 4, fun t1 ht1 => ?_⟩⟩
  have hb2 := same_new (o := .tup [.str "every", .int m, .int (k % m), hv]) ht1 _ _ hb1
  refine ⟨_, rfl, _, rfl, b, _, _, _, rfl, rfl, SqT.of hb2, at_n 1 rfl, _, rfl, _, _, rfl, rfl, ⟨by omega, by omega⟩, _, rfl, b, _, _, _, rfl, rfl, SqT.of hb2, at_n 2 rfl, _, rfl, _, _, rfl, rfl, ⟨by omega, by omega⟩, _, rfl, b, _, _, _, rfl, rfl, SqT.of hb2, at_n 3 rfl, sl 3, fun p hp => ?_⟩
  refine ⟨_, rfl, _, _, rfl, d, c, 3, rfl, rfl, (dr2.new ht1).new hp, by decide, by decide, fun r H3 a3 b3 dr3 k3 => ?_⟩
  have ts3 : TS H1 H3 := ((TS.new ht1).trans (TS.new hp)).trans (TS.dr ((dr2.new ht1).new hp) k3)
  obtain ⟨v, e, hv3, he, hme⟩ := at_td (H := H3) (ds := [.none, .str "b", h]) (xs := [.non, .str "b", hv]) ⟨_, _, rfl, rfl, _, _, rfl, rfl, _, _, rfl, Td.mono ts3 _ _ hh1, rfl⟩ a3 b3
  have eok : plainS e := by
    simp only [List.mem_cons, List.not_mem_nil, or_false] at hme
    rcases hme with rfl | rfl | rfl
    · exact ⟨rfl, by decide⟩
    · exact ⟨by decide +kernel, by decide⟩
    · exact hok
  have ht3 : H3 t1 = some (.tup [.str "every", .int m, .int (k % m), hv]) := k3 _ _ (same_new hp _ _ upd_same) (dr2.dne ht1)
  refine ⟨p, _, _, _, rfl, rfl, SqL.of (k3 _ _ upd_same ((dr2.new ht1).dne hp)), hv3, sl 4, fun t2 ht2 => ⟨sl 2, fun t4 ht4 => ?_⟩⟩
  have ts4 : TS H3 (upd (upd H3 t2 (.tup [.str "every", .int (n / m), .int (k / m), v])) t4 (.tup [.ref t1, .ref t2])) := (TS.new ht2).trans (TS.new ht4)
  refine q _ (.ev m (k % m) h) (.ev (n / m) (k / m) e) _ ⟨t4, _, rfl, upd_same, _, _, rfl, ev_mk (ts4 _ _ ht3) (Td.mono (ts3.trans ts4) _ _ hh1), _, _, rfl, ev_mk (same_new ht4 _ _ upd_same) (Td.mono ts4 _ _ he), rfl⟩ ⟨o1, hok⟩ ⟨o2, eok⟩ ((dr3.new ht2).new ht4) ?_
  exact kp1.trans ((Keep.new ht1).trans ((Keep.new hp).trans (k3.trans ((Keep.new ht2).trans (Keep.new ht4)))))
/-- a clock that is changed by a draw -/
def rKept : V → V → Hp → VK → Prop := fun x y H Q => ∃ (d c : Addr) (ls : List LD), x = .ref d ∧ Dr d c H ∧ ClkV H y ls ∧ (∀ l ∈ ls, l.ok) ∧ ls.length ≤ 90 ∧ ∀ (v : V) (ls' : List LD) (H' : Hp), ClkV H' v ls' → (∀ l ∈ ls', l.ok) → ls'.length ≤ ls.length + 1 → Dr d c H' → Keep d H H' → Q v H'
theorem ok_kept (T : Tx K mg) : FnOk P w K mg base CX0 5 T.f_kept T.fd_kept ["_law_d", "_law_clock"] (sp2 rKept) := by
  refine okR2 T.F_kept sc_kept rfl fun cdv A outer s H Q E x y hr h => ?_
  obtain ⟨d, c, ls, rfl, dr, ck, gd, n1, q⟩ := h
  obtain ⟨a, vs, rfl, ha, hp⟩ := id ck
  have hlen := TdAll.len _ _ hp
  rw [List.length_map] at hlen
  refine ⟨_, pss_cons (ps_set (i := 2) sc_kept.nd rfl (Or.inl rfl) (pe_call (ok_draw T) (hr.mono (by decide)) rfl T.m_draw T.F_draw.kp T.b_draw .nil pass0 (pa_cons (pv 0) (pa_cons pe_int pa_nil))))
      (pss_cons (ps_set (i := 3) sc_kept.nd rfl (Or.inl rfl) (pe_call (ok_draw T) (hr.mono (by decide)) rfl T.m_draw T.F_draw.kp T.b_draw .nil pass0 (pa_cons (pv 0) (pa_cons (pe_op op_add (pe_callB call_len_seq (by rfl) T.z_len (by decide +kernel) (pa_cons (pv 1) pa_nil)) pe_int) pa_nil))))
      (pss_cons (ps_if (PW.pt (pw_or (pt_cmpR op_eq (pv 3) (pe_callB call_len_seq (by rfl) T.z_len (by decide +kernel) (pa_cons (pv 1) pa_nil)) (nomark _)) (pw_or1 (pt_cmpR op_eq (pv 2) pe_int (nomark _))))) (pss_one (ps_ret (pe_op op_catA (pe_op op_catA (pe_slice sl_tupA (pv 1) po_none (po_some (pv 3))) (pe_tup (pa_cons (pe_tup (pa_cons pe_str (pa_cons pe_int (pa_cons pe_int (pa_cons (pe_ix ix_list (pe_lst (pa_cons pe_non (pa_cons pe_str pa_nil))) (pe_call (ok_draw T) (hr.mono (by decide)) rfl T.m_draw T.F_draw.kp T.b_draw .nil pass0 (pa_cons (pv 0) (pa_cons pe_int pa_nil))) (fun _ _ => rfl)) pa_nil))))) pa_nil))) (pe_slice sl_tupA (pv 1) (po_some (pv 3)) po_none)))) pss_nil)
      (pss_cons (ps_set (i := 4) sc_kept.nd rfl (Or.inl rfl) (pe_ix ix_tup (pv 1) (pv 3) (fun _ _ => rfl)))
      (pss_cons (ps_if (pt_cmpR op_eq (pe_ix ix_tup (pv 4) pe_int (fun _ _ => rfl)) pe_str (nomark _)) (pss_one (ps_ret (pv 1))) pss_nil)
      (pss_cons (ps_if (pt_cmpR op_eq (pv 2) pe_int (nomark _)) (pss_one (ps_ret (pe_op op_catA (pe_op op_catA (pe_slice sl_tupA (pv 1) po_none (po_some (pv 3))) (pe_tup (pa_cons (pe_op op_catA (pe_slice sl_tupA (pv 4) po_none (po_some pe_int)) (pe_tup (pa_cons (pe_ix ix_list (pe_lst (pa_cons pe_str (pa_cons pe_str (pa_cons pe_non pa_nil)))) (pe_call (ok_draw T) (hr.mono (by decide)) rfl T.m_draw T.F_draw.kp T.b_draw .nil pass0 (pa_cons (pv 0) (pa_cons pe_int pa_nil))) (fun _ _ => rfl)) pa_nil))) pa_nil))) (pe_slice sl_tupA (pv 1) (po_some (pe_op op_add (pv 3) pe_int)) po_none)))) pss_nil)
      (pss_cons (ps_if (pt_cmpR op_eq (pv 2) pe_int (nomark _)) (pss_one (ps_ret (pe_op op_catA (pe_op op_catA (pe_slice sl_tupA (pv 1) po_none (po_some (pv 3))) (pe_call (ok_parted T) (hr.mono (by decide)) rfl T.m_parted T.F_parted.kp T.b_parted .nil pass0 (pa_cons (pv 0) (pa_cons (pv 4) pa_nil)))) (pe_slice sl_tupA (pv 1) (po_some (pe_op op_add (pv 3) pe_int)) po_none)))) pss_nil)
      (pss_cons (ps_if (pt_cmpR op_eq (pe_ix ix_tup (pv 4) pe_int (fun _ _ => rfl)) pe_int (nomark _)) (pss_one (ps_ret (pe_op op_catA (pe_slice sl_tupA (pv 1) po_none (po_some (pv 3))) (pe_slice sl_tupA (pv 1) (po_some (pe_op op_add (pv 3) pe_int)) po_none)))) pss_nil)
      (pss_cons (ps_if (PW.pt (pw_and (pt_cmpR op_lt (pe_op op_add (pv 3) pe_int) (pe_callB call_len_seq (by rfl) T.z_len (by decide +kernel) (pa_cons (pv 1) pa_nil)) (nomark _)) (pw_and (pt_cmpR op_eq (pe_ix ix_tup (pe_ix ix_tup (pv 1) (pe_op op_add (pv 3) pe_int) (fun _ _ => rfl)) pe_int (fun _ _ => rfl)) pe_str (nomark _)) (pw_and1 (pt_cmpR op_le (pe_op op_mul (pe_ix ix_tup (pv 4) pe_int (fun _ _ => rfl)) (pe_ix ix_tup (pe_ix ix_tup (pv 1) (pe_op op_add (pv 3) pe_int) (fun _ _ => rfl)) pe_int (fun _ _ => rfl))) pe_int (nomark _)))))) (pss_cons (ps_set (i := 5) sc_kept.nd rfl (Or.inl rfl) (pe_ix ix_tup (pv 1) (pe_op op_add (pv 3) pe_int) (fun _ _ => rfl)))
      (pss_cons (ps_set (i := 6) sc_kept.nd rfl (Or.inl rfl) (pe_tup (pa_cons pe_str (pa_cons (pe_op op_mul (pe_ix ix_tup (pv 4) pe_int (fun _ _ => rfl)) (pe_ix ix_tup (pv 5) pe_int (fun _ _ => rfl))) (pa_cons (pe_op op_add (pe_ix ix_tup (pv 4) pe_int (fun _ _ => rfl)) (pe_op op_mul (pe_ix ix_tup (pv 4) pe_int (fun _ _ => rfl)) (pe_ix ix_tup (pv 5) pe_int (fun _ _ => rfl)))) (pa_cons (pe_ix ix_tup (pv 5) pe_int (fun _ _ => rfl)) pa_nil))))))
      (pss_one (ps_ret (pe_op op_catA (pe_op op_catA (pe_slice sl_tupA (pv 1) po_none (po_some (pv 3))) (pe_tup (pa_cons (pv 6) pa_nil))) (pe_slice sl_tupA (pv 1) (po_some (pe_op op_add (pv 3) pe_int)) po_none)))))) pss_nil)
      (pss_one (ps_ret (pv 1))))))))))), ?_⟩
  refine ⟨_, rfl, _, _, rfl, d, c, 4, rfl, rfl, dr, by decide, by decide, fun wy H1 w0 w1 dr1 k1 => ?_⟩
  have ts1 : TS H H1 := TS.dr dr k1
  refine ⟨_, rfl, _, rfl, a, vs, rfl, .inr (SqT.of (ts1 _ _ ha)), _, _, rfl, rfl, _, _, rfl, d, c, _, rfl, rfl, dr1, by omega, by omega, fun r H2 r0 r1 dr2 k2 => ?_⟩
  obtain ⟨j, rfl⟩ := Int.eq_ofNat_of_zero_le r0
  have kp2 := k1.trans k2
  have ts2 : TS H H2 := ts1.trans (TS.dr dr1 k2)
  have ck2 : ClkV H2 (.ref a) ls := ck.mono ts2
  have ha2 := ts2 _ _ ha
  have hp2 := TdAll.mono ts2 _ _ hp
  have jl : j ≤ ls.length := by omega
  have dne : ∀ {p : Addr} {G : Hp}, Dr d c G → G p = none → p ≠ d := fun a b => a.dne b
  refine ⟨_, rfl, _, rfl, a, vs, rfl, .inr (SqT.of ha2), rfl, _, rfl, or_both ?_ fun hA ne => ⟨_, rfl, rfl, _, rfl, ite2 (fun _ => hA) fun nw => ?_⟩⟩
  · refine ⟨_, rfl, _, rfl, _, rfl, slC ck2 fun p1 H3 l1 s3 c3 m3 e3 => ?_⟩
    have dr3 := dr2.same s3
    refine ⟨sl 2, fun p hp => ⟨_, rfl, _, _, rfl, d, c, 2, rfl, rfl, dr3.new hp, by decide, by decide, fun rr H4 a4 b4 dr4 k4 => ?_⟩⟩
    obtain ⟨v, e, hv, he, hm⟩ := at_td (H := H4) (ds := [.none, .str "a"]) (xs := [.non, .str "a"]) ⟨_, _, rfl, rfl, _, _, rfl, rfl, rfl⟩ a4 b4
    have eok : plainS e := by
      simp only [List.mem_cons, List.not_mem_nil, or_false] at hm
      rcases hm with rfl | rfl
      · exact ⟨rfl, by decide⟩
      · exact ⟨by decide +kernel, by decide⟩
    refine ⟨p, _, _, _, rfl, rfl, SqL.of (k4 _ _ upd_same (dr3.dne hp)), hv, sl 4, fun t ht => ⟨sl 1, fun t2 ht2 => ?_⟩⟩
    have ts4 : TS H3 H4 := (TS.new hp).trans (TS.dr (dr3.new hp) k4)
    have tsA := ts4.trans ((TS.new (o := .tup [.str "every", .int 1, .int 0, v]) ht).trans (TS.new (o := .tup [.ref t]) ht2))
    refine catC (c3.mono tsA) (one_clk (ev_mk upd_same (Td.mono (TS.new ht) _ _ he)) ht2) (by rw [e3]; simp only [List.length_singleton]; omega) fun p5 H5 s5 c5 => ?_
    refine ⟨_, rfl, _, rfl, _, rfl, slF (ck2.mono (((TS.of s3).trans tsA).trans (TS.of s5))) fun p6 H6 l6 s6 c6 m6 e6 => ?_⟩
    rw [HT.sIx_none, HT.sIx_nat] at e3
    rw [HT.sIx_nat] at e6
    refine catC (c5.mono (TS.of s6)) c6 (by simp only [List.length_append, List.length_singleton]; omega) fun p7 H7 s7 c7 => ?_
    refine q p7 _ H7 c7 (app_ok (app_ok (fun l hl => gd l (m3 l hl)) (one_ok ⟨⟨by decide, by decide, by decide, by decide⟩, eok⟩)) fun l hl => gd l (m6 l hl)) (by simp only [List.length_append, List.length_singleton]; omega) (((((dr4.new ht).new ht2).same s5).same s6).same s7) ?_
    exact kp2.trans ((Keep.of s3).trans ((Keep.new hp).trans (k4.trans ((Keep.new ht).trans ((Keep.new ht2).trans (Keep.of (s5.trans (s6.trans s7))))))))
  have jlt : j < ls.length := by
    have ne' : ¬ (j : Int) = (vs.length : Int) := fun z => ne (by rw [bl_eq]; exact decide_eq_true z)
    omega
  have hjv : j < vs.length := by omega
  obtain ⟨l, hl, hlv⟩ := lay_at hp2 (List.getElem?_eq_getElem hjv)
  have hlm := List.mem_of_getElem? hl
  refine ⟨_, rfl, _, rfl, a, vs, _, vs[j], rfl, rfl, SqT.of ha2, at_n j (List.getElem?_eq_getElem hjv), ?_⟩
  generalize vs[j] = lv at hlv
  cases l with
  | is y w =>
    obtain ⟨b, wv, rfl, hb, hw⟩ := is_at hlv
    refine ⟨_, rfl, b, _, _, _, rfl, rfl, SqT.of hb, at_n 0 rfl, rfl, _, rfl, ?_⟩
    rw [decide_eq_true (show V.str "is" = V.str "is" from rfl)]
    exact iteT ⟨_, rfl, q _ ls H2 ck2 gd (Nat.le_succ _) dr2 kp2⟩
  | ev n k h =>
    obtain ⟨b, hv, rfl, hb, hh⟩ := ev_at hlv
    obtain ⟨gp, hok⟩ := gd _ hlm
    obtain ⟨g1, g2, g3, g4⟩ := id gp
    have g1' : 1 ≤ n := g1
    have g2' : n ≤ 12 := g2
    have g3' : 0 ≤ k := g3
    have g4' : k < n := g4
    refine ⟨_, rfl, b, _, _, _, rfl, rfl, SqT.of hb, at_n 0 rfl, rfl, _, rfl, ?_⟩
    rw [str_ne (by decide +kernel)]
    refine iteF ⟨_, rfl, rfl, _, rfl, ite2 (fun _ => ?_) fun _ => ?_⟩
    · -- way 0: another home
      refine ⟨_, rfl, _, rfl, _, rfl, slC ck2 fun p1 H3 l1 s3 c3 m3 e3 => ?_⟩
      have hy3 := Td.mono (TS.of s3) _ _ hlv
      refine ⟨_, rfl, _, rfl, slD hy3 fun p2 H4 s4 c4 => ?_⟩
      have dr4 := (dr2.same s3).same s4
      refine ⟨sl 3, fun p hp => ⟨_, rfl, _, _, rfl, d, c, 3, rfl, rfl, dr4.new hp, by decide, by decide, fun rr H5 a5 b5 dr5 k5 => ?_⟩⟩
      obtain ⟨v, e, hv, he, hm⟩ := at_td (H := H5) (ds := [.str "x", .str "a", .none]) (xs := [.str "x", .str "a", .non]) ⟨_, _, rfl, rfl, _, _, rfl, rfl, _, _, rfl, rfl, rfl⟩ a5 b5
      have eok : plainS e := by
        simp only [List.mem_cons, List.not_mem_nil, or_false] at hm
        rcases hm with rfl | rfl | rfl
        · exact ⟨by decide +kernel, by decide⟩
        · exact ⟨by decide +kernel, by decide⟩
        · exact ⟨rfl, by decide⟩
      have ts5 : TS H4 H5 := (TS.new hp).trans (TS.dr (dr4.new hp) k5)
      refine ⟨p, _, _, _, rfl, rfl, SqL.of (k5 _ _ upd_same (dr4.dne hp)), hv, sl 1, fun t ht => ?_⟩
      have ts6 := ts5.trans (TS.new (o := .tup [v]) ht)
      refine catD (es := [e]) (Td.mono ts6 _ _ c4) ⟨t, _, rfl, upd_same, _, _, rfl, Td.mono (TS.new ht) _ _ he, rfl⟩ (by show 4 ≤ 1000; decide) fun p6 H6 s6 c6 => ?_
      have c6' : Td H6 (LD.ev n k e).d p6 := c6
      refine ⟨sl 1, fun t2 ht2 => ?_⟩
      have ts7 := (TS.of s4).trans (ts6.trans ((TS.of s6).trans (TS.new (o := .tup [p6]) ht2)))
      refine catC (c3.mono ts7) (one_clk c6' ht2) (by rw [e3]; simp only [List.length_singleton]; omega) fun p7 H7 s7 c7 => ?_
      refine ⟨_, rfl, _, rfl, _, _, rfl, rfl, _, rfl, slF (ck2.mono (((TS.of s3).trans ts7).trans (TS.of s7))) fun p8 H8 l8 s8 c8 m8 e8 => ?_⟩
      rw [show ((j : Int) + 1) = ((j + 1 : Nat) : Int) from rfl, HT.sIx_nat] at e8
      rw [HT.sIx_none, HT.sIx_nat] at e3
      refine catC (c7.mono (TS.of s8)) c8 (by simp only [List.length_append, List.length_singleton]; omega) fun p9 H9 s9 c9 => ?_
      refine q p9 _ H9 c9 (app_ok (app_ok (fun l hl => gd l (m3 l hl)) (one_ok ⟨gp, eok⟩)) fun l hl => gd l (m8 l hl)) (by simp only [List.length_append, List.length_singleton]; omega) ((((((dr5.new ht).same s6).new ht2).same s7).same s8).same s9) ?_
      exact kp2.trans ((Keep.of (s3.trans s4)).trans ((Keep.new hp).trans (k5.trans ((Keep.new ht).trans ((Keep.of s6).trans ((Keep.new ht2).trans (Keep.of (s7.trans (s8.trans s9)))))))))
    refine ⟨_, rfl, rfl, _, rfl, ite2 (fun _ => ?_) fun _ => ?_⟩
    · -- way 1: parted
      refine ⟨_, rfl, _, rfl, _, rfl, slC ck2 fun p1 H3 l1 s3 c3 m3 e3 => ?_⟩
      refine ⟨_, rfl, _, rfl, _, _, rfl, d, c, n, k, h, rfl, dr2.same s3, ⟨gp, hok⟩, Td.mono (TS.of s3) _ _ hlv, fun v x1 x2 H4 c4 o1 o2 dr4 k4 => ?_⟩
      have ts4 : TS H3 H4 := TS.dr (dr2.same s3) k4
      refine catC (c3.mono ts4) c4 (by rw [e3]; simp only [List.length_cons, List.length_nil]; omega) fun p7 H7 s7 c7 => ?_
      refine ⟨_, rfl, _, rfl, _, _, rfl, rfl, _, rfl, slF (ck2.mono (((TS.of s3).trans ts4).trans (TS.of s7))) fun p8 H8 l8 s8 c8 m8 e8 => ?_⟩
      rw [show ((j : Int) + 1) = ((j + 1 : Nat) : Int) from rfl, HT.sIx_nat] at e8
      rw [HT.sIx_none, HT.sIx_nat] at e3
      refine catC (c7.mono (TS.of s8)) c8 (by simp only [List.length_append, List.length_cons, List.length_nil]; omega) fun p9 H9 s9 c9 => ?_
      refine q p9 _ H9 c9 (app_ok (app_ok (fun l hl => gd l (m3 l hl)) (app_ok (l1 := [x1]) (one_ok o1) (one_ok o2))) fun l hl => gd l (m8 l hl)) (by simp only [List.length_append, List.length_cons, List.length_nil]; omega) (((dr4.same s7).same s8).same s9) ?_
      exact kp2.trans ((Keep.of s3).trans (k4.trans (Keep.of (s7.trans (s8.trans s9)))))
    refine ⟨_, rfl, b, _, _, _, rfl, rfl, SqT.of hb, at_n 1 rfl, rfl, _, rfl, ite2 (fun _ => ?_) fun _ => ?_⟩
    · -- every 1 taken out
      refine ⟨_, rfl, _, rfl, _, rfl, slC ck2 fun p1 H3 l1 s3 c3 m3 e3 => ?_⟩
      refine ⟨_, rfl, _, rfl, _, _, rfl, rfl, _, rfl, slF (ck2.mono (TS.of s3)) fun p8 H8 l8 s8 c8 m8 e8 => ?_⟩
      rw [show ((j : Int) + 1) = ((j + 1 : Nat) : Int) from rfl, HT.sIx_nat] at e8
      rw [HT.sIx_none, HT.sIx_nat] at e3
      refine catC (c3.mono (TS.of s8)) c8 (by omega) fun p9 H9 s9 c9 => ?_
      exact q p9 _ H9 c9 (app_ok (fun l hl => gd l (m3 l hl)) fun l hl => gd l (m8 l hl)) (by rw [List.length_append]; omega) (((dr2.same s3).same s8).same s9) (kp2.trans (Keep.of (s3.trans (s8.trans s9))))
    -- two joined
    have jz : ((j : Int) + 1) = ((j + 1 : Nat) : Int) := rfl
    refine ⟨_, rfl, _, _, rfl, rfl, _, rfl, a, vs, rfl, .inr (SqT.of ha2), _, _, rfl, rfl, _, rfl, ite2 (fun hc => ?_) fun _ => iteF ⟨_, rfl, q _ ls H2 ck2 gd (Nat.le_succ _) dr2 kp2⟩⟩
    have hj1 : j + 1 < vs.length := by
      have : (j : Int) + 1 < (vs.length : Int) := of_decide_eq_true hc
      omega
    obtain ⟨l2, hl2, hlv2⟩ := lay_at hp2 (List.getElem?_eq_getElem hj1)
    have hat2 : atI vs ((j : Int) + 1) = some vs[j + 1] := by
      rw [jz]
      exact at_n (j + 1) (List.getElem?_eq_getElem hj1)
    have hlm2 := List.mem_of_getElem? hl2
    generalize vs[j + 1] = lv2 at hlv2 hat2
    cases l2 with
    | is y w =>
      obtain ⟨b2, wv, rfl, hb2, hw⟩ := is_at hlv2
      refine ⟨_, rfl, _, rfl, _, _, rfl, rfl, a, vs, _, _, rfl, rfl, SqT.of ha2, hat2, b2, _, _, _, rfl, rfl, SqT.of hb2, at_n 0 rfl, rfl, _, rfl, ?_⟩
      rw [str_ne (by decide +kernel)]
      exact iteF (iteF ⟨_, rfl, q _ ls H2 ck2 gd (Nat.le_succ _) dr2 kp2⟩)
    | ev n2 k2' h2 =>
      obtain ⟨b2, hv2, rfl, hb2, hh2⟩ := ev_at hlv2
      obtain ⟨gp2, hok2⟩ := gd _ hlm2
      obtain ⟨f1, f2, f3, f4⟩ := id gp2
      have f1' : 1 ≤ n2 := f1
      have f2' : n2 ≤ 12 := f2
      refine ⟨_, rfl, _, rfl, _, _, rfl, rfl, a, vs, _, _, rfl, rfl, SqT.of ha2, hat2, b2, _, _, _, rfl, rfl, SqT.of hb2, at_n 0 rfl, rfl, _, rfl, ?_⟩
      rw [decide_eq_true (show V.str "every" = V.str "every" from rfl)]
      refine iteT ⟨_, rfl, b, _, _, _, rfl, rfl, SqT.of hb, at_n 1 rfl, _, rfl, _, rfl, _, _, rfl, rfl, a, vs, _, _, rfl, rfl, SqT.of ha2, hat2, b2, _, _, _, rfl, rfl, SqT.of hb2, at_n 1 rfl, _, _, rfl, rfl, .inl ⟨by omega, by omega⟩, _, _, rfl, rfl, _, rfl, ite2 (fun hc2 => ?_) fun _ => ⟨_, rfl, q _ ls H2 ck2 gd (Nat.le_succ _) dr2 kp2⟩⟩
      have h12 : n * n2 ≤ 12 := of_decide_eq_true hc2
      obtain ⟨s1, s2, s3⟩ := step_ok g1' g3' g4' gp2
      refine ⟨_, rfl, _, rfl, _, _, rfl, rfl, a, vs, _, _, rfl, rfl, SqT.of ha2, hat2, ?_⟩
      refine ⟨_, rfl, b, _, _, _, rfl, rfl, SqT.of hb, at_n 1 rfl, _, rfl, b2, _, _, _, rfl, rfl, SqT.of hb2, at_n 1 rfl, _, _, rfl, rfl, .inl ⟨by omega, by omega⟩, ?_⟩
      refine ⟨_, rfl, b, _, _, _, rfl, rfl, SqT.of hb, at_n 2 rfl, _, rfl, b, _, _, _, rfl, rfl, SqT.of hb, at_n 1 rfl, _, rfl, b2, _, _, _, rfl, rfl, SqT.of hb2, at_n 2 rfl, _, _, rfl, rfl, .inl ⟨by omega, by omega⟩, _, _, rfl, rfl, _, rfl, b2, _, _, _, rfl, rfl, SqT.of hb2, at_n 3 rfl, sl 4, fun t ht => ?_⟩
      have hnew : Td (upd H2 t (.tup [.str "every", .int (n * n2), .int (k + n * k2'), hv2])) (LD.ev (n * n2) (k + n * k2') h2).d (.ref t) := ev_mk upd_same (Td.mono (TS.new ht) _ _ hh2)
      have ck3 : ClkV (upd H2 t (.tup [.str "every", .int (n * n2), .int (k + n * k2'), hv2])) (.ref a) ls := ck2.mono (TS.new ht)
      have dr3 := dr2.new (o := .tup [.str "every", .int (n * n2), .int (k + n * k2'), hv2]) ht
      have kp3 := kp2.trans (Keep.new (o := .tup [.str "every", .int (n * n2), .int (k + n * k2'), hv2]) ht)
      generalize upd H2 t (.tup [.str "every", .int (n * n2), .int (k + n * k2'), hv2]) = G at hnew ck3 dr3 kp3
      refine ⟨_, rfl, _, rfl, _, rfl, slC ck3 fun p1 H3 l1 s3' c3 m3 e3 => ⟨_, rfl, sl 1, fun t2 ht2 => ?_⟩⟩
      refine catC (c3.mono (TS.new ht2)) (one_clk (Td.mono (TS.of s3') _ _ hnew) ht2) (by rw [e3]; simp only [List.length_singleton]; omega) fun p7 H7 s7 c7 => ?_
      refine ⟨_, rfl, _, rfl, _, _, rfl, rfl, _, rfl, slF (ck3.mono (((TS.of s3').trans (TS.new ht2)).trans (TS.of s7))) fun p8 H8 l8 s8 c8 m8 e8 => ?_⟩
      rw [show ((j : Int) + 2) = ((j + 2 : Nat) : Int) from rfl, HT.sIx_nat] at e8
      rw [HT.sIx_none, HT.sIx_nat] at e3
      refine catC (c7.mono (TS.of s8)) c8 (by simp only [List.length_append, List.length_singleton]; omega) fun p9 H9 s9 c9 => ?_
      refine q p9 _ H9 c9 (app_ok (app_ok (fun l hl => gd l (m3 l hl)) (one_ok ⟨⟨s1, h12, s2, s3⟩, hok2⟩)) fun l hl => gd l (m8 l hl)) (by simp only [List.length_append, List.length_singleton]; omega) (((((dr3.same s3').new ht2).same s7).same s8).same s9) ?_
      exact kp3.trans ((Keep.of s3').trans ((Keep.new ht2).trans (Keep.of (s7.trans (s8.trans s9)))))
end

section
variable {P : Program} {w : World} {K : PySem.W.Frag} {mg : Str → Option Value} {base : Heap}
theorem ok_bent (T : Tx K mg) : FnOk P w K mg base CX0 4 T.f_bent T.fd_bent ["_law_d", "_law_clock"] (sp2 rKept) := by
  refine okR2 T.F_bent sc_bent rfl fun cdv A outer s H Q E x y hr h => ?_
  obtain ⟨d, c, ls, rfl, dr, ck, gd, n1, q⟩ := h
  obtain ⟨a, vs, rfl, ha, hp⟩ := id ck
  have hlen := TdAll.len _ _ hp
  rw [List.length_map] at hlen
  refine ⟨_, pss_cons (ps_set (i := 2) sc_bent.nd rfl (Or.inl rfl) (pe_call (ok_draw T) (hr.mono (by decide)) rfl T.m_draw T.F_draw.kp T.b_draw .nil pass0 (pa_cons (pv 0) (pa_cons pe_int pa_nil))))
      (pss_cons (ps_set (i := 3) sc_bent.nd rfl (Or.inl rfl) (pe_call (ok_draw T) (hr.mono (by decide)) rfl T.m_draw T.F_draw.kp T.b_draw .nil pass0 (pa_cons (pv 0) (pa_cons (pe_op op_add (pe_callB call_len_seq (by rfl) T.z_len (by decide +kernel) (pa_cons (pv 1) pa_nil)) pe_int) pa_nil))))
      (pss_cons (ps_if (PW.pt (pw_or (pt_cmpR op_eq (pv 3) (pe_callB call_len_seq (by rfl) T.z_len (by decide +kernel) (pa_cons (pv 1) pa_nil)) (nomark _)) (pw_or1 (pt_cmpR op_eq (pv 2) pe_int (nomark _))))) (pss_cons (ps_set (i := 4) sc_bent.nd rfl (Or.inl rfl) (pe_ifExp (pt_cmpR op_eq (pe_call (ok_draw T) (hr.mono (by decide)) rfl T.m_draw T.F_draw.kp T.b_draw .nil pass0 (pa_cons (pv 0) (pa_cons pe_int pa_nil))) pe_int (nomark _)) (pe_call (ok_is_layer T) (hr.mono (by decide)) rfl T.m_is_layer T.F_is_layer.kp T.b_is_layer .nil pass0 (pa_cons (pv 0) pa_nil)) (pe_tup (pa_cons pe_str (pa_cons (pe_op op_add pe_int (pe_call (ok_draw T) (hr.mono (by decide)) rfl T.m_draw T.F_draw.kp T.b_draw .nil pass0 (pa_cons (pv 0) (pa_cons pe_int pa_nil)))) (pa_cons pe_int (pa_cons pe_non pa_nil)))))))
      (pss_one (ps_ret (pe_op op_catA (pe_op op_catA (pe_slice sl_tupA (pv 1) po_none (po_some (pv 3))) (pe_tup (pa_cons (pv 4) pa_nil))) (pe_slice sl_tupA (pv 1) (po_some (pv 3)) po_none))))) pss_nil)
      (pss_cons (ps_set (i := 5) sc_bent.nd rfl (Or.inl rfl) (pe_ix ix_tup (pv 1) (pv 3) (fun _ _ => rfl)))
      (pss_cons (ps_if (pt_cmpR op_eq (pv 2) pe_int (nomark _)) (pss_one (ps_ret (pe_op op_catA (pe_slice sl_tupA (pv 1) po_none (po_some (pv 3))) (pe_slice sl_tupA (pv 1) (po_some (pe_op op_add (pv 3) pe_int)) po_none)))) pss_nil)
      (pss_cons (ps_if (pt_cmpR op_eq (pv 2) pe_int (nomark _)) (pss_one (ps_ret (pe_op op_catA (pe_op op_catA (pe_op op_catA (pe_slice sl_tupA (pv 1) po_none (po_some (pv 3))) (pe_slice sl_tupA (pv 1) (po_some (pe_op op_add (pv 3) pe_int)) (po_some (pe_op op_add (pv 3) pe_int)))) (pe_tup (pa_cons (pv 5) pa_nil))) (pe_slice sl_tupA (pv 1) (po_some (pe_op op_add (pv 3) pe_int)) po_none)))) pss_nil)
      (C8.pss_cut (ps_if (pt_cmpR op_eq (pe_ix ix_tup (pv 5) pe_int (fun _ _ => rfl)) pe_str (nomark _)) (pss_one (ps_set (i := 4) sc_bent.nd rfl (Or.inl rfl) (pe_call (ok_is_layer T) (hr.mono (by decide)) rfl T.m_is_layer T.F_is_layer.kp T.b_is_layer .nil pass0 (pa_cons (pv 0) pa_nil)))) (pss_one (ps_if (pt_cmpR op_eq (pv 2) pe_int (nomark _)) (pss_one (ps_set (i := 4) sc_bent.nd rfl (Or.inl rfl) (pe_op op_catA (pe_slice sl_tupA (pv 5) po_none (po_some pe_int)) (pe_tup (pa_cons (pe_call (ok_draw T) (hr.mono (by decide)) rfl T.m_draw T.F_draw.kp T.b_draw .nil pass0 (pa_cons (pv 0) (pa_cons (pe_ix ix_tup (pv 5) pe_int (fun _ _ => rfl)) pa_nil))) (pa_cons (pe_ix ix_tup (pv 5) pe_int (fun _ _ => rfl)) pa_nil)))))) (pss_cons (ps_set (i := 6) sc_bent.nd rfl (Or.inl rfl) (pe_op op_add pe_int (pe_call (ok_draw T) (hr.mono (by decide)) rfl T.m_draw T.F_draw.kp T.b_draw .nil pass0 (pa_cons (pv 0) (pa_cons pe_int pa_nil)))))
      (pss_one (ps_set (i := 4) sc_bent.nd rfl (Or.inl rfl) (pe_tup (pa_cons pe_str (pa_cons (pv 6) (pa_cons (pe_callB (call_min2 rfl) (by rfl) T.z_min (by decide +kernel) (pa_cons (pe_ix ix_tup (pv 5) pe_int (fun _ _ => rfl)) (pa_cons (pe_op op_sub (pv 6) pe_int) pa_nil))) (pa_cons (pe_ix ix_tup (pv 5) pe_int (fun _ _ => rfl)) pa_nil)))))))))))
      (pss_one (ps_ret (pe_op op_catA (pe_op op_catA (pe_slice sl_tupA (pv 1) po_none (po_some (pv 3))) (pe_tup (pa_cons (pv 4) pa_nil))) (pe_slice sl_tupA (pv 1) (po_some (pe_op op_add (pv 3) pe_int)) po_none)))))))))), ?_⟩
  refine ⟨_, rfl, _, _, rfl, d, c, 6, rfl, rfl, dr, by decide, by decide, fun wy H1 w0 w1 dr1 k1 => ?_⟩
  have ts1 : TS H H1 := TS.dr dr k1
  refine ⟨_, rfl, _, rfl, a, vs, rfl, .inr (SqT.of (ts1 _ _ ha)), _, _, rfl, rfl, _, _, rfl, d, c, _, rfl, rfl, dr1, by omega, by omega, fun r H2 r0 r1 dr2 k2 => ?_⟩
  obtain ⟨j, rfl⟩ := Int.eq_ofNat_of_zero_le r0
  have kp2 := k1.trans k2
  have ts2 : TS H H2 := ts1.trans (TS.dr dr1 k2)
  have ck2 : ClkV H2 (.ref a) ls := ck.mono ts2
  have ha2 := ts2 _ _ ha
  have hp2 := TdAll.mono ts2 _ _ hp
  have jl : j ≤ ls.length := by omega
  refine ⟨_, rfl, _, rfl, a, vs, rfl, .inr (SqT.of ha2), rfl, _, rfl, or_both ?_ fun hA ne => ⟨_, rfl, rfl, _, rfl, ite2 (fun _ => hA) fun nw => ?_⟩⟩
  · -- a layer is put in
    refine ⟨_, rfl, _, _, rfl, d, c, 2, rfl, rfl, dr2, by decide, by decide, fun r3 H3 a3 b3 dr3 k3 => ?_⟩
    have ts3 : TS H2 H3 := TS.dr dr2 k3
    refine ⟨rfl, _, rfl, ite2 (fun _ => ?_) (fun _ => ?_)⟩
    · refine ⟨_, rfl, _, rfl, d, c, rfl, dr3, fun v z y H4 ok4 hv dr4 k4 => ?_⟩
      have ts4 : TS H3 H4 := TS.dr dr3 k4
      refine ⟨_, rfl, _, rfl, _, rfl, slC (ck2.mono (ts3.trans ts4)) fun p1 H5 l5 s5 c5 m5 e5 => ⟨_, rfl, sl 1, fun t ht => ?_⟩⟩
      refine catC (c5.mono (TS.new ht)) (one_clk (l := .is z y) (Td.mono (TS.of s5) _ _ hv) ht) (by rw [e5]; simp only [List.length_singleton]; omega) fun p6 H6 s6 c6 => ?_
      refine ⟨_, rfl, _, rfl, _, rfl, slF (ck2.mono (((ts3.trans ts4).trans ((TS.of s5).trans (TS.new ht))).trans (TS.of s6))) fun p7 H7 l7 s7 c7 m7 e7 => ?_⟩
      rw [HT.sIx_none, HT.sIx_nat] at e5
      rw [HT.sIx_nat] at e7
      refine catC (c6.mono (TS.of s7)) c7 (by simp only [List.length_append, List.length_singleton]; omega) fun p8 H8 s8 c8 => ?_
      refine q p8 _ H8 c8 (app_ok (app_ok (fun l hl => gd l (m5 l hl)) (one_ok ok4)) fun l hl => gd l (m7 l hl)) (by simp only [List.length_append, List.length_singleton]; omega) (((((dr4.same s5).new ht).same s6).same s7).same s8) ?_
      exact kp2.trans (k3.trans (k4.trans ((Keep.of s5).trans ((Keep.new ht).trans (Keep.of (s6.trans (s7.trans s8)))))))
    · refine ⟨_, rfl, _, _, rfl, d, c, 3, rfl, rfl, dr3, by decide, by decide, fun r4 H4 a4 b4 dr4 k4 => ⟨_, _, rfl, rfl, sl 4, fun t0 ht0 => ?_⟩⟩
      have ts4 : TS H3 (upd H4 t0 (.tup [.str "every", .int (1 + r4), .int 0, .non])) := (TS.dr dr3 k4).trans (TS.new ht0)
      have hv : Td (upd H4 t0 (.tup [.str "every", .int (1 + r4), .int 0, .non])) (LD.ev (1 + r4) 0 .none).d (.ref t0) := ev_mk upd_same rfl
      have dr4' := dr4.new (o := .tup [.str "every", .int (1 + r4), .int 0, .non]) ht0
      have k4' := k4.trans (Keep.new (o := .tup [.str "every", .int (1 + r4), .int 0, .non]) ht0)
      generalize upd H4 t0 (.tup [.str "every", .int (1 + r4), .int 0, .non]) = G at ts4 hv dr4' k4'
      refine ⟨_, rfl, _, rfl, _, rfl, slC (ck2.mono (ts3.trans ts4)) fun p1 H5 l5 s5 c5 m5 e5 => ⟨_, rfl, sl 1, fun t ht => ?_⟩⟩
      refine catC (c5.mono (TS.new ht)) (one_clk (l := .ev (1 + r4) 0 .none) (Td.mono (TS.of s5) _ _ hv) ht) (by rw [e5]; simp only [List.length_singleton]; omega) fun p6 H6 s6 c6 => ?_
      refine ⟨_, rfl, _, rfl, _, rfl, slF (ck2.mono (((ts3.trans ts4).trans ((TS.of s5).trans (TS.new ht))).trans (TS.of s6))) fun p7 H7 l7 s7 c7 m7 e7 => ?_⟩
      rw [HT.sIx_none, HT.sIx_nat] at e5
      rw [HT.sIx_nat] at e7
      refine catC (c6.mono (TS.of s7)) c7 (by simp only [List.length_append, List.length_singleton]; omega) fun p8 H8 s8 c8 => ?_
      refine q p8 _ H8 c8 (app_ok (app_ok (fun l hl => gd l (m5 l hl)) (one_ok ⟨⟨by show 1 ≤ 1 + r4; omega, by show 1 + r4 ≤ 12; omega, by show (0 : Int) ≤ 0; omega, by show 0 < 1 + r4; omega⟩, rfl, by decide⟩)) fun l hl => gd l (m7 l hl)) (by simp only [List.length_append, List.length_singleton]; omega) (((((dr4'.same s5).new ht).same s6).same s7).same s8) ?_
      exact kp2.trans (k3.trans (k4'.trans ((Keep.of s5).trans ((Keep.new ht).trans (Keep.of (s6.trans (s7.trans s8)))))))
  have jlt : j < ls.length := by
    have ne' : ¬ (j : Int) = (vs.length : Int) := fun z => ne (by rw [bl_eq]; exact decide_eq_true z)
    omega
  have hjv : j < vs.length := by omega
  obtain ⟨l, hl, hlv⟩ := lay_at hp2 (List.getElem?_eq_getElem hjv)
  have hlm := List.mem_of_getElem? hl
  refine ⟨_, rfl, _, rfl, a, vs, _, vs[j], rfl, rfl, SqT.of ha2, at_n j (List.getElem?_eq_getElem hjv), ?_⟩
  generalize vs[j] = lv at hlv
  have lok := gd _ hlm
  refine ⟨_, rfl, rfl, _, rfl, ite2 (fun _ => ?_) fun _ => ?_⟩
  · -- way 1: a layer is left out
    refine ⟨_, rfl, _, rfl, _, rfl, slC ck2 fun p1 H3 l1 s3 c3 m3 e3 => ?_⟩
    refine ⟨_, rfl, _, rfl, _, _, rfl, rfl, _, rfl, slF (ck2.mono (TS.of s3)) fun p8 H8 l8 s8 c8 m8 e8 => ?_⟩
    rw [show ((j : Int) + 1) = ((j + 1 : Nat) : Int) from rfl, HT.sIx_nat] at e8
    rw [HT.sIx_none, HT.sIx_nat] at e3
    refine catC (c3.mono (TS.of s8)) c8 (by omega) fun p9 H9 s9 c9 => ?_
    exact q p9 _ H9 c9 (app_ok (fun l hl => gd l (m3 l hl)) fun l hl => gd l (m8 l hl)) (by rw [List.length_append]; omega) (((dr2.same s3).same s8).same s9) (kp2.trans (Keep.of (s3.trans (s8.trans s9))))
  refine ⟨_, rfl, rfl, _, rfl, ite2 (fun _ => ?_) fun _ => ?_⟩
  · -- way 2: two neighbours exchanged
    refine ⟨_, rfl, _, rfl, _, rfl, slC ck2 fun p1 H3 l1 s3 c3 m3 e3 => ?_⟩
    refine ⟨_, rfl, _, rfl, _, _, rfl, rfl, _, rfl, _, rfl, _, _, rfl, rfl, _, rfl, slC (ck2.mono (TS.of s3)) fun p8 H8 l8 s8 c8 m8 e8 => ?_⟩
    rw [show ((j : Int) + 1) = ((j + 1 : Nat) : Int) from rfl, show ((j : Int) + 2) = ((j + 2 : Nat) : Int) from rfl, HT.sIx_nat, HT.sIx_nat] at e8
    rw [HT.sIx_none, HT.sIx_nat] at e3
    refine catC (c3.mono (TS.of s8)) c8 (by omega) fun p9 H9 s9 c9 => ⟨_, rfl, sl 1, fun t ht => ?_⟩
    have tsA := (TS.of s3).trans ((TS.of s8).trans (TS.of s9))
    refine catC (c9.mono (TS.new ht)) (one_clk (Td.mono tsA _ _ hlv) ht) (by rw [List.length_append]; simp only [List.length_singleton]; omega) fun pa Ha sa ca => ?_
    refine ⟨_, rfl, _, rfl, _, _, rfl, rfl, _, rfl, slF (ck2.mono ((tsA.trans (TS.new ht)).trans (TS.of sa))) fun pb Hb lb sb cb mb eb => ?_⟩
    rw [show ((j : Int) + 2) = ((j + 2 : Nat) : Int) from rfl, HT.sIx_nat] at eb
    refine catC (ca.mono (TS.of sb)) cb (by simp only [List.length_append, List.length_singleton]; omega) fun pc Hc sc cc => ?_
    refine q pc _ Hc cc (app_ok (app_ok (app_ok (fun l hl => gd l (m3 l hl)) fun l hl => gd l (m8 l hl)) (one_ok lok)) fun l hl => gd l (mb l hl)) (by simp only [List.length_append, List.length_singleton]; omega) (((((((dr2.same s3).same s8).same s9).new ht).same sa).same sb).same sc) ?_
    exact kp2.trans ((Keep.of (s3.trans (s8.trans s9))).trans ((Keep.new ht).trans (Keep.of (sa.trans (sb.trans sc)))))
  -- a layer is exchanged: the new one stands in its slot
  refine ⟨fun σ G => ∃ (v : V) (l' : LD) (v5 v6 : Option V), σ = [some (.ref d), some (.ref a), some (.int wy), some (.int (j : Int)), some v, v5, v6] ∧ Td G l'.d v ∧ l'.ok ∧ Dr d c G ∧ Keep d H2 G ∧ TS H2 G, ?_, ?_⟩
  · cases l with
    | is z y =>
      obtain ⟨b, wv, rfl, hb, hw⟩ := is_at hlv
      refine ⟨_, rfl, b, _, _, _, rfl, rfl, SqT.of hb, at_n 0 rfl, rfl, _, rfl, ?_⟩
      rw [decide_eq_true (show V.str "is" = V.str "is" from rfl)]
      refine iteT ⟨_, rfl, _, rfl, d, c, rfl, dr2, fun v z y H4 ok4 hv dr4 k4 => ?_⟩
      exact ⟨v, .is z y, _, _, rfl, hv, ok4, dr4, k4, TS.dr dr2 k4⟩
    | ev n k h =>
      obtain ⟨b, hv, rfl, hb, hh⟩ := ev_at hlv
      obtain ⟨gp, hok⟩ := id lok
      obtain ⟨g1, g2, g3, g4⟩ := id gp
      have g1' : 1 ≤ n := g1
      have g2' : n ≤ 12 := g2
      have g3' : 0 ≤ k := g3
      have g4' : k < n := g4
      refine ⟨_, rfl, b, _, _, _, rfl, rfl, SqT.of hb, at_n 0 rfl, rfl, _, rfl, ?_⟩
      rw [str_ne (by decide +kernel)]
      refine iteF ⟨_, rfl, rfl, _, rfl, ite2 (fun _ => ?_) fun _ => ?_⟩
      · refine ⟨_, rfl, _, rfl, slD hlv fun p2 H4 s4 c4 => ?_⟩
        have hb4 := s4 _ _ hb
        refine ⟨_, rfl, _, rfl, b, _, _, _, rfl, rfl, SqT.of hb4, at_n 1 rfl, _, _, rfl, d, c, n, rfl, rfl, dr2.same s4, by omega, by omega, fun r5 H5 a5 b5 dr5 k5 => ?_⟩
        have ts5 : TS H4 H5 := TS.dr (dr2.same s4) k5
        refine ⟨_, rfl, b, _, _, _, rfl, rfl, SqT.of (ts5 _ _ hb4), at_n 3 rfl, sl 2, fun t ht => ?_⟩
        have ts6 := ts5.trans (TS.new (o := .tup [.int r5, hv]) ht)
        refine catD (es := [.int r5, h]) (Td.mono ts6 _ _ c4) ⟨t, _, rfl, upd_same, _, _, rfl, rfl, _, _, rfl, Td.mono ((TS.of s4).trans ts6) _ _ hh, rfl⟩ (by show 4 ≤ 1000; decide) fun p6 H6 s6 c6 => ?_
        exact ⟨p6, .ev n r5 h, _, _, rfl, c6, ⟨⟨g1, g2, a5, b5⟩, hok⟩, (dr5.new ht).same s6, (Keep.of s4).trans (k5.trans ((Keep.new ht).trans (Keep.of s6))), (TS.of s4).trans (ts6.trans (TS.of s6))⟩
      · refine ⟨_, rfl, _, _, rfl, d, c, 12, rfl, rfl, dr2, by decide, by decide, fun r5 H5 a5 b5 dr5 k5 => ⟨_, _, rfl, rfl, ?_⟩⟩
        have ts5 : TS H2 H5 := TS.dr dr2 k5
        refine ⟨_, rfl, _, rfl, b, _, _, _, rfl, rfl, SqT.of (ts5 _ _ hb), at_n 2 rfl, _, rfl, _, _, rfl, rfl, _, _, rfl, _, rfl, b, _, _, _, rfl, rfl, SqT.of (ts5 _ _ hb), at_n 3 rfl, sl 4, fun t ht => ?_⟩
        refine ⟨.ref t, .ev (1 + r5) (if 1 + r5 - 1 < k then 1 + r5 - 1 else k) h, _, _, rfl, ev_mk upd_same (Td.mono (ts5.trans (TS.new ht)) _ _ hh), ⟨⟨by show 1 ≤ 1 + r5; omega, by show 1 + r5 ≤ 12; omega, ?_, ?_⟩, hok⟩, dr5.new ht, k5.trans (Keep.new ht), ts5.trans (TS.new ht)⟩
        · show 0 ≤ if 1 + r5 - 1 < k then 1 + r5 - 1 else k
          split <;> omega
        · show (if 1 + r5 - 1 < k then 1 + r5 - 1 else k) < 1 + r5
          split <;> omega
  · rintro σ G ⟨v, l', v5, v6, rfl, hv, ok', dr3, k3, ts3⟩
    refine ⟨_, rfl, _, rfl, _, rfl, slC (ck2.mono ts3) fun p1 H5 l5 s5 c5 m5 e5 => ⟨_, rfl, sl 1, fun t ht => ?_⟩⟩
    refine catC (c5.mono (TS.new ht)) (one_clk (Td.mono (TS.of s5) _ _ hv) ht) (by rw [e5]; simp only [List.length_singleton]; omega) fun p6 H6 s6 c6 => ?_
    refine ⟨_, rfl, _, rfl, _, _, rfl, rfl, _, rfl, slF (ck2.mono ((ts3.trans ((TS.of s5).trans (TS.new ht))).trans (TS.of s6))) fun p7 H7 l7 s7 c7 m7 e7 => ?_⟩
    rw [HT.sIx_none, HT.sIx_nat] at e5
    rw [show ((j : Int) + 1) = ((j + 1 : Nat) : Int) from rfl, HT.sIx_nat] at e7
    refine catC (c6.mono (TS.of s7)) c7 (by simp only [List.length_append, List.length_singleton]; omega) fun p8 H8 s8 c8 => ?_
    refine q p8 _ H8 c8 (app_ok (app_ok (fun l hl => gd l (m5 l hl)) (one_ok ok')) fun l hl => gd l (m7 l hl)) (by simp only [List.length_append, List.length_singleton]; omega) (((((dr3.same s5).new ht).same s6).same s7).same s8) ?_
    exact kp2.trans (k3.trans ((Keep.of s5).trans ((Keep.new ht).trans (Keep.of (s6.trans (s7.trans s8))))))
end

/-! ### the ticks that a clock lets by, with values for its names -/
def cB (B : Nat → Bool) : Nat → Nat
  | 0 => 0
  | t + 1 => cB B t + (if B t = true then 1 else 0)
def nxt (val : Str → Nat → PyData) (B : Nat → Bool) : LD → Nat → Bool
  | .ev n k _, t => B t && hit n k (cB B t)
  | .is x y, t => B t && PyData.eqv (val x t) y
def rnB (val : Str → Nat → PyData) : (Nat → Bool) → List LD → Nat → Bool
  | B, [] => B
  | B, l :: r => rnB val (nxt val B l) r
def atR (B : Nat → Bool) (n k : Int) (t : Nat) : Bool := B t && hit n k (cB B t)
theorem cB_at (B : Nat → Bool) {n k : Int} (hn : 1 ≤ n) (hk : 0 ≤ k) (hkn : k < n) : ∀ t : Nat, ((cB (atR B n k) t : Nat) : Int) = cnt n k (cB B t)
  | 0 => by
    show (0 : Int) = (0 - k + (n - 1)) / n
    rw [Int.ediv_eq_zero_of_lt (by omega) (by omega)]
  | t + 1 => by
    have ih := cB_at B hn hk hkn t
    show ((cB (atR B n k) t + (if (B t && hit n k (cB B t)) = true then 1 else 0) : Nat) : Int) = cnt n k ((cB B t + (if B t = true then 1 else 0) : Nat) : Int)
    cases hb : B t with
    | false => exact ih
    | true =>
      have e1 : ((cB B t + (if true = true then 1 else 0) : Nat) : Int) = (cB B t : Int) + 1 := rfl
      rw [e1]
      cases hh : hit n k (cB B t) with
      | false =>
        rw [cnt_miss hn hk hkn (by omega) hh]
        exact ih
      | true =>
        obtain ⟨qq, q0, hq⟩ := (hit_iff hn).mp hh
        obtain ⟨c1, c2⟩ := cnt_hit (k := k) (q := qq) hn
        rw [hq] at ih ⊢
        rw [c2]
        rw [c1] at ih
        show ((cB (atR B n k) t : Nat) : Int) + 1 = qq + 1
        rw [ih]
theorem atR_next (val : Str → Nat → PyData) (B : Nat → Bool) {n k m j : Int} (h : PyData) (hn : 1 ≤ n) (hk : 0 ≤ k) (hkn : k < n) (hm : 1 ≤ m) (hj : 0 ≤ j) : nxt val (atR B n k) (.ev m j h) = atR B (n * m) (k + n * j) := by
  funext t
  show ((B t && hit n k (cB B t)) && hit m j ((cB (atR B n k) t : Nat) : Int)) = (B t && hit (n * m) (k + n * j) (cB B t))
  rw [cB_at B hn hk hkn]
  cases hh : hit n k (cB B t) with
  | false =>
    rw [hit_off hn hm hj hh, Bool.and_false, Bool.false_and]
  | true =>
    obtain ⟨qq, q0, hq⟩ := (hit_iff hn).mp hh
    obtain ⟨c1, _⟩ := cnt_hit (k := k) (q := qq) hn
    rw [hq, c1, hit_next hn hm, Bool.and_true]
def canon (val : Str → Nat → PyData) : (Nat → Bool) → List (Int × Int) → List (Str × PyData) → Nat → Bool
  | B, [], _ => B
  | B, (n, k) :: _, [] => atR B n k
  | B, (n, k) :: rs, (x, y) :: ms => canon val (nxt val (atR B n k) (.is x y)) rs ms
theorem atR_one (B : Nat → Bool) : atR B 1 0 = B := by
  funext t
  show (B t && hit 1 0 (cB B t)) = B t
  rw [(hit_iff (by decide)).mpr ⟨(cB B t : Int), by omega, by omega⟩, Bool.and_true]
theorem run_canon (val : Str → Nat → PyData) : ∀ (ls : List LD) (B : Nat → Bool) (n k : Int), 1 ≤ n → 0 ≤ k → k < n → (∀ l ∈ ls, l.ok) → rnB val (atR B n k) ls = canon val B (grs n k ls) (nms ls)
  | [], B, n, k, _, _, _, _ => rfl
  | .ev m j h :: r, B, n, k, h1, h2, h3, g => by
    obtain ⟨gp, _⟩ := g (.ev m j h) (by simp)
    obtain ⟨s1, s2, s3⟩ := step_ok h1 h2 h3 gp
    show rnB val (nxt val (atR B n k) (.ev m j h)) r = canon val B (grs (n * m) (k + n * j) r) (nms r)
    rw [atR_next val B h h1 h2 h3 gp.1 gp.2.2.1]
    exact run_canon val r B _ _ s1 s2 s3 fun l hl => g l (List.mem_cons_of_mem _ hl)
  | .is x y :: r, B, n, k, h1, h2, h3, g => by
    show rnB val (nxt val (atR B n k) (.is x y)) r = canon val (nxt val (atR B n k) (.is x y)) (grs 1 0 r) (nms r)
    have ih := run_canon val r (nxt val (atR B n k) (.is x y)) 1 0 (by decide) (by decide) (by decide) fun l hl => g l (List.mem_cons_of_mem _ hl)
    rw [atR_one] at ih
    exact ih
theorem run_alike (val : Str → Nat → PyData) {ls ls' : List LD} (g : ∀ l ∈ ls, l.ok) (g' : ∀ l ∈ ls', l.ok) (h1 : grs 1 0 ls = grs 1 0 ls') (h2 : nms ls = nms ls') : rnB val (fun _ => true) ls = rnB val (fun _ => true) ls' := by
  have e1 := run_canon val ls (fun _ => true) 1 0 (by decide) (by decide) (by decide) g
  have e2 := run_canon val ls' (fun _ => true) 1 0 (by decide) (by decide) (by decide) g'
  rw [atR_one] at e1 e2
  rw [e1, e2, h1, h2]
theorem rnB_snoc (val : Str → Nat → PyData) : ∀ (xs : List LD) (B : Nat → Bool) (l : LD), rnB val B (xs ++ [l]) = nxt val (rnB val B xs) l
  | [], _, _ => rfl
  | x :: r, B, l => rnB_snoc val r (nxt val B x) l
def preB (val : Str → Nat → PyData) (ls : List LD) (l : Nat) : Nat → Bool := rnB val (fun _ => true) (ls.take l)
theorem preB_succ (val : Str → Nat → PyData) {ls : List LD} {i : Nat} {l : LD} (h : ls[i]? = some l) : preB val ls (i + 1) = nxt val (preB val ls i) l := by
  unfold preB
  rw [List.take_add_one, h]
  exact rnB_snoc val _ _ _
theorem preB_all (val : Str → Nat → PyData) (ls : List LD) : preB val ls ls.length = rnB val (fun _ => true) ls := by
  unfold preB
  rw [List.take_length]
/-! ### a row of numbers that is exchanged from the left -/
def csV (f g : Nat → Int) (l n : Nat) : List V := (List.range n).map fun j => V.int (if j < l then g j else f j)
theorem csV_len (f g : Nat → Int) (l n : Nat) : (csV f g l n).length = n := by
  unfold csV
  rw [List.length_map, List.length_range]
theorem csV_get (f g : Nat → Int) (l n : Nat) {j : Nat} (h : j < n) : (csV f g l n)[j]? = some (.int (if j < l then g j else f j)) := by
  unfold csV
  rw [List.getElem?_map, List.getElem?_range h]
  rfl
theorem csV_at (f g : Nat → Int) {l n : Nat} (h : l < n) : (csV f g l n)[l]? = some (.int (f l)) := by
  rw [csV_get f g l n h, if_neg (Nat.lt_irrefl l)]
theorem csV_ext {f g f' g' : Nat → Int} {l l' n : Nat} (h : ∀ j, j < n → (if j < l then g j else f j) = if j < l' then g' j else f' j) : csV f g l n = csV f' g' l' n := by
  unfold csV
  refine List.map_congr_left fun j hj => ?_
  rw [h j (List.mem_range.mp hj)]
theorem csV_set (f g : Nat → Int) {l n : Nat} (h : l < n) : (csV f g l n).set l (.int (g l)) = csV f g (l + 1) n := by
  refine List.ext_getElem? fun j => ?_
  by_cases hj : j < n
  · rw [List.getElem?_set, csV_get f g (l + 1) n hj, csV_get f g l n hj, csV_len]
    by_cases e : l = j
    · subst e
      rw [if_pos rfl, if_pos h, if_pos (Nat.lt_succ_self l)]
    · rw [if_neg e]
      by_cases e2 : j < l
      · rw [if_pos e2, if_pos (by omega)]
      · rw [if_neg e2, if_neg (by omega)]
  · rw [List.getElem?_eq_none (by rw [List.length_set, csV_len]; omega), List.getElem?_eq_none (by rw [csV_len]; omega)]
theorem csV_skip (f g : Nat → Int) {l n : Nat} (h : f l = g l) : csV f g l n = csV f g (l + 1) n := csV_ext fun j _ => by
  by_cases e : j = l
  · subst e
    rw [if_neg (Nat.lt_irrefl j), if_pos (Nat.lt_succ_self j), h]
  · by_cases e2 : j < l
    · rw [if_pos e2, if_pos (by omega)]
    · rw [if_neg e2, if_neg (by omega)]
def fnd (R : Nat → Bool) (i : Nat) : List V := ((List.range i).filter R).map fun t => V.int (t : Nat)
theorem fnd_succ (R : Nat → Bool) (i : Nat) : fnd R (i + 1) = if R i = true then fnd R i ++ [.int (i : Int)] else fnd R i := by
  unfold fnd
  rw [List.range_succ, List.filter_append, List.map_append]
  by_cases h : R i = true
  · rw [if_pos h, List.filter_cons_of_pos h]
    rfl
  · rw [if_neg h, List.filter_cons_of_neg h]
    exact List.append_nil _
theorem fnd_len (R : Nat → Bool) (i : Nat) : (fnd R i).length ≤ i := by
  unfold fnd
  rw [List.length_map]
  exact Nat.le_trans (List.length_filter_le _ _) (by rw [List.length_range]; exact Nat.le_refl _)
theorem shaped_of {d : PyData} (h : plainS d) : SeqAt.shaped d = true := by
  show (PyData.canLay0 d && decide (d.depth ≤ 64)) = true
  rw [plain_lay d h.1, decide_eq_true (by have := h.2; omega)]
  rfl
/-- what the values tell of a name -/
def VAt (H : Hp) (Dv : Addr) (val : Str → Nat → PyData) (m : Nat) (x : Str) : Prop := ∃ (kvs : List (Key × V)) (a : Addr) (row : List V), H Dv = some (.dK kvs) ∧ valV kvs (Sum.inr x) = some (.ref a) ∧ H a = some (.lst row) ∧ ∀ t, t < m → ∃ v, row[t]? = some v ∧ Td H (val x t) v ∧ plainS (val x t)
theorem VAt.same {H H' : Hp} {Dv : Addr} {val : Str → Nat → PyData} {m : Nat} {x : Str} (s : Same H H') (h : VAt H Dv val m x) : VAt H' Dv val m x := by
  obtain ⟨kvs, a, row, h1, h2, h3, h4⟩ := h
  refine ⟨kvs, a, row, s _ _ h1, h2, s _ _ h3, fun t ht => ?_⟩
  obtain ⟨v, e1, e2, e3⟩ := h4 t ht
  exact ⟨v, e1, Td.mono (TS.of s) _ _ e2, e3⟩
def rTicks : V → V → V → Hp → VK → Prop := fun x y z H Q => ∃ (ls : List LD) (Dv : Addr) (val : Str → Nat → PyData), ClkV H x ls ∧ (∀ l ∈ ls, l.ok) ∧ ls.length ≤ 100 ∧ y = .ref Dv ∧ z = .int 12 ∧ (∀ n w, LD.is n w ∈ ls → VAt H Dv val 12 n) ∧ ∀ (p : Addr) (H' : Hp), Same H H' → H' p = some (.lst (fnd (rnB val (fun _ => true) ls) 12)) → Q (.ref p) H'
section
variable {P : Program} {w : World} {K : PySem.W.Frag} {mg : Str → Option Value} {base : Heap}
theorem ok_ticks_of (T : Tx K mg) : FnOk P w K mg base CX0 1 T.f_ticks_of T.fd_ticks_of ["_law_clock", "_law_values_here", "_law_many"] (sp3 rTicks) := by
  refine okR3 T.F_ticks_of sc_ticks_of rfl fun cdv A outer s H Q E x y z hr h => ?_
  obtain ⟨ls, Dv, val, ⟨a, vs, rfl, ha, hp⟩, gd, n1, rfl, rfl, hv, q⟩ := h
  have hlen := TdAll.len _ _ hp
  rw [List.length_map] at hlen
  refine ⟨_, pss_cons (ps_setLc (i := 3) (own := [("_law_layer", 8)]) (g := gName 8) (tt := tYes) rfl sc_ticks_of.nd rfl rfl (sw_true rfl rfl rfl (by decide +kernel)) (pi_tup (pv 0)) (blkOk_by (N := ["_law_clock", "_law_values_here", "_law_many", "_law_counts", "_law_found", "_law_tick", "_law_there", "_law_at", "_law_layer", "_law_count"]) (sc := defScope s_ticks_of) (by decide +kernel)) (fun _ _ _ _ _ => pg_name (i := 8) sc_ticks_of.nd rfl (Or.inl rfl)) (fun _ _ _ _ _ => pts_nil) (fun _ _ _ _ _ => pe_int))
      (pss_cons (ps_set (i := 4) sc_ticks_of.nd rfl (Or.inl rfl) (pe_lst pa_nil))
      (pss_cons (ps_for PassesOwn.never rfl (pi_range1 rfl T.z_range (pa_cons (pv 2) pa_nil)) (pg_name (i := 5) sc_ticks_of.nd rfl (Or.inl rfl))
      (pss_cons (ps_set (i := 6) sc_ticks_of.nd rfl (Or.inl rfl) pe_bl)
      (pss_cons (ps_for PassesOwn.never rfl (pi_range1 rfl T.z_range (pa_cons (pe_callB call_len_seq (by rfl) T.z_len (by decide +kernel) (pa_cons (pv 0) pa_nil)) pa_nil)) (pg_name (i := 7) sc_ticks_of.nd rfl (Or.inl rfl))
      (pss_one (ps_if (pt_val (pv 6)) (pss_cons (ps_set (i := 8) sc_ticks_of.nd rfl (Or.inl rfl) (pe_ix ix_tup (pv 0) (pv 7) (fun _ _ => rfl)))
      (pss_cons (ps_set (i := 9) sc_ticks_of.nd rfl (Or.inl rfl) (pe_ix ix_list (pv 3) (pv 7) (fun _ _ => rfl)))
      (pss_cons (ps_asg (pe_op op_add (pv 9) pe_int) (pg_sub (pv 3) (pv 7) set_list))
      (pss_one (ps_if (pt_cmpR op_eq (pe_ix ix_tup (pv 8) pe_int (fun _ _ => rfl)) pe_str (nomark _)) (pss_one (ps_set (i := 6) sc_ticks_of.nd rfl (Or.inl rfl) (pe_cmpR (op_eqD hr.units) (pe_ix ix_list (pe_dget (u1 hr.units) (pv 1) (pe_ix ix_tup (pv 8) pe_int (fun _ _ => rfl)) (fun _ _ => rfl)) (pv 5) (fun _ _ => rfl)) (pe_ix ix_tup (pv 8) pe_int (fun _ _ => rfl)) (nomark _)))) (pss_one (ps_set (i := 6) sc_ticks_of.nd rfl (Or.inl rfl) (pe_and (pe_cmpR op_ge (pv 9) (pe_ix ix_tup (pv 8) pe_int (fun _ _ => rfl)) (nomark _)) (pe_one (pe_cmpR op_eq (pe_op op_mod (pe_callTy call_int1 (by rfl) T.z_int (by decide +kernel) (pa_cons (pe_op op_sub (pv 9) (pe_ix ix_tup (pv 8) pe_int (fun _ _ => rfl))) pa_nil)) (pe_ix ix_tup (pv 8) pe_int (fun _ _ => rfl))) pe_int (nomark _))))))))))) pss_nil)))
      (pss_one (ps_if (pt_val (pv 6)) (pss_one (ps_expr (pe_bm PySem.F.plainAttrs_list PySem.F.slot_list_append PySem.F.type_list_append mt_append (pv 4) (pa_cons (pv 5) pa_nil)))) pss_nil)))))
      (pss_one (ps_ret (pv 4))))), ?_⟩
  refine ⟨_, rfl, a, rfl, ⟨_, SqT.of ha⟩, fun D hD => lc_tup (K := K) (a := a) (xs := vs) (fun i H' => H' = upd H D (.lst (List.replicate i (V.int 0)))) rfl ?_ ?_ ?_⟩
  · rintro i H' _ rfl
    exact SqT.of (same_new hD _ _ ha)
  · rintro i x H' hi rfl
    have hil : i < vs.length := (List.getElem?_eq_some_iff.mp hi).1
    refine ⟨rfl, yes ⟨_, upd_same, ?_, ?_⟩⟩
    · rw [List.length_replicate]
      exact small1000 (by omega)
    · rw [upd_upd, List.replicate_succ']
  rintro H1 rfl
  have ez : List.replicate vs.length (V.int 0) = csV (fun j => ((cB (preB val ls j) 0 : Nat) : Int)) (fun j => ((cB (preB val ls j) 1 : Nat) : Int)) 0 ls.length := by
    refine List.ext_getElem? fun j => ?_
    by_cases hj : j < ls.length
    · rw [csV_get _ _ _ _ hj, List.getElem?_replicate, if_pos (by omega)]
      rfl
    · rw [List.getElem?_eq_none (by rw [List.length_replicate]; omega), List.getElem?_eq_none (by rw [csV_len]; omega)]
  rw [ez]
  have hD1 : (upd H D (.lst (csV (fun j => ((cB (preB val ls j) 0 : Nat) : Int)) (fun j => ((cB (preB val ls j) 1 : Nat) : Int)) 0 ls.length))) D = some (.lst (csV (fun j => ((cB (preB val ls j) 0 : Nat) : Int)) (fun j => ((cB (preB val ls j) 1 : Nat) : Int)) 0 ls.length)) := upd_same
  have s1 : Same H (upd H D (.lst (csV (fun j => ((cB (preB val ls j) 0 : Nat) : Int)) (fun j => ((cB (preB val ls j) 1 : Nat) : Int)) 0 ls.length))) := same_new hD
  generalize upd H D (.lst (csV (fun j => ((cB (preB val ls j) 0 : Nat) : Int)) (fun j => ((cB (preB val ls j) 1 : Nat) : Int)) 0 ls.length)) = H1 at s1 hD1
  refine ⟨sl 0, fun F hF => ?_⟩
  have DF : D ≠ F := ne_of_none hD1 hF
  have s2 : Same H (upd H1 F (.lst [])) := s1.trans (same_new hF)
  have nD : ∀ {b : Addr} {o : HO}, H b = some o → b ≠ D := fun e => ne_of_none e hD
  have nF : ∀ {b : Addr} {o : HO}, H b = some o → b ≠ F := fun e => ne_of_none (s1 _ _ e) hF
  refine ⟨_, rfl, 12, rfl, by decide, by decide, for_range (lo := 0) (n := (12 : Int).toNat) (fun i σ H' => ∃ (v5 v6 v7 v8 v9 : Option V), σ = [some (.ref a), some (.ref Dv), some (.int 12), some (.ref D), some (.ref F), v5, v6, v7, v8, v9] ∧ Same H H' ∧ H' D = some (.lst (csV (fun j => ((cB (preB val ls j) i : Nat) : Int)) (fun j => ((cB (preB val ls j) (i + 1) : Nat) : Int)) 0 ls.length)) ∧ H' F = some (.lst (fnd (rnB val (fun _ => true) ls) i)))
    ⟨none, none, none, none, none, rfl, s2, upd_else hD1 DF, upd_same⟩ ?_ ?_⟩
  · rintro i σ H' hi ⟨v5, v6, v7, v8, v9, rfl, s3, hD3, hF3⟩
    have hi12 : i < 12 := hi
    have hz : (0 : Int) + (i : Int) = (i : Int) := by omega
    refine ⟨_, rfl, a, vs, rfl, .inr (SqT.of (s3 _ _ ha)), vs.length, rfl, by omega, by omega, ?_⟩
    refine for_range (lo := 0) (n := ((vs.length : Nat) : Int).toNat) (fun l σ G => ∃ (v7 v8 v9 : Option V), σ = [some (.ref a), some (.ref Dv), some (.int 12), some (.ref D), some (.ref F), some (.int (0 + (i : Int))), some (.bl (preB val ls l i)), v7, v8, v9] ∧ Same H G ∧ G F = some (.lst (fnd (rnB val (fun _ => true) ls) i)) ∧ G D = some (.lst (csV (fun j => ((cB (preB val ls j) i : Nat) : Int)) (fun j => ((cB (preB val ls j) (i + 1) : Nat) : Int)) l ls.length)))
      ⟨v7, v8, v9, rfl, s3, hF3, hD3⟩ ?_ ?_
    · rintro l σ G hl ⟨v7, v8, v9, rfl, s4, hF4, hD4⟩
      have hlv : l < vs.length := by omega
      have hll : l < ls.length := by omega
      obtain ⟨L, hL, hLv⟩ := lay_at hp (List.getElem?_eq_getElem hlv)
      have z0 : (0 : Int) + (l : Int) = ((l : Nat) : Int) := by omega
      have hps := preB_succ val hL
      have hLm := List.mem_of_getElem? hL
      refine ⟨_, rfl, _, rfl, ?_⟩
      cases hh : preB val ls l i with
      | false =>
        refine iteF ⟨some (.int (0 + (l : Int))), v8, v9, ?_, s4, hF4, ?_⟩
        · have e : preB val ls (l + 1) i = false := by
            rw [hps]
            cases L with
            | ev n k h =>
              show (preB val ls l i && _) = false
              rw [hh, Bool.false_and]
            | is n w =>
              show (preB val ls l i && _) = false
              rw [hh, Bool.false_and]
          rw [e]
          rfl
        · rw [hD4]
          refine congrArg (fun z => some (HO.lst z)) (csV_skip _ _ ?_)
          show ((cB (preB val ls l) i : Nat) : Int) = ((cB (preB val ls l) i + (if preB val ls l i = true then 1 else 0) : Nat) : Int)
          rw [hh]
          rfl
      | true =>
        have ha4 := s4 _ _ ha
        have hat : atI vs (0 + (l : Int)) = some vs[l] := by
          rw [z0]
          exact at_n l (List.getElem?_eq_getElem hlv)
        have hLv4 := Td.mono (TS.of s4) _ _ hLv
        refine iteT ⟨_, rfl, _, rfl, a, vs, _, vs[l], rfl, rfl, SqT.of ha4, hat, ?_⟩
        generalize vs[l] = lv at hLv4
        refine ⟨_, rfl, _, rfl, D, _, _, .int (cB (preB val ls l) i), rfl, rfl, SqL.of hD4, ?_, ?_⟩
        · rw [z0]
          exact at_n l (csV_at _ _ hll)
        refine ⟨_, rfl, _, _, rfl, rfl, _, rfl, _, rfl, D, _, _, l, rfl, rfl, hD4, ?_, ?_⟩
        · rw [csV_len, z0]
          unfold ixN
          rw [if_pos (by omega), if_pos (by omega)]
          rfl
        have ecs : ((cB (preB val ls l) i : Nat) : Int) + 1 = ((cB (preB val ls l) (i + 1) : Nat) : Int) := by
          show _ = ((cB (preB val ls l) i + (if preB val ls l i = true then 1 else 0) : Nat) : Int)
          rw [hh]
          rfl
        have hG5 : Same H (upd G D (.lst ((csV (fun j => ((cB (preB val ls j) i : Nat) : Int)) (fun j => ((cB (preB val ls j) (i + 1) : Nat) : Int)) l ls.length).set l (.int (((cB (preB val ls l) i : Nat) : Int) + 1))))) := fun b o e => upd_else (s4 _ _ e) (nD e)
        have hD5 : (upd G D (.lst ((csV (fun j => ((cB (preB val ls j) i : Nat) : Int)) (fun j => ((cB (preB val ls j) (i + 1) : Nat) : Int)) l ls.length).set l (.int (((cB (preB val ls l) i : Nat) : Int) + 1))))) D = some (.lst (csV (fun j => ((cB (preB val ls j) i : Nat) : Int)) (fun j => ((cB (preB val ls j) (i + 1) : Nat) : Int)) (l + 1) ls.length)) := by
          rw [upd_same, ecs, csV_set _ _ hll]
        have hF5 := upd_else (a := D) (o := .lst ((csV (fun j => ((cB (preB val ls j) i : Nat) : Int)) (fun j => ((cB (preB val ls j) (i + 1) : Nat) : Int)) l ls.length).set l (.int (((cB (preB val ls l) i : Nat) : Int) + 1)))) hF4 DF.symm
        have hLv5 : Td (upd G D (.lst ((csV (fun j => ((cB (preB val ls j) i : Nat) : Int)) (fun j => ((cB (preB val ls j) (i + 1) : Nat) : Int)) l ls.length).set l (.int (((cB (preB val ls l) i : Nat) : Int) + 1))))) L.d lv := Td.mono (TS.wr hD4) _ _ hLv4
        generalize upd G D (.lst ((csV (fun j => ((cB (preB val ls j) i : Nat) : Int)) (fun j => ((cB (preB val ls j) (i + 1) : Nat) : Int)) l ls.length).set l (.int (((cB (preB val ls l) i : Nat) : Int) + 1)))) = G5 at hG5 hD5 hF5 hLv5
        cases L with
        | is n w =>
          obtain ⟨b, wv, rfl, hb, hw⟩ := is_at hLv5
          obtain ⟨kvs, ra, row, d1, d2, d3, d4⟩ := (hv n w hLm).same hG5
          obtain ⟨rv, e1, e2, e3⟩ := d4 i hi12
          refine ⟨_, rfl, b, _, _, _, rfl, rfl, SqT.of hb, at_n 0 rfl, rfl, _, rfl, ?_⟩
          rw [decide_eq_true (show V.str "is" = V.str "is" from rfl)]
          have dg : DGet G5 Dv (.str n) (some (.ref ra)) := by
            rw [← d2]
            exact DGet.k (k := Sum.inr n) d1
          have hws := (gd _ hLm).2
          refine iteT ⟨_, rfl, _, rfl, b, _, _, _, rfl, rfl, SqT.of hb, at_n 1 rfl, Dv, .ref ra, rfl, dg, _, rfl, ra, row, _, rv, rfl, rfl, SqL.of d3, ?_, _, rfl, b, _, _, _, rfl, rfl, SqT.of hb, at_n 2 rfl, val n i, w, Td.dp _ _ e2, Td.dp _ _ hw, shaped_of e3, shaped_of hws, ?_⟩
          · rw [hz]
            exact at_n i e1
          · refine ⟨some (.int (0 + (l : Int))), some (.ref b), some (.int (cB (preB val ls l) i)), ?_, hG5, hF5, hD5⟩
            have e : preB val ls (l + 1) i = PyData.eqv (val n i) w := by
              rw [hps]
              show (preB val ls l i && _) = _
              rw [hh, Bool.true_and]
            rw [e]
            rfl
        | ev n k h =>
          obtain ⟨b, hvv, rfl, hb, hh2⟩ := ev_at hLv5
          obtain ⟨gp, hok⟩ := gd _ hLm
          have g1' : 1 ≤ n := gp.1
          refine ⟨_, rfl, b, _, _, _, rfl, rfl, SqT.of hb, at_n 0 rfl, rfl, _, rfl, ?_⟩
          rw [str_ne (by decide +kernel)]
          have e : preB val ls (l + 1) i = hit n k (cB (preB val ls l) i) := by
            rw [hps]
            show (preB val ls l i && _) = _
            rw [hh, Bool.true_and]
          refine iteF ⟨_, rfl, _, rfl, b, _, _, _, rfl, rfl, SqT.of hb, at_n 2 rfl, _, _, rfl, rfl, _, rfl, ite2 (fun hc => ?_) (fun hc => ?_)⟩
          · refine ⟨_, rfl, _, rfl, b, _, _, _, rfl, rfl, SqT.of hb, at_n 2 rfl, _, _, rfl, rfl, .inl ⟨_, rfl, _, rfl, b, _, _, _, rfl, rfl, SqT.of hb, at_n 1 rfl, _, _, rfl, rfl, (by show 0 < n; omega), rfl, some (.int (0 + (l : Int))), some (.ref b), some (.int (cB (preB val ls l) i)), ?_, hG5, hF5, hD5⟩⟩
            rw [e]
            unfold hit
            rw [show decide (k ≤ ((cB (preB val ls l) i : Nat) : Int)) = true from hc, Bool.true_and, bl_eq]
            rfl
          · refine ⟨some (.int (0 + (l : Int))), some (.ref b), some (.int (cB (preB val ls l) i)), ?_, hG5, hF5, hD5⟩
            rw [e]
            unfold hit
            rw [show decide (k ≤ ((cB (preB val ls l) i : Nat) : Int)) = false from Bool.eq_false_iff.mpr hc, Bool.false_and]
            rfl
    · rintro σ G ⟨v7, v8, v9, rfl, s4, hF4, hD4⟩
      rw [show ((vs.length : Nat) : Int).toNat = ls.length by omega, preB_all]
      rw [show ((vs.length : Nat) : Int).toNat = ls.length by omega] at hD4
      have hD6 : G D = some (.lst (csV (fun j => ((cB (preB val ls j) (i + 1) : Nat) : Int)) (fun j => ((cB (preB val ls j) (i + 1 + 1) : Nat) : Int)) 0 ls.length)) := by
        rw [hD4]
        refine congrArg (fun z => some (HO.lst z)) (csV_ext fun j hj => ?_)
        rw [if_pos hj, if_neg (Nat.not_lt_zero j)]
      have fs := fnd_succ (rnB val (fun _ => true) ls) i
      refine ⟨_, rfl, _, rfl, ite2 (fun hh => ?_) (fun hh => ?_)⟩
      · rw [if_pos hh] at fs
        refine ⟨_, rfl, .inl ⟨rfl, _, SqL.of hF4⟩, _, rfl, F, _, _, rfl, rfl, hF4, small1000 (by have := fnd_len (rnB val (fun _ => true) ls) i; omega), ?_⟩
        refine ⟨_, _, _, _, _, rfl, fun b o e => upd_else (s4 _ _ e) (nF e), upd_else hD6 DF, ?_⟩
        rw [upd_same, fs, hz]
      · rw [if_neg hh] at fs
        refine ⟨_, _, _, _, _, rfl, s4, hD6, ?_⟩
        rw [fs]
        exact hF4
  · rintro σ H' ⟨v5, v6, v7, v8, v9, rfl, s3, hD3, hF3⟩
    exact ⟨_, rfl, q F H' s3 hF3⟩
end

/-! ### values for the names of clocks -/
theorem putK_len {κ : Type} [DecidableEq κ] (kvs : List (κ × V)) (k : κ) (v : V) : (putK kvs k v).length ≤ kvs.length + 1 := by
  unfold putK
  split
  · rw [List.length_map]
    omega
  · rw [List.length_append]
    exact Nat.le_refl _
def ValsAt (G : Hp) (d Dv : Addr) (done : List LD) (most : Nat) (kvs : List (Key × V)) (f : Str → List PyData) : Prop :=
  G Dv = some (.dK kvs) ∧ kvs.length ≤ most ∧ (∀ n v, valV kvs (Sum.inr n) = some v → ∃ a row, v = .ref a ∧ a ≠ d ∧ G a = some (.lst row) ∧ TdAll G (f n) row ∧ (f n).length = 12 ∧ ∀ e ∈ f n, plainS e) ∧ ∀ n w, LD.is n w ∈ done → (valV kvs (Sum.inr n)).isSome = true
def ValsD (G : Hp) (d Dv : Addr) (done : List LD) (most : Nat) : Prop := ∃ kvs f, ValsAt G d Dv done most kvs f
theorem ValsAt.step {G G' : Hp} {d Dv : Addr} {done : List LD} {most : Nat} {kvs : List (Key × V)} {f : Str → List PyData} (hd : Dv ≠ d) (k : Keep d G G') (ts : TS G G') (h : ValsAt G d Dv done most kvs f) : ValsAt G' d Dv done most kvs f := by
  obtain ⟨h1, h2, h3, h4⟩ := h
  refine ⟨k _ _ h1 hd, h2, fun n v e => ?_, h4⟩
  obtain ⟨a, row, rfl, e1, e2, e3, e4⟩ := h3 n v e
  exact ⟨a, row, rfl, e1, k _ _ e2 e1, TdAll.mono ts _ _ e3, e4⟩
def rValues : V → V → V → Hp → VK → Prop := fun x y z H Q => ∃ (d c L : Addr) (v1 v2 : V) (l1 l2 : List LD), x = .ref d ∧ y = .ref L ∧ z = .int 12 ∧ Dr d c H ∧ L ≠ d ∧ H L = some (.lst [v1, v2]) ∧ ClkV H v1 l1 ∧ ClkV H v2 l2 ∧ (∀ l ∈ l1, l.ok) ∧ (∀ l ∈ l2, l.ok) ∧ l1.length ≤ 100 ∧ l2.length ≤ 100 ∧
  ∀ (Dv : Addr) (val : Str → Nat → PyData) (H' : Hp), Dr d c H' → Keep d H H' → (∀ n w, LD.is n w ∈ l1 ++ l2 → VAt H' Dv val 12 n) → Q (.ref Dv) H'
theorem plain_strIs {n : Str} {w : PyData} (h : (LD.is n w).ok) : plainS w := h.2
section
variable {P : Program} {w : World} {K : PySem.W.Frag} {mg : Str → Option Value} {base : Heap}
theorem ok_values (T : Tx K mg) : FnOk P w K mg base CX0 4 T.f_values T.fd_values ["_law_d", "_law_clocks", "_law_many"] (sp3 rValues) := by
  refine okR3 T.F_values sc_values rfl fun cdv A outer s H Q E x y z hr h => ?_
  obtain ⟨d, c, L, v1, v2, l1, l2, rfl, rfl, rfl, dr, Ld, hL, ck1, ck2, gd1, gd2, n1, n2, q⟩ := h
  refine ⟨_, pss_cons (ps_set (i := 3) sc_values.nd rfl (Or.inl rfl) pe_dnewK)
      (pss_cons (ps_for PassesOwn.never rfl (pi_list (pv 1)) (pg_name (i := 4) sc_values.nd rfl (Or.inl rfl))
      (pss_one (ps_for PassesOwn.never rfl (pi_tup (pv 4)) (pg_name (i := 5) sc_values.nd rfl (Or.inr rfl))
      (pss_one (ps_if (PW.pt (pw_and (pt_cmpR op_eq (pe_ix ix_tup (pv 5) pe_int (fun _ _ => rfl)) pe_str (nomark _)) (pw_and1 (pt_cmp (pc_dnotin (u1 hr.units) (pe_ix (show IxR _ (rIxT K) from ix_tup) (pv 5) pe_int (fun _ _ => rfl)) (pv 3)))))) (pss_cons (ps_set (i := 6) sc_values.nd rfl (Or.inl rfl) (pe_lst pa_nil))
      (pss_cons (ps_setLc (i := 7) (own := [("_law_one", 10)]) (g := gName 10)  rfl sc_values.nd rfl rfl (sw_true rfl rfl rfl (by decide +kernel)) (pi_tup (pv 4)) (blkOk_by (N := ["_law_d", "_law_clocks", "_law_many", "_law_values_here", "_law_clock", "_law_layer", "_law_row", "_law_others", "_law_shift", "_law_tick", "_law_one"]) (sc := defScope s_values) (by decide +kernel)) (fun _ _ _ _ _ => pg_name (i := 10) sc_values.nd rfl (Or.inl rfl)) (fun _ _ _ _ _ => pts_one (PW.pt (pw_and (pt_cmpR op_eq (pe_ix (show IxR _ (rIxT K) from ix_tup) (pv 10) pe_int (fun _ _ => rfl)) pe_str (nomark _)) (pw_and1 (pt_cmpR op_eq (pe_ix (show IxR _ (rIxT K) from ix_tup) (pv 10) pe_int (fun _ _ => rfl)) (pe_ix (show IxR _ (rIxT K) from ix_tup) (pv 5) pe_int (fun _ _ => rfl)) (nomark _)))))) (fun _ _ _ _ _ => (pe_ix (show IxR _ (rIxT K) from ix_tup) (pv 10) pe_int (fun _ _ => rfl))))
      (pss_cons (ps_set (i := 8) sc_values.nd rfl (Or.inl rfl) (pe_call (ok_draw T) (hr.mono (by decide)) rfl T.m_draw T.F_draw.kp T.b_draw .nil pass0 (pa_cons (pv 0) (pa_cons (pe_op op_shl pe_int (pv 2)) pa_nil))))
      (pss_cons (ps_for PassesOwn.never rfl (pi_range1 rfl T.z_range (pa_cons (pv 2) pa_nil)) (pg_name (i := 9) sc_values.nd rfl (Or.inl rfl))
      (pss_one (ps_expr (pe_bm PySem.F.plainAttrs_list PySem.F.slot_list_append PySem.F.type_list_append mt_append (pv 6) (pa_cons (pe_ifExp (pt_truth (pe_op op_and (pe_op op_shr (pv 8) (pv 9)) pe_int) (by intro _; rfl)) (pe_ix ix_list (pv 7) pe_int (fun _ _ => rfl)) (pe_ix ix_tup (pe_call (ok_is_layer T) (hr.mono (by decide)) rfl T.m_is_layer T.F_is_layer.kp T.b_is_layer .nil pass0 (pa_cons (pv 0) pa_nil)) pe_int (fun _ _ => rfl))) pa_nil)))))
      (pss_one (ps_dput (u1 hr.units) (pv 3) (pe_ix (show IxR _ (rIxT K) from ix_tup) (pv 5) pe_int (fun _ _ => rfl)) (pv 6) rfl)))))) pss_nil)))))
      (pss_one (ps_ret (pv 3)))), ?_⟩
  refine fun Dv hDv => ?_
  have Dd : Dv ≠ d := dr.dne hDv
  refine ⟨_, rfl, L, rfl, ⟨_, SqL.of (same_new hDv _ _ hL)⟩, for_list (K := K) (a := L) (xs := [v1, v2]) (fun i σ G => ∃ (v4 v5 v6 v7 v8 v9 : Option V), σ = [some (.ref d), some (.ref L), some (.int 12), some (.ref Dv), v4, v5, v6, v7, v8, v9, none] ∧ Dr d c G ∧ Keep d H G ∧ TS H G ∧ ValsD G d Dv (([l1, l2].take i).flatten) (100 * i))
    ⟨none, none, none, none, none, none, rfl, dr.new hDv, Keep.new hDv, TS.new hDv, [], fun _ => [], upd_same, Nat.le_refl _, (fun n v e => by cases e), (fun n w h => by cases h)⟩ (fun i σ G _ ⟨_, _, _, _, _, _, _, _, k, _⟩ => SqL.of (k _ _ hL Ld)) ?_ ?_⟩
  · rintro i x σ G hx ⟨v4, v5, v6, v7, v8, v9, rfl, drG, kG, tsG, vG⟩
    have hi : i < 2 := (List.getElem?_eq_some_iff.mp hx).1
    obtain ⟨ls, hls, ck, gd, nl⟩ : ∃ ls, [l1, l2][i]? = some ls ∧ ClkV G x ls ∧ (∀ l ∈ ls, l.ok) ∧ ls.length ≤ 100 := by
      rcases (show i = 0 ∨ i = 1 by omega) with rfl | rfl
      · cases hx
        exact ⟨l1, rfl, ck1.mono tsG, gd1, n1⟩
      · cases hx
        exact ⟨l2, rfl, ck2.mono tsG, gd2, n2⟩
    have hdn : ([l1, l2].take (i + 1)).flatten = ([l1, l2].take i).flatten ++ ls := by
      rw [List.take_add_one, hls, List.flatten_append]
      exact congrArg _ (List.append_nil _)
    rw [hdn]
    generalize ([l1, l2].take i).flatten = pre at vG
    obtain ⟨a, vs, rfl, ha, hp⟩ := id ck
    have hlen := TdAll.len _ _ hp
    rw [List.length_map] at hlen
    refine ⟨_, rfl, a, rfl, ⟨_, SqT.of ha⟩, for_tup (K := K) (a := a) (xs := vs) (fun l σ G' => ∃ (v5 v6 v7 v8 v9 : Option V), σ = [some (.ref d), some (.ref L), some (.int 12), some (.ref Dv), some (.ref a), v5, v6, v7, v8, v9, none] ∧ Dr d c G' ∧ Keep d H G' ∧ TS G G' ∧ ValsD G' d Dv (pre ++ ls.take l) (100 * i + l))
      ⟨v5, v6, v7, v8, v9, rfl, drG, kG, TS.refl _, by rw [List.take_zero, List.append_nil]; exact vG⟩ (fun l σ G' _ ⟨_, _, _, _, _, _, _, _, ts, _⟩ => SqT.of (ts _ _ ha)) ?_ ?_⟩
    · rintro l x σ G' hx' ⟨v5, v6, v7, v8, v9, rfl, drG', kG', tsG', kvs, f, hv⟩
      obtain ⟨l', hl', hlv⟩ := lay_at hp hx'
      have hlm := List.mem_of_getElem? hl'
      have hlv' := Td.mono tsG' _ _ hlv
      have htk : pre ++ ls.take (l + 1) = (pre ++ ls.take l) ++ [l'] := by
        rw [List.take_add_one, hl', List.append_assoc]
        rfl
      rw [htk]
      have hll : l < ls.length := (List.getElem?_eq_some_iff.mp hl').1
      cases l' with
      | ev n k h =>
        obtain ⟨b, hvv, rfl, hb, hh⟩ := ev_at hlv'
        refine ⟨_, rfl, b, _, _, _, rfl, rfl, SqT.of hb, at_n 0 rfl, rfl, _, rfl, ?_⟩
        rw [str_ne (by decide +kernel)]
        refine iteF (iteF ⟨_, _, _, _, _, rfl, drG', kG', tsG', kvs, f, hv.1, Nat.le_succ_of_le hv.2.1, hv.2.2.1, fun m w hm => ?_⟩)
        rcases List.mem_append.mp hm with h | h
        · exact hv.2.2.2 m w h
        · cases List.mem_singleton.mp h
      | is n w =>
        obtain ⟨b, wv, rfl, hb, hw⟩ := is_at hlv'
        have wok : plainS w := (gd _ hlm).2
        refine ⟨_, rfl, b, _, _, _, rfl, rfl, SqT.of hb, at_n 0 rfl, rfl, _, rfl, ?_⟩
        rw [decide_eq_true (show V.str "is" = V.str "is" from rfl)]
        refine iteT ⟨_, rfl, b, _, _, _, rfl, rfl, SqT.of hb, at_n 1 rfl, _, rfl, Dv, _, rfl, DGet.k (k := Sum.inr n) hv.1, _, rfl, ?_⟩
        cases ho : valV kvs (Sum.inr n) with
        | some o =>
          refine iteF ⟨_, _, _, _, _, rfl, drG', kG', tsG', kvs, f, hv.1, Nat.le_succ_of_le hv.2.1, hv.2.2.1, fun m w' hm => ?_⟩
          rcases List.mem_append.mp hm with h | h
          · exact hv.2.2.2 m w' h
          · cases List.mem_singleton.mp h
            rw [ho]
            rfl
        | none =>
          refine iteT ⟨sl 0, fun R hR => ?_⟩
          have Rd : R ≠ d := drG'.dne hR
          have RD : Dv ≠ R := ne_of_none hv.1 hR
          -- others
          have ha1 : (upd G' R (.lst [])) a = some (.tup vs) := same_new hR _ _ (tsG' _ _ ha)
          have hp1 : TdAll (upd G' R (.lst [])) (ls.map LD.d) vs := TdAll.mono (tsG'.trans (TS.new hR)) _ _ hp
          have hb1 := same_new (o := .lst []) hR _ _ hb
          have dr1 := drG'.new (o := .lst []) hR
          have kp1 : Keep d G' (upd G' R (.lst [])) := Keep.new hR
          have hR1 : (upd G' R (.lst [])) R = some (.lst []) := upd_same
          generalize upd G' R (.lst []) = G1 at ha1 hp1 hb1 dr1 kp1 hR1
          refine ⟨_, rfl, a, rfl, ⟨_, SqT.of ha1⟩, fun O hO => ?_⟩
          have Od : O ≠ d := dr1.dne hO
          have RO : R ≠ O := ne_of_none hR1 hO
          refine lc_tup (K := K) (a := a) (xs := vs) (fun i H' => ∃ (acc : List V) (ds : List PyData), H' = upd G1 O (.lst acc) ∧ TdAll G1 ds acc ∧ (∀ e ∈ ds, plainS e) ∧ acc.length ≤ i ∧ (l < i → acc ≠ [])) ⟨[], [], rfl, rfl, (fun e h => by cases h), Nat.le_refl _, (fun h => absurd h (Nat.not_lt_zero _))⟩ ?_ ?_ ?_
          · rintro i' H' _ ⟨acc, ds, rfl, _⟩
            exact SqT.of (same_new hO _ _ ha1)
          · rintro i' x' H' hx2 ⟨acc, ds, rfl, e1, e2, e3, e4⟩
            obtain ⟨l2', hl2', hlv2⟩ := lay_at hp1 hx2
            have hlv2' := Td.mono (TS.new (o := .lst acc) hO) _ _ hlv2
            have hi2 : i' < vs.length := (List.getElem?_eq_some_iff.mp hx2).1
            cases l2' with
            | ev n2 k2 h2 =>
              obtain ⟨b2, hv2, rfl, hb2, hh2⟩ := ev_at hlv2'
              refine ⟨rfl, _, rfl, b2, _, _, _, rfl, rfl, SqT.of hb2, at_n 0 rfl, rfl, _, rfl, ?_⟩
              rw [str_ne (by decide +kernel)]
              refine iteF (iteF ⟨acc, ds, rfl, e1, e2, Nat.le_succ_of_le e3, fun hlt => ?_⟩)
              by_cases hli : l < i'
              · exact e4 hli
              · have : l = i' := by omega
                subst this
                rw [hl'] at hl2'
                cases hl2'
            | is n2 w2 =>
              obtain ⟨b2, wv2, rfl, hb2, hw2⟩ := is_at hlv2
              have hb2' := same_new (o := .lst acc) hO _ _ hb2
              refine ⟨rfl, _, rfl, b2, _, _, _, rfl, rfl, SqT.of hb2', at_n 0 rfl, rfl, _, rfl, ?_⟩
              rw [decide_eq_true (show V.str "is" = V.str "is" from rfl)]
              refine iteT ⟨_, rfl, b2, _, _, _, rfl, rfl, SqT.of hb2', at_n 1 rfl, _, rfl, b, _, _, _, rfl, rfl, SqT.of (same_new hO _ _ hb1), at_n 1 rfl, rfl, _, rfl, ite2 (fun hc => ?_) (fun hc => ?_)⟩
              · refine ⟨_, rfl, b2, _, _, _, rfl, rfl, SqT.of hb2', at_n 2 rfl, acc, upd_same, small1000 (by omega), acc ++ [wv2], ds ++ [w2], ?_, TdAll.app _ _ _ _ e1 ⟨_, _, rfl, hw2, rfl⟩, fun e he => ?_, by rw [List.length_append]; exact Nat.add_le_add_right e3 1, fun _ z => ?_⟩
                · rw [upd_upd]
                · rcases List.mem_append.mp he with h | h
                  · exact e2 e h
                  · rw [List.mem_singleton.mp h]
                    exact (gd _ (List.mem_of_getElem? hl2')).2
                · have := congrArg List.length z
                  rw [List.length_append] at this
                  cases this
              · refine ⟨acc, ds, rfl, e1, e2, Nat.le_succ_of_le e3, fun hlt => ?_⟩
                by_cases hli : l < i'
                · exact e4 hli
                · have : l = i' := by omega
                  subst this
                  rw [hl'] at hl2'
                  cases hl2'
                  exact absurd (decide_eq_true rfl) hc
          rintro H' ⟨oacc, ods, rfl, o1, o2, o3, o4⟩
          have one := o4 (by omega)
          have dr2 := dr1.new (o := .lst oacc) hO
          have kp2 : Keep d G' (upd G1 O (.lst oacc)) := kp1.trans (Keep.new hO)
          have hR2 : (upd G1 O (.lst oacc)) R = some (.lst []) := same_new hO _ _ hR1
          have hO2 : (upd G1 O (.lst oacc)) O = some (.lst oacc) := upd_same
          have o1' : TdAll (upd G1 O (.lst oacc)) ods oacc := TdAll.mono (TS.new hO) _ _ o1
          generalize upd G1 O (.lst oacc) = G2 at dr2 kp2 hR2 hO2 o1'
          -- shift
          refine ⟨_, rfl, _, rfl, _, _, rfl, rfl, ⟨by decide, by decide, by decide⟩, _, _, rfl, d, c, _, rfl, rfl, dr2, by decide, by decide, fun sh G3 sh0 sh1 dr3 k3 => ?_⟩
          have kp3 := kp2.trans k3
          have ts3 : TS G2 G3 := TS.dr dr2 k3
          obtain ⟨o, ol, rfl⟩ : ∃ o ol, oacc = o :: ol := by
            cases oacc with
            | nil => exact absurd rfl one
            | cons o ol => exact ⟨o, ol, rfl⟩
          obtain ⟨od, odl, rfl⟩ : ∃ e el, ods = e :: el := by
            cases ods with
            | nil => cases (show (o :: ol) = [] from o1')
            | cons o ol => exact ⟨o, ol, rfl⟩
          obtain ⟨o', ol', eo, hod, _⟩ := o1'
          cases eo
          have hod3 := Td.mono ts3 _ _ hod
          have odk : plainS od := o2 od (by simp)
          refine ⟨_, rfl, 12, rfl, by decide, by decide, for_range (lo := 0) (n := (12 : Int).toNat) (fun t σ F => ∃ (v9 : Option V) (acc : List V) (ds : List PyData), σ = [some (.ref d), some (.ref L), some (.int 12), some (.ref Dv), some (.ref a), some (.ref b), some (.ref R), some (.ref O), some (.int sh), v9, none] ∧ Dr d c F ∧ Keep d G' F ∧ TS G3 F ∧ F R = some (.lst acc) ∧ F O = some (.lst (o :: ol)) ∧ TdAll F ds acc ∧ ds.length = t ∧ ∀ e ∈ ds, plainS e)
            ⟨v9, [], [], rfl, dr3, kp3, TS.refl _, k3 _ _ hR2 Rd, k3 _ _ hO2 Od, rfl, rfl, (fun e h => by cases h)⟩ ?_ ?_⟩
          · rintro t σ F ht ⟨v9, acc, ds, rfl, drF, kF, tsF, hRF, hOF, dF, dl, dk⟩
            have ht' : t < 12 := ht
            have al := TdAll.len _ _ dF
            have fin : ∀ (v : V) (e : PyData) (F' : Hp), Dr d c F' → Keep d F F' → TS F F' → Td F' e v → plainS e → ∃ l xs v', (V.ref R) = .ref l ∧ [v] = [v'] ∧ F' l = some (.lst xs) ∧ xs.length < sizeLine ∧
                ∃ (v9 : Option V) (acc : List V) (ds : List PyData), [some (V.ref d), some (.ref L), some (.int 12), some (.ref Dv), some (.ref a), some (.ref b), some (.ref R), some (.ref O), some (.int sh), some (.int (0 + (t : Int))), none] = [some (.ref d), some (.ref L), some (.int 12), some (.ref Dv), some (.ref a), some (.ref b), some (.ref R), some (.ref O), some (.int sh), v9, none] ∧ Dr d c (upd F' l (.lst (xs ++ [v']))) ∧ Keep d G' (upd F' l (.lst (xs ++ [v']))) ∧ TS G3 (upd F' l (.lst (xs ++ [v']))) ∧ (upd F' l (.lst (xs ++ [v']))) R = some (.lst acc) ∧ (upd F' l (.lst (xs ++ [v']))) O = some (.lst (o :: ol)) ∧ TdAll (upd F' l (.lst (xs ++ [v']))) ds acc ∧ ds.length = t + 1 ∧ ∀ e ∈ ds, plainS e := by
              intro v e F' dr' k' ts' he ek
              have hR' := k' _ _ hRF Rd
              have tw : TS F' (upd F' R (.lst (acc ++ [v]))) := TS.wr hR'
              have Rc : R ≠ c := by
                obtain ⟨cells, i, big, seed, cnt, e1, e2, e3⟩ := drG'
                exact (ne_of_none e2 hR).symm
              refine ⟨R, acc, v, rfl, rfl, hR', small1000 (by omega), some (.int (0 + (t : Int))), acc ++ [v], ds ++ [e], rfl, dr'.else Rd Rc, fun q o e n => upd_else ((kF.trans k') _ _ e n) (ne_of_none e hR), tsF.trans (ts'.trans tw), upd_same, upd_else (k' _ _ hOF Od) RO.symm, TdAll.app _ _ _ _ (TdAll.mono (ts'.trans tw) _ _ dF) ⟨_, _, rfl, Td.mono tw _ _ he, rfl⟩, by rw [List.length_append, dl]; rfl, fun e' he' => ?_⟩
              rcases List.mem_append.mp he' with h | h
              · exact dk e' h
              · rw [List.mem_singleton.mp h]
                exact ek
            refine ⟨_, rfl, .inl ⟨rfl, _, SqL.of hRF⟩, _, rfl, _, rfl, _, _, rfl, rfl, by omega, _, _, rfl, rfl, _, rfl, ite2 (fun _ => ?_) (fun _ => ?_)⟩
            · refine ⟨_, rfl, O, _, _, o, rfl, rfl, SqL.of hOF, at_n 0 rfl, ?_⟩
              exact fin o od F drF (Keep.refl _ _) (TS.refl _) (Td.mono tsF _ _ hod3) odk
            · refine ⟨_, rfl, _, rfl, d, c, rfl, drF, fun v z y H4 ok4 hv4 dr4 k4 => ?_⟩
              obtain ⟨b4, wv4, rfl, hb4, hw4⟩ := is_at hv4
              exact ⟨b4, _, _, _, rfl, rfl, SqT.of hb4, at_n 2 rfl, fin wv4 y H4 dr4 k4 (TS.dr drF k4) hw4 ok4.2⟩
          · rintro σ F ⟨v9, acc, ds, rfl, drF, kF, tsF, hRF, hOF, dF, dl, dk⟩
            have vF := hv.step Dd kF (TS.dr drG' kF)
            have hbF := (TS.dr drG' kF) _ _ hb
            have tw : TS F (upd F Dv (.dK (putK kvs (Sum.inr n) (.ref R)))) := TS.dict vF.1
            have Rne : R ≠ Dv := RD.symm
            refine ⟨_, rfl, _, rfl, _, rfl, b, _, _, _, rfl, rfl, SqT.of hbF, at_n 1 rfl, Dv, _, rfl, DPut.k (k := Sum.inr n) vF.1 (small1000 (by have := vF.2.1; omega)), ?_⟩
            refine ⟨_, _, _, _, _, rfl, ?_, ?_, (tsG'.trans (TS.dr drG' kF)).trans tw, putK kvs (Sum.inr n) (.ref R), fun m => if m = n then ds else f m, upd_same, ?_, fun m v hm => ?_, fun m w' hm => ?_⟩
            · have Dc : Dv ≠ c := (dr.cne hDv)
              exact drF.else Dd Dc
            · exact fun q o e n => upd_else ((kG'.trans kF) _ _ e n) (ne_of_none e hDv)
            · have := putK_len kvs (Sum.inr n) (.ref R)
              have := vF.2.1
              omega
            · rw [valV_put] at hm
              by_cases hmn : m = n
              · subst hmn
                rw [if_pos rfl] at hm
                cases hm
                refine ⟨R, acc, rfl, Rd, upd_else hRF Rne, ?_, ?_, ?_⟩
                · dsimp only
                  rw [if_pos rfl]
                  exact TdAll.mono tw _ _ dF
                · dsimp only
                  rw [if_pos rfl]
                  exact dl
                · dsimp only
                  rw [if_pos rfl]
                  exact dk
              · rw [if_neg (fun z => hmn (Sum.inr.inj z))] at hm
                obtain ⟨a', row, rfl, g1, g2, g3, g4, g5⟩ := vF.2.2.1 m v hm
                refine ⟨a', row, rfl, g1, upd_else g2 ?_, ?_, ?_, ?_⟩
                · rintro rfl
                  rw [vF.1] at g2
                  cases g2
                · dsimp only
                  rw [if_neg hmn]
                  exact TdAll.mono tw _ _ g3
                · dsimp only
                  rw [if_neg hmn]
                  exact g4
                · dsimp only
                  rw [if_neg hmn]
                  exact g5
            · rw [valV_put]
              by_cases hmn : m = n
              · rw [if_pos (by rw [hmn])]
                rfl
              · rw [if_neg (fun z => hmn (Sum.inr.inj z))]
                rcases List.mem_append.mp hm with h | h
                · exact vF.2.2.2 m w' h
                · cases List.mem_singleton.mp h
                  exact absurd rfl hmn
    · rintro σ G' ⟨v5, v6, v7, v8, v9, rfl, drG', kG', tsG', vG'⟩
      rw [show ls.take vs.length = ls by rw [hlen, List.take_length]] at vG'
      obtain ⟨kvs, f, hv⟩ := vG'
      exact ⟨_, _, _, _, _, _, rfl, drG', kG', tsG.trans tsG', kvs, f, hv.1, Nat.le_trans hv.2.1 (by omega), hv.2.2⟩
  · rintro σ G ⟨v4, v5, v6, v7, v8, v9, rfl, drG, kG, tsG, kvs, f, hv⟩
    refine ⟨_, rfl, q Dv (fun n t => (f n).getD t .none) G drG kG fun n w hm => ?_⟩
    have hm' : LD.is n w ∈ ([l1, l2].take [v1, v2].length).flatten := by
      show LD.is n w ∈ l1 ++ (l2 ++ [])
      rw [List.append_nil]
      exact hm
    obtain ⟨o, ho⟩ := Option.isSome_iff_exists.mp (hv.2.2.2 n w hm')
    obtain ⟨a, row, rfl, g1, g2, g3, g4, g5⟩ := hv.2.2.1 n o ho
    refine ⟨kvs, a, row, hv.1, ho, g2, fun t ht => ?_⟩
    have htl : t < (f n).length := by omega
    obtain ⟨v, e1, e2⟩ := TdAll.at t _ _ _ g3 (List.getElem?_eq_getElem htl)
    have e3 : (f n).getD t PyData.none = (f n)[t] := by
      rw [List.getD_eq_getElem?_getD, List.getElem?_eq_getElem htl]
      rfl
    refine ⟨v, e1, ?_, ?_⟩
    · dsimp only
      rw [e3]
      exact e2
    · dsimp only
      rw [e3]
      exact g5 _ (List.getElem_mem _)
end

/-! ### the law's def, run where nothing else runs (so that repr knows what it stands in) -/
def RootOk (P : Program) (w : World) (K : PySem.W.Frag) (mg : Str → Option Value) (base : Heap) (f : Addr) (fd : FuncData) (ps : List Str) (sp : Sp) : Prop :=
  ∀ (t : Shared) (G : Hp) (ar : Args) (us : List Value) (vs : List V) (R : VK), Env0 P w K mg base callerA [] t G → BindsTo t fd ar (ps.zip us) → Vals vs us → sp vs G R E0 →
    codeAny (model P w) callerA (.call (.ref f) ar) (CR CX0 [] P w G t R E0) t
theorem rootOk {P : Program} {w : World} {K : PySem.W.Frag} {mg : Str → Option Value} {base : Heap} {x : Str} {st : Stmt} {f : Addr} {fd : FuncData} {N ps : List Str} {sp : Sp} (F : FunD K x x (defArgs st) (defBody st) (defScope st) [] [] f fd) (S : FnScope N ps (defScope st))
    (len : ∀ vs G R, sp vs G R E0 → vs.length = ps.length)
    (body : ∀ (cd : Value) (t : Shared) (G : Hp) (vs : List V) (R : VK), sp vs G R E0 →
      ∃ tr, PSs (cxOf CX0 P w K mg base N x (defScope st) f cd callerA [] t G E0).nox (defBody st) tr ∧ tr { nx := fun _ G' => R .non G', rt := R } (start N vs) G) : RootOk P w K mg base f fd ps sp := by
  intro t G ar us vs R e0 hb r hsp
  obtain ⟨oc, od, dV, kV, doc, pm, an, cd, ct, osl, rfl, lk, hcd, hD, _⟩ := F.ex
  have hlen := len _ _ _ hsp
  have kin : K.In t.heap := e0.mod.kin.keeps fun b o q => (e0.bs b o q).1
  have noL : t.heap.NoLimit := e0.mod.nolimit.keeps fun b o q => (e0.bs b o q).1
  refine codeAny_call_function (by rw [depth_caller]; decide) (kin _ _ lk) rfl S.co S.gen rfl (PySem.W.codeRec_of kin hcd) (hb _ _ _ _ ?_)
  refine wpAny_newFunctionEnv_cells S.kind (fun ⟨n, v⟩ hy => ?_) fun env he t1 z => ?_
  · rcases S.par n (List.of_mem_zip hy).1 with q | q
    · exact .inl q
    · exact .inr ⟨q, PySem.W.cellsFrom_some _ _ _ (.inl q)⟩
  · subst he
    refine ⟨noL.keeps z.toInCall.keep, codeAny_func ?_⟩
    obtain ⟨tr, ht, hq⟩ := body cd t G vs R hsp
    have I : Inv (cxOf CX0 P w K mg base N x (defScope st) f cd callerA [] t G E0) [] (start N vs) G t1 := inv_start S rfl e0 hlen r z
    refine wpAny_mono (ht.nox.run [] t1 (start N vs) G _ I hq) (fun fl t2 h2 => ?_) fun e t2 h2 => h2
    have ends : ∀ {σ' : L2.St} {G' : Hp} {v : V} {u : Value}, Inv (cxOf CX0 P w K mg base N x (defScope st) f cd callerA [] t G E0) [] σ' G' t2 → RelV v u → R v G' → CE [] P w G t R u t2 :=
      fun {σ' G' v u} J rv q => ⟨v, G', J.os, J.bare, J.base, J.hok, rv, q⟩
    cases fl with
    | ret u =>
      obtain ⟨v, σ', G', J, rv, q⟩ := h2
      exact ends J rv q
    | next =>
      obtain ⟨σ', G', J, q⟩ := h2
      exact ends (v := V.non) (u := Value.none) J rfl q
    | brk =>
      obtain ⟨_, _, _, q⟩ := h2
      exact q.elim
    | cont =>
      obtain ⟨_, _, _, q⟩ := h2
      exact q.elim
theorem root_call {P : Program} {w : World} {K : PySem.W.Frag} {mg mb : Str → Option Value} {fa a : Addr} {fd : FuncData} {x : Str} {sp : Sp} {t : Shared} {us : List Value} {ns : List Int}
    (kin : K.In t.heap) (hns : t.heap.Ns mainGlobals mg) (hbn : t.heap.Ns builtinsNs mb) (hbb : ∀ x : Str, x ≠ "__name__" → mb x = bootBuiltins x) (noL : t.heap.NoLimit) (hg : t.gens = #[])
    (ha : t.heap.get? a = some { cls := .type "list", data := .seq us.toArray }) (hi : IntsAre us ns) (hl : ns.length ≤ sizeLine)
    (F : ∀ base : Heap, K.In base → base.Ns mainGlobals mg → RootOk P w K mg base fa fd [x] sp) (hbind : ∀ (s : Shared) (u : Value), BindsTo s fd ⟨[u], []⟩ [(x, u)])
    (hsp : ∀ G : Hp, Only G → SqL K G a (ns.map V.int) → sp [.ref a] G (fun v _ => v = .bl true) E0) :
    codeAny (model P w) callerA (.call (.ref fa) ⟨[.ref a], []⟩) (fun r s' => r = .ok (.ret (.bool true)) ∧ OldK t.heap s'.heap ∧ s'.os = t.os ∧ AllBare s'.gens) t := by
  have rv := vals_ints hi
  have lenU := hi.length
  have main : ∀ G : Hp, Only G → SqL K G a (ns.map V.int) → HOk P w G t.heap → (∀ b, G b ≠ none → b = a) → (G a ≠ none → K.lookup a = none) →
      codeAny (model P w) callerA (.call (.ref fa) ⟨[.ref a], []⟩) (fun r s' => r = .ok (.ret (.bool true)) ∧ OldK t.heap s'.heap ∧ s'.os = t.os ∧ AllBare s'.gens) t := by
    intro G only seq ok onlyA notK
    have free : ∀ {b : Addr} {o : Obj} {es : Array DictEntry} {ep : Nat}, t.heap.get? b = some o → o.data = .dict es ep → G b = none := fun {b o es ep} e d => by
      cases q : G b with
      | none => rfl
      | some u =>
        obtain rfl : b = a := onlyA b (by rw [q]; simp)
        rw [ha] at e
        cases e
        cases (show Data.seq us.toArray _ = Data.dict es ep from d)
    have names : ∀ {b : Addr} {m : Str → Option Value}, t.heap.Ns b m → (hidT t.heap G).Ns b m := fun ⟨o, es, ep, e, d, r⟩ => ⟨o, es, ep, hidT_get e (free e d), d, r⟩
    have kinB : K.In (hidT t.heap G) := fun b o e => hidT_get (kin b o e) (by
      cases q : G b with
      | none => rfl
      | some u =>
        obtain rfl : b = a := onlyA b (by rw [q]; simp)
        rw [notK (by rw [q]; simp)] at e
        cases e)
    have md : Mod K mg (hidT t.heap G) := ⟨kinB, names hns, ⟨mb, names hbn, hbb⟩, by
      obtain ⟨mc, h1, h2⟩ := noL
      exact ⟨mc, names h1, h2⟩⟩
    have e0 : Env0 P w K mg (hidT t.heap G) callerA [] t G := ⟨rfl, md, fun b o e => of_hidT e, Nat.le_of_eq (hidT_size _ _), trivial, (fun b hb => by cases (show b ∈ ([] : List Addr) from hb)), ok, .of_eq hg⟩
    refine codeAny_mono (F _ kinB (names hns) t G ⟨[.ref a], []⟩ [.ref a] [.ref a] _ e0 (hbind t (.ref a)) (.cons rfl .nil) (hsp G only seq)) fun r s' h => ?_
    cases r with
    | error e => exact (show False from h).elim
    | ok fl =>
      cases fl with
      | next => exact (show False from h).elim
      | brk => exact (show False from h).elim
      | cont => exact (show False from h).elim
      | ret u =>
        obtain ⟨v, G', os, bare, un, ok', r', q⟩ := h
        obtain rfl : v = .bl true := q
        obtain rfl : u = Value.bool true := r'
        refine ⟨rfl, OldK.of_keep fun b o e => ?_, os, bare⟩
        cases q : G b with
        | none => exact un.keep b o e q (fun z => by cases (show b ∈ ([] : List Addr) from z)) (by simp)
        | some u =>
          rcases only b with z | ⟨ob, xs, z⟩
          · rw [q] at z
            cases z
          · have e1 := (ok b _ z).1
            have e2 := (ok' b _ (un.frzs b ob _ z)).1
            rw [e] at e1
            cases e1
            exact e2
  cases hk : K.lookup a with
  | some o =>
    have e := kin a o hk
    rw [ha] at e
    cases e
    exact main (fun _ => none) (fun _ => .inl rfl) (.inr ⟨_, us.toArray, _, hk, rfl, rfl, rfl, by rw [List.size_toArray, lenU]; exact hl, by simpa using rv⟩) (fun b u z => by cases (show (none : Option HO) = some u from z)) (fun b z => absurd rfl z) fun z => absurd rfl z
  | none =>
    refine main (fun b => if b = a then some (.frz { cls := .type "list", data := .seq us.toArray } (.lst (ns.map V.int))) else none) (fun b => ?_) (.inl (.inr ⟨{ cls := .type "list", data := .seq us.toArray }, if_pos rfl⟩)) (fun b u z => ?_) (fun b z => ?_) fun _ => hk
    · by_cases hb : b = a
      · exact .inr ⟨_, _, if_pos hb⟩
      · exact .inl (if_neg hb)
    · by_cases hb : b = a
      · subst hb
        cases (if_pos rfl).symm.trans z
        exact ⟨ha, by rw [List.length_map]; exact hl, us, _, rv, ha⟩
      · cases (if_neg hb).symm.trans z
    · by_cases hb : b = a
      · exact hb
      · exact absurd (if_neg hb) z
theorem root_walk {l : PySem.W.OpenLaw} {n : Nat} {q : Program} {loose : List Str} {XP : (Str → Option Value) → Heap → Prop} {YP : World → Heap → Prop} {d : DefRec} {x : Str}
    (hn : l.most = some n) (hn2 : n ≤ sizeLine) (hdf : d.params.defaults = [])
    (F : ∀ (w : World) (mg : Str → Option Value) (fa : Addr) (h : Heap), YP w h → h.Ns mainGlobals mg → mg d.name = some (.ref fa) →
      ∃ (K : PySem.W.Frag) (fd : FuncData) (sp : Sp), K.In h ∧ (∀ (s : Shared) (u : Value), BindsTo s fd ⟨[u], []⟩ [(x, u)]) ∧
        (∀ (G : Hp) (a : Addr) (ns : List Int), ns.length ≤ n → Only G → SqL K G a (ns.map V.int) → sp [.ref a] G (fun v _ => v = .bl true) E0) ∧
        ∀ base : Heap, K.In base → base.Ns mainGlobals mg → RootOk l.prog w K mg base fa fd [x] sp) :
    PySem.W.WalkO q loose XP YP l.row.toRowW d [] (fun f vs => PySem.call f vs) := by
  refine Att.attach_call hn hdf fun w s₀ t mg mb fa o pm cd doc a us ns G Y ho hd hcd hmg hobj hints hlen hg => ?_
  obtain ⟨K, fd, sp, kin, hb, hsp, hF⟩ := F w mg fa _ Y G.T.g hmg
  exact root_call kin G.T.g G.T.b G.T.builtins G.T.nolimit hg hobj hints (Nat.le_trans hlen hn2) hF hb (fun H hO hS => hsp H a ns hlen hO hS)
/-- repr of data: None, truths, numbers, texts, lists and tuples of these -/
theorem call_repr {X : Cx} (hg : X.A.guards = some []) (hu : X.A.units + 70 < cLine) : CallR X (.builtin "repr") (fun xs H Q => ∃ (x : V) (d : PyData), xs = [x] ∧ Dp X.K H x d ∧ d.showable = true ∧ d.hasDict = false ∧ d.depth ≤ 60 ∧ d.shown.length ≤ sizeLine ∧ Q (.str d.shown) H) := by
  intro pins s σ H xs us Q I r h
  obtain ⟨x, d, rfl, hd, hs, hh, hdep, hz, q⟩ := h
  obtain ⟨u, rfl, rx⟩ := vals1 r
  obtain ⟨as, rd⟩ := Dp.reads I d x u hd rx
  have hsys : d.hasDict = true → sysModules ∉ as := fun z => by
    rw [hh] at z
    cases z
  cases hd with
  | non =>
    cases rx
    exact P.repr_of_none ⟨.str _, H, I.tok _, ⟨_, rfl⟩, q⟩
  | bl b =>
    cases rx
    exact P.repr_of_bool ⟨.str _, H, I.tok _, ⟨_, rfl⟩, q⟩
  | int i =>
    obtain ⟨t, rfl⟩ := rx
    exact P.repr_of_int (of_decide_eq_true hs) ⟨.str _, H, I.tok _, ⟨_, rfl⟩, q⟩
  | str z =>
    obtain ⟨t, rfl⟩ := rx
    exact P.repr_of_str ⟨.str _, H, I.tok _, ⟨_, rfl⟩, q⟩ hz
  | lst _ _ =>
    cases rx
    exact repr_of_reads' rd hs hsys hg (by omega) (fun _ _ e => e) (fun h' u tk hk => ⟨.str _, H, I.kept hk, ⟨_, rfl⟩, q⟩) hz
  | tup _ _ =>
    cases rx
    exact repr_of_reads' rd hs hsys hg (by omega) (fun _ _ e => e) (fun h' u tk hk => ⟨.str _, H, I.kept hk, ⟨_, rfl⟩, q⟩) hz

/-! ### the law -/
def rLaw (K : PySem.W.Frag) : V → Hp → VK → Prop := fun x H Q => ∃ (a : Addr) (ns : List Int), x = .ref a ∧ SqL K H a (ns.map V.int) ∧ ns.length ≤ 63 ∧ ∀ H' : Hp, Q (.bl true) H'
def fndD (R : Nat → Bool) (i : Nat) : List PyData := ((List.range i).filter R).map fun t => PyData.int (t : Nat)
theorem fnd_dp {K : PySem.W.Frag} {H : Hp} (R : Nat → Bool) (i : Nat) : DpAll K H (fnd R i) (fndD R i) := by
  unfold fnd fndD
  generalize (List.range i).filter R = ts
  induction ts with
  | nil => exact .nil
  | cons t r ih => exact .cons (.int _) ih
theorem fnd_ok (R : Nat → Bool) (i : Nat) : ∀ d ∈ fndD R i, okD d := fun d h => by
  unfold fndD at h
  obtain ⟨t, _, rfl⟩ := List.mem_map.mp h
  exact ⟨rfl, Nat.zero_le _⟩
/-- a value of a clock that is good, of so many layers -/
def GoodC (G : Hp) (n : Nat) (v : V) : Prop := ∃ ls : List LD, ClkV G v ls ∧ (∀ l ∈ ls, l.ok) ∧ ls.length ≤ n
theorem GoodC.mono {G G' : Hp} {n m : Nat} {v : V} (ts : TS G G') (h : n ≤ m) (g : GoodC G n v) : GoodC G' m v := by
  obtain ⟨ls, h1, h2, h3⟩ := g
  exact ⟨ls, h1.mono ts, h2, Nat.le_trans h3 h⟩
section
variable {P : Program} {w : World} {K : PySem.W.Frag} {mg : Str → Option Value} {base : Heap}
theorem ok_law (T : Tx K mg) : RootOk P w K mg base T.f_law T.fd_law ["_law_script"] (sp1 (rLaw K)) := by
  refine rootOk T.F_law sc_law (fun vs G R h => ?_) fun cd t H vs Q h => ?_
  · obtain ⟨_, rfl, _⟩ := h
    rfl
  obtain ⟨x, rfl, a, ns, rfl, hS, h63, q⟩ := h
  have hr : Room 20 (callerA.deeper (envOfC "law" (defScope s_law) t.heap.objs.size T.f_law cd)) := ⟨rfl, (by show 1 + claimMargin + 1 + 3 * 20 + 5 < recursionLimit; decide), (by show 4 + 3 + 16 * 20 + 200 < cLine; decide)⟩
  have hu70 : (7 : Nat) + 70 < cLine := by decide
  refine ⟨_, pss_cons (ps_set (i := 1) sc_law.nd rfl (Or.inl rfl) (pe_call (ok_begin T) (hr.mono (by decide)) rfl T.m_begin T.F_begin.kp T.b_begin .nil pass0 (pa_cons (pv 0) pa_nil)))
      (pss_cons (ps_set (i := 2) sc_law.nd rfl (Or.inl rfl) (pe_lst (pa_cons (pe_call (ok_beat_clock T) (hr.mono (by decide)) rfl T.m_beat_clock T.F_beat_clock.kp T.b_beat_clock .nil pass0 (pa_cons (pv 1) pa_nil)) pa_nil)))
      (pss_cons (ps_for PassesOwn.never rfl (pi_range1 rfl T.z_range (pa_cons pe_int pa_nil)) (pg_name (i := 3) sc_law.nd rfl (Or.inl rfl))
      (pss_cons (ps_set (i := 4) sc_law.nd rfl (Or.inl rfl) (pe_ix ix_list (pv 2) (pe_un un_neg pe_int) (fun _ _ => rfl)))
      (pss_cons (ps_for PassesOwn.never rfl (pi_range1 rfl T.z_range (pa_cons (pe_op op_mul (pv 3) (pe_op op_add pe_int (pe_call (ok_draw T) (hr.mono (by decide)) rfl T.m_draw T.F_draw.kp T.b_draw .nil pass0 (pa_cons (pv 1) (pa_cons pe_int pa_nil))))) pa_nil)) (pg_name (i := 5) sc_law.nd rfl (Or.inl rfl))
      (pss_one (ps_set (i := 4) sc_law.nd rfl (Or.inl rfl) (pe_call (ok_bent T) (hr.mono (by decide)) rfl T.m_bent T.F_bent.kp T.b_bent .nil pass0 (pa_cons (pv 1) (pa_cons (pv 4) pa_nil))))))
      (pss_cons (ps_for PassesOwn.never rfl (pi_range1 rfl T.z_range (pa_cons (pe_call (ok_draw T) (hr.mono (by decide)) rfl T.m_draw T.F_draw.kp T.b_draw .nil pass0 (pa_cons (pv 1) (pa_cons pe_int pa_nil))) pa_nil)) (pg_name (i := 5) sc_law.nd rfl (Or.inl rfl))
      (pss_one (ps_set (i := 4) sc_law.nd rfl (Or.inl rfl) (pe_call (ok_kept T) (hr.mono (by decide)) rfl T.m_kept T.F_kept.kp T.b_kept .nil pass0 (pa_cons (pv 1) (pa_cons (pv 4) pa_nil))))))
      (pss_one (ps_expr (pe_bm PySem.F.plainAttrs_list PySem.F.slot_list_append PySem.F.type_list_append mt_append (pv 2) (pa_cons (pv 4) pa_nil))))))))
      (pss_cons (ps_for PassesOwn.never rfl (pi_list (pv 2)) (pg_name (i := 4) sc_law.nd rfl (Or.inl rfl))
      (pss_one (ps_for PassesOwn.never rfl (pi_list (pv 2)) (pg_name (i := 6) sc_law.nd rfl (Or.inl rfl))
      (pss_cons (ps_set (i := 7) sc_law.nd rfl (Or.inl rfl) (pe_call (ok_beat_due T) (hr.mono (by decide)) rfl T.m_beat_due T.F_beat_due.kp T.b_beat_due .nil pass0 (pa_cons (pv 4) (pa_cons (pv 6) pa_nil))))
      (pss_cons (ps_if (pt_cmpR op_ne (pe_callB (call_repr rfl hu70) (by rfl) T.z_repr (by decide +kernel) (pa_cons (pe_call (ok_one_beat T) (hr.mono (by decide)) rfl T.m_one_beat T.F_one_beat.kp T.b_one_beat .nil pass0 (pa_cons (pv 4) (pa_cons (pv 6) pa_nil))) pa_nil)) (pe_callB (call_repr rfl hu70) (by rfl) T.z_repr (by decide +kernel) (pa_cons (pv 7) pa_nil)) (nomark _)) (pss_one (ps_ret pe_bl)) pss_nil)
      (pss_one (ps_if (pt_val (pv 7)) (pss_cons (ps_set (i := 8) sc_law.nd rfl (Or.inl rfl) (pe_call (ok_values T) (hr.mono (by decide)) rfl T.m_values T.F_values.kp T.b_values .nil pass0 (pa_cons (pv 1) (pa_cons (pe_lst (pa_cons (pv 4) (pa_cons (pv 6) pa_nil))) (pa_cons pe_int pa_nil)))))
      (pss_one (ps_if (pt_cmpR (op_neD hr.units) (pe_call (ok_ticks_of T) (hr.mono (by decide)) rfl T.m_ticks_of T.F_ticks_of.kp T.b_ticks_of .nil pass0 (pa_cons (pv 4) (pa_cons (pv 8) (pa_cons pe_int pa_nil)))) (pe_call (ok_ticks_of T) (hr.mono (by decide)) rfl T.m_ticks_of T.F_ticks_of.kp T.b_ticks_of .nil pass0 (pa_cons (pv 6) (pa_cons (pv 8) (pa_cons pe_int pa_nil)))) (nomark _)) (pss_one (ps_ret pe_bl)) pss_nil))) pss_nil)))))))
      (pss_one (ps_ret pe_bl))))), ?_⟩
  refine ⟨_, rfl, _, rfl, a, ns, rfl, hS, h63, fun d c H1 dr1 s1 => ?_⟩
  refine ⟨_, rfl, _, rfl, d, c, rfl, dr1, fun v0 l0 H2 c0 g0 n0 dr2 k2 => ⟨sl 1, fun L hL => ?_⟩⟩
  have Ld := dr2.dne hL
  have Lc := dr2.cne hL
  have hL0 : (upd H2 L (.lst [v0])) L = some (.lst [v0]) := upd_same
  have c0' : GoodC (upd H2 L (.lst [v0])) 6 v0 := ⟨l0, c0.mono (TS.new hL), g0, n0⟩
  have dr0 := dr2.new (o := .lst [v0]) hL
  generalize upd H2 L (.lst [v0]) = G0 at hL0 c0' dr0
  refine ⟨2, rfl, by decide, by decide, for_range (lo := 0) (n := (2 : Int).toNat) (fun i σ G => ∃ (v3 v4 v5 : Option V) (cs : List V) (v : V), σ = [some (.ref a), some (.ref d), some (.ref L), v3, v4, v5, none, none, none] ∧ Dr d c G ∧ G L = some (.lst (cs ++ [v])) ∧ cs.length = i ∧ ∀ v' ∈ cs ++ [v], GoodC G (6 + 8 * i) v')
    ⟨none, none, none, [], v0, rfl, dr0, hL0, rfl, fun v' h => by rw [List.mem_singleton.mp h]; exact c0'⟩ ?_ ?_⟩
  · rintro i σ G hi ⟨v3, v4, v5, cs, v, rfl, drG, hLG, hcl, hcs⟩
    have hi2 : i < 2 := hi
    refine ⟨_, rfl, _, rfl, L, _, _, v, rfl, rfl, SqL.of hLG, atI_last _ _, ?_⟩
    refine ⟨_, rfl, _, rfl, _, _, rfl, d, c, 2, rfl, rfl, drG, by decide, by decide, fun r G1 r0 r1 drG1 k1 => ?_⟩
    have ts1 : TS G G1 := TS.dr drG k1
    have hn : 0 ≤ (0 + (i : Int)) * (1 + r) ∧ (0 + (i : Int)) * (1 + r) ≤ 2 := by
      rcases (show i = 0 ∨ i = 1 by omega) with rfl | rfl
      · rw [show (0 : Int) + ((0 : Nat) : Int) = 0 from rfl, Int.zero_mul]
        omega
      · rw [show (0 : Int) + ((1 : Nat) : Int) = 1 from rfl, Int.one_mul]
        omega
    refine ⟨_, _, rfl, rfl, _, _, rfl, rfl, .inl ⟨by omega, by omega⟩, _, rfl, by omega, by omega, ?_⟩
    generalize hN : (0 + (i : Int)) * (1 + r) = N at hn
    refine for_range (lo := 0) (n := N.toNat) (fun j σ F => ∃ (v5 : Option V) (v' : V), σ = [some (.ref a), some (.ref d), some (.ref L), some (.int (0 + (i : Int))), some v', v5, none, none, none] ∧ Dr d c F ∧ TS G F ∧ F L = some (.lst (cs ++ [v])) ∧ GoodC F (6 + 8 * i + j) v')
      ⟨v5, v, rfl, drG1, ts1, k1 _ _ hLG Ld, (hcs v (by simp)).mono ts1 (Nat.le_refl _)⟩ ?_ ?_
    · rintro j σ F hj ⟨v5, v', rfl, drF, tsF, hLF, ls, ck, ok, nl⟩
      refine ⟨_, rfl, _, rfl, _, _, rfl, d, c, ls, rfl, drF, ck, ok, by omega, fun v'' ls' F' ck' ok' nl' dr' k' => ?_⟩
      exact ⟨_, v'', rfl, dr', tsF.trans (TS.dr drF k'), k' _ _ hLF Ld, ls', ck', ok', by omega⟩
    · rintro σ F ⟨v5, v', rfl, drF, tsF, hLF, gF⟩
      refine ⟨_, rfl, _, _, rfl, d, c, 6, rfl, rfl, drF, by decide, by decide, fun r2 F1 r20 r21 drF1 k21 => ⟨r2, rfl, by omega, by omega, ?_⟩⟩
      have ts21 : TS F F1 := TS.dr drF k21
      refine for_range (lo := 0) (n := r2.toNat) (fun j σ F => ∃ (v5 : Option V) (v' : V), σ = [some (.ref a), some (.ref d), some (.ref L), some (.int (0 + (i : Int))), some v', v5, none, none, none] ∧ Dr d c F ∧ TS G F ∧ F L = some (.lst (cs ++ [v])) ∧ GoodC F (6 + 8 * i + 2 + j) v')
        ⟨v5, v', rfl, drF1, tsF.trans ts21, k21 _ _ hLF Ld, gF.mono ts21 (by omega)⟩ ?_ ?_
      · rintro j σ F hj ⟨v5, v', rfl, drF, tsF, hLF, ls, ck, ok, nl⟩
        refine ⟨_, rfl, _, rfl, _, _, rfl, d, c, ls, rfl, drF, ck, ok, by omega, fun v'' ls' F' ck' ok' nl' dr' k' => ?_⟩
        exact ⟨_, v'', rfl, dr', tsF.trans (TS.dr drF k'), k' _ _ hLF Ld, ls', ck', ok', by omega⟩
      · rintro σ F ⟨v5, v', rfl, drF, tsF, hLF, gF⟩
        have tw : TS F (upd F L (.lst ((cs ++ [v]) ++ [v']))) := TS.wr hLF
        refine ⟨_, rfl, .inl ⟨rfl, _, SqL.of hLF⟩, _, rfl, L, _, _, rfl, rfl, hLF, small1000 (by rw [List.length_append, hcl]; simp only [List.length_singleton]; omega), some (.int (0 + (i : Int))), some v', v5, cs ++ [v], v', rfl, drF.else Ld Lc, upd_same, by rw [List.length_append, hcl]; rfl, fun u hu => ?_⟩
        rcases List.mem_append.mp hu with h | h
        · exact (hcs u h).mono (tsF.trans tw) (by omega)
        · rw [List.mem_singleton.mp h]
          exact gF.mono tw (by omega)
  rintro σ G ⟨v3, v4, v5, cs, v, rfl, drG, hLG, hcl, hcs⟩
  have hall : ∀ v' ∈ cs ++ [v], GoodC G 22 v' := hcs
  generalize cs ++ [v] = all at hLG hall
  -- each two of them
  refine ⟨_, rfl, L, rfl, ⟨_, SqL.of hLG⟩, for_list (K := K) (a := L) (xs := all) (fun i σ F => ∃ (v4 v6 v7 v8 : Option V), σ = [some (.ref a), some (.ref d), some (.ref L), v3, v4, v5, v6, v7, v8] ∧ Dr d c F ∧ TS G F ∧ F L = some (.lst all)) ⟨v4, none, none, none, rfl, drG, TS.refl _, hLG⟩ (fun i σ F _ ⟨_, _, _, _, _, _, _, e⟩ => SqL.of e) ?_ ?_⟩
  · rintro i x σ F hx ⟨v4, v6, v7, v8, rfl, drF, tsF, hLF⟩
    obtain ⟨ls, ck, ok, nl⟩ := hall x (List.mem_of_getElem? hx)
    refine ⟨_, rfl, L, rfl, ⟨_, SqL.of hLF⟩, for_list (K := K) (a := L) (xs := all) (fun j σ F => ∃ (v6 v7 v8 : Option V), σ = [some (.ref a), some (.ref d), some (.ref L), v3, some x, v5, v6, v7, v8] ∧ Dr d c F ∧ TS G F ∧ F L = some (.lst all)) ⟨v6, v7, v8, rfl, drF, tsF, hLF⟩ (fun i σ F _ ⟨_, _, _, _, _, _, e⟩ => SqL.of e) ?_ ?_⟩
    · rintro j y σ F hy ⟨v6, v7, v8, rfl, drF, tsF, hLF⟩
      obtain ⟨ls', ck', ok', nl'⟩ := hall y (List.mem_of_getElem? hy)
      refine ⟨_, rfl, _, rfl, _, _, rfl, ls, ls', ck.mono tsF, ck'.mono tsF, ok, ok', by omega, by omega, fun b F1 s1 hb => ?_⟩
      refine ⟨_, rfl, _, rfl, _, _, rfl, ls, ls', ck.mono (tsF.trans (TS.of s1)), ck'.mono (tsF.trans (TS.of s1)), ok, ok', by omega, by omega, fun b2 F2 s2 hb2 => ?_⟩
      have eb : b2 = b := by
        rw [Bool.eq_iff_iff, hb, hb2]
      subst eb
      have sz : (PyData.bool b2).shown.length ≤ sizeLine := by
        cases b2 <;> decide +kernel
      refine ⟨_, .bool b2, rfl, .bl b2, rfl, rfl, by show 0 ≤ 60; decide, sz, _, rfl, _, .bool b2, rfl, .bl b2, rfl, rfl, by show 0 ≤ 60; decide, sz, rfl, _, rfl, ?_⟩
      rw [decide_eq_true (show V.str (PyData.bool b2).shown = V.str (PyData.bool b2).shown from rfl)]
      refine iteF ⟨_, rfl, _, rfl, ?_⟩
      have drF2 := (drF.same s1).same s2
      have ts2 : TS G F2 := tsF.trans (TS.of (s1.trans s2))
      have hLF2 := (s1.trans s2) _ _ hLF
      cases b2 with
      | false => exact iteF ⟨_, _, _, rfl, drF2, ts2, hLF2⟩
      | true =>
        obtain ⟨eg, en⟩ := hb.mp rfl
        refine iteT ⟨_, rfl, _, rfl, _, rfl, sl 2, fun M hM => ⟨_, _, _, rfl, d, c, M, x, y, ls, ls', rfl, rfl, rfl, drF2.new hM, drF2.dne hM, upd_same, ck.mono (ts2.trans (TS.new hM)), ck'.mono (ts2.trans (TS.new hM)), ok, ok', by omega, by omega, fun Dv val F3 dr3 k3 hv => ?_⟩⟩
        have ts3 : TS G F3 := (ts2.trans (TS.new hM)).trans (TS.dr (drF2.new hM) k3)
        have hLF3 := k3 _ _ (same_new hM _ _ hLF2) Ld
        refine ⟨_, rfl, _, rfl, _, _, _, rfl, ls, Dv, val, ck.mono ts3, ok, by omega, rfl, rfl, (fun n w h => hv n w (List.mem_append_left _ h)), fun p1 F4 s4 hp1 => ?_⟩
        refine ⟨_, rfl, _, rfl, _, _, _, rfl, ls', Dv, val, ck'.mono (ts3.trans (TS.of s4)), ok', by omega, rfl, rfl, (fun n w h => (hv n w (List.mem_append_right _ h)).same s4), fun p2 F5 s5 hp2 => ?_⟩
        rw [← run_alike val ok ok' eg en] at hp2
        refine ⟨.list (fndD (rnB val (fun _ => true) ls) 12), .list (fndD (rnB val (fun _ => true) ls) 12), .lst (SqL.of (s5 _ _ hp1)) (fnd_dp _ _), .lst (SqL.of hp2) (fnd_dp _ _), shaped_list (fnd_ok _ _), shaped_list (fnd_ok _ _), _, rfl, ?_⟩
        have e : PyData.eqv (.list (fndD (rnB val (fun _ => true) ls) 12)) (.list (fndD (rnB val (fun _ => true) ls) 12)) = true := by
          show PyData.eqvAll _ _ = true
          exact (eqvAll_iff (plainAll_of _ (fnd_ok _ _)).1 (plainAll_of _ (fnd_ok _ _)).1).mpr rfl
        rw [e]
        exact iteF ⟨_, _, _, rfl, (dr3.same s4).same s5, ts3.trans (TS.of (s4.trans s5)), (s4.trans s5) _ _ hLF3⟩
    · rintro σ F ⟨v6, v7, v8, rfl, drF, tsF, hLF⟩
      exact ⟨_, _, _, _, rfl, drF, tsF, hLF⟩
  · rintro σ F _
    exact q F
end

/-! ### the head -/
def d_slowed : He.DefD := ⟨("_slowed", none), "_slowed", "_slowed", defArgs s_slowed, defBody s_slowed, defScope s_slowed, [], []⟩
def d_one_beat : He.DefD := ⟨("one_beat", none), "one_beat", "one_beat", defArgs s_one_beat, defBody s_one_beat, defScope s_one_beat, [], []⟩
def d_plain : He.DefD := ⟨("_plain", none), "_plain", "_plain", defArgs s_plain, defBody s_plain, defScope s_plain, [], []⟩
def d_begin : He.DefD := ⟨("_law_begin", none), "_law_begin", "_law_begin", defArgs s_begin, defBody s_begin, defScope s_begin, [], []⟩
def d_mixed : He.DefD := ⟨("_law_mixed", none), "_law_mixed", "_law_mixed", defArgs s_mixed, defBody s_mixed, defScope s_mixed, [], []⟩
def d_draw : He.DefD := ⟨("_law_draw", none), "_law_draw", "_law_draw", defArgs s_draw, defBody s_draw, defScope s_draw, [], []⟩
def d_draw_digit : He.DefD := ⟨("_law_draw_digit", none), "_law_draw_digit", "_law_draw_digit", defArgs s_draw_digit, defBody s_draw_digit, defScope s_draw_digit, [], []⟩
def d_pick : He.DefD := ⟨("_law_pick", none), "_law_pick", "_law_pick", defArgs s_pick, defBody s_pick, defScope s_pick, [], []⟩
def d_rate : He.DefD := ⟨("_law_rate", none), "_law_rate", "_law_rate", defArgs s_rate, defBody s_rate, defScope s_rate, [], []⟩
def d_is_layer : He.DefD := ⟨("_law_is_layer", none), "_law_is_layer", "_law_is_layer", defArgs s_is_layer, defBody s_is_layer, defScope s_is_layer, [], []⟩
def d_passed : He.DefD := ⟨("_law_passed", none), "_law_passed", "_law_passed", defArgs s_passed, defBody s_passed, defScope s_passed, [], []⟩
def d_product : He.DefD := ⟨("_law_product", none), "_law_product", "_law_product", defArgs s_product, defBody s_product, defScope s_product, [], []⟩
def d_rate_due : He.DefD := ⟨("_law_rate_due", none), "_law_rate_due", "_law_rate_due", defArgs s_rate_due, defBody s_rate_due, defScope s_rate_due, [], []⟩
def d_beat_clock : He.DefD := ⟨("_law_beat_clock", none), "_law_beat_clock", "_law_beat_clock", defArgs s_beat_clock, defBody s_beat_clock, defScope s_beat_clock, [], []⟩
def d_parted : He.DefD := ⟨("_law_parted", none), "_law_parted", "_law_parted", defArgs s_parted, defBody s_parted, defScope s_parted, [], []⟩
def d_kept : He.DefD := ⟨("_law_kept", none), "_law_kept", "_law_kept", defArgs s_kept, defBody s_kept, defScope s_kept, [], []⟩
def d_bent : He.DefD := ⟨("_law_bent", none), "_law_bent", "_law_bent", defArgs s_bent, defBody s_bent, defScope s_bent, [], []⟩
def d_gaps : He.DefD := ⟨("_law_gaps", none), "_law_gaps", "_law_gaps", defArgs s_gaps, defBody s_gaps, defScope s_gaps, [], []⟩
def d_beat_due : He.DefD := ⟨("_law_beat_due", none), "_law_beat_due", "_law_beat_due", defArgs s_beat_due, defBody s_beat_due, defScope s_beat_due, [], []⟩
def d_ticks_of : He.DefD := ⟨("_law_ticks_of", none), "_law_ticks_of", "_law_ticks_of", defArgs s_ticks_of, defBody s_ticks_of, defScope s_ticks_of, [], []⟩
def d_values : He.DefD := ⟨("_law_values", none), "_law_values", "_law_values", defArgs s_values, defBody s_values, defScope s_values, [], []⟩
def d_law : He.DefD := ⟨("law", none), "law", "law", defArgs s_law, defBody s_law, defScope s_law, [], []⟩
def fn : List He.DefD := [d_slowed, d_one_beat, d_plain, d_begin, d_mixed, d_draw, d_draw_digit, d_pick, d_rate, d_is_layer, d_passed, d_product, d_rate_due, d_beat_clock, d_parted, d_kept, d_bent, d_gaps, d_beat_due, d_ticks_of, d_values, d_law]
def fa : List He.Fa := [.glo "_slowed", .glo "one_beat", .glo "_plain", .glo "_law_begin", .glo "_law_mixed", .glo "_law_draw", .glo "_law_draw_digit", .glo "_law_pick", .glo "_law_rate", .glo "_law_is_layer", .glo "_law_passed", .glo "_law_product", .glo "_law_rate_due", .glo "_law_beat_clock", .glo "_law_parted", .glo "_law_kept", .glo "_law_bent", .glo "_law_gaps", .glo "_law_beat_due", .glo "_law_ticks_of", .glo "_law_values", .glo "law", .free "abs", .free "divmod", .free "int", .free "len", .free "min", .free "range", .free "repr", .free "tuple"]
def exB (K : PySem.W.Frag) : Bool := true
abbrev theRow : PySem.W.OpenRow := PySem.W.OpenLaw.row PySem.Challenge.rw_keepsgoing_k26_whole_one_beat
abbrev Seen : Type := He.AlD × Bool
def seenOf (K : PySem.W.Frag) : Seen := (He.obsD fa fn K, exB K)
def fragOf (g : Addr → Option Obj) : PySem.W.Frag := He.frG g (He.asD g 4)
def hookM : PySem.W.Hook where
  α := Seen
  obs := fun s => seenOf (fragOf s.heap.get?)
  val := fun _ => (He.valD fn, true)
  says := fun _ h => ∃ K : PySem.W.Frag, K.In h ∧ He.SaysD fa fn K ∧ exB K = true
  of := fun _ _ e => ⟨_, He.frG_in, congrArg (fun z : Seen => z.1) e, congrArg (fun z : Seen => z.2) e⟩
  keeps := fun _ _ _ ⟨K, h1, h2⟩ k => ⟨K, PySem.W.Frag.In.keeps h1 k, h2⟩
def obM (s : PySem.W.SharedT) : Seen := seenOf (fragOf (HandSHeadRun.getT s))
theorem obM_eq (s : PySem.W.SharedT) : obM s = hookM.obs s.abs := by
  have e : HandSHeadRun.getT s = s.abs.heap.get? := funext (HandSHeadRun.getT_eq s)
  unfold obM
  rw [e] <;> rfl
def others : List PySem.Str := ["_slowed", "one_beat", "_plain", "_law_begin", "_law_mixed", "_law_draw", "_law_draw_digit", "_law_pick", "_law_rate", "_law_is_layer", "_law_passed", "_law_product", "_law_rate_due", "_law_beat_clock", "_law_parted", "_law_kept", "_law_bent", "_law_gaps", "_law_beat_due", "_law_ticks_of", "_law_values"]
theorem runM (w : World) : HandSHeadRun.RunEq theRow (PySem.W.view theRow.prog [23]) hookM obM 3000 others w := by
  intro os
  kernel_rfl
theorem factsM {P : Program} {w : World} {K : PySem.W.Frag} {h : Heap} {mg : Str → Option Value} {f : Addr} (X : K.In h) (G : h.Ns mainGlobals mg) (hfa : mg ("law" : Str) = some (.ref f)) (c : He.SaysD fa fn K) (cex : exB K = true) :
    ∃ fd : FuncData, (∀ (s : Shared) (v : Value), BindsTo s fd ⟨[v], []⟩ [("_law_script", v)]) ∧ ∀ base : Heap, K.In base → base.Ns mainGlobals mg → RootOk P w K mg base f fd ["_law_script"] (sp1 (rLaw K)) := by
  obtain ⟨fd_slowed, F_slowed⟩ := c.def_ 0 (d := d_slowed) rfl
  obtain ⟨fd_one_beat, F_one_beat⟩ := c.def_ 1 (d := d_one_beat) rfl
  obtain ⟨fd_plain, F_plain⟩ := c.def_ 2 (d := d_plain) rfl
  obtain ⟨fd_begin, F_begin⟩ := c.def_ 3 (d := d_begin) rfl
  obtain ⟨fd_mixed, F_mixed⟩ := c.def_ 4 (d := d_mixed) rfl
  obtain ⟨fd_draw, F_draw⟩ := c.def_ 5 (d := d_draw) rfl
  obtain ⟨fd_draw_digit, F_draw_digit⟩ := c.def_ 6 (d := d_draw_digit) rfl
  obtain ⟨fd_pick, F_pick⟩ := c.def_ 7 (d := d_pick) rfl
  obtain ⟨fd_rate, F_rate⟩ := c.def_ 8 (d := d_rate) rfl
  obtain ⟨fd_is_layer, F_is_layer⟩ := c.def_ 9 (d := d_is_layer) rfl
  obtain ⟨fd_passed, F_passed⟩ := c.def_ 10 (d := d_passed) rfl
  obtain ⟨fd_product, F_product⟩ := c.def_ 11 (d := d_product) rfl
  obtain ⟨fd_rate_due, F_rate_due⟩ := c.def_ 12 (d := d_rate_due) rfl
  obtain ⟨fd_beat_clock, F_beat_clock⟩ := c.def_ 13 (d := d_beat_clock) rfl
  obtain ⟨fd_parted, F_parted⟩ := c.def_ 14 (d := d_parted) rfl
  obtain ⟨fd_kept, F_kept⟩ := c.def_ 15 (d := d_kept) rfl
  obtain ⟨fd_bent, F_bent⟩ := c.def_ 16 (d := d_bent) rfl
  obtain ⟨fd_gaps, F_gaps⟩ := c.def_ 17 (d := d_gaps) rfl
  obtain ⟨fd_beat_due, F_beat_due⟩ := c.def_ 18 (d := d_beat_due) rfl
  obtain ⟨fd_ticks_of, F_ticks_of⟩ := c.def_ 19 (d := d_ticks_of) rfl
  obtain ⟨fd_values, F_values⟩ := c.def_ 20 (d := d_values) rfl
  obtain ⟨fd_law, F_law⟩ := c.def_ 21 (d := d_law) rfl
  have T : Tx K mg := {
    f_slowed := _, fd_slowed := fd_slowed, F_slowed := F_slowed, m_slowed := He.glo_ok X G (c.fact 0 (f := .glo "_slowed") rfl), b_slowed := F_slowed.bindsN fun _ _ _ _ _ _ us hl => match us, hl with | [_, _, _], _ => rfl
    f_one_beat := _, fd_one_beat := fd_one_beat, F_one_beat := F_one_beat, m_one_beat := He.glo_ok X G (c.fact 1 (f := .glo "one_beat") rfl), b_one_beat := F_one_beat.bindsN fun _ _ _ _ _ _ us hl => match us, hl with | [_, _], _ => rfl
    f_plain := _, fd_plain := fd_plain, F_plain := F_plain, m_plain := He.glo_ok X G (c.fact 2 (f := .glo "_plain") rfl), b_plain := F_plain.bindsN fun _ _ _ _ _ _ us hl => match us, hl with | [_], _ => rfl
    f_begin := _, fd_begin := fd_begin, F_begin := F_begin, m_begin := He.glo_ok X G (c.fact 3 (f := .glo "_law_begin") rfl), b_begin := F_begin.bindsN fun _ _ _ _ _ _ us hl => match us, hl with | [_], _ => rfl
    f_mixed := _, fd_mixed := fd_mixed, F_mixed := F_mixed, m_mixed := He.glo_ok X G (c.fact 4 (f := .glo "_law_mixed") rfl), b_mixed := F_mixed.bindsN fun _ _ _ _ _ _ us hl => match us, hl with | [_, _], _ => rfl
    f_draw := _, fd_draw := fd_draw, F_draw := F_draw, m_draw := He.glo_ok X G (c.fact 5 (f := .glo "_law_draw") rfl), b_draw := F_draw.bindsN fun _ _ _ _ _ _ us hl => match us, hl with | [_, _], _ => rfl
    f_draw_digit := _, fd_draw_digit := fd_draw_digit, F_draw_digit := F_draw_digit, m_draw_digit := He.glo_ok X G (c.fact 6 (f := .glo "_law_draw_digit") rfl), b_draw_digit := F_draw_digit.bindsN fun _ _ _ _ _ _ us hl => match us, hl with | [_, _], _ => rfl
    f_pick := _, fd_pick := fd_pick, F_pick := F_pick, m_pick := He.glo_ok X G (c.fact 7 (f := .glo "_law_pick") rfl), b_pick := F_pick.bindsN fun _ _ _ _ _ _ us hl => match us, hl with | [_, _], _ => rfl
    f_rate := _, fd_rate := fd_rate, F_rate := F_rate, m_rate := He.glo_ok X G (c.fact 8 (f := .glo "_law_rate") rfl), b_rate := F_rate.bindsN fun _ _ _ _ _ _ us hl => match us, hl with | [_, _], _ => rfl
    f_is_layer := _, fd_is_layer := fd_is_layer, F_is_layer := F_is_layer, m_is_layer := He.glo_ok X G (c.fact 9 (f := .glo "_law_is_layer") rfl), b_is_layer := F_is_layer.bindsN fun _ _ _ _ _ _ us hl => match us, hl with | [_], _ => rfl
    f_passed := _, fd_passed := fd_passed, F_passed := F_passed, m_passed := He.glo_ok X G (c.fact 10 (f := .glo "_law_passed") rfl), b_passed := F_passed.bindsN fun _ _ _ _ _ _ us hl => match us, hl with | [_, _], _ => rfl
    f_product := _, fd_product := fd_product, F_product := F_product, m_product := He.glo_ok X G (c.fact 11 (f := .glo "_law_product") rfl), b_product := F_product.bindsN fun _ _ _ _ _ _ us hl => match us, hl with | [_], _ => rfl
    f_rate_due := _, fd_rate_due := fd_rate_due, F_rate_due := F_rate_due, m_rate_due := He.glo_ok X G (c.fact 12 (f := .glo "_law_rate_due") rfl), b_rate_due := F_rate_due.bindsN fun _ _ _ _ _ _ us hl => match us, hl with | [_], _ => rfl
    f_beat_clock := _, fd_beat_clock := fd_beat_clock, F_beat_clock := F_beat_clock, m_beat_clock := He.glo_ok X G (c.fact 13 (f := .glo "_law_beat_clock") rfl), b_beat_clock := F_beat_clock.bindsN fun _ _ _ _ _ _ us hl => match us, hl with | [_], _ => rfl
    f_parted := _, fd_parted := fd_parted, F_parted := F_parted, m_parted := He.glo_ok X G (c.fact 14 (f := .glo "_law_parted") rfl), b_parted := F_parted.bindsN fun _ _ _ _ _ _ us hl => match us, hl with | [_, _], _ => rfl
    f_kept := _, fd_kept := fd_kept, F_kept := F_kept, m_kept := He.glo_ok X G (c.fact 15 (f := .glo "_law_kept") rfl), b_kept := F_kept.bindsN fun _ _ _ _ _ _ us hl => match us, hl with | [_, _], _ => rfl
    f_bent := _, fd_bent := fd_bent, F_bent := F_bent, m_bent := He.glo_ok X G (c.fact 16 (f := .glo "_law_bent") rfl), b_bent := F_bent.bindsN fun _ _ _ _ _ _ us hl => match us, hl with | [_, _], _ => rfl
    f_gaps := _, fd_gaps := fd_gaps, F_gaps := F_gaps, m_gaps := He.glo_ok X G (c.fact 17 (f := .glo "_law_gaps") rfl), b_gaps := F_gaps.bindsN fun _ _ _ _ _ _ us hl => match us, hl with | [_], _ => rfl
    f_beat_due := _, fd_beat_due := fd_beat_due, F_beat_due := F_beat_due, m_beat_due := He.glo_ok X G (c.fact 18 (f := .glo "_law_beat_due") rfl), b_beat_due := F_beat_due.bindsN fun _ _ _ _ _ _ us hl => match us, hl with | [_, _], _ => rfl
    f_ticks_of := _, fd_ticks_of := fd_ticks_of, F_ticks_of := F_ticks_of, m_ticks_of := He.glo_ok X G (c.fact 19 (f := .glo "_law_ticks_of") rfl), b_ticks_of := F_ticks_of.bindsN fun _ _ _ _ _ _ us hl => match us, hl with | [_, _, _], _ => rfl
    f_values := _, fd_values := fd_values, F_values := F_values, m_values := He.glo_ok X G (c.fact 20 (f := .glo "_law_values") rfl), b_values := F_values.bindsN fun _ _ _ _ _ _ us hl => match us, hl with | [_, _, _], _ => rfl
    f_law := _, fd_law := fd_law, F_law := F_law, m_law := He.glo_ok X G (c.fact 21 (f := .glo "law") rfl), b_law := F_law.bindsN fun _ _ _ _ _ _ us hl => match us, hl with | [_], _ => rfl
    z_abs := He.free_ok X G (c.fact 22 (f := .free "abs") rfl)
    z_divmod := He.free_ok X G (c.fact 23 (f := .free "divmod") rfl)
    z_int := He.free_ok X G (c.fact 24 (f := .free "int") rfl)
    z_len := He.free_ok X G (c.fact 25 (f := .free "len") rfl)
    z_min := He.free_ok X G (c.fact 26 (f := .free "min") rfl)
    z_range := He.free_ok X G (c.fact 27 (f := .free "range") rfl)
    z_repr := He.free_ok X G (c.fact 28 (f := .free "repr") rfl)
    z_tuple := He.free_ok X G (c.fact 29 (f := .free "tuple") rfl)
  }
  have e := hfa.symm.trans T.m_law
  cases e
  have b := FunD.bindsA (ps := ["_law_script"]) T.F_law fun _ _ _ _ _ _ us hl => match us, hl with | [_], _ => rfl
  exact ⟨T.fd_law, fun s v => b s [v] rfl, fun base _ _ => ok_law T⟩
end My
open PySem PySem.W PySem.Calls PyProof.Rows
set_option maxRecDepth 100000 in
set_option maxHeartbeats 0 in
theorem PySem.Challenge.cw_keepsgoing_k26_whole_one_beat_holds : PySem.Challenge.rw_keepsgoing_k26_whole_one_beat.Holds := by
  w_on; o_law
  refine HandSHeadRun.head_any (r := My.theRow) (q := view My.theRow.prog [23]) (H := My.hookM) (ob := My.obM) (M := 3000) (loose := My.others) (d := HandSHeadRun.topDef My.theRow.prog 23) (kwd := []) My.obM_eq
    (by kernel_rfl) (fun s => by kernel_rfl) My.runM (by kernel_rfl) (by kernel_rfl) (by kernel_rfl) (by rfl) (by first | assumption | decide +kernel) (by decide +kernel) ⟨rfl, rfl, rfl, rfl, rfl, by decide +kernel⟩ ?hw ?hc
  case hw => w_witness2
  case hc =>
    refine My.root_walk (l := PySem.Challenge.rw_keepsgoing_k26_whole_one_beat) (n := 63) (x := "_law_script") rfl (by decide) (by kernel_rfl) ?F
    intro w mg fa h Y G hmg0
    obtain ⟨K, KX, c, cx⟩ := Y
    have hmg : mg ("law" : PySem.Str) = some (.ref fa) := by
      have e : (HandSHeadRun.topDef My.theRow.prog 23).name = ("law" : PySem.Str) := by kernel_rfl
      rw [← e]
      exact hmg0
    obtain ⟨fd, hb, hF⟩ := My.factsM (P := My.theRow.prog) (w := w) KX G hmg c cx
    exact ⟨K, fd, My.sp1 (My.rLaw K), KX, hb, fun H a ns hl _ hS => ⟨_, rfl, a, ns, rfl, hS, hl, fun _ => rfl⟩, hF⟩

