import PyProof.Rows.All
import Wide.All
import OpenK.AllK
import Wide.FinOn
import KE.KStateDown
import HandS.ForMost
import HandS.Walk
import HandS.IsInst
import HandS.TupAny
import HandS.Style
import HandS.More
import HandS.Codes
import HandS.Defaults
import HandS.WordsExc
import HandS.Head0
import HandS.Head1
import HandS.Head2
import HandS.HeadEnd
import HandS.HeadHook1
import HandS.HeadHook2
import HandS.HeadHook3
import HandS.Deep
import HandS.Strs
import HandS.Star
import HandS.CallLocal
import HandS.NoneIn
import HandS.Conv
import HandS.RevRange
import HandS.TupLe
import HandS.Flow
import PySem.Challenge.RW_keepsgoing_k66_dear_ways
set_option Elab.async false
set_option linter.all false
set_option maxRecDepth 100000
set_option maxHeartbeats 0
namespace My
open PySem PySem.Spec PyProof.Rows L2
/-! ### the text -/
def topS (i : Nat) : Stmt := PySem.Challenge.pw_keepsgoing_k66_dear_ways.main.body.getD i (.Pass ⟨0, 0, 0, 0⟩)
abbrev s_dear_way : Stmt := topS 1
abbrev s_passed_by : Stmt := topS 2
abbrev s_counts : Stmt := topS 3
abbrev s_begin : Stmt := topS 5
abbrev s_mixed : Stmt := topS 6
abbrev s_draw : Stmt := topS 7
abbrev s_draw_digit : Stmt := topS 8
abbrev s_pick : Stmt := topS 9
abbrev s_rare : Stmt := topS 10
abbrev s_num : Stmt := topS 11
abbrev s_told_so : Stmt := topS 12
abbrev s_whole : Stmt := topS 13
abbrev s_per : Stmt := topS 14
abbrev s_step_num : Stmt := topS 15
abbrev s_hop : Stmt := topS 16
abbrev s_remark : Stmt := topS 17
abbrev s_do_step : Stmt := topS 18
abbrev s_plain_step : Stmt := topS 19
abbrev s_some_code : Stmt := topS 20
abbrev s_diamonds : Stmt := topS 21
abbrev s_branchy : Stmt := topS 22
abbrev s_follows : Stmt := topS 23
abbrev s_dear : Stmt := topS 24
abbrev s_law : Stmt := topS 25
theorem sc_dear_way : FnScope ["code", "counts", "way", "at", "near", "far", "goes_far"] ["code"] (defScope s_dear_way) := ⟨rfl, rfl, rfl, by decide +kernel, rfl, by decide +kernel, by decide +kernel⟩
theorem sc_passed_by : FnScope ["step"] ["step"] (defScope s_passed_by) := ⟨rfl, rfl, rfl, by decide +kernel, rfl, by decide +kernel, by decide +kernel⟩
theorem sc_counts : FnScope ["code", "first", "end", "told", "counts", "at", "step", "near", "far"] ["code", "first", "end", "told"] (defScope s_counts) := ⟨rfl, rfl, rfl, by decide +kernel, rfl, by decide +kernel, by decide +kernel⟩
theorem sc_begin : FnScope ["script", "cell"] ["script"] (defScope s_begin) := ⟨rfl, rfl, rfl, by decide +kernel, rfl, by decide +kernel, by decide +kernel⟩
theorem sc_mixed : FnScope ["d", "cell"] ["d", "cell"] (defScope s_mixed) := ⟨rfl, rfl, rfl, by decide +kernel, rfl, by decide +kernel, by decide +kernel⟩
theorem sc_draw : FnScope ["d", "many", "cell"] ["d", "many"] (defScope s_draw) := ⟨rfl, rfl, rfl, by decide +kernel, rfl, by decide +kernel, by decide +kernel⟩
theorem sc_draw_digit : FnScope ["d", "many", "pair"] ["d", "many"] (defScope s_draw_digit) := ⟨rfl, rfl, rfl, by decide +kernel, rfl, by decide +kernel, by decide +kernel⟩
theorem sc_pick : FnScope ["d", "row"] ["d", "row"] (defScope s_pick) := ⟨rfl, rfl, rfl, by decide +kernel, rfl, by decide +kernel, by decide +kernel⟩
theorem sc_rare : FnScope ["d", "many", "amid"] ["d", "many"] (defScope s_rare) := ⟨rfl, rfl, rfl, by decide +kernel, rfl, by decide +kernel, by decide +kernel⟩
theorem sc_num : FnScope ["d", "most", "many", "low", "per"] ["d", "most"] (defScope s_num) := ⟨rfl, rfl, rfl, by decide +kernel, rfl, by decide +kernel, by decide +kernel⟩
theorem sc_told_so : FnScope ["one", "due", "k"] ["one", "due"] (defScope s_told_so) := ⟨rfl, rfl, rfl, by decide +kernel, rfl, by decide +kernel, by decide +kernel⟩
theorem sc_whole : FnScope ["d", "way"] ["d"] (defScope s_whole) := ⟨rfl, rfl, rfl, by decide +kernel, rfl, by decide +kernel, by decide +kernel⟩
theorem sc_per : FnScope ["d"] ["d"] (defScope s_per) := ⟨rfl, rfl, rfl, by decide +kernel, rfl, by decide +kernel, by decide +kernel⟩
theorem sc_step_num : FnScope ["d", "way", "how", "low"] ["d"] (defScope s_step_num) := ⟨rfl, rfl, rfl, by decide +kernel, rfl, by decide +kernel, by decide +kernel⟩
theorem sc_hop : FnScope ["d", "behind"] ["d", "behind"] (defScope s_hop) := ⟨rfl, rfl, rfl, by decide +kernel, rfl, by decide +kernel, by decide +kernel⟩
theorem sc_remark : FnScope ["d"] ["d"] (defScope s_remark) := ⟨rfl, rfl, rfl, by decide +kernel, rfl, by decide +kernel, by decide +kernel⟩
theorem sc_do_step : FnScope ["d", "many", "op", "cells", "step", "kind"] ["d", "many"] (defScope s_do_step) := ⟨rfl, rfl, rfl, by decide +kernel, rfl, by decide +kernel, by decide +kernel⟩
theorem sc_plain_step : FnScope ["d", "many", "way", "cell", "other", "size", "base"] ["d", "many"] (defScope s_plain_step) := ⟨rfl, rfl, rfl, by decide +kernel, rfl, by decide +kernel, by decide +kernel⟩
theorem sc_some_code : FnScope ["d", "size", "many", "code", "at", "way", "behind"] ["d", "size", "many"] (defScope s_some_code) := ⟨rfl, rfl, rfl, by decide +kernel, rfl, by decide +kernel, by decide +kernel⟩
theorem sc_diamonds : FnScope ["d", "blocks", "code", "block", "sides", "step"] ["d", "blocks"] (defScope s_diamonds) := ⟨rfl, rfl, rfl, by decide +kernel, rfl, by decide +kernel, by decide +kernel⟩
theorem sc_branchy : FnScope ["d", "size"] ["d", "size"] (defScope s_branchy) := ⟨rfl, rfl, rfl, by decide +kernel, rfl, by decide +kernel, by decide +kernel⟩
theorem sc_follows : FnScope ["code", "at", "known", "step"] ["code", "at", "known"] (defScope s_follows) := ⟨rfl, rfl, rfl, by decide +kernel, rfl, by decide +kernel, by decide +kernel⟩
theorem sc_dear : FnScope ["code", "found", "back", "at", "best", "to", "way", "step"] ["code"] (defScope s_dear) := ⟨rfl, rfl, rfl, by decide +kernel, rfl, by decide +kernel, by decide +kernel⟩
theorem sc_law : FnScope ["script", "d", "size", "first", "second", "code"] ["script"] (defScope s_law) := ⟨rfl, rfl, rfl, by decide +kernel, rfl, by decide +kernel, by decide +kernel⟩
abbrev FnP (K : PySem.W.Frag) (x : Str) (st : Stmt) (f : Addr) (fd : FuncData) : Prop := FunD K x x (defArgs st) (defBody st) (defScope st) [] [] f fd
structure Tx (K : PySem.W.Frag) (mg : Str → Option Value) (w : World) where
  f_dear_way : Addr
  fd_dear_way : FuncData
  F_dear_way : FnP K "dear_way" s_dear_way f_dear_way fd_dear_way
  m_dear_way : mg "dear_way" = some (.ref f_dear_way)
  b_dear_way : Binds K fd_dear_way ["code"] []
  f_passed_by : Addr
  fd_passed_by : FuncData
  F_passed_by : FnP K "passed_by" s_passed_by f_passed_by fd_passed_by
  m_passed_by : mg "passed_by" = some (.ref f_passed_by)
  b_passed_by : Binds K fd_passed_by ["step"] []
  f_counts : Addr
  fd_counts : FuncData
  F_counts : FnP K "_counts" s_counts f_counts fd_counts
  m_counts : mg "_counts" = some (.ref f_counts)
  b_counts : Binds K fd_counts ["code", "first", "end", "told"] []
  f_begin : Addr
  fd_begin : FuncData
  F_begin : FnP K "_law_begin" s_begin f_begin fd_begin
  m_begin : mg "_law_begin" = some (.ref f_begin)
  b_begin : Binds K fd_begin ["script"] []
  f_mixed : Addr
  fd_mixed : FuncData
  F_mixed : FnP K "_law_mixed" s_mixed f_mixed fd_mixed
  m_mixed : mg "_law_mixed" = some (.ref f_mixed)
  b_mixed : Binds K fd_mixed ["d", "cell"] []
  f_draw : Addr
  fd_draw : FuncData
  F_draw : FnP K "_law_draw" s_draw f_draw fd_draw
  m_draw : mg "_law_draw" = some (.ref f_draw)
  b_draw : Binds K fd_draw ["d", "many"] []
  f_draw_digit : Addr
  fd_draw_digit : FuncData
  F_draw_digit : FnP K "_law_draw_digit" s_draw_digit f_draw_digit fd_draw_digit
  m_draw_digit : mg "_law_draw_digit" = some (.ref f_draw_digit)
  b_draw_digit : Binds K fd_draw_digit ["d", "many"] []
  f_pick : Addr
  fd_pick : FuncData
  F_pick : FnP K "_law_pick" s_pick f_pick fd_pick
  m_pick : mg "_law_pick" = some (.ref f_pick)
  b_pick : Binds K fd_pick ["d", "row"] []
  f_rare : Addr
  fd_rare : FuncData
  F_rare : FnP K "_law_rare" s_rare f_rare fd_rare
  m_rare : mg "_law_rare" = some (.ref f_rare)
  b_rare : Binds K fd_rare ["d", "many"] []
  f_num : Addr
  fd_num : FuncData
  F_num : FnP K "_law_num" s_num f_num fd_num
  m_num : mg "_law_num" = some (.ref f_num)
  b_num : Binds K fd_num ["d", "most"] []
  f_told_so : Addr
  fd_told_so : FuncData
  F_told_so : FnP K "_law_told_so" s_told_so f_told_so fd_told_so
  m_told_so : mg "_law_told_so" = some (.ref f_told_so)
  b_told_so : Binds K fd_told_so ["one", "due"] []
  f_whole : Addr
  fd_whole : FuncData
  F_whole : FnP K "_law_whole" s_whole f_whole fd_whole
  m_whole : mg "_law_whole" = some (.ref f_whole)
  b_whole : Binds K fd_whole ["d"] []
  f_per : Addr
  fd_per : FuncData
  F_per : FnP K "_law_per" s_per f_per fd_per
  m_per : mg "_law_per" = some (.ref f_per)
  b_per : Binds K fd_per ["d"] []
  f_step_num : Addr
  fd_step_num : FuncData
  F_step_num : FnP K "_law_step_num" s_step_num f_step_num fd_step_num
  m_step_num : mg "_law_step_num" = some (.ref f_step_num)
  b_step_num : Binds K fd_step_num ["d"] []
  f_hop : Addr
  fd_hop : FuncData
  F_hop : FnP K "_law_hop" s_hop f_hop fd_hop
  m_hop : mg "_law_hop" = some (.ref f_hop)
  b_hop : Binds K fd_hop ["d", "behind"] []
  f_remark : Addr
  fd_remark : FuncData
  F_remark : FnP K "_law_remark" s_remark f_remark fd_remark
  m_remark : mg "_law_remark" = some (.ref f_remark)
  b_remark : Binds K fd_remark ["d"] []
  f_do_step : Addr
  fd_do_step : FuncData
  F_do_step : FnP K "_law_do_step" s_do_step f_do_step fd_do_step
  m_do_step : mg "_law_do_step" = some (.ref f_do_step)
  b_do_step : Binds K fd_do_step ["d", "many"] []
  f_plain_step : Addr
  fd_plain_step : FuncData
  F_plain_step : FnP K "_law_plain_step" s_plain_step f_plain_step fd_plain_step
  m_plain_step : mg "_law_plain_step" = some (.ref f_plain_step)
  b_plain_step : Binds K fd_plain_step ["d", "many"] []
  f_some_code : Addr
  fd_some_code : FuncData
  F_some_code : FnP K "_law_some_code" s_some_code f_some_code fd_some_code
  m_some_code : mg "_law_some_code" = some (.ref f_some_code)
  b_some_code : Binds K fd_some_code ["d", "size", "many"] []
  f_diamonds : Addr
  fd_diamonds : FuncData
  F_diamonds : FnP K "_law_diamonds" s_diamonds f_diamonds fd_diamonds
  m_diamonds : mg "_law_diamonds" = some (.ref f_diamonds)
  b_diamonds : Binds K fd_diamonds ["d", "blocks"] []
  f_branchy : Addr
  fd_branchy : FuncData
  F_branchy : FnP K "_law_branchy" s_branchy f_branchy fd_branchy
  m_branchy : mg "_law_branchy" = some (.ref f_branchy)
  b_branchy : Binds K fd_branchy ["d", "size"] []
  f_follows : Addr
  fd_follows : FuncData
  F_follows : FnP K "_law_follows" s_follows f_follows fd_follows
  m_follows : mg "_law_follows" = some (.ref f_follows)
  b_follows : Binds K fd_follows ["code", "at", "known"] []
  f_dear : Addr
  fd_dear : FuncData
  F_dear : FnP K "_law_dear" s_dear f_dear fd_dear
  m_dear : mg "_law_dear" = some (.ref f_dear)
  b_dear : Binds K fd_dear ["code"] []
  f_law : Addr
  fd_law : FuncData
  F_law : FnP K "law" s_law f_law fd_law
  m_law : mg "law" = some (.ref f_law)
  b_law : Binds K fd_law ["script"] []
  z_abs : mg "abs" = none
  z_bool : mg "bool" = none
  z_divmod : mg "divmod" = none
  z_int : mg "int" = none
  z_isinstance : mg "isinstance" = none
  z_len : mg "len" = none
  z_max : mg "max" = none
  z_min : mg "min" = none
  z_range : mg "range" = none
  z_reversed : mg "reversed" = none
  z_tuple : mg "tuple" = none



/-! ### promises of defs with so many arguments -/
def sp0 (R : Hp → VK → Prop) : Sp := fun vs H Q _ => vs = [] ∧ R H Q
def sp1 (R : V → Hp → VK → Prop) : Sp := fun vs H Q _ => ∃ x, vs = [x] ∧ R x H Q
def sp2 (R : V → V → Hp → VK → Prop) : Sp := fun vs H Q _ => ∃ x y, vs = [x, y] ∧ R x y H Q
def sp3 (R : V → V → V → Hp → VK → Prop) : Sp := fun vs H Q _ => ∃ x y z, vs = [x, y, z] ∧ R x y z H Q
section
variable {P : Program} {w : World} {K : PySem.W.Frag} {mg : Str → Option Value} {base : Heap} {x : Str} {st : Stmt} {f : Addr} {fd : FuncData} {N ps : List Str} {k : Nat} {dvs : List V} {kws : List (Str × V)}
theorem okR {sp : Sp} (F : FunD K x x (defArgs st) (defBody st) (defScope st) dvs kws f fd) (S : FnScope N ps (defScope st)) (len : ∀ vs H Q E, sp vs H Q E → vs.length = ps.length)
    (body : ∀ (cdv : Value) (A : Around) (outer : List Env) (s : Shared) (H : Hp) (vs : List V) (Q : VK) (E : XK), Room k (A.deeper (envOfC x (defScope st) s.heap.objs.size f cdv)) → sp vs H Q E →
      ∃ t, PSs (cxOf CX0 P w K mg base N x (defScope st) f cdv A outer s H E).nox (defBody st) t ∧ t { nx := fun _ H' => Q .non H', rt := Q } (start N vs) H) : FnOk P w K mg base CX0 (k + 1) f fd ps sp := by
  refine F.ok S len fun cdv A outer s H vs Q E hr h => ?_
  obtain ⟨t, h1, h2⟩ := body cdv A outer s H vs Q E hr h
  exact ⟨t, h1.nox, h2⟩
theorem okR0 {R : Hp → VK → Prop} (F : FunD K x x (defArgs st) (defBody st) (defScope st) dvs kws f fd) (S : FnScope N ps (defScope st)) (hl : ps.length = 0)
    (body : ∀ (cdv : Value) (A : Around) (outer : List Env) (s : Shared) (H : Hp) (Q : VK) (E : XK), Room k (A.deeper (envOfC x (defScope st) s.heap.objs.size f cdv)) → R H Q →
      ∃ t, PSs (cxOf CX0 P w K mg base N x (defScope st) f cdv A outer s H E).nox (defBody st) t ∧ t { nx := fun _ H' => Q .non H', rt := Q } (start N []) H) : FnOk P w K mg base CX0 (k + 1) f fd ps (sp0 R) := by
  refine okR F S (fun vs H Q E h => ?_) fun cdv A outer s H vs Q E hr h => ?_
  · obtain ⟨rfl, _⟩ := h
    exact hl.symm
  · obtain ⟨rfl, h⟩ := h
    exact body cdv A outer s H Q E hr h
theorem okR1 {R : V → Hp → VK → Prop} (F : FunD K x x (defArgs st) (defBody st) (defScope st) dvs kws f fd) (S : FnScope N ps (defScope st)) (hl : ps.length = 1)
    (body : ∀ (cdv : Value) (A : Around) (outer : List Env) (s : Shared) (H : Hp) (Q : VK) (E : XK) (a : V), Room k (A.deeper (envOfC x (defScope st) s.heap.objs.size f cdv)) → R a H Q →
      ∃ t, PSs (cxOf CX0 P w K mg base N x (defScope st) f cdv A outer s H E).nox (defBody st) t ∧ t { nx := fun _ H' => Q .non H', rt := Q } (start N [a]) H) : FnOk P w K mg base CX0 (k + 1) f fd ps (sp1 R) := by
  refine okR F S (fun vs H Q E h => ?_) fun cdv A outer s H vs Q E hr h => ?_
  · obtain ⟨_, rfl, _⟩ := h
    exact hl.symm
  · obtain ⟨a, rfl, h⟩ := h
    exact body cdv A outer s H Q E a hr h
theorem okR2 {R : V → V → Hp → VK → Prop} (F : FunD K x x (defArgs st) (defBody st) (defScope st) dvs kws f fd) (S : FnScope N ps (defScope st)) (hl : ps.length = 2)
    (body : ∀ (cdv : Value) (A : Around) (outer : List Env) (s : Shared) (H : Hp) (Q : VK) (E : XK) (a b : V), Room k (A.deeper (envOfC x (defScope st) s.heap.objs.size f cdv)) → R a b H Q →
      ∃ t, PSs (cxOf CX0 P w K mg base N x (defScope st) f cdv A outer s H E).nox (defBody st) t ∧ t { nx := fun _ H' => Q .non H', rt := Q } (start N [a, b]) H) : FnOk P w K mg base CX0 (k + 1) f fd ps (sp2 R) := by
  refine okR F S (fun vs H Q E h => ?_) fun cdv A outer s H vs Q E hr h => ?_
  · obtain ⟨_, _, rfl, _⟩ := h
    exact hl.symm
  · obtain ⟨a, b, rfl, h⟩ := h
    exact body cdv A outer s H Q E a b hr h
theorem okR3 {R : V → V → V → Hp → VK → Prop} (F : FunD K x x (defArgs st) (defBody st) (defScope st) dvs kws f fd) (S : FnScope N ps (defScope st)) (hl : ps.length = 3)
    (body : ∀ (cdv : Value) (A : Around) (outer : List Env) (s : Shared) (H : Hp) (Q : VK) (E : XK) (a b c : V), Room k (A.deeper (envOfC x (defScope st) s.heap.objs.size f cdv)) → R a b c H Q →
      ∃ t, PSs (cxOf CX0 P w K mg base N x (defScope st) f cdv A outer s H E).nox (defBody st) t ∧ t { nx := fun _ H' => Q .non H', rt := Q } (start N [a, b, c]) H) : FnOk P w K mg base CX0 (k + 1) f fd ps (sp3 R) := by
  refine okR F S (fun vs H Q E h => ?_) fun cdv A outer s H vs Q E hr h => ?_
  · obtain ⟨_, _, _, rfl, _⟩ := h
    exact hl.symm
  · obtain ⟨a, b, c, rfl, h⟩ := h
    exact body cdv A outer s H Q E a b c hr h
end
/-! ### heaps: all but the object at d stays -/
def Keep (d : Addr) (H H' : Hp) : Prop := ∀ b o, H b = some o → b ≠ d → H' b = some o
theorem Keep.refl (d : Addr) (H : Hp) : Keep d H H := fun _ _ h _ => h
theorem Keep.trans {d : Addr} {H H1 H2 : Hp} (a : Keep d H H1) (b : Keep d H1 H2) : Keep d H H2 := fun c o h n => b c o (a c o h n) n
theorem Keep.of {d : Addr} {H H1 : Hp} (a : Same H H1) : Keep d H H1 := fun c o h _ => a c o h
theorem Keep.new {d p : Addr} {H : Hp} {o : HO} (h : H p = none) : Keep d H (upd H p o) := fun b u e _ => by
  rw [upd_ne (ne_of_none e h)]
  exact e
theorem Keep.at {d : Addr} {H : Hp} {o : HO} : Keep d H (upd H d o) := fun b u e n => by
  rw [upd_ne n]
  exact e
theorem same_new {H : Hp} {p : Addr} {o : HO} (h : H p = none) : Same H (upd H p o) := fun b u e => by
  rw [upd_ne (ne_of_none e h)]
  exact e
theorem upd_else {H : Hp} {a b : Addr} {o u : HO} (h : H b = some u) (n : b ≠ a) : upd H a o b = some u := by
  rw [upd_ne n]
  exact h
theorem sl (n : Nat) (h : n ≤ 1000 := by decide) : n ≤ sizeLine := Nat.le_of_lt (small1000 h)
/-- a list's item by a written place -/
theorem at_n {xs : List V} {v : V} (j : Nat) (h : xs[j]? = some v) : atI xs (j : Int) = some v := atI_nat h
theorem yes {σ : L2.St} {H : Hp} {A B : Hp → Prop} (h : A H) : tYes σ H fun b H' => if b = true then A H' else B H' := by
  show if true = true then A H else B H
  rw [if_pos rfl]
  exact h

/-! ### the law's draws: d holds the script's numbers (a list at c), a place and three numbers -/
def Dr (d c : Addr) (H : Hp) : Prop := ∃ (cells : List Int) (i : Nat) (big seed cnt : Int), H d = some (.lst [.ref c, .int i, .int big, .int seed, .int cnt]) ∧ H c = some (.lst (cells.map V.int)) ∧ c ≠ d
theorem Dr.same {d c : Addr} {H H' : Hp} (h : Dr d c H) (s : Same H H') : Dr d c H' := by
  obtain ⟨cells, i, big, seed, cnt, h1, h2, h3⟩ := h
  exact ⟨cells, i, big, seed, cnt, s _ _ h1, s _ _ h2, h3⟩
theorem Dr.new {d c p : Addr} {H : Hp} {o : HO} (h : Dr d c H) (n : H p = none) : Dr d c (upd H p o) := h.same (same_new n)
theorem Dr.there {d c : Addr} {H : Hp} (h : Dr d c H) : ∃ xs, H d = some (.lst xs) := by
  obtain ⟨cells, i, big, seed, cnt, h1, h2, h3⟩ := h
  exact ⟨_, h1⟩
theorem Dr.dne {d c p : Addr} {H : Hp} (h : Dr d c H) (n : H p = none) : p ≠ d := by
  obtain ⟨_, h1⟩ := h.there
  exact (ne_of_none h1 n).symm
theorem Dr.cne {d c p : Addr} {H : Hp} (h : Dr d c H) (n : H p = none) : p ≠ c := by
  obtain ⟨cells, i, big, seed, cnt, h1, h2, h3⟩ := h
  exact (ne_of_none h2 n).symm
/-- another object than d and c is written -/
theorem Dr.else {d c p : Addr} {H : Hp} {o : HO} (h : Dr d c H) (n1 : p ≠ d) (n2 : p ≠ c) : Dr d c (upd H p o) := by
  obtain ⟨cells, i, big, seed, cnt, h1, h2, h3⟩ := h
  exact ⟨cells, i, big, seed, cnt, upd_else h1 n1.symm, upd_else h2 n2.symm, h3⟩
def rBegin (K : PySem.W.Frag) : V → Hp → VK → Prop := fun x H Q => ∃ (a : Addr) (ns : List Int), x = .ref a ∧ SqL K H a (ns.map V.int) ∧ ns.length ≤ 63 ∧
  ∀ (d c : Addr) (H' : Hp), Dr d c H' → Same H H' → Q (.ref d) H'
def rMixed : V → V → Hp → VK → Prop := fun x y H Q => ∃ (d c : Addr) (z : Int), x = .ref d ∧ y = .int z ∧ Dr d c H ∧ ∀ (r : Int) (H' : Hp), Dr d c H' → Keep d H H' → Q (.int r) H'
def rDraw : V → V → Hp → VK → Prop := fun x y H Q => ∃ (d c : Addr) (m : Int), x = .ref d ∧ y = .int m ∧ Dr d c H ∧ 0 < m ∧ m < 1000000000 ∧ ∀ (r : Int) (H' : Hp), 0 ≤ r → r < m → Dr d c H' → Keep d H H' → Q (.int r) H'
def rRare : V → V → Hp → VK → Prop := fun x y H Q => ∃ (d c : Addr) (m : Int), x = .ref d ∧ y = .int m ∧ Dr d c H ∧ 4 < m ∧ m < 1000000000 ∧ ∀ (r : Bool) (H' : Hp), Dr d c H' → Keep d H H' → Q (.bl r) H'
section
variable {P : Program} {w : World} {K : PySem.W.Frag} {mg : Str → Option Value} {base : Heap}
theorem ok_begin (T : Tx K mg w) : FnOk P w K mg base CX0 1 T.f_begin T.fd_begin ["script"] (sp1 (rBegin K)) := by
  refine okR1 T.F_begin sc_begin rfl fun cdv A outer s H Q E x hr h => ?_
  obtain ⟨a, ns, rfl, hS, h63, q⟩ := h
  refine ⟨_, pss_one (ps_ret (pe_lst (pa_cons (pe_lc (own := [("cell", 1)]) (g := gName 1) (tt := tYes) rfl sc_begin.nd (pi_list (pv 0)) (blkOk_by (N := ["script", "cell"]) (sc := defScope s_begin) (by decide +kernel)) (fun _ _ _ _ _ => pg_name (i := 1) sc_begin.nd rfl (Or.inl rfl)) (fun _ _ _ _ _ => pts_nil) (fun _ _ _ _ _ => (pe_callTy call_int1 (by rfl) T.z_int (by decide +kernel) (pa_cons (pv 1) pa_nil)))) (pa_cons pe_int (pa_cons pe_int (pa_cons pe_int (pa_cons pe_int pa_nil))))))), ?_⟩
  refine ⟨_, rfl, a, rfl, ⟨_, hS⟩, fun D hD => lc_list (K := K) (a := a) (xs := ns.map V.int) (fun i H' => H' = upd H D (.lst ((ns.take i).map V.int))) rfl ?_ ?_ ?_⟩
  · rintro i H' _ rfl
    exact (same_new hD).seq hS
  · rintro i x H' hi rfl
    rw [List.getElem?_map] at hi
    obtain ⟨z, hz, rfl⟩ := Option.map_eq_some_iff.mp hi
    refine ⟨rfl, yes ?_⟩
    refine ⟨_, rfl, .inl ⟨_, rfl, ?_⟩⟩
    refine ⟨_, upd_same, ?_, ?_⟩
    · rw [List.length_map, List.length_take]
      exact small1000 (by omega)
    · rw [upd_upd, List.take_add_one, hz, List.map_append] <;> rfl
  · rintro H' rfl
    rw [show (List.map V.int ns).length = ns.length from List.length_map _, List.take_length]
    refine ⟨sl 5, fun p hp => ?_⟩
    have hDp : D ≠ p := ne_of_none upd_same hp
    exact q p D _ ⟨ns, 0, 0, 1234577, 0, upd_same, upd_else upd_same hDp, hDp⟩ ((same_new hD).trans (same_new hp))
theorem ok_mixed (T : Tx K mg w) : FnOk P w K mg base CX0 1 T.f_mixed T.fd_mixed ["d", "cell"] (sp2 rMixed) := by
  refine okR2 T.F_mixed sc_mixed rfl fun cdv A outer s H Q E x y hr h => ?_
  obtain ⟨d, c, z, rfl, rfl, ⟨cells, i, big, seed, cnt, h1, h2, hn⟩, q⟩ := h
  refine ⟨_, pss_cons (ps_asg (pe_op op_add (pe_ix ix_list (pv 0) pe_int (fun _ _ => rfl)) pe_int) (pg_sub (pv 0) pe_int set_list))
      (pss_cons (ps_asg (pe_op op_mod (pe_callTy call_int1 (by rfl) T.z_int (by decide +kernel) (pa_cons (pe_op op_add (pe_op op_add (pe_op op_mul (pe_ix ix_list (pv 0) pe_int (fun _ _ => rfl)) pe_int) (pe_op op_mul (pe_op op_add (pv 1) (pe_ix ix_list (pv 0) pe_int (fun _ _ => rfl))) pe_int)) pe_int) pa_nil)) pe_int) (pg_sub (pv 0) pe_int set_list))
      (pss_cons (ps_asg (pe_op op_mod (pe_callTy call_int1 (by rfl) T.z_int (by decide +kernel) (pa_cons (pe_op op_add (pe_op op_add (pe_op op_mul (pe_ix ix_list (pv 0) pe_int (fun _ _ => rfl)) pe_int) (pe_op op_mul (pe_ix ix_list (pv 0) pe_int (fun _ _ => rfl)) pe_int)) pe_int) pa_nil)) pe_int) (pg_sub (pv 0) pe_int set_list))
      (pss_one (ps_ret (pe_op op_fdiv (pe_ix ix_list (pv 0) pe_int (fun _ _ => rfl)) pe_int))))), ?_⟩
  refine ⟨_, rfl, d, _, _, _, rfl, rfl, SqL.of h1, at_n 4 rfl, _, _, rfl, rfl, _, rfl, d, _, _, 4, rfl, rfl, h1, rfl, ?_⟩
  refine ⟨_, rfl, d, _, _, _, rfl, rfl, SqL.of upd_same, at_n 3 rfl, _, _, rfl, rfl, .inr (by decide), _, rfl, _, rfl, d, _, _, _, rfl, rfl, SqL.of upd_same, at_n 4 rfl, _, _, rfl, rfl, _, _, rfl, rfl, .inr (by decide), _, _, rfl, rfl, _, _, rfl, rfl, .inl ⟨_, rfl, ?_⟩⟩
  refine ⟨_, _, rfl, rfl, (by show (0 : Int) < 2147483647; decide), _, rfl, d, _, _, 3, rfl, rfl, upd_same, rfl, ?_⟩
  rw [upd_upd]
  refine ⟨_, rfl, d, _, _, _, rfl, rfl, SqL.of upd_same, at_n 3 rfl, _, _, rfl, rfl, .inr (by decide), _, rfl, d, _, _, _, rfl, rfl, SqL.of upd_same, at_n 4 rfl, _, _, rfl, rfl, .inr (by decide), _, _, rfl, rfl, _, _, rfl, rfl, .inl ⟨_, rfl, ?_⟩⟩
  refine ⟨_, _, rfl, rfl, (by show (0 : Int) < 2147483629; decide), _, rfl, d, _, _, 3, rfl, rfl, upd_same, rfl, ?_⟩
  rw [upd_upd]
  refine ⟨_, rfl, d, _, _, _, rfl, rfl, SqL.of upd_same, at_n 3 rfl, _, _, rfl, rfl, ⟨by decide, by decide⟩, ?_⟩
  exact q _ _ ⟨cells, i, big, _, _, upd_same, upd_else h2 hn, hn⟩ Keep.at
theorem ok_draw_digit (T : Tx K mg w) : FnOk P w K mg base CX0 1 T.f_draw_digit T.fd_draw_digit ["d", "many"] (sp2 rDraw) := by
  refine okR2 T.F_draw_digit sc_draw_digit rfl fun cdv A outer s H Q E x y hr h => ?_
  obtain ⟨d, c, m, rfl, rfl, ⟨cells, i, big, seed, cnt, h1, h2, hn⟩, m0, m1, q⟩ := h
  refine ⟨_, pss_cons (ps_set (i := 2) sc_draw_digit.nd rfl (Or.inl rfl) (pe_callB call_divmod (by rfl) T.z_divmod (by decide +kernel) (pa_cons (pe_ix ix_list (pv 0) pe_int (fun _ _ => rfl)) (pa_cons (pv 1) pa_nil))))
      (pss_cons (ps_asg (pe_ix ix_tup (pv 2) pe_int (fun _ _ => rfl)) (pg_sub (pv 0) pe_int set_list))
      (pss_one (ps_ret (pe_ix ix_tup (pv 2) pe_int (fun _ _ => rfl))))), ?_⟩
  refine ⟨_, rfl, d, _, _, _, rfl, rfl, SqL.of h1, at_n 2 rfl, _, rfl, _, _, rfl, ⟨m0, by omega⟩, fun p hp => ?_⟩
  have hdp : d ≠ p := ne_of_none h1 hp
  have hcp : c ≠ p := ne_of_none h2 hp
  refine ⟨_, rfl, p, _, _, _, rfl, rfl, SqT.of upd_same, at_n 0 rfl, _, rfl, d, _, _, 2, rfl, rfl, upd_else h1 hdp, rfl, ?_⟩
  refine ⟨_, rfl, p, _, _, _, rfl, rfl, SqT.of (upd_else upd_same hdp.symm), at_n 1 rfl, ?_⟩
  refine q _ _ (Int.emod_nonneg _ (by omega)) (Int.emod_lt_of_pos _ m0) ⟨cells, i, _, seed, cnt, upd_same, upd_else (upd_else h2 hcp) hn, hn⟩ ((Keep.new hp).trans Keep.at)
theorem ok_draw (T : Tx K mg w) : FnOk P w K mg base CX0 2 T.f_draw T.fd_draw ["d", "many"] (sp2 rDraw) := by
  refine okR2 T.F_draw sc_draw rfl fun cdv A outer s H Q E x y hr h => ?_
  obtain ⟨d, c, m, rfl, rfl, ⟨cells, i, big, seed, cnt, h1, h2, hn⟩, m0, m1, q⟩ := h
  have dr : Dr d c H := ⟨cells, i, big, seed, cnt, h1, h2, hn⟩
  refine ⟨_, pss_cons (ps_if (pt_cmpR op_gt (pe_ix ix_list (pv 0) pe_int (fun _ _ => rfl)) pe_int (nomark _)) (pss_one (ps_ret (pe_call (ok_draw_digit T) (hr.mono (by decide)) rfl T.m_draw_digit T.F_draw_digit.kp T.b_draw_digit .nil pass0 (pa_cons (pv 0) (pa_cons (pv 1) pa_nil))))) pss_nil)
      (pss_cons (ps_if (pt_cmpR op_lt (pe_ix ix_list (pv 0) pe_int (fun _ _ => rfl)) (pe_callB call_len_seq (by rfl) T.z_len (by decide +kernel) (pa_cons (pe_ix ix_list (pv 0) pe_int (fun _ _ => rfl)) pa_nil)) (nomark _)) (pss_cons (ps_set (i := 2) sc_draw.nd rfl (Or.inl rfl) (pe_ix ix_list (pe_ix ix_list (pv 0) pe_int (fun _ _ => rfl)) (pe_ix ix_list (pv 0) pe_int (fun _ _ => rfl)) (fun _ _ => rfl)))
      (pss_cons (ps_asg (pe_op op_add (pe_ix ix_list (pv 0) pe_int (fun _ _ => rfl)) pe_int) (pg_sub (pv 0) pe_int set_list))
      (pss_cons (ps_if (pt_cmpR op_ge (pe_callB call_abs (by rfl) T.z_abs (by decide +kernel) (pa_cons (pv 2) pa_nil)) (pe_op op_pow pe_int pe_int) (nomark _)) (pss_cons (ps_asg (pe_op op_and (pe_op op_fdiv (pe_callB call_abs (by rfl) T.z_abs (by decide +kernel) (pa_cons (pv 2) pa_nil)) pe_int) (pe_op op_sub (pe_op op_shl pe_int pe_int) pe_int)) (pg_sub (pv 0) pe_int set_list))
      (pss_one (ps_ret (pe_call (ok_draw_digit T) (hr.mono (by decide)) rfl T.m_draw_digit T.F_draw_digit.kp T.b_draw_digit .nil pass0 (pa_cons (pv 0) (pa_cons (pv 1) pa_nil)))))) pss_nil)
      (pss_one (ps_ret (pe_op op_mod (pe_callTy call_int1 (by rfl) T.z_int (by decide +kernel) (pa_cons (pe_call (ok_mixed T) (hr.mono (by decide)) rfl T.m_mixed T.F_mixed.kp T.b_mixed .nil pass0 (pa_cons (pv 0) (pa_cons (pv 2) pa_nil))) pa_nil)) (pv 1))))))) pss_nil)
      (pss_one (ps_ret (pe_op op_mod (pe_callTy call_int1 (by rfl) T.z_int (by decide +kernel) (pa_cons (pe_call (ok_mixed T) (hr.mono (by decide)) rfl T.m_mixed T.F_mixed.kp T.b_mixed .nil pass0 (pa_cons (pv 0) (pa_cons pe_int pa_nil))) pa_nil)) (pv 1))))), ?_⟩
  -- if d[2] > 0
  refine ⟨_, rfl, d, _, _, _, rfl, rfl, SqL.of h1, at_n 2 rfl, _, _, rfl, rfl, _, rfl, ite2 (fun _ => ?_) (fun _ => ?_)⟩
  · exact ⟨_, rfl, _, rfl, _, _, rfl, d, c, m, rfl, rfl, dr, m0, m1, q⟩
  -- if d[1] < len(d[0])
  refine ⟨_, rfl, d, _, _, _, rfl, rfl, SqL.of h1, at_n 1 rfl, _, rfl, d, _, _, _, rfl, rfl, SqL.of h1, at_n 0 rfl, c, _, rfl, .inl (SqL.of h2), _, _, rfl, rfl, _, rfl, ite2 (fun hc => ?_) (fun _ => ?_)⟩
  · have hi : i < cells.length := by
      have e : (i : Int) < ((cells.map V.int).length : Int) := of_decide_eq_true hc
      rw [List.length_map] at e
      omega
    obtain ⟨z, hz⟩ : ∃ z, cells[i]? = some z := ⟨cells[i], List.getElem?_eq_getElem hi⟩
    have hz' : (cells.map V.int)[i]? = some (.int z) := by
      rw [List.getElem?_map, hz]
      rfl
    -- cell = d[0][d[1]]; d[1] = d[1] + 1
    refine ⟨_, rfl, d, _, _, _, rfl, rfl, SqL.of h1, at_n 0 rfl, _, rfl, d, _, _, _, rfl, rfl, SqL.of h1, at_n 1 rfl, c, _, _, _, rfl, rfl, SqL.of h2, at_n i hz', ?_⟩
    refine ⟨_, rfl, d, _, _, _, rfl, rfl, SqL.of h1, at_n 1 rfl, _, _, rfl, rfl, _, rfl, d, _, _, 1, rfl, rfl, h1, rfl, ?_⟩
    have dr1 : Dr d c (upd H d (.lst [.ref c, .int (i + 1), .int big, .int seed, .int cnt])) := ⟨cells, i + 1, big, seed, cnt, upd_same, upd_else h2 hn, hn⟩
    -- if abs(cell) >= 10 ** 18
    refine ⟨_, rfl, _, rfl, _, _, rfl, rfl, ⟨by decide, by decide, by decide⟩, _, _, rfl, rfl, _, rfl, ite2 (fun _ => ?_) (fun _ => ?_)⟩
    · refine ⟨_, rfl, _, rfl, _, _, rfl, rfl, ⟨by decide, by decide⟩, _, _, rfl, rfl, ⟨by decide, by decide, by decide⟩, _, _, rfl, rfl, _, _, rfl, rfl, _, rfl, d, _, _, 2, rfl, rfl, upd_same, rfl, ?_⟩
      rw [upd_upd]
      refine ⟨_, rfl, _, rfl, _, _, rfl, d, c, m, rfl, rfl, ⟨cells, i + 1, _, seed, cnt, upd_same, upd_else h2 hn, hn⟩, m0, m1, fun r H' r0 r1 dr' kp => ?_⟩
      exact q r H' r0 r1 dr' (Keep.at.trans kp)
    · refine ⟨_, rfl, _, rfl, _, _, rfl, d, c, z, rfl, rfl, dr1, fun r H' dr' kp => .inl ⟨_, rfl, ?_⟩⟩
      exact ⟨_, rfl, _, _, rfl, rfl, m0, q _ _ (Int.emod_nonneg _ (by omega)) (Int.emod_lt_of_pos _ m0) dr' (Keep.at.trans kp)⟩
  · refine ⟨_, rfl, _, _, rfl, d, c, 7, rfl, rfl, dr, fun r H' dr' kp => .inl ⟨_, rfl, ?_⟩⟩
    exact ⟨_, rfl, _, _, rfl, rfl, m0, q _ _ (Int.emod_nonneg _ (by omega)) (Int.emod_lt_of_pos _ m0) dr' kp⟩
end

/-! ### data of tuples, in a heap -/
mutual
def Td (H : Hp) : PyData → V → Prop
  | .none, v => v = .non
  | .bool b, v => v = .bl b
  | .int i, v => v = .int i
  | .str x, v => v = .str x
  | .tuple ds, v => ∃ a xs, v = .ref a ∧ H a = some (.tup xs) ∧ TdAll H ds xs
  | .list _, _ => False
  | .dict _, _ => False
def TdAll (H : Hp) : List PyData → List V → Prop
  | [], xs => xs = []
  | d :: ds, xs => ∃ v r, xs = v :: r ∧ Td H d v ∧ TdAll H ds r
end
/-- tuples stay -/
def TS (H H' : Hp) : Prop := ∀ b xs, H b = some (.tup xs) → H' b = some (.tup xs)
theorem TS.refl (H : Hp) : TS H H := fun _ _ e => e
theorem TS.of {H H' : Hp} (s : Same H H') : TS H H' := fun b xs e => s b _ e
theorem TS.keep {d : Addr} {H H' : Hp} (k : Keep d H H') (h : ∃ xs, H d = some (.lst xs)) : TS H H' := fun b xs e => by
  obtain ⟨ys, h⟩ := h
  refine k b _ e ?_
  rintro rfl
  rw [h] at e
  cases e
theorem TS.trans {H H1 H2 : Hp} (a : TS H H1) (b : TS H1 H2) : TS H H2 := fun c o h => b c o (a c o h)
theorem TS.wr {H : Hp} {l : Addr} {xs : List V} {o : HO} (h : H l = some (.lst xs)) : TS H (upd H l o) := fun b ys e => by
  refine upd_else e ?_
  rintro rfl
  rw [h] at e
  cases e
theorem TS.dict {H : Hp} {l : Addr} {xs : List (Key × V)} {o : HO} (h : H l = some (.dK xs)) : TS H (upd H l o) := fun b ys e => by
  refine upd_else e ?_
  rintro rfl
  rw [h] at e
  cases e
theorem TS.new {H : Hp} {p : Addr} {o : HO} (h : H p = none) : TS H (upd H p o) := TS.of (same_new h)
theorem TS.dr {d c : Addr} {H H' : Hp} (dr : Dr d c H) (k : Keep d H H') : TS H H' := TS.keep k dr.there
mutual
theorem Td.mono {H H' : Hp} (s : TS H H') : ∀ (d : PyData) (v : V), Td H d v → Td H' d v
  | .none, _, h => h
  | .bool _, _, h => h
  | .int _, _, h => h
  | .str _, _, h => h
  | .tuple ds, _, ⟨a, xs, e, h1, h2⟩ => ⟨a, xs, e, s _ _ h1, TdAll.mono s ds xs h2⟩
  | .list _, _, h => h
  | .dict _, _, h => h
theorem TdAll.mono {H H' : Hp} (s : TS H H') : ∀ (ds : List PyData) (xs : List V), TdAll H ds xs → TdAll H' ds xs
  | [], _, h => h
  | d :: ds, _, ⟨v, r, e, h1, h2⟩ => ⟨v, r, e, Td.mono s d v h1, TdAll.mono s ds r h2⟩
end
mutual
theorem Td.dp {K : PySem.W.Frag} {H : Hp} : ∀ (d : PyData) (v : V), Td H d v → Dp K H v d
  | .none, _, h => by cases h; exact .non
  | .bool b, _, h => by cases h; exact .bl b
  | .int i, _, h => by cases h; exact .int i
  | .str x, _, h => by cases h; exact .str x
  | .tuple ds, _, ⟨a, xs, e, h1, h2⟩ => by subst e; exact .tup (SqT.of h1) (TdAll.dp ds xs h2)
  | .list _, _, h => h.elim
  | .dict _, _, h => h.elim
theorem TdAll.dp {K : PySem.W.Frag} {H : Hp} : ∀ (ds : List PyData) (xs : List V), TdAll H ds xs → DpAll K H xs ds
  | [], _, h => by cases h; exact .nil
  | d :: ds, _, ⟨v, r, e, h1, h2⟩ => by subst e; exact .cons (Td.dp d v h1) (TdAll.dp ds r h2)
end
theorem TdAll.len {H : Hp} : ∀ (ds : List PyData) (xs : List V), TdAll H ds xs → xs.length = ds.length
  | [], _, h => by cases h; rfl
  | _ :: ds, _, ⟨v, r, e, _, h2⟩ => by subst e; exact congrArg Nat.succ (TdAll.len ds r h2)
theorem TdAll.app {H : Hp} : ∀ (ds es : List PyData) (xs ys : List V), TdAll H ds xs → TdAll H es ys → TdAll H (ds ++ es) (xs ++ ys)
  | [], _, _, _, h, k => by cases h; exact k
  | _ :: ds, es, _, ys, ⟨v, r, e, h1, h2⟩, k => by subst e; exact ⟨v, r ++ ys, rfl, h1, TdAll.app ds es r ys h2 k⟩
theorem TdAll.tk {H : Hp} : ∀ (n : Nat) (ds : List PyData) (xs : List V), TdAll H ds xs → TdAll H (ds.take n) (xs.take n)
  | 0, _, _, _ => by simp only [List.take_zero]; exact rfl
  | _ + 1, [], _, h => by cases h; exact rfl
  | n + 1, _ :: ds, _, ⟨v, r, e, h1, h2⟩ => by subst e; exact ⟨v, r.take n, rfl, h1, TdAll.tk n ds r h2⟩
theorem TdAll.dr {H : Hp} : ∀ (n : Nat) (ds : List PyData) (xs : List V), TdAll H ds xs → TdAll H (ds.drop n) (xs.drop n)
  | 0, _, _, h => h
  | _ + 1, [], _, h => by cases h; exact rfl
  | n + 1, _ :: ds, _, ⟨v, r, e, h1, h2⟩ => by subst e; exact TdAll.dr n ds r h2
theorem TdAll.at {H : Hp} : ∀ (i : Nat) (ds : List PyData) (xs : List V) (d : PyData), TdAll H ds xs → ds[i]? = some d → ∃ v, xs[i]? = some v ∧ Td H d v
  | _, [], _, _, _, e => by simp at e
  | 0, _ :: ds, _, d, ⟨v, r, e, h1, h2⟩, k => by
    subst e
    simp at k
    subst k
    exact ⟨v, rfl, h1⟩
  | i + 1, _ :: ds, _, d, ⟨v, r, e, h1, h2⟩, k => by
    subst e
    obtain ⟨u, e1, e2⟩ := TdAll.at i ds r d h2 (by simpa using k)
    exact ⟨u, by simpa using e1, e2⟩
mutual
def plainD : PyData → Bool
  | .none => true
  | .bool _ => false
  | .int _ => true
  | .str x => PyData.strOk x
  | .tuple ds => plainAll ds
  | .list _ => false
  | .dict _ => false
def plainAll : List PyData → Bool
  | [] => true
  | d :: ds => plainD d && plainAll ds
end
mutual
theorem plain_lay : ∀ d : PyData, plainD d = true → PyData.canLay0 d = true
  | .none, _ => rfl
  | .bool _, h => by cases h
  | .int _, _ => rfl
  | .str _, h => h
  | .tuple ds, h => plain_layAll ds h
  | .list _, h => by cases h
  | .dict _, h => by cases h
theorem plain_layAll : ∀ ds : List PyData, plainAll ds = true → PyData.canLayAll0 ds = true
  | [], _ => rfl
  | d :: ds, h => by
    have h' := Bool.and_eq_true_iff.mp h
    show (PyData.canLay0 d && PyData.canLayAll0 ds) = true
    rw [plain_lay d h'.1, plain_layAll ds h'.2]
    rfl
end
mutual
theorem eqv_eq : ∀ d e : PyData, plainD d = true → plainD e = true → PyData.eqv d e = true → d = e
  | .none, e, _, he, h => by cases e <;> first | rfl | cases h
  | .bool _, _, hd, _, _ => by cases hd
  | .int i, e, _, he, h => by
    cases e <;> first | cases h | cases he | skip
    have := beq_iff_eq.mp (show (i == _) = true from h)
    rw [this]
  | .str x, e, _, _, h => by
    cases e <;> first | cases h | skip
    have := beq_iff_eq.mp (show (x == _) = true from h)
    rw [this]
  | .tuple ds, e, hd, he, h => by
    cases e <;> first | cases h | skip
    exact congrArg PyData.tuple (eqvAll_eq ds _ hd he h)
  | .list _, _, hd, _, _ => by cases hd
  | .dict _, _, hd, _, _ => by cases hd
theorem eqvAll_eq : ∀ ds es : List PyData, plainAll ds = true → plainAll es = true → PyData.eqvAll ds es = true → ds = es
  | [], [], _, _, _ => rfl
  | [], _ :: _, _, _, h => by cases h
  | _ :: _, [], _, _, h => by cases h
  | d :: ds, e :: es, hd, he, h => by
    have h1 := Bool.and_eq_true_iff.mp hd
    have h2 := Bool.and_eq_true_iff.mp he
    have h3 := Bool.and_eq_true_iff.mp (show (PyData.eqv d e && PyData.eqvAll ds es) = true from h)
    rw [eqv_eq d e h1.1 h2.1 h3.1, eqvAll_eq ds es h1.2 h2.2 h3.2]
end
theorem eqv_iff {d e : PyData} (hd : plainD d = true) (he : plainD e = true) : PyData.eqv d e = true ↔ d = e :=
  ⟨eqv_eq d e hd he, fun h => by rw [h]; exact SeqAt.eqv_refl e (plain_lay e he)⟩
theorem eqvAll_iff {d e : List PyData} (hd : plainAll d = true) (he : plainAll e = true) : PyData.eqvAll d e = true ↔ d = e :=
  ⟨eqvAll_eq d e hd he, fun h => by
    have h2 := SeqAt.eqv_refl (.tuple e) (plain_layAll e he)
    rw [h]
    exact h2⟩

/-! ### slices and sums of tuples, as data -/
def cutD (ds : List PyData) (lo hi : Option Int) : List PyData := (ds.drop (HT.sIx ds.length 0 lo)).take (HT.sIx ds.length ds.length hi - HT.sIx ds.length 0 lo)
theorem slD {K : PySem.W.Frag} {H : Hp} {v : V} {ds : List PyData} {lo hi : Option Int} {Q : VK} (h : Td H (.tuple ds) v)
    (q : ∀ (p : V) (H' : Hp), Same H H' → Td H' (.tuple (cutD ds lo hi)) p → Q p H') : rSlA K v lo hi H Q := by
  obtain ⟨a, xs, rfl, ha, hx⟩ := h
  have hl := TdAll.len _ _ hx
  refine ⟨a, xs, rfl, SqT.of ha, fun w => ?_, fun _ p hp => ?_⟩
  · rw [hl] at w
    refine q (.ref a) H (Same.refl _) ⟨a, xs, rfl, ha, ?_⟩
    have e : cutD ds lo hi = ds := by
      unfold cutD
      rw [w.1, w.2, List.drop_zero, Nat.sub_zero, List.take_length]
    rw [e]
    exact hx
  · refine q (.ref p) _ (same_new hp) ⟨p, _, rfl, upd_same, ?_⟩
    have e : cutV xs lo hi = (xs.drop (HT.sIx ds.length 0 lo)).take (HT.sIx ds.length ds.length hi - HT.sIx ds.length 0 lo) := by
      unfold cutV
      rw [hl]
    rw [e]
    exact TdAll.mono (TS.new hp) _ _ (TdAll.tk _ _ _ (TdAll.dr _ _ _ hx))
theorem nil_of_len {α β : Type} {xs : List α} {ds : List β} (h : xs.length = ds.length) (e : xs = []) : ds = [] := by
  subst e
  cases ds with
  | nil => rfl
  | cons _ _ => cases h
theorem catD {K : PySem.W.Frag} {H : Hp} {x y : V} {ds es : List PyData} {Q : VK} (hx : Td H (.tuple ds) x) (hy : Td H (.tuple es) y) (hz : ds.length + es.length ≤ 1000)
    (q : ∀ (p : V) (H' : Hp), Same H H' → Td H' (.tuple (ds ++ es)) p → Q p H') : rCatA K x y H Q := by
  obtain ⟨a, xs, rfl, ha, h1⟩ := hx
  obtain ⟨b, ys, rfl, hb, h2⟩ := hy
  have l1 := TdAll.len _ _ h1
  have l2 := TdAll.len _ _ h2
  refine ⟨a, b, xs, ys, rfl, rfl, SqT.of ha, SqT.of hb, Nat.le_of_lt (small1000 (by omega)), fun e => ?_, fun _ e => ?_, fun _ _ p hp => ?_⟩
  · rw [nil_of_len l1 e] at q
    exact q _ H (Same.refl _) ⟨b, ys, rfl, hb, h2⟩
  · rw [nil_of_len l2 e, List.append_nil] at q
    exact q _ H (Same.refl _) ⟨a, xs, rfl, ha, h1⟩
  · exact q _ _ (same_new hp) ⟨p, _, rfl, upd_same, TdAll.mono (TS.new hp) _ _ (TdAll.app _ _ _ _ h1 h2)⟩
theorem slFD {K : PySem.W.Frag} {σ : L2.St} {H : Hp} {v : V} {ds : List PyData} {lo : Option Int} {Q : VK} (h : Td H (.tuple ds) v)
    (q : ∀ (p : V) (H' : Hp), Same H H' → Td H' (.tuple (cutD ds lo none)) p → Q p H') : tNoPart σ H fun u H' => rSlA K v lo u H' Q := slD h q
theorem cut_tail (d : PyData) (ks : List PyData) : cutD (d :: ks) (some 1) none = ks := by
  unfold cutD
  rw [show (some (1 : Int)) = some (((1 : Nat) : Int)) from rfl, HT.sIx_nat, List.length_cons, Nat.min_eq_left (by omega)]
  show ((ks.take (ks.length + 1 - 1))) = ks
  rw [Nat.add_sub_cancel, List.take_length]
theorem or_both {a : Bool} {A B T : Prop} (hA : A) (hT : A → ¬ a = true → T) : if a = true then (if true = true then A else B) else T := by
  by_cases h : a = true
  · rw [if_pos h, if_pos rfl]
    exact hA
  · rw [if_neg h]
    exact hT hA h

/-! ### texts as lists of codes -/
def tx (l : List Nat) : Str := ⟨l.toArray⟩
theorem tx_cps (l : List Nat) : (tx l).cps.toList = l := rfl
theorem tx_len (l : List Nat) : (tx l).length = l.length := by
  show l.toArray.size = l.length
  exact List.size_toArray
theorem len_cps (z : Str) : z.length = z.cps.toList.length := by
  show z.cps.size = _
  rw [Array.length_toList]
theorem tx_eta (z : Str) : tx z.cps.toList = z := by
  obtain ⟨a⟩ := z
  show (⟨a.toList.toArray⟩ : Str) = ⟨a⟩
  rw [Array.toArray_toList]
theorem tx_app (a b : List Nat) : tx a ++ tx b = tx (a ++ b) := by
  show (⟨a.toArray ++ b.toArray⟩ : Str) = ⟨(a ++ b).toArray⟩
  rw [List.append_toArray]
theorem tx_inj {a b : List Nat} (h : tx a = tx b) : a = b := by
  have e : (tx a).cps.toList = (tx b).cps.toList := by rw [h]
  exact e
theorem tx_one (c : Nat) : (⟨#[c]⟩ : Str) = tx [c] := rfl
theorem app_len (a b : Str) : (a ++ b).length = a.length + b.length := by
  show (a.cps ++ b.cps).size = _
  rw [Array.size_append]
  rfl
theorem app_cps (a b : Str) : (a ++ b).cps.toList = a.cps.toList ++ b.cps.toList := by
  show (a.cps ++ b.cps).toList = _
  rw [Array.toList_append]
theorem str_ext {a b : Str} (h : a.cps.toList = b.cps.toList) : a = b := by
  rw [← tx_eta a, ← tx_eta b, h]
theorem sgn (z : Str) (i : Nat) {c : Nat} (h : z.cps.toList[i]? = some c) : atI z.cps.toList (i : Int) = some c := atI_nat h
theorem cut_tx (z : Str) (i j : Nat) (hij : i ≤ j) (hj : i ≤ z.length) : cutS z (some (i : Int)) (some (j : Int)) = tx ((z.cps.toList.drop i).take (j - i)) := by
  unfold cutS
  rw [HT.sIx_nat, HT.sIx_nat, Nat.min_eq_left hj]
  refine congrArg (fun q => (⟨q⟩ : Str)) ?_
  refine congrArg List.toArray ?_
  by_cases h : j ≤ z.length
  · rw [Nat.min_eq_left h]
  · rw [Nat.min_eq_right (by omega), List.take_of_length_le (by rw [List.length_drop, len_cps]; exact Nat.le_refl _), List.take_of_length_le (by rw [List.length_drop, ← len_cps]; omega)]
theorem inV_str (x : Str) (xs : List Str) : inV (.str x) (xs.map V.str) = decide (x ∈ xs) := by
  induction xs with
  | nil => rfl
  | cons y r ih =>
    have e : inV (.str x) ((y :: r).map V.str) = ((y == x) || inV (.str x) (r.map V.str)) := rfl
    rw [e, ih]
    by_cases h : y = x
    · rw [h]
      simp
    · have h2 : ¬ x = y := fun q => h q.symm
      simp [h, h2]
/-- every code is one that a text may have -/
def okB (z : Str) : Bool := z.cps.toList.all fun c => decide (c < 1114112)
theorem okB_app {a b : Str} (h1 : okB a = true) (h2 : okB b = true) : okB (a ++ b) = true := by
  unfold okB at *
  rw [app_cps, List.all_append, h1, h2]
  rfl
theorem okB_mem {z : Str} (h : okB z = true) {c : Nat} (hc : c ∈ z.cps.toList) : okB ⟨#[c]⟩ = true := by
  unfold okB at h
  have h2 := List.all_eq_true.mp h c hc
  show ([c].all fun c => decide (c < 1114112)) = true
  rw [List.all_cons, h2]
  rfl

theorem at_in {xs : List V} {r : Int} (h0 : 0 ≤ r) (h1 : r < (xs.length : Int)) : ∃ v, atI xs r = some v ∧ v ∈ xs := by
  obtain ⟨j, rfl⟩ := Int.eq_ofNat_of_zero_le h0
  exact ⟨xs[j], at_n j (List.getElem?_eq_getElem (by omega)), List.getElem_mem _⟩
theorem at_int {ns : List Int} {r : Int} (h0 : 0 ≤ r) (h1 : r < (ns.length : Int)) : ∃ n, atI (ns.map V.int) r = some (.int n) ∧ n ∈ ns := by
  obtain ⟨v, h, hm⟩ := at_in (xs := ns.map V.int) h0 (by rw [List.length_map]; exact h1)
  obtain ⟨n, hn, rfl⟩ := List.mem_map.mp hm
  exact ⟨n, h, hn⟩
theorem bl_eq {a b : Int} : decide (V.int a = V.int b) = decide (a = b) := decide_eq_decide.mpr ⟨V.int.inj, fun h => by rw [h]⟩

section
variable {P : Program} {w : World} {K : PySem.W.Frag} {mg : Str → Option Value} {base : Heap}
theorem ok_rare (T : Tx K mg w) : FnOk P w K mg base CX0 3 T.f_rare T.fd_rare ["d", "many"] (sp2 rRare) := by
  refine okR2 T.F_rare sc_rare rfl fun cdv A outer s H Q E x y hr h => ?_
  obtain ⟨d, c, m, rfl, rfl, dr, m0, m1, q⟩ := h
  refine ⟨_, pss_cons (ps_set (i := 2) sc_rare.nd rfl (Or.inl rfl) (pe_op op_fdiv (pv 1) pe_int))
      (pss_cons (ps_if (pt_cmpR op_eq (pe_op op_mod (pe_callTy call_int1 (by rfl) T.z_int (by decide +kernel) (pa_cons (pv 2) pa_nil)) pe_int) pe_int (nomark _)) (pss_one (ps_set (i := 2) sc_rare.nd rfl (Or.inl rfl) (pe_op op_sub (pv 2) pe_int))) pss_nil)
      (pss_one (ps_ret (pe_cmpR op_eq (pe_call (ok_draw T) (hr.mono (by decide)) rfl T.m_draw T.F_draw.kp T.b_draw .nil pass0 (pa_cons (pv 0) (pa_cons (pv 1) pa_nil))) (pv 2) (nomark _))))), ?_⟩
  refine ⟨_, rfl, _, _, rfl, rfl, ⟨by decide, by decide⟩, ?_⟩
  refine ⟨_, rfl, .inl ⟨_, rfl, _, _, rfl, rfl, (by show (0 : Int) < 2; decide), rfl, _, rfl, ite2 (fun _ => ?_) (fun _ => ?_)⟩⟩
  · refine ⟨_, rfl, _, _, rfl, rfl, ?_⟩
    refine ⟨_, rfl, _, rfl, _, _, rfl, d, c, m, rfl, rfl, dr, by omega, m1, fun r H' _ _ dr' kp => ⟨_, rfl, rfl, q _ _ dr' kp⟩⟩
  · refine ⟨_, rfl, _, rfl, _, _, rfl, d, c, m, rfl, rfl, dr, by omega, m1, fun r H' _ _ dr' kp => ⟨_, rfl, rfl, q _ _ dr' kp⟩⟩
end

/-- one of the values of a list -/
def rPickL : V → V → Hp → VK → Prop := fun x y H Q => ∃ (d c p : Addr) (items : List V), x = .ref d ∧ Dr d c H ∧ items ≠ [] ∧ items.length ≤ 1000 ∧ y = .ref p ∧ p ≠ d ∧ H p = some (.lst items) ∧ ∀ (v : V) (H' : Hp), v ∈ items → Dr d c H' → Keep d H H' → Q v H'
section
variable {P : Program} {w : World} {K : PySem.W.Frag} {mg : Str → Option Value} {base : Heap}
theorem ok_pick (T : Tx K mg w) : FnOk P w K mg base CX0 3 T.f_pick T.fd_pick ["d", "row"] (sp2 rPickL) := by
  refine okR2 T.F_pick sc_pick rfl fun cdv A outer s H Q E x y hr h => ?_
  obtain ⟨d, c, p, items, rfl, dr, hne, hlen, rfl, hpd, hp, q⟩ := h
  have hpos : 0 < items.length := by
    cases items with
    | nil => exact absurd rfl hne
    | cons a r => exact Nat.succ_pos _
  refine ⟨_, pss_one (ps_ret (pe_ix ix_list (pv 1) (pe_call (ok_draw T) (hr.mono (by decide)) rfl T.m_draw T.F_draw.kp T.b_draw .nil pass0 (pa_cons (pv 0) (pa_cons (pe_callB call_len_seq (by rfl) T.z_len (by decide +kernel) (pa_cons (pv 1) pa_nil)) pa_nil))) (fun _ _ => rfl))), ?_⟩
  refine ⟨_, rfl, _, rfl, _, rfl, p, items, rfl, .inl (SqL.of hp), _, _, rfl, d, c, _, rfl, rfl, dr, by omega, by omega, fun r H' r0 r1 dr' kp => ?_⟩
  obtain ⟨j, rfl⟩ := Int.eq_ofNat_of_zero_le r0
  have hj : j < items.length := by omega
  exact ⟨p, items, _, items[j], rfl, rfl, SqL.of (kp _ _ hp hpd), at_n j (List.getElem?_eq_getElem hj), q _ _ (List.getElem_mem hj) dr' kp⟩
end

/-! ### one tuple of ints is greater than another one -/
def gtI (us ws : List Int) : Bool := Ob.lexAt (fun n => decide (us.getD n 0 = ws.getD n 0)) (fun n => decide (ws.getD n 0 < us.getD n 0)) (decide (ws.length < us.length)) 0 (min us.length ws.length)
def rGtT (K : PySem.W.Frag) : R2 := fun one two G Q => ∃ (p q : Addr) (us ws : List Int), one = .ref p ∧ two = .ref q ∧ SqT K G p (us.map V.int) ∧ SqT K G q (ws.map V.int) ∧ Q (.bl (gtI us ws)) G
theorem op_gtT {X : Cx} (room : X.A.units < cLine) : OpR X (compareOp .Gt) (rGtT X.K) := by
  intro fixed t slots G one two left right Q inv relL relR want
  obtain ⟨p, q, us, ws, rfl, rfl, hp, hq, done⟩ := want
  cases relL
  cases relR
  obtain ⟨ls, vl, isL, _⟩ := inv.tuple hp
  obtain ⟨rs, vr, isR, _⟩ := inv.tuple hq
  have intL : IntsAre ls us := Vals.ints vl
  have intR : IntsAre rs ws := Vals.ints vr
  have sizeL : ls.toArray.size = us.length := List.size_toArray.trans intL.length
  have sizeR : rs.toArray.size = ws.length := List.size_toArray.trans intR.length
  have itemL : ∀ n (below : n < ls.toArray.size), ∃ k, ls.toArray[n] = .int (us.getD n 0) k := fun n below => PyProof.Rows.IntsAre.int_at intL _ _ (by simp at below; simp [below])
  have itemR : ∀ n (below : n < rs.toArray.size), ∃ k, rs.toArray[n] = .int (ws.getD n 0) k := fun n below => PyProof.Rows.IntsAre.int_at intR _ _ (by simp at below; simp [below])
  have whole := Ob.RcOp.tuples_gt (A := X.A) (s := t) (e := fun n => decide (us.getD n 0 = ws.getD n 0)) (r := fun n => decide (ws.getD n 0 < us.getD n 0)) isL isR room
    (fun n below1 below2 => by
      obtain ⟨k1, at1⟩ := itemL n below1
      obtain ⟨k2, at2⟩ := itemR n below2
      rw [at1, at2]
      have same : (us.getD n 0 == ws.getD n 0) = decide (us.getD n 0 = ws.getD n 0) := by
        cases h : decide (us.getD n 0 = ws.getD n 0) with
        | true => exact beq_iff_eq.mpr (of_decide_eq_true h)
        | false => exact beq_eq_false_iff_ne.mpr (of_decide_eq_false h)
      rw [← same]
      exact SeqAt.EqAt.int_int _ _ _ _)
    (fun n below1 below2 _ => by
      obtain ⟨k1, at1⟩ := itemL n below1
      obtain ⟨k2, at2⟩ := itemR n below2
      rw [at1, at2]
      exact Ob.RcOp.gt_int _ _ _ _)
  rw [sizeL, sizeR] at whole
  exact whole X.prog X.w X.xe (EP X fixed slots Q) ⟨.bl _, G, inv, rfl, done⟩
theorem gtI_second {a b c : Int} {us ws : List Int} (h : ¬ b = c) : gtI (a :: b :: us) (a :: c :: ws) = decide (c < b) := by
  unfold gtI
  have e : min (a :: b :: us).length (a :: c :: ws).length = min us.length ws.length + 1 + 1 := by
    simp only [List.length_cons]
    omega
  rw [e, Ob.lexAt_succ, if_pos (show decide ((a :: b :: us).getD 0 0 = (a :: c :: ws).getD 0 0) = true from decide_eq_true rfl), Ob.lexAt_succ, if_neg]
  · rfl
  · intro z
    exact h (of_decide_eq_true z)

/-! ### promises of defs with four and five arguments -/
def sp4 (R : V → V → V → V → Hp → VK → Prop) : Sp := fun vs H Q _ => ∃ x y z u, vs = [x, y, z, u] ∧ R x y z u H Q
def sp5 (R : V → V → V → V → V → Hp → VK → Prop) : Sp := fun vs H Q _ => ∃ x y z u v, vs = [x, y, z, u, v] ∧ R x y z u v H Q

section
variable {P : Program} {w : World} {K : PySem.W.Frag} {mg : Str → Option Value} {base : Heap}
theorem okR4 {x : Str} {st : Stmt} {f : Addr} {fd : FuncData} {N ps : List Str} {k : Nat} {R : V → V → V → V → Hp → VK → Prop} (F : FunD K x x (defArgs st) (defBody st) (defScope st) [] [] f fd) (S : FnScope N ps (defScope st)) (hl : ps.length = 4)
    (body : ∀ (cdv : Value) (A : Around) (outer : List Env) (s : Shared) (H : Hp) (Q : VK) (E : XK) (a b c d : V), Room k (A.deeper (envOfC x (defScope st) s.heap.objs.size f cdv)) → R a b c d H Q →
      ∃ t, PSs (cxOf CX0 P w K mg base N x (defScope st) f cdv A outer s H E).nox (defBody st) t ∧ t { nx := fun _ H' => Q .non H', rt := Q } (start N [a, b, c, d]) H) : FnOk P w K mg base CX0 (k + 1) f fd ps (sp4 R) := by
  refine okR F S (fun vs H Q E h => ?_) fun cdv A outer s H vs Q E hr h => ?_
  · obtain ⟨_, _, _, _, rfl, _⟩ := h
    exact hl.symm
  · obtain ⟨a, b, c, d, rfl, h⟩ := h
    exact body cdv A outer s H Q E a b c d hr h
end

/-! ### two lists, side by side -/
def All2 {α β : Type} (R : α → β → Prop) : List α → List β → Prop
  | [], [] => True
  | a :: as, b :: bs => R a b ∧ All2 R as bs
  | _, _ => False
theorem All2.imp {α β : Type} {R S : α → β → Prop} (h : ∀ a b, R a b → S a b) : ∀ {as : List α} {bs : List β}, All2 R as bs → All2 S as bs
  | [], [], _ => trivial
  | [], _ :: _, z => z.elim
  | _ :: _, [], z => z.elim
  | _ :: _, _ :: _, z => ⟨h _ _ z.1, All2.imp h z.2⟩
theorem All2.len {α β : Type} {R : α → β → Prop} : ∀ {as : List α} {bs : List β}, All2 R as bs → as.length = bs.length
  | [], [], _ => rfl
  | [], _ :: _, z => z.elim
  | _ :: _, [], z => z.elim
  | _ :: _, _ :: _, z => congrArg Nat.succ (All2.len z.2)
theorem All2.at {α β : Type} {R : α → β → Prop} : ∀ {as : List α} {bs : List β} {i : Nat} {a : α}, All2 R as bs → as[i]? = some a → ∃ b, bs[i]? = some b ∧ R a b
  | [], _, _, _, _, e => by simp at e
  | _ :: _, [], _, _, z, _ => z.elim
  | a :: _, b :: _, 0, _, z, e => by
    simp at e
    subst e
    exact ⟨b, rfl, z.1⟩
  | _ :: as, _ :: bs, i + 1, _, z, e => by
    obtain ⟨b, h1, h2⟩ := All2.at (i := i) z.2 (by simpa using e)
    exact ⟨b, by simpa using h1, h2⟩
theorem All2.at' {α β : Type} {R : α → β → Prop} : ∀ {as : List α} {bs : List β} {i : Nat} {b : β}, All2 R as bs → bs[i]? = some b → ∃ a, as[i]? = some a ∧ R a b
  | _, [], _, _, _, e => by simp at e
  | [], _ :: _, _, _, z, _ => z.elim
  | a :: _, b :: _, 0, _, z, e => by
    simp at e
    subst e
    exact ⟨a, rfl, z.1⟩
  | _ :: as, _ :: bs, i + 1, _, z, e => by
    obtain ⟨b, h1, h2⟩ := All2.at' (i := i) z.2 (by simpa using e)
    exact ⟨b, by simpa using h1, h2⟩
theorem All2.app {α β : Type} {R : α → β → Prop} : ∀ {as : List α} {bs : List β} {cs : List α} {ds : List β}, All2 R as bs → All2 R cs ds → All2 R (as ++ cs) (bs ++ ds)
  | [], [], _, _, _, h => h
  | [], _ :: _, _, _, z, _ => z.elim
  | _ :: _, [], _, _, z, _ => z.elim
  | _ :: _, _ :: _, _, _, z, h => ⟨z.1, All2.app z.2 h⟩
theorem All2.snoc {α β : Type} {R : α → β → Prop} {a : α} {b : β} {as : List α} {bs : List β} (h : R a b) (z : All2 R as bs) : All2 R (as ++ [a]) (bs ++ [b]) := All2.app z ⟨h, trivial⟩

def rTupOf (K : PySem.W.Frag) : List V → Hp → VK → Prop := fun xs H Q => ∃ p ys, xs = [.ref p] ∧ ((SqL K H p ys ∧ ∀ l, H l = none → Q (.ref l) (upd H l (.tup ys))) ∨ (SqT K H p ys ∧ Q (.ref p) H))
theorem call_tup {X : Cx} : CallR X (.type "tuple") (rTupOf X.K) := call_tuple_of

/-! ### codes: of each step what it is (0 plain, 1 unless, 2 skip) and over how many steps it can lead -/
def StepR (H : Hp) (x : V) (s : Nat × Nat) : Prop :=
  (s = (0, 0) ∧ ∃ (p : Addr) (w : Str) (r : List V), x = .ref p ∧ H p = some (.tup (.str w :: r)) ∧ ¬ w = "unless" ∧ ¬ w = "skip") ∨
  (∃ h : Nat, s = (1, h) ∧ ∃ (p : Addr) (a b : Int) (rem : V), x = .ref p ∧ H p = some (.tup [.str "unless", .int a, .int b, .int (h : Int), rem]) ∧ (rem = .non ∨ ∃ i : Int, rem = .int i)) ∨
  (∃ h : Nat, s = (2, h) ∧ ∃ p : Addr, x = .ref p ∧ H p = some (.tup [.str "skip", .int (h : Int)]))
theorem StepR.ts {H H' : Hp} (s : TS H H') {x : V} {q : Nat × Nat} (h : StepR H x q) : StepR H' x q := by
  rcases h with ⟨e, p, w, r, e2, hp, n1, n2⟩ | ⟨h, e, p, a, b, rem, e2, hp, hr⟩ | ⟨h, e, p, e2, hp⟩
  · exact .inl ⟨e, p, w, r, e2, s _ _ hp, n1, n2⟩
  · exact .inr (.inl ⟨h, e, p, a, b, rem, e2, s _ _ hp, hr⟩)
  · exact .inr (.inr ⟨h, e, p, e2, s _ _ hp⟩)
def okV (ss : List (Nat × Nat)) (n : Nat) : Prop := ∀ (i : Nat) (s : Nat × Nat), ss[i]? = some s → i + 1 + s.2 ≤ n
def Cd (H : Hp) (v : V) (ss : List (Nat × Nat)) : Prop := ∃ (a : Addr) (xs : List V), v = .ref a ∧ H a = some (.tup xs) ∧ All2 (StepR H) xs ss ∧ okV ss ss.length ∧ ss.length ≤ 800
theorem Cd.ts {H H' : Hp} (s : TS H H') {v : V} {ss : List (Nat × Nat)} (h : Cd H v ss) : Cd H' v ss := by
  obtain ⟨a, xs, e, ha, hx, ok, hl⟩ := h
  exact ⟨a, xs, e, s _ _ ha, All2.imp (fun _ _ => StepR.ts s) hx, ok, hl⟩
/-- the counts from the end -/
def best (s : Nat × Nat) (t : List Int) : Int := if s.1 = 2 then t.getD s.2 0 else if t.getD s.2 0 > t.getD 0 0 then t.getD s.2 0 else t.getD 0 0
def bk : List (Nat × Nat) → List Int
  | [] => [0]
  | s :: r => (1 + best s (bk r)) :: bk r
theorem bk_len : ∀ ss : List (Nat × Nat), (bk ss).length = ss.length + 1
  | [] => rfl
  | s :: r => by
    show (bk r).length + 1 = _
    rw [bk_len r]
    rfl
def cAt (ss : List (Nat × Nat)) (i : Nat) : Int := (bk ss).getD i 0
theorem bk_drop : ∀ (ss : List (Nat × Nat)) (i : Nat), i ≤ ss.length → (bk ss).drop i = bk (ss.drop i)
  | _, 0, _ => rfl
  | [], i + 1, h => by simp at h
  | s :: r, i + 1, h => by
    show (bk r).drop i = bk (r.drop i)
    exact bk_drop r i (by simpa using h)
theorem getD_drop {α : Type} (l : List α) (i j : Nat) (d : α) : (l.drop i).getD j d = l.getD (i + j) d := by
  rw [List.getD_eq_getElem?_getD, List.getD_eq_getElem?_getD, List.getElem?_drop]
theorem cAt_end (ss : List (Nat × Nat)) : cAt ss ss.length = 0 := by
  have h := getD_drop (bk ss) ss.length 0 0
  rw [bk_drop ss _ (Nat.le_refl _), List.drop_length] at h
  exact h.symm
theorem cAt_step {ss : List (Nat × Nat)} {i : Nat} {s : Nat × Nat} (h : ss[i]? = some s) : cAt ss i = 1 + (if s.1 = 2 then cAt ss (i + 1 + s.2) else if cAt ss (i + 1 + s.2) > cAt ss (i + 1) then cAt ss (i + 1 + s.2) else cAt ss (i + 1)) := by
  obtain ⟨hi, e⟩ := List.getElem?_eq_some_iff.mp h
  have h1 := getD_drop (bk ss) i 0 0
  rw [bk_drop ss _ (Nat.le_of_lt hi), List.drop_eq_getElem_cons hi, e] at h1
  have hd : ∀ j, (bk (ss.drop (i + 1))).getD j 0 = cAt ss (i + 1 + j) := fun j => by
    rw [← bk_drop ss (i + 1) hi, getD_drop]
    rfl
  have h2 : (bk (s :: ss.drop (i + 1))).getD 0 0 = 1 + best s (bk (ss.drop (i + 1))) := rfl
  rw [h2] at h1
  rw [show cAt ss i = (bk ss).getD (i + 0) 0 from rfl, ← h1]
  unfold best
  rw [hd, hd]
theorem cAt_nonneg (ss : List (Nat × Nat)) (i : Nat) : 0 ≤ cAt ss i := by
  have : ∀ (ss : List (Nat × Nat)) (i : Nat), 0 ≤ (bk ss).getD i 0 := by
    intro ss
    induction ss with
    | nil =>
      intro i
      cases i with
      | zero => exact Int.le_refl _
      | succ i => exact Int.le_refl _
    | cons s r ih =>
      intro i
      cases i with
      | zero =>
        show 0 ≤ 1 + best s (bk r)
        have h1 := ih s.2
        have h2 := ih 0
        unfold best
        by_cases c : s.1 = 2
        · rw [if_pos c]; omega
        · rw [if_neg c]
          by_cases c2 : (bk r).getD s.2 0 > (bk r).getD 0 0
          · rw [if_pos c2]; omega
          · rw [if_neg c2]; omega
      | succ i => exact ih i
  exact this ss i
def rPass : V → Hp → VK → Prop := fun x H Q => ∃ s : Nat × Nat, StepR H x s ∧ Q (.int (s.2 : Int)) H
def rCounts : V → V → V → V → Hp → VK → Prop := fun x y z z2 H Q => ∃ (ss : List (Nat × Nat)) (k : Addr), Cd H x ss ∧ y = .int 0 ∧ z = .int (ss.length : Int) ∧ z2 = .ref k ∧ H k = some (.dK []) ∧ ∀ (p : Addr) (H' : Hp), Same H H' → H' p = some (.lst ((bk ss).map V.int)) → Q (.ref p) H'
def rBill : V → Hp → VK → Prop := fun x H Q => ∃ ss : List (Nat × Nat), Cd H x ss ∧ ∀ H' : Hp, Same H H' → Q (.int (cAt ss 0)) H'
def rMost : V → V → V → V → Hp → VK → Prop := fun x y z z2 H Q => ∃ (ss : List (Nat × Nat)) (k : Addr), Cd H x ss ∧ y = .int 0 ∧ z = .int (ss.length : Int) ∧ z2 = .ref k ∧ H k = some (.dK []) ∧ ∀ H' : Hp, Same H H' → Q (.int (cAt ss 0)) H'
/-- the list of counts while it is filled -/
def cL (ss : List (Nat × Nat)) (m : Nat) : List Int := List.replicate m 0 ++ bk (ss.drop m)
theorem cL_len {ss : List (Nat × Nat)} {m : Nat} (h : m ≤ ss.length) : (cL ss m).length = ss.length + 1 := by
  unfold cL
  rw [List.length_append, List.length_replicate, bk_len, List.length_drop]
  omega
theorem cL_at {ss : List (Nat × Nat)} {m j : Nat} (h : m ≤ ss.length) (hj : m ≤ j) (hn : j ≤ ss.length) : (cL ss m)[j]? = some (cAt ss j) := by
  have hl : j - m < (bk (ss.drop m)).length := by
    rw [bk_len, List.length_drop]
    omega
  unfold cL cAt
  rw [List.getElem?_append_right (by rw [List.length_replicate]; exact hj), List.length_replicate, List.getElem?_eq_getElem hl]
  have e := getD_drop (bk ss) m (j - m) 0
  rw [bk_drop ss _ h, show m + (j - m) = j by omega, List.getD_eq_getElem?_getD, List.getElem?_eq_getElem hl] at e
  rw [← e]
  rfl
theorem cL_set {ss : List (Nat × Nat)} {m : Nat} {s : Nat × Nat} (h : ss[m]? = some s) : (cL ss (m + 1)).set m (cAt ss m) = cL ss m := by
  obtain ⟨hi, e⟩ := List.getElem?_eq_some_iff.mp h
  have e2 : bk (ss.drop m) = cAt ss m :: bk (ss.drop (m + 1)) := by
    have h1 := getD_drop (bk ss) m 0 0
    rw [bk_drop ss _ (Nat.le_of_lt hi)] at h1
    rw [show cAt ss m = (bk ss).getD (m + 0) 0 from rfl, ← h1, List.drop_eq_getElem_cons hi]
    rfl
  unfold cL
  rw [e2, List.replicate_succ', List.append_assoc, List.set_append_right _ _ (by rw [List.length_replicate]; exact Nat.le_refl _), List.length_replicate, Nat.sub_self]
  rfl
theorem ix_nat {n j : Nat} (hj : j < n) : ixN n (j : Int) = some j := by
  unfold ixN
  rw [if_pos (by omega), if_pos (by omega)]
  rfl
section
variable {P : Program} {w : World} {K : PySem.W.Frag} {mg : Str → Option Value} {base : Heap}
theorem ok_passed_by (T : Tx K mg w) : FnOk P w K mg base CX0 1 T.f_passed_by T.fd_passed_by ["step"] (sp1 rPass) := by
  refine okR1 T.F_passed_by sc_passed_by rfl fun cdv A outer s H Q E x hr h => ?_
  obtain ⟨q, hs, hq⟩ := h
  refine ⟨_, pss_cons (ps_if (pt_cmpR op_eq (pe_ix ix_tup (pv 0) pe_int (fun _ _ => rfl)) pe_str (nomark _)) (pss_one (ps_ret (pe_ix ix_tup (pv 0) pe_int (fun _ _ => rfl)))) pss_nil)
      (pss_one (ps_ret (pe_ifExp (pt_cmpR op_eq (pe_ix ix_tup (pv 0) pe_int (fun _ _ => rfl)) pe_str (nomark _)) (pe_ix ix_tup (pv 0) pe_int (fun _ _ => rfl)) pe_int))), ?_⟩
  rcases hs with ⟨rfl, p, wd, r, rfl, hp, n1, n2⟩ | ⟨h, rfl, p, a, b, rem, rfl, hp, _⟩ | ⟨h, rfl, p, rfl, hp⟩
  · refine ⟨_, rfl, p, _, _, _, rfl, rfl, SqT.of hp, at_n 0 rfl, rfl, _, rfl, ite2 (fun e => absurd (V.str.inj (of_decide_eq_true e)) n1) (fun _ => ?_)⟩
    refine ⟨_, rfl, p, _, _, _, rfl, rfl, SqT.of hp, at_n 0 rfl, rfl, _, rfl, ite2 (fun e => absurd (V.str.inj (of_decide_eq_true e)) n2) (fun _ => hq)⟩
  · refine ⟨_, rfl, p, _, _, _, rfl, rfl, SqT.of hp, at_n 0 rfl, rfl, _, rfl, ite2 (fun _ => ?_) (fun e => absurd (decide_eq_true rfl) e)⟩
    exact ⟨_, rfl, p, _, _, _, rfl, rfl, SqT.of hp, at_n 3 rfl, hq⟩
  · refine ⟨_, rfl, p, _, _, _, rfl, rfl, SqT.of hp, at_n 0 rfl, rfl, _, rfl, ite2 (fun e => absurd (V.str.inj (of_decide_eq_true e)) (by decide +kernel)) (fun _ => ?_)⟩
    refine ⟨_, rfl, p, _, _, _, rfl, rfl, SqT.of hp, at_n 0 rfl, rfl, _, rfl, ite2 (fun _ => ?_) (fun e => absurd (decide_eq_true rfl) e)⟩
    exact ⟨_, rfl, p, _, _, _, rfl, rfl, SqT.of hp, at_n 1 rfl, hq⟩
/-- the word of a step and what that says -/
theorem StepR.word {H : Hp} {x : V} {q : Nat × Nat} (h : StepR H x q) : ∃ (p : Addr) (w : Str) (r : List V), x = .ref p ∧ H p = some (.tup (.str w :: r)) ∧ (w = "skip" ↔ q.1 = 2) := by
  rcases h with ⟨rfl, p, wd, r, rfl, hp, n1, n2⟩ | ⟨h, rfl, p, a, b, rem, rfl, hp, _⟩ | ⟨h, rfl, p, rfl, hp⟩
  · exact ⟨p, wd, r, rfl, hp, fun e => absurd e n2, fun e => absurd e (by decide)⟩
  · exact ⟨p, _, _, rfl, hp, fun e => absurd e (by decide +kernel), fun e => absurd e (by show ¬ (1 = 2); decide)⟩
  · exact ⟨p, _, _, rfl, hp, fun _ => rfl, fun _ => rfl⟩
theorem ok_counts (T : Tx K mg w) : FnOk P w K mg base CX0 2 T.f_counts T.fd_counts ["code", "first", "end", "told"] (sp4 rCounts) := by
  refine okR4 T.F_counts sc_counts rfl fun cdv A outer s H Q EE x y z z2 hr h => ?_
  obtain ⟨ss, k, ⟨a, xs, rfl, ha, hx, ok, hl⟩, rfl, rfl, rfl, hk, q⟩ := h
  refine ⟨_, pss_cons (ps_set (i := 4) sc_counts.nd rfl (Or.inl rfl) (pe_op op_rep (pe_lst (pa_cons pe_int pa_nil)) (pe_op op_add (pe_op op_sub (pv 2) (pv 1)) pe_int)))
      (pss_cons (ps_for PassesOwn.never rfl (pi_revR rfl T.z_reversed (prg_2 rfl T.z_range (pv 1) (pv 2))) (pg_name (i := 5) sc_counts.nd rfl (Or.inl rfl))
      (pss_cons (ps_set (i := 6) sc_counts.nd rfl (Or.inl rfl) (pe_ix ix_tup (pv 0) (pv 5) (fun _ _ => rfl)))
      (pss_cons (ps_set (i := 7) sc_counts.nd rfl (Or.inl rfl) (pe_ix ix_list (pv 4) (pe_op op_add (pe_op op_sub (pv 5) (pv 1)) pe_int) (fun _ _ => rfl)))
      (pss_cons (ps_set (i := 8) sc_counts.nd rfl (Or.inl rfl) (pe_ix ix_list (pv 4) (pe_op op_add (pe_op op_add (pe_op op_sub (pv 5) (pv 1)) pe_int) (pe_call (ok_passed_by T) (hr.mono (by decide)) rfl T.m_passed_by T.F_passed_by.kp T.b_passed_by .nil pass0 (pa_cons (pv 6) pa_nil))) (fun _ _ => rfl)))
      (C8.pss_cut (ps_if (pt_cmpR op_eq (pe_ix ix_tup (pv 6) pe_int (fun _ _ => rfl)) pe_str (nomark _)) (pss_one (ps_set (i := 7) sc_counts.nd rfl (Or.inl rfl) (pv 8))) (pss_one (ps_if (pt_cmp (pc_dnotin (hu_of hr) (pv 5) (pv 3))) (pss_one (ps_set (i := 7) sc_counts.nd rfl (Or.inl rfl) (pe_callB (call_max2 rfl) (by rfl) T.z_max (by decide +kernel) (pa_cons (pv 7) (pa_cons (pv 8) pa_nil))))) (pss_one ps_never))))
      (pss_one (ps_asg (pe_op op_add pe_int (pv 7)) (pg_sub (pv 4) (pe_op op_sub (pv 5) (pv 1)) set_list))))))))
      (pss_one (ps_ret (pv 4)))), ?_⟩
  have lx := All2.len hx
  have toN : ((ss.length : Int) - 0 + 1).toNat = ss.length + 1 := by omega
  refine ⟨sl 1, fun l1 n1 => ⟨_, rfl, _, rfl, _, _, rfl, rfl, _, _, rfl, rfl, l1, _, _, rfl, rfl, upd_same, by omega, by omega, ?_, fun L nL => ?_⟩⟩
  · rw [toN, sizeLine_eq]
    simp
    omega
  have eL : (List.replicate ((ss.length : Int) - 0 + 1).toNat [V.int 0]).flatten = (cL ss ss.length).map V.int := by
    rw [toN]
    unfold cL
    rw [List.drop_length, show bk [] = [0] from rfl, List.map_append, List.map_replicate]
    rw [show List.map V.int [0] = List.replicate 1 (V.int 0) from rfl, List.replicate_append_replicate]
    generalize ss.length + 1 = n
    induction n with
    | zero => rfl
    | succ n ih => rw [List.replicate_succ, List.flatten_cons, ih, List.replicate_succ]; rfl
  rw [eL]
  have s1 := (same_new (o := .lst [V.int 0]) n1).trans (same_new (o := .lst ((cL ss ss.length).map V.int)) nL)
  have hL := upd_same (H := upd H l1 (.lst [V.int 0])) (a := L) (o := .lst ((cL ss ss.length).map V.int))
  have HL : ∀ b o, H b = some o → b ≠ L := fun b o e => ne_of_none ((same_new n1) _ _ e) nL
  generalize upd (upd H l1 (.lst [V.int 0])) L (.lst ((cL ss ss.length).map V.int)) = H1 at s1 hL ⊢
  refine ⟨_, rfl, _, rfl, _, _, rfl, rfl, by omega, by omega, by omega, by omega, ?_⟩
  rw [show ((ss.length : Int) - 0).toNat = ss.length by omega]
  refine for_rangeC (fun i σ H' => ∃ v5 v6 v7 v8 : Option V, σ = [some (.ref a), some (.int 0), some (.int (ss.length : Int)), some (.ref k), some (.ref L), v5, v6, v7, v8] ∧ Same H H' ∧ H' L = some (.lst ((cL ss (ss.length - i)).map V.int))) ⟨none, none, none, none, rfl, s1, hL⟩ ?_ ?_
  · rintro i σ H2 hi ⟨v5, v6, v7, v8, rfl, s2, hL2⟩
    obtain ⟨m, hm⟩ : ∃ m, m = ss.length - 1 - i := ⟨_, rfl⟩
    have em : (0 : Int) + ((ss.length : Nat) : Int) - 1 + (i : Nat) * (-1) = (m : Int) := by omega
    rw [show ss.length - i = m + 1 by omega] at hL2
    have hmn : m < ss.length := by omega
    obtain ⟨q0, hq0⟩ : ∃ q0, ss[m]? = some q0 := ⟨ss[m], List.getElem?_eq_getElem hmn⟩
    obtain ⟨xv, hxv, hst⟩ := All2.at' hx hq0
    have hok := ok m q0 hq0
    have ha2 := s2 _ _ ha
    have hst := StepR.ts (TS.of s2) hst
    obtain ⟨p, wd, r, rfl, hp, iw⟩ := hst.word
    have near : atI ((cL ss (m + 1)).map V.int) ((m : Int) - 0 + 1) = some (.int (cAt ss (m + 1))) := by
      rw [show (m : Int) - 0 + 1 = ((m + 1 : Nat) : Int) by omega]
      exact at_n _ (by rw [List.getElem?_map, cL_at (by omega) (by omega) (by omega)]; rfl)
    have far : atI ((cL ss (m + 1)).map V.int) ((m : Int) - 0 + 1 + (q0.2 : Int)) = some (.int (cAt ss (m + 1 + q0.2))) := by
      rw [show (m : Int) - 0 + 1 + (q0.2 : Int) = ((m + 1 + q0.2 : Nat) : Int) by omega]
      exact at_n _ (by rw [List.getElem?_map, cL_at (by omega) (by omega) (by omega)]; rfl)
    have cs := cAt_step hq0
    rw [em]
    refine ⟨_, rfl, _, rfl, a, _, _, _, rfl, rfl, SqT.of ha2, at_n m hxv, ?_⟩
    refine ⟨_, rfl, _, rfl, _, rfl, _, _, rfl, rfl, _, _, rfl, rfl, L, _, _, _, rfl, rfl, SqL.of hL2, near, ?_⟩
    refine ⟨_, rfl, _, rfl, _, rfl, _, _, rfl, rfl, _, _, rfl, rfl, _, rfl, _, rfl, q0, hst, _, _, rfl, rfl, L, _, _, _, rfl, rfl, SqL.of hL2, far, ?_⟩
    refine ⟨fun σ H' => H' = H2 ∧ σ = [some (.ref a), some (.int 0), some (.int (ss.length : Int)), some (.ref k), some (.ref L), some (.int (m : Int)), some (.ref p), some (.int (cAt ss m - 1)), some (.int (cAt ss (m + 1 + q0.2)))], ?_, ?_⟩
    · refine ⟨_, rfl, p, _, _, _, rfl, rfl, SqT.of hp, at_n 0 rfl, rfl, _, rfl, ite2 (fun e => ?_) (fun e => ?_)⟩
      · have e2 := iw.mp (V.str.inj (of_decide_eq_true e))
        rw [if_pos e2] at cs
        exact ⟨_, rfl, rfl, by rw [show cAt ss m - 1 = cAt ss (m + 1 + q0.2) by omega]; rfl⟩
      · have e2 : ¬ q0.1 = 2 := fun z => e (decide_eq_true (congrArg V.str (iw.mpr z)))
        rw [if_neg e2] at cs
        refine ⟨_, rfl, _, rfl, k, none, rfl, DGet.k (k := Sum.inl (m : Int)) (s2 _ _ hk), _, rfl, iteT ?_⟩
        refine ⟨_, rfl, _, rfl, _, _, rfl, rfl, ?_⟩
        rw [show cAt ss m - 1 = (if cAt ss (m + 1 + q0.2) > cAt ss (m + 1) then cAt ss (m + 1 + q0.2) else cAt ss (m + 1)) by omega]
        rfl
    · rintro σ H' ⟨rfl, rfl⟩
      refine ⟨_, rfl, _, _, rfl, rfl, _, rfl, _, rfl, _, rfl, _, _, rfl, rfl, L, _, _, m, rfl, rfl, hL2, ?_, ?_⟩
      · rw [List.length_map, cL_len (by omega)]
        rw [show (m : Int) - 0 = ((m : Nat) : Int) by omega]
        exact ix_nat (by omega)
      · refine ⟨_, _, _, _, rfl, fun b o e => upd_else (s2 _ _ e) (HL b o e), ?_⟩
        rw [upd_same]
        show some (HO.lst ((List.map V.int (cL ss (m + 1))).set m (V.int (1 + (cAt ss m - 1))))) = _
        rw [show (1 : Int) + (cAt ss m - 1) = cAt ss m by omega, ← List.map_set, cL_set hq0, show ss.length - (i + 1) = m by omega]
  · rintro σ H2 ⟨v5, v6, v7, v8, rfl, s2, hL2⟩
    rw [Nat.sub_self] at hL2
    exact ⟨_, rfl, q L H2 s2 hL2⟩
end

/-! ### the law's draws of steps -/
def rAnyD : V → Hp → VK → Prop := fun x H Q => ∃ d c : Addr, x = .ref d ∧ Dr d c H ∧ ∀ (v : V) (H' : Hp), Dr d c H' → Keep d H H' → Q v H'
def rNumD : V → V → Hp → VK → Prop := fun x y H Q => ∃ d c : Addr, x = .ref d ∧ y = .int 12 ∧ Dr d c H ∧ ∀ (v : V) (H' : Hp), Dr d c H' → Keep d H H' → Q v H'
def rHop : V → V → Hp → VK → Prop := fun x y H Q => ∃ (d c : Addr) (b : Nat), x = .ref d ∧ y = .int (b : Int) ∧ Dr d c H ∧ b ≤ 100000 ∧ ∀ (h : Nat) (H' : Hp), h ≤ b → Dr d c H' → Keep d H H' → Q (.int (h : Int)) H'
def rRem : V → Hp → VK → Prop := fun x H Q => ∃ d c : Addr, x = .ref d ∧ Dr d c H ∧ ∀ (v : V) (H' : Hp), (v = .non ∨ ∃ i : Int, v = .int i) → Dr d c H' → Keep d H H' → Q v H'
/-- a plain step -/
def rPlain : V → V → Hp → VK → Prop := fun x y H Q => ∃ (d c : Addr) (m : Int), x = .ref d ∧ y = .int m ∧ 1 ≤ m ∧ m ≤ 1000 ∧ Dr d c H ∧ ∀ (v : V) (H' : Hp), StepR H' v (0, 0) → Dr d c H' → Keep d H H' → Q v H'
theorem Keep.list {d p : Addr} {H : Hp} {xs : List V} (h : H p = none) : Keep d H (upd H p (.lst xs)) := Keep.of (same_new h)
theorem plain_new {H : Hp} {p : Addr} {w : Str} {r : List V} (n1 : ¬ w = "unless") (n2 : ¬ w = "skip") : StepR (upd H p (.tup (.str w :: r))) (.ref p) (0, 0) := .inl ⟨rfl, p, w, r, rfl, upd_same, n1, n2⟩
section
variable {P : Program} {w : World} {K : PySem.W.Frag} {mg : Str → Option Value} {base : Heap}
theorem ok_num (T : Tx K mg w) : FnOk P w K mg base CX0 3 T.f_num T.fd_num ["d", "most"] (sp2 rNumD) := by
  refine okR2 T.F_num sc_num rfl fun cdv A outer s H Q E x y hr h => ?_
  obtain ⟨d, c, rfl, rfl, dr, q⟩ := h
  refine ⟨_, pss_cons (ps_set (i := 2) sc_num.nd rfl (Or.inl rfl) (pe_op op_add pe_int (pe_call (ok_draw T) (hr.mono (by decide)) rfl T.m_draw T.F_draw.kp T.b_draw .nil pass0 (pa_cons (pv 0) (pa_cons (pe_op op_sub (pv 1) pe_int) pa_nil)))))
      (pss_cons (ps_set (i := 3) sc_num.nd rfl (Or.inl rfl) (pe_ix ix_list (pe_lst (pa_cons pe_int (pa_cons pe_int (pa_cons (pe_un un_neg pe_int) (pa_cons (pe_op op_fdiv (pe_un un_neg (pv 2)) pe_int) (pa_cons pe_int (pa_cons (pe_un un_neg (pv 2)) (pa_cons (pe_op op_sub pe_int (pv 2)) (pa_cons (pe_un un_neg pe_int) pa_nil))))))))) (pe_call (ok_draw T) (hr.mono (by decide)) rfl T.m_draw T.F_draw.kp T.b_draw .nil pass0 (pa_cons (pv 0) (pa_cons pe_int pa_nil))) (fun _ _ => rfl)))
      (pss_cons (ps_set (i := 4) sc_num.nd rfl (Or.inl rfl) (pe_ix ix_list (pe_lst (pa_cons pe_int (pa_cons pe_int (pa_cons pe_int (pa_cons pe_int (pa_cons pe_int (pa_cons pe_int pa_nil))))))) (pe_call (ok_draw T) (hr.mono (by decide)) rfl T.m_draw T.F_draw.kp T.b_draw .nil pass0 (pa_cons (pv 0) (pa_cons pe_int pa_nil))) (fun _ _ => rfl)))
      (pss_one (ps_ret (pe_tup (pa_cons pe_str (pa_cons (pv 3) (pa_cons (pe_op op_sub (pe_op op_add (pv 3) (pv 2)) pe_int) (pa_cons (pv 4) (pa_cons (pe_ix ix_list (pe_lst (pa_cons pe_str (pa_cons pe_str pa_nil))) (pe_call (ok_draw T) (hr.mono (by decide)) rfl T.m_draw T.F_draw.kp T.b_draw .nil pass0 (pa_cons (pv 0) (pa_cons pe_int pa_nil))) (fun _ _ => rfl)) pa_nil)))))))))), ?_⟩
  refine ⟨_, rfl, _, rfl, _, _, rfl, rfl, _, _, rfl, d, c, 11, rfl, rfl, dr, by omega, by omega, fun r H1 r0 r1 dr1 k1 => ?_⟩
  refine ⟨_, _, rfl, rfl, ?_⟩
  refine ⟨_, rfl, _, rfl, _, rfl, _, _, rfl, rfl, ⟨by decide, by decide⟩, _, rfl, _, rfl, _, rfl, _, _, rfl, rfl, _, rfl, sl 8, fun l2 n2 => ?_⟩
  have k2 := k1.trans (Keep.list (d := d) (xs := [V.int 0, V.int 0, V.int (-1), V.int (-(2 + r) / 2), V.int 1, V.int (-(2 + r)), V.int (1000 - (2 + r)), V.int (-1000)]) n2)
  have l2d := dr1.dne n2
  refine ⟨_, rfl, _, _, rfl, d, c, 8, rfl, rfl, dr1.new n2, by omega, by omega, fun r2 H2 a2 b2 dr2 kk2 => ?_⟩
  obtain ⟨low, hn, _⟩ := at_int (ns := [0, 0, -1, -(2 + r) / 2, 1, -(2 + r), 1000 - (2 + r), -1000]) a2 b2
  have k3 := k2.trans kk2
  refine ⟨l2, _, _, _, rfl, rfl, SqL.of (kk2 _ _ upd_same l2d), hn, ?_⟩
  refine ⟨sl 6, fun l3 n3 => ?_⟩
  have k4 := k3.trans (Keep.list (d := d) (xs := [V.int 1, V.int 1, V.int 1, V.int 2, V.int 3, V.int 10]) n3)
  have l3d := dr2.dne n3
  refine ⟨_, rfl, _, _, rfl, d, c, 6, rfl, rfl, dr2.new n3, by omega, by omega, fun r3 H3 a3 b3 dr3 kk3 => ?_⟩
  obtain ⟨per, hn3, _⟩ := at_int (ns := [1, 1, 1, 2, 3, 10]) a3 b3
  have k5 := k4.trans kk3
  refine ⟨l3, _, _, _, rfl, rfl, SqL.of (kk3 _ _ upd_same l3d), hn3, ?_⟩
  refine ⟨_, rfl, _, rfl, _, rfl, _, _, rfl, rfl, _, _, rfl, rfl, _, rfl, sl 2, fun l4 n4 => ?_⟩
  have k6 := k5.trans (Keep.list (d := d) (xs := [V.str "wrap", V.str "hold"]) n4)
  have l4d := dr3.dne n4
  refine ⟨_, rfl, _, _, rfl, d, c, 2, rfl, rfl, dr3.new n4, by omega, by omega, fun r4 H4 a4 b4 dr4 kk4 => ?_⟩
  obtain ⟨how, hn4, _⟩ := at_in (xs := [V.str "wrap", V.str "hold"]) a4 b4
  refine ⟨l4, _, _, _, rfl, rfl, SqL.of (kk4 _ _ upd_same l4d), hn4, sl 5, fun p np => ?_⟩
  exact q _ _ (dr4.new np) ((k6.trans kk4).trans (Keep.new np))
theorem ok_whole (T : Tx K mg w) : FnOk P w K mg base CX0 3 T.f_whole T.fd_whole ["d"] (sp1 rAnyD) := by
  refine okR1 T.F_whole sc_whole rfl fun cdv A outer s H Q E x hr h => ?_
  obtain ⟨d, c, rfl, dr, q⟩ := h
  refine ⟨_, pss_cons (ps_set (i := 1) sc_whole.nd rfl (Or.inl rfl) (pe_call (ok_draw T) (hr.mono (by decide)) rfl T.m_draw T.F_draw.kp T.b_draw .nil pass0 (pa_cons (pv 0) (pa_cons pe_int pa_nil))))
      (pss_cons (ps_if (pt_cmpR op_lt (pv 1) pe_int (nomark _)) (pss_one (ps_ret (pe_call (ok_draw T) (hr.mono (by decide)) rfl T.m_draw T.F_draw.kp T.b_draw .nil pass0 (pa_cons (pv 0) (pa_cons pe_int pa_nil))))) pss_nil)
      (pss_cons (ps_if (pt_cmpR op_eq (pv 1) pe_int (nomark _)) (pss_one (ps_ret (pe_op op_sub pe_int (pe_call (ok_draw T) (hr.mono (by decide)) rfl T.m_draw T.F_draw.kp T.b_draw .nil pass0 (pa_cons (pv 0) (pa_cons pe_int pa_nil)))))) pss_nil)
      (pss_one (ps_ret (pe_op op_sub (pe_call (ok_draw T) (hr.mono (by decide)) rfl T.m_draw T.F_draw.kp T.b_draw .nil pass0 (pa_cons (pv 0) (pa_cons pe_int pa_nil))) pe_int))))), ?_⟩
  refine ⟨_, rfl, _, _, rfl, d, c, 7, rfl, rfl, dr, by omega, by omega, fun r H1 r0 r1 dr1 k1 => ?_⟩
  refine ⟨_, rfl, _, _, rfl, rfl, _, rfl, ite2 (fun _ => ?_) (fun _ => ?_)⟩
  · exact ⟨_, rfl, _, _, rfl, d, c, 2, rfl, rfl, dr1, by omega, by omega, fun r2 H2 a2 b2 dr2 k2 => q _ _ dr2 (k1.trans k2)⟩
  refine ⟨_, rfl, rfl, _, rfl, ite2 (fun _ => ?_) (fun _ => ?_)⟩
  · exact ⟨_, rfl, _, _, rfl, d, c, 2000001, rfl, rfl, dr1, by omega, by omega, fun r2 H2 a2 b2 dr2 k2 => ⟨_, _, rfl, rfl, q _ _ dr2 (k1.trans k2)⟩⟩
  · exact ⟨_, rfl, _, _, rfl, d, c, 14, rfl, rfl, dr1, by omega, by omega, fun r2 H2 a2 b2 dr2 k2 => ⟨_, _, rfl, rfl, q _ _ dr2 (k1.trans k2)⟩⟩
theorem ok_per (T : Tx K mg w) : FnOk P w K mg base CX0 3 T.f_per T.fd_per ["d"] (sp1 rAnyD) := by
  refine okR1 T.F_per sc_per rfl fun cdv A outer s H Q E x hr h => ?_
  obtain ⟨d, c, rfl, dr, q⟩ := h
  refine ⟨_, pss_one (ps_ret (pe_op op_add pe_int (pe_call (ok_draw T) (hr.mono (by decide)) rfl T.m_draw T.F_draw.kp T.b_draw .nil pass0 (pa_cons (pv 0) (pa_cons (pe_ix ix_list (pe_lst (pa_cons pe_int (pa_cons pe_int (pa_cons pe_int (pa_cons pe_int pa_nil))))) (pe_call (ok_draw T) (hr.mono (by decide)) rfl T.m_draw T.F_draw.kp T.b_draw .nil pass0 (pa_cons (pv 0) (pa_cons pe_int pa_nil))) (fun _ _ => rfl)) pa_nil))))), ?_⟩
  refine ⟨_, rfl, sl 4, fun l1 n1 => ?_⟩
  have k1 := Keep.list (d := d) (xs := [V.int 1, V.int 3, V.int 100, V.int 2]) n1
  refine ⟨_, rfl, _, _, rfl, d, c, 4, rfl, rfl, dr.new n1, by omega, by omega, fun r H2 a2 b2 dr2 k2 => ?_⟩
  obtain ⟨m, hn, hm⟩ := at_int (ns := [1, 3, 100, 2]) a2 b2
  have mb : 1 ≤ m ∧ m ≤ 100 := by
    simp only [List.mem_cons, List.not_mem_nil, or_false] at hm
    omega
  refine ⟨l1, _, _, _, rfl, rfl, SqL.of (k2 _ _ upd_same (dr.dne n1)), hn, ?_⟩
  exact ⟨_, _, rfl, d, c, m, rfl, rfl, dr2, by omega, by omega, fun r3 H3 a3 b3 dr3 k3 => ⟨_, _, rfl, rfl, q _ _ dr3 ((k1.trans k2).trans k3)⟩⟩
theorem ok_step_num (T : Tx K mg w) : FnOk P w K mg base CX0 4 T.f_step_num T.fd_step_num ["d"] (sp1 rAnyD) := by
  refine okR1 T.F_step_num sc_step_num rfl fun cdv A outer s H Q E x hr h => ?_
  obtain ⟨d, c, rfl, dr, q⟩ := h
  refine ⟨_, pss_cons (ps_set (i := 1) sc_step_num.nd rfl (Or.inl rfl) (pe_call (ok_draw T) (hr.mono (by decide)) rfl T.m_draw T.F_draw.kp T.b_draw .nil pass0 (pa_cons (pv 0) (pa_cons pe_int pa_nil))))
      (pss_cons (ps_set (i := 2) sc_step_num.nd rfl (Or.inl rfl) (pe_call (ok_pick T) (hr.mono (by decide)) rfl T.m_pick T.F_pick.kp T.b_pick .nil pass0 (pa_cons (pv 0) (pa_cons (pe_lst (pa_cons pe_str (pa_cons pe_str pa_nil))) pa_nil))))
      (pss_cons (ps_if (pt_cmpR op_eq (pv 1) pe_int (nomark _)) (pss_cons (ps_set (i := 3) sc_step_num.nd rfl (Or.inl rfl) (pe_op op_sub pe_int (pe_call (ok_draw T) (hr.mono (by decide)) rfl T.m_draw T.F_draw.kp T.b_draw .nil pass0 (pa_cons (pv 0) (pa_cons pe_int pa_nil)))))
      (pss_one (ps_ret (pe_tup (pa_cons pe_str (pa_cons (pv 3) (pa_cons (pv 3) (pa_cons (pe_call (ok_per T) (hr.mono (by decide)) rfl T.m_per T.F_per.kp T.b_per .nil pass0 (pa_cons (pv 0) pa_nil)) (pa_cons (pv 2) pa_nil))))))))) pss_nil)
      (pss_cons (ps_if (pt_cmpR op_eq (pv 1) pe_int (nomark _)) (pss_one (ps_ret (pe_tup (pa_cons pe_str (pa_cons (pe_op op_sub pe_int (pe_call (ok_draw T) (hr.mono (by decide)) rfl T.m_draw T.F_draw.kp T.b_draw .nil pass0 (pa_cons (pv 0) (pa_cons pe_int pa_nil)))) (pa_cons (pe_call (ok_draw T) (hr.mono (by decide)) rfl T.m_draw T.F_draw.kp T.b_draw .nil pass0 (pa_cons (pv 0) (pa_cons pe_int pa_nil))) (pa_cons (pe_call (ok_per T) (hr.mono (by decide)) rfl T.m_per T.F_per.kp T.b_per .nil pass0 (pa_cons (pv 0) pa_nil)) (pa_cons (pv 2) pa_nil)))))))) pss_nil)
      (pss_one (ps_ret (pe_call (ok_num T) (hr.mono (by decide)) rfl T.m_num T.F_num.kp T.b_num .nil pass0 (pa_cons (pv 0) (pa_cons pe_int pa_nil)))))))), ?_⟩
  refine ⟨_, rfl, _, _, rfl, d, c, 8, rfl, rfl, dr, by omega, by omega, fun r H1 r0 r1 dr1 k1 => ?_⟩
  refine ⟨_, rfl, sl 2, fun l1 n1 => ?_⟩
  have k1 := k1.trans (Keep.list (d := d) (xs := [V.str "wrap", V.str "hold"]) n1)
  refine ⟨_, _, rfl, d, c, l1, _, rfl, dr1.new n1, (by simp), (by simp), rfl, dr1.dne n1, upd_same, fun v H2 hv dr2 kk2 => ?_⟩
  have k2 := k1.trans kk2
  refine ⟨_, rfl, rfl, _, rfl, ite2 (fun _ => ?_) (fun _ => ?_)⟩
  · refine ⟨_, rfl, _, _, rfl, d, c, 2001, rfl, rfl, dr2, by omega, by omega, fun r3 H3 a3 b3 dr3 k3 => ⟨_, _, rfl, rfl, ?_⟩⟩
    exact ⟨_, rfl, _, rfl, _, rfl, _, rfl, d, c, rfl, dr3, fun v4 H4 dr4 k4 => ⟨_, rfl, sl 5, fun p np => q _ _ (dr4.new np) (((k2.trans k3).trans k4).trans (Keep.new np))⟩⟩
  refine ⟨_, rfl, rfl, _, rfl, ite2 (fun _ => ?_) (fun _ => ?_)⟩
  · refine ⟨_, rfl, _, _, rfl, d, c, 1001, rfl, rfl, dr2, by omega, by omega, fun r3 H3 a3 b3 dr3 k3 => ⟨_, _, rfl, rfl, ?_⟩⟩
    refine ⟨_, rfl, _, _, rfl, d, c, 1001, rfl, rfl, dr3, by omega, by omega, fun r4 H4 a4 b4 dr4 k4 => ?_⟩
    exact ⟨_, rfl, _, rfl, d, c, rfl, dr4, fun v5 H5 dr5 k5 => ⟨_, rfl, sl 5, fun p np => q _ _ (dr5.new np) ((((k2.trans k3).trans k4).trans k5).trans (Keep.new np))⟩⟩
  · exact ⟨_, rfl, _, _, rfl, d, c, rfl, rfl, dr2, fun v3 H3 dr3 k3 => q _ _ dr3 (k2.trans k3)⟩
theorem ok_hop (T : Tx K mg w) : FnOk P w K mg base CX0 3 T.f_hop T.fd_hop ["d", "behind"] (sp2 rHop) := by
  refine okR2 T.F_hop sc_hop rfl fun cdv A outer s H Q E x y hr h => ?_
  obtain ⟨d, c, b, rfl, rfl, dr, hb, q⟩ := h
  refine ⟨_, pss_cons (ps_if (pt_cmpR op_eq (pe_call (ok_draw T) (hr.mono (by decide)) rfl T.m_draw T.F_draw.kp T.b_draw .nil pass0 (pa_cons (pv 0) (pa_cons pe_int pa_nil))) pe_int (nomark _)) (pss_one (ps_ret (pe_call (ok_draw T) (hr.mono (by decide)) rfl T.m_draw T.F_draw.kp T.b_draw .nil pass0 (pa_cons (pv 0) (pa_cons (pe_op op_add (pv 1) pe_int) pa_nil))))) pss_nil)
      (pss_one (ps_ret (pe_call (ok_draw T) (hr.mono (by decide)) rfl T.m_draw T.F_draw.kp T.b_draw .nil pass0 (pa_cons (pv 0) (pa_cons (pe_op op_add (pe_callB (call_min2 rfl) (by rfl) T.z_min (by decide +kernel) (pa_cons (pv 1) (pa_cons pe_int pa_nil))) pe_int) pa_nil))))), ?_⟩
  refine ⟨_, rfl, _, _, rfl, d, c, 4, rfl, rfl, dr, by omega, by omega, fun r H1 r0 r1 dr1 k1 => ⟨rfl, _, rfl, ite2 (fun _ => ?_) (fun _ => ?_)⟩⟩
  · refine ⟨_, rfl, _, rfl, _, _, rfl, rfl, _, _, rfl, d, c, (b : Int) + 1, rfl, rfl, dr1, by omega, by omega, fun r2 H2 a2 b2 dr2 k2 => ?_⟩
    obtain ⟨j, rfl⟩ := Int.eq_ofNat_of_zero_le a2
    exact q j H2 (by omega) dr2 (k1.trans k2)
  · have mm : 0 ≤ (if (3 : Int) < (b : Int) then 3 else (b : Int)) ∧ (if (3 : Int) < (b : Int) then 3 else (b : Int)) ≤ b := by
      by_cases g : (3 : Int) < (b : Int)
      · rw [if_pos g]; omega
      · rw [if_neg g]; omega
    refine ⟨_, rfl, _, rfl, _, _, rfl, _, _, rfl, rfl, _, _, rfl, d, c, (if (3 : Int) < (b : Int) then 3 else (b : Int)) + 1, rfl, rfl, dr1, by omega, by omega, fun r2 H2 a2 b2 dr2 k2 => ?_⟩
    obtain ⟨j, rfl⟩ := Int.eq_ofNat_of_zero_le a2
    exact q j H2 (by omega) dr2 (k1.trans k2)
theorem ok_remark (T : Tx K mg w) : FnOk P w K mg base CX0 3 T.f_remark T.fd_remark ["d"] (sp1 rRem) := by
  refine okR1 T.F_remark sc_remark rfl fun cdv A outer s H Q E x hr h => ?_
  obtain ⟨d, c, rfl, dr, q⟩ := h
  refine ⟨_, pss_one (ps_ret (pe_ix ix_list (pe_lst (pa_cons pe_non (pa_cons pe_int (pa_cons pe_int (pa_cons pe_non pa_nil))))) (pe_call (ok_draw T) (hr.mono (by decide)) rfl T.m_draw T.F_draw.kp T.b_draw .nil pass0 (pa_cons (pv 0) (pa_cons pe_int pa_nil))) (fun _ _ => rfl))), ?_⟩
  refine ⟨sl 4, fun l1 n1 => ?_⟩
  have k1 := Keep.list (d := d) (xs := [V.non, V.int 0, V.int 7, V.non]) n1
  refine ⟨_, rfl, _, _, rfl, d, c, 4, rfl, rfl, dr.new n1, by omega, by omega, fun r H2 a2 b2 dr2 k2 => ?_⟩
  obtain ⟨v, hn, hm⟩ := at_in (xs := [V.non, V.int 0, V.int 7, V.non]) a2 b2
  refine ⟨l1, _, _, _, rfl, rfl, SqL.of (k2 _ _ upd_same (dr.dne n1)), hn, q _ _ ?_ dr2 (k1.trans k2)⟩
  simp only [List.mem_cons, List.not_mem_nil, or_false] at hm
  rcases hm with rfl | rfl | rfl | rfl
  · exact .inl rfl
  · exact .inr ⟨_, rfl⟩
  · exact .inr ⟨_, rfl⟩
  · exact .inl rfl
end

def opsL : List Str := ["not", "and", "or", "xor", "eq", "ne", "lt", "le", "neg", "add", "sub", "mul", "div", "min", "max", "mid", "pick", "vote"]
theorem split_ops : Txt.split "not and or xor eq ne lt le neg add sub mul div min max mid pick vote" " " = opsL := by decide +kernel
theorem ops_plain : ∀ o ∈ opsL, ¬ o = "unless" ∧ ¬ o = "skip" := by decide +kernel
section
variable {P : Program} {w : World} {K : PySem.W.Frag} {mg : Str → Option Value} {base : Heap}
theorem ok_do_step (T : Tx K mg w) : FnOk P w K mg base CX0 5 T.f_do_step T.fd_do_step ["d", "many"] (sp2 rPlain) := by
  refine okR2 T.F_do_step sc_do_step rfl fun cdv A outer s H Q EE x y hr h => ?_
  obtain ⟨d, c, m, rfl, rfl, m1, m2, dr, q⟩ := h
  refine ⟨_, pss_cons (ps_set (i := 2) sc_do_step.nd rfl (Or.inl rfl) (pe_call (ok_pick T) (hr.mono (by decide)) rfl T.m_pick T.F_pick.kp T.b_pick .nil pass0 (pa_cons (pv 0) (pa_cons (pe_split pe_str pe_str) pa_nil))))
      (pss_cons (ps_set (i := 3) sc_do_step.nd rfl (Or.inl rfl) (pe_lst pa_nil))
      (C8.pss_cut (ps_for PassesOwn.never rfl (pi_range1 rfl T.z_range (pa_cons (pe_ifExp (pt_cmpR op_in_seq (pv 2) (pe_tup (pa_cons pe_str (pa_cons pe_str pa_nil))) (by rfl)) pe_int (pe_ifExp (pt_cmpR op_in_seq (pv 2) (pe_tup (pa_cons pe_str (pa_cons pe_str (pa_cons pe_str pa_nil)))) (by rfl)) pe_int pe_int)) pa_nil)) (pg_name (i := 4) sc_do_step.nd rfl (Or.inl rfl))
      (pss_one (ps_expr (pe_bm PySem.F.plainAttrs_list PySem.F.slot_list_append PySem.F.type_list_append mt_append (pv 3) (pa_cons (pe_call (ok_draw T) (hr.mono (by decide)) rfl T.m_draw T.F_draw.kp T.b_draw .nil pass0 (pa_cons (pv 0) (pa_cons (pv 1) pa_nil))) pa_nil)))))
      (C8.pss_cut (ps_set (i := 5) sc_do_step.nd rfl (Or.inl rfl) (pe_ifExp (pt_cmpR op_in_seq (pv 2) (pe_tup (pa_cons pe_str (pa_cons pe_str (pa_cons pe_str (pa_cons pe_str (pa_cons pe_str pa_nil)))))) (by rfl)) (pe_call (ok_step_num T) (hr.mono (by decide)) rfl T.m_step_num T.F_step_num.kp T.b_step_num .nil pass0 (pa_cons (pv 0) pa_nil)) (pe_tup (pa_cons pe_str pa_nil))))
      (pss_one (ps_ret (pe_tup (pa_cons pe_str (pa_cons (pv 2) (pa_cons (pv 5) (pa_cons (pe_call (ok_draw T) (hr.mono (by decide)) rfl T.m_draw T.F_draw.kp T.b_draw .nil pass0 (pa_cons (pv 0) (pa_cons (pv 1) pa_nil))) (pa_cons (pe_callTy (show CallR _ (.type "tuple") (rTupOf K) from call_tup) (by rfl) T.z_tuple (by decide +kernel) (pa_cons (pv 3) pa_nil)) pa_nil))))))))))), ?_⟩
  refine ⟨_, rfl, ⟨_, rfl⟩, _, _, rfl, rfl, by decide +kernel, sl _ (by decide +kernel), fun la na => ?_⟩
  rw [split_ops]
  have ka := Keep.list (d := d) (xs := opsL.map V.str) na
  refine ⟨_, _, rfl, d, c, la, _, rfl, dr.new na, (fun e => by cases e), (by rw [List.length_map]; decide), rfl, dr.dne na, upd_same, fun v H1 hv dr1 k1 => ?_⟩
  obtain ⟨op, hop, rfl⟩ := List.mem_map.mp hv
  refine ⟨sl 0, fun L nL => ?_⟩
  have Ld := dr1.dne nL
  have Lc := dr1.cne nL
  have k01 := ka.trans k1
  have HL : ∀ b o, H b = some o → b ≠ d → b ≠ L := fun b o e nb => ne_of_none (k01 b o e nb) nL
  have kL := k01.trans (Keep.list (d := d) (xs := []) nL)
  have drL := dr1.new (o := .lst []) nL
  have hL := upd_same (H := H1) (a := L) (o := .lst [])
  generalize upd H1 L (.lst []) = H2 at kL drL hL ⊢
  refine ⟨fun σ H' => ∃ v4 : Option V, σ = [some (.ref d), some (.int m), some (.str op), some (.ref L), v4, none] ∧ (∃ xs, H' L = some (.lst xs)) ∧ Dr d c H' ∧ Keep d H H', ?_, ?_⟩
  · refine ⟨_, rfl, sl 2, fun t1 nt1 => ⟨t1, _, rfl, .inr (SqT.of upd_same), rfl, rfl, _, rfl, ?_⟩⟩
    have s1 := same_new (o := .tup [V.str "not", V.str "neg"]) nt1
    refine ite2 (fun _ => ?_) (fun _ => ?_)
    · refine ⟨1, rfl, by decide, by decide, for_range (lo := 0) (n := 1) (fun i σ H' => ∃ (xs : List V) (v4 : Option V), σ = [some (.ref d), some (.int m), some (.str op), some (.ref L), v4, none] ∧ H' L = some (.lst xs) ∧ xs.length = i ∧ Dr d c H' ∧ Keep d H H') ⟨[], none, rfl, (s1) _ _ hL, rfl, drL.same (s1), kL.trans (Keep.of (s1))⟩ ?_ ?_⟩
      · rintro i σ H5 hi ⟨xs, v4, rfl, h5, lx, dr5, k5⟩
        refine ⟨_, rfl, .inl ⟨rfl, _, SqL.of h5⟩, _, rfl, _, rfl, _, _, rfl, d, c, m, rfl, rfl, dr5, by omega, by omega, fun r6 H6 a6 b6 dr6 k6 => ?_⟩
        exact ⟨L, _, _, rfl, rfl, k6 _ _ h5 Ld, small1000 (by omega), _, _, rfl, upd_same, by rw [List.length_append, lx]; rfl, dr6.else Ld Lc, fun b o e nb => upd_else ((k5.trans k6) b o e nb) (HL b o e nb)⟩
      · rintro σ H5 ⟨xs, v4, rfl, h5, lx, dr5, k5⟩
        exact ⟨v4, rfl, ⟨xs, h5⟩, dr5, k5⟩
    refine ⟨_, rfl, sl 3, fun t2 nt2 => ⟨t2, _, rfl, .inr (SqT.of upd_same), rfl, rfl, _, rfl, ?_⟩⟩
    have s2 := s1.trans (same_new (o := .tup [V.str "mid", V.str "pick", V.str "vote"]) nt2)
    refine ite2 (fun _ => ?_) (fun _ => ?_)
    · refine ⟨3, rfl, by decide, by decide, for_range (lo := 0) (n := 3) (fun i σ H' => ∃ (xs : List V) (v4 : Option V), σ = [some (.ref d), some (.int m), some (.str op), some (.ref L), v4, none] ∧ H' L = some (.lst xs) ∧ xs.length = i ∧ Dr d c H' ∧ Keep d H H') ⟨[], none, rfl, (s2) _ _ hL, rfl, drL.same (s2), kL.trans (Keep.of (s2))⟩ ?_ ?_⟩
      · rintro i σ H5 hi ⟨xs, v4, rfl, h5, lx, dr5, k5⟩
        refine ⟨_, rfl, .inl ⟨rfl, _, SqL.of h5⟩, _, rfl, _, rfl, _, _, rfl, d, c, m, rfl, rfl, dr5, by omega, by omega, fun r6 H6 a6 b6 dr6 k6 => ?_⟩
        exact ⟨L, _, _, rfl, rfl, k6 _ _ h5 Ld, small1000 (by omega), _, _, rfl, upd_same, by rw [List.length_append, lx]; rfl, dr6.else Ld Lc, fun b o e nb => upd_else ((k5.trans k6) b o e nb) (HL b o e nb)⟩
      · rintro σ H5 ⟨xs, v4, rfl, h5, lx, dr5, k5⟩
        exact ⟨v4, rfl, ⟨xs, h5⟩, dr5, k5⟩
    · refine ⟨2, rfl, by decide, by decide, for_range (lo := 0) (n := 2) (fun i σ H' => ∃ (xs : List V) (v4 : Option V), σ = [some (.ref d), some (.int m), some (.str op), some (.ref L), v4, none] ∧ H' L = some (.lst xs) ∧ xs.length = i ∧ Dr d c H' ∧ Keep d H H') ⟨[], none, rfl, (s2) _ _ hL, rfl, drL.same (s2), kL.trans (Keep.of (s2))⟩ ?_ ?_⟩
      · rintro i σ H5 hi ⟨xs, v4, rfl, h5, lx, dr5, k5⟩
        refine ⟨_, rfl, .inl ⟨rfl, _, SqL.of h5⟩, _, rfl, _, rfl, _, _, rfl, d, c, m, rfl, rfl, dr5, by omega, by omega, fun r6 H6 a6 b6 dr6 k6 => ?_⟩
        exact ⟨L, _, _, rfl, rfl, k6 _ _ h5 Ld, small1000 (by omega), _, _, rfl, upd_same, by rw [List.length_append, lx]; rfl, dr6.else Ld Lc, fun b o e nb => upd_else ((k5.trans k6) b o e nb) (HL b o e nb)⟩
      · rintro σ H5 ⟨xs, v4, rfl, h5, lx, dr5, k5⟩
        exact ⟨v4, rfl, ⟨xs, h5⟩, dr5, k5⟩
  · rintro σ H5 ⟨v4, rfl, ⟨xs, h5⟩, dr5, k5⟩
    refine ⟨fun σ H' => ∃ v4 v5 : Option V, ∃ vk : V, v5 = some vk ∧ σ = [some (.ref d), some (.int m), some (.str op), some (.ref L), v4, v5] ∧ (∃ xs, H' L = some (.lst xs)) ∧ Dr d c H' ∧ Keep d H H', ?_, ?_⟩
    · refine ⟨_, rfl, sl 5, fun t1 nt1 => ⟨t1, _, rfl, .inr (SqT.of upd_same), rfl, rfl, _, rfl, ?_⟩⟩
      have s1 := same_new (o := .tup [V.str "neg", V.str "add", V.str "sub", V.str "mul", V.str "div"]) nt1
      refine ite2 (fun _ => ?_) (fun _ => ?_)
      · refine ⟨_, rfl, _, rfl, d, c, rfl, dr5.same s1, fun vk H6 dr6 k6 => ?_⟩
        exact ⟨v4, _, vk, rfl, rfl, ⟨xs, k6 _ _ (s1 _ _ h5) Ld⟩, dr6, (k5.trans (Keep.of s1)).trans k6⟩
      · refine ⟨sl 1, fun p np => ?_⟩
        have s2 := s1.trans (same_new (o := .tup [V.str "bool"]) np)
        exact ⟨v4, _, _, rfl, rfl, ⟨xs, s2 _ _ h5⟩, dr5.same s2, k5.trans (Keep.of s2)⟩
    · rintro σ H6 ⟨v4, v5, vk, rfl, rfl, ⟨xs, h6⟩, dr6, k6⟩
      refine ⟨_, rfl, _, rfl, _, rfl, _, rfl, _, _, rfl, d, c, m, rfl, rfl, dr6, by omega, by omega, fun r7 H7 a7 b7 dr7 k7 => ?_⟩
      refine ⟨_, rfl, L, _, rfl, .inl ⟨SqL.of (k7 _ _ h6 Ld), fun p np => ⟨sl 5, fun p2 np2 => ?_⟩⟩⟩
      have s8 := (same_new (o := .tup xs) np)
      exact q _ _ (plain_new (by decide +kernel) (by decide +kernel)) (dr7.same (s8.trans (same_new np2))) ((k6.trans k7).trans (Keep.of (s8.trans (same_new np2))))
end

def CodeL (L : Addr) (H : Hp) (ss : List (Nat × Nat)) : Prop := ∃ xs : List V, H L = some (.lst xs) ∧ All2 (StepR H) xs ss
theorem CodeL.keep {d c L : Addr} {H H' : Hp} {ss : List (Nat × Nat)} (h : CodeL L H ss) (dr : Dr d c H) (k : Keep d H H') (n : L ≠ d) : CodeL L H' ss := by
  obtain ⟨xs, h1, h2⟩ := h
  exact ⟨xs, k _ _ h1 n, All2.imp (fun _ _ => StepR.ts (TS.dr dr k)) h2⟩
theorem CodeL.same {L : Addr} {H H' : Hp} {ss : List (Nat × Nat)} (h : CodeL L H ss) (k : Same H H') : CodeL L H' ss := by
  obtain ⟨xs, h1, h2⟩ := h
  exact ⟨xs, k _ _ h1, All2.imp (fun _ _ => StepR.ts (TS.of k)) h2⟩
theorem CodeL.push {L : Addr} {H : Hp} {ss : List (Nat × Nat)} {xs : List V} {v : V} {s : Nat × Nat} (h1 : H L = some (.lst xs)) (h2 : All2 (StepR H) xs ss) (hv : StepR H v s) : CodeL L (upd H L (.lst (xs ++ [v]))) (ss ++ [s]) :=
  ⟨xs ++ [v], upd_same, All2.snoc (hv.ts (TS.wr h1)) (All2.imp (fun _ _ => StepR.ts (TS.wr h1)) h2)⟩
theorem okV.snoc {ss : List (Nat × Nat)} {s : Nat × Nat} {n : Nat} (h : okV ss n) (hs : ss.length + 1 + s.2 ≤ n) : okV (ss ++ [s]) n := by
  intro i q hq
  by_cases hi : i < ss.length
  · rw [List.getElem?_append_left hi] at hq
    exact h i q hq
  · rw [List.getElem?_append_right (by omega)] at hq
    have hi2 : i - ss.length = 0 := by
      rcases Nat.eq_zero_or_pos (i - ss.length) with e | e
      · exact e
      · rw [List.getElem?_eq_none (by simp; omega)] at hq
        cases hq
    rw [hi2] at hq
    cases hq
    omega
theorem okV.nil (n : Nat) : okV [] n := fun i s h => by simp at h
theorem okV.le {ss : List (Nat × Nat)} {n m : Nat} (h : okV ss n) (hm : n ≤ m) : okV ss m := fun i s hs => Nat.le_trans (h i s hs) hm
theorem okV.app {ss tt : List (Nat × Nat)} {n m : Nat} (h : okV ss n) (ht : okV tt m) (hn : n ≤ ss.length + m) : okV (ss ++ tt) (ss.length + m) := by
  intro i q hq
  by_cases hi : i < ss.length
  · rw [List.getElem?_append_left hi] at hq
    have := h i q hq
    omega
  · rw [List.getElem?_append_right (by omega)] at hq
    have := ht _ q hq
    omega
def rSomeC : V → V → V → Hp → VK → Prop := fun x y z H Q => ∃ (d c : Addr) (n : Nat), x = .ref d ∧ y = .int (n : Int) ∧ z = .int 3 ∧ n ≤ 200 ∧ Dr d c H ∧ ∀ (v : V) (H' : Hp) (ss : List (Nat × Nat)), Cd H' v ss → ss.length ≤ 360 → Dr d c H' → Keep d H H' → Q v H'
def rCode : V → V → Hp → VK → Prop := fun x y H Q => ∃ (d c : Addr) (n : Nat), x = .ref d ∧ y = .int (n : Int) ∧ n ≤ 200 ∧ Dr d c H ∧ ∀ (v : V) (H' : Hp) (ss : List (Nat × Nat)), Cd H' v ss → ss.length ≤ 360 → Dr d c H' → Keep d H H' → Q v H'
def rDia : V → V → Hp → VK → Prop := fun x y H Q => ∃ (d c : Addr) (n : Nat), x = .ref d ∧ y = .int (n : Int) ∧ n ≤ 40 ∧ Dr d c H ∧ ∀ (v : V) (H' : Hp) (ss : List (Nat × Nat)), Cd H' v ss → ss.length ≤ 360 → Dr d c H' → Keep d H H' → Q v H'
section
variable {P : Program} {w : World} {K : PySem.W.Frag} {mg : Str → Option Value} {base : Heap}
theorem ok_plain_step (T : Tx K mg w) : FnOk P w K mg base CX0 6 T.f_plain_step T.fd_plain_step ["d", "many"] (sp2 rPlain) := by
  refine okR2 T.F_plain_step sc_plain_step rfl fun cdv A outer s H Q EE x y hr h => ?_
  obtain ⟨d, c, m, rfl, rfl, m1, m2, dr, q⟩ := h
  refine ⟨_, pss_cons (ps_set (i := 2) sc_plain_step.nd rfl (Or.inl rfl) (pe_call (ok_draw T) (hr.mono (by decide)) rfl T.m_draw T.F_draw.kp T.b_draw .nil pass0 (pa_cons (pv 0) (pa_cons pe_int pa_nil))))
      (pss_cons (ps_set (i := 3) sc_plain_step.nd rfl (Or.inl rfl) (pe_call (ok_draw T) (hr.mono (by decide)) rfl T.m_draw T.F_draw.kp T.b_draw .nil pass0 (pa_cons (pv 0) (pa_cons (pv 1) pa_nil))))
      (pss_cons (ps_set (i := 4) sc_plain_step.nd rfl (Or.inl rfl) (pe_call (ok_draw T) (hr.mono (by decide)) rfl T.m_draw T.F_draw.kp T.b_draw .nil pass0 (pa_cons (pv 0) (pa_cons (pv 1) pa_nil))))
      (pss_cons (ps_if (pt_cmpR op_eq (pv 2) pe_int (nomark _)) (pss_one (ps_ret (pe_tup (pa_cons pe_str (pa_cons (pv 3) (pa_cons (pe_call (ok_whole T) (hr.mono (by decide)) rfl T.m_whole T.F_whole.kp T.b_whole .nil pass0 (pa_cons (pv 0) pa_nil)) pa_nil)))))) pss_nil)
      (pss_cons (ps_if (pt_cmpR op_eq (pv 2) pe_int (nomark _)) (pss_one (ps_ret (pe_tup (pa_cons pe_str (pa_cons (pv 3) (pa_cons (pv 4) pa_nil)))))) pss_nil)
      (pss_cons (ps_if (pt_cmpR op_eq (pv 2) pe_int (nomark _)) (pss_one (ps_ret (pe_tup (pa_cons pe_str (pa_cons (pe_call (ok_step_num T) (hr.mono (by decide)) rfl T.m_step_num T.F_step_num.kp T.b_step_num .nil pass0 (pa_cons (pv 0) pa_nil)) (pa_cons (pe_call (ok_per T) (hr.mono (by decide)) rfl T.m_per T.F_per.kp T.b_per .nil pass0 (pa_cons (pv 0) pa_nil)) (pa_cons (pv 3) (pa_cons (pv 4) pa_nil)))))))) pss_nil)
      (pss_cons (ps_if (PW.pt (pw_or (pt_cmpR op_eq (pv 2) pe_int (nomark _)) (pw_or1 (pt_cmpR op_eq (pv 2) pe_int (nomark _))))) (pss_cons (ps_set (i := 5) sc_plain_step.nd rfl (Or.inl rfl) (pe_op op_add pe_int (pe_call (ok_draw T) (hr.mono (by decide)) rfl T.m_draw T.F_draw.kp T.b_draw .nil pass0 (pa_cons (pv 0) (pa_cons (pe_callB (call_min2 rfl) (by rfl) T.z_min (by decide +kernel) (pa_cons (pv 1) (pa_cons pe_int pa_nil))) pa_nil)))))
      (pss_cons (ps_set (i := 6) sc_plain_step.nd rfl (Or.inl rfl) (pe_call (ok_draw T) (hr.mono (by decide)) rfl T.m_draw T.F_draw.kp T.b_draw .nil pass0 (pa_cons (pv 0) (pa_cons (pe_op op_add (pe_op op_sub (pv 1) (pv 5)) pe_int) pa_nil))))
      (pss_cons (ps_if (pt_cmpR op_eq (pv 2) pe_int (nomark _)) (pss_one (ps_ret (pe_tup (pa_cons pe_str (pa_cons (pv 3) (pa_cons (pv 6) (pa_cons (pv 5) (pa_cons (pv 4) (pa_cons (pe_call (ok_per T) (hr.mono (by decide)) rfl T.m_per T.F_per.kp T.b_per .nil pass0 (pa_cons (pv 0) pa_nil)) pa_nil))))))))) pss_nil)
      (pss_one (ps_ret (pe_tup (pa_cons pe_str (pa_cons (pv 6) (pa_cons (pv 5) (pa_cons (pv 4) (pa_cons (pe_call (ok_per T) (hr.mono (by decide)) rfl T.m_per T.F_per.kp T.b_per .nil pass0 (pa_cons (pv 0) pa_nil)) (pa_cons (pv 3) pa_nil)))))))))))) pss_nil)
      (pss_one (ps_ret (pe_call (ok_do_step T) (hr.mono (by decide)) rfl T.m_do_step T.F_do_step.kp T.b_do_step .nil pass0 (pa_cons (pv 0) (pa_cons (pv 1) pa_nil))))))))))), ?_⟩
  refine ⟨_, rfl, _, _, rfl, d, c, 8, rfl, rfl, dr, by omega, by omega, fun way H1 w0 w1 dr1 k1 => ?_⟩
  refine ⟨_, rfl, _, rfl, _, _, rfl, d, c, m, rfl, rfl, dr1, by omega, by omega, fun cell H2 a2 b2 dr2 k2 => ?_⟩
  refine ⟨_, rfl, _, rfl, _, _, rfl, d, c, m, rfl, rfl, dr2, by omega, by omega, fun other H3 a3 b3 dr3 k3 => ?_⟩
  have k03 := (k1.trans k2).trans k3
  refine ⟨_, rfl, rfl, _, rfl, ite2 (fun _ => ?_) (fun _ => ?_)⟩
  · exact ⟨_, rfl, _, rfl, _, rfl, d, c, rfl, dr3, fun v H4 dr4 k4 => ⟨sl 3, fun p np => q _ _ (plain_new (by decide +kernel) (by decide +kernel)) (dr4.new np) ((k03.trans k4).trans (Keep.new np))⟩⟩
  refine ⟨_, rfl, rfl, _, rfl, ite2 (fun _ => ?_) (fun _ => ?_)⟩
  · exact ⟨_, rfl, _, rfl, sl 3, fun p np => q _ _ (plain_new (by decide +kernel) (by decide +kernel)) (dr3.new np) (k03.trans (Keep.new np))⟩
  refine ⟨_, rfl, rfl, _, rfl, ite2 (fun _ => ?_) (fun _ => ?_)⟩
  · exact ⟨_, rfl, _, rfl, d, c, rfl, dr3, fun v H4 dr4 k4 => ⟨_, rfl, _, rfl, d, c, rfl, dr4, fun v5 H5 dr5 k5 => ⟨_, rfl, _, rfl, sl 5, fun p np => q _ _ (plain_new (by decide +kernel) (by decide +kernel)) (dr5.new np) (((k03.trans k4).trans k5).trans (Keep.new np))⟩⟩⟩
  refine ⟨_, rfl, rfl, _, rfl, or_both ?_ (fun hA _ => ⟨_, rfl, rfl, _, rfl, ite2 (fun _ => hA) (fun _ => ?_)⟩)⟩
  · have mm : 1 ≤ (if (6 : Int) < m then 6 else m) ∧ (if (6 : Int) < m then 6 else m) ≤ m := by
      by_cases g : (6 : Int) < m
      · rw [if_pos g]; omega
      · rw [if_neg g]; omega
    refine ⟨_, rfl, _, rfl, _, _, rfl, _, _, rfl, d, c, (if (6 : Int) < m then 6 else m), rfl, rfl, dr3, by omega, by omega, fun r4 H4 a4 b4 dr4 k4 => ⟨_, _, rfl, rfl, ?_⟩⟩
    refine ⟨_, rfl, _, rfl, _, rfl, _, _, rfl, rfl, _, _, rfl, rfl, _, _, rfl, d, c, m - (1 + r4) + 1, rfl, rfl, dr4, by omega, by omega, fun base H5 a5 b5 dr5 k5 => ?_⟩
    have k05 := (k03.trans k4).trans k5
    refine ⟨_, rfl, rfl, _, rfl, ite2 (fun _ => ?_) (fun _ => ?_)⟩
    · exact ⟨_, rfl, _, rfl, _, rfl, _, rfl, _, rfl, _, rfl, d, c, rfl, dr5, fun v H6 dr6 k6 => ⟨sl 6, fun p np => q _ _ (plain_new (by decide +kernel) (by decide +kernel)) (dr6.new np) ((k05.trans k6).trans (Keep.new np))⟩⟩
    · exact ⟨_, rfl, _, rfl, _, rfl, _, rfl, _, rfl, d, c, rfl, dr5, fun v H6 dr6 k6 => ⟨_, rfl, sl 6, fun p np => q _ _ (plain_new (by decide +kernel) (by decide +kernel)) (dr6.new np) ((k05.trans k6).trans (Keep.new np))⟩⟩
  · exact ⟨_, rfl, _, rfl, _, _, rfl, d, c, m, rfl, rfl, m1, m2, dr3, fun v H4 hv dr4 k4 => q _ _ hv dr4 (k03.trans k4)⟩
theorem ok_some_code (T : Tx K mg w) : FnOk P w K mg base CX0 7 T.f_some_code T.fd_some_code ["d", "size", "many"] (sp3 rSomeC) := by
  refine okR3 T.F_some_code sc_some_code rfl fun cdv A outer s H Q EE x y z hr h => ?_
  obtain ⟨d, c, n, rfl, rfl, rfl, hn, dr, q⟩ := h
  refine ⟨_, pss_cons (ps_set (i := 3) sc_some_code.nd rfl (Or.inl rfl) (pe_lst pa_nil))
      (pss_cons (ps_for PassesOwn.never rfl (pi_range1 rfl T.z_range (pa_cons (pv 1) pa_nil)) (pg_name (i := 4) sc_some_code.nd rfl (Or.inl rfl))
      (pss_cons (ps_set (i := 5) sc_some_code.nd rfl (Or.inl rfl) (pe_call (ok_draw T) (hr.mono (by decide)) rfl T.m_draw T.F_draw.kp T.b_draw .nil pass0 (pa_cons (pv 0) (pa_cons pe_int pa_nil))))
      (pss_cons (ps_set (i := 6) sc_some_code.nd rfl (Or.inl rfl) (pe_op op_sub (pe_op op_sub (pv 1) (pv 4)) pe_int))
      (pss_one (ps_if (PW.pt (pw_or (pt_cmpR op_eq (pv 5) pe_int (nomark _)) (pw_or (pt_cmpR op_eq (pv 5) pe_int (nomark _)) (pw_or1 (pt_cmpR op_eq (pv 5) pe_int (nomark _)))))) (pss_one (ps_expr (pe_bm PySem.F.plainAttrs_list PySem.F.slot_list_append PySem.F.type_list_append mt_append (pv 3) (pa_cons (pe_tup (pa_cons pe_str (pa_cons (pe_call (ok_draw T) (hr.mono (by decide)) rfl T.m_draw T.F_draw.kp T.b_draw .nil pass0 (pa_cons (pv 0) (pa_cons (pv 2) pa_nil))) (pa_cons (pe_call (ok_draw T) (hr.mono (by decide)) rfl T.m_draw T.F_draw.kp T.b_draw .nil pass0 (pa_cons (pv 0) (pa_cons pe_int pa_nil))) (pa_cons (pe_call (ok_hop T) (hr.mono (by decide)) rfl T.m_hop T.F_hop.kp T.b_hop .nil pass0 (pa_cons (pv 0) (pa_cons (pv 6) pa_nil))) (pa_cons (pe_call (ok_remark T) (hr.mono (by decide)) rfl T.m_remark T.F_remark.kp T.b_remark .nil pass0 (pa_cons (pv 0) pa_nil)) pa_nil)))))) pa_nil)))) (pss_one (ps_if (pt_cmpR op_eq (pv 5) pe_int (nomark _)) (pss_one (ps_expr (pe_bm PySem.F.plainAttrs_list PySem.F.slot_list_append PySem.F.type_list_append mt_append (pv 3) (pa_cons (pe_tup (pa_cons pe_str (pa_cons (pe_call (ok_hop T) (hr.mono (by decide)) rfl T.m_hop T.F_hop.kp T.b_hop .nil pass0 (pa_cons (pv 0) (pa_cons (pv 6) pa_nil))) pa_nil))) pa_nil)))) (pss_one (ps_expr (pe_bm PySem.F.plainAttrs_list PySem.F.slot_list_append PySem.F.type_list_append mt_append (pv 3) (pa_cons (pe_call (ok_plain_step T) (hr.mono (by decide)) rfl T.m_plain_step T.F_plain_step.kp T.b_plain_step .nil pass0 (pa_cons (pv 0) (pa_cons (pv 2) pa_nil))) pa_nil)))))))))))
      (pss_one (ps_ret (pe_callTy (show CallR _ (.type "tuple") (rTupOf K) from call_tup) (by rfl) T.z_tuple (by decide +kernel) (pa_cons (pv 3) pa_nil))))), ?_⟩
  refine ⟨sl 0, fun L nL => ?_⟩
  have Ld := dr.dne nL
  have Lc := dr.cne nL
  have HL : ∀ b o, H b = some o → b ≠ L := fun b o e => ne_of_none e nL
  have wr : ∀ {H1 : Hp} {xs : List V}, Keep d H H1 → Keep d H (upd H1 L (.lst xs)) := fun k b o e nb => upd_else (k b o e nb) (HL b o e)
  refine ⟨_, rfl, n, rfl, by omega, by omega, for_range (lo := 0) (n := ((n : Nat) : Int).toNat) (fun i σ H' => ∃ (ss : List (Nat × Nat)) (v4 v5 v6 : Option V), σ = [some (.ref d), some (.int (n : Int)), some (.int 3), some (.ref L), v4, v5, v6] ∧ CodeL L H' ss ∧ ss.length = i ∧ okV ss n ∧ Dr d c H' ∧ Keep d H H') ⟨[], none, none, none, rfl, ⟨[], upd_same, trivial⟩, rfl, okV.nil n, dr.new nL, Keep.new nL⟩ ?_ ?_⟩
  · rintro i σ H1 hi ⟨ss, v4, v5, v6, rfl, cl, ls, ok, dr1, k1⟩
    have hin : i < n := by omega
    refine ⟨_, rfl, _, _, rfl, d, c, 9, rfl, rfl, dr1, by omega, by omega, fun way H2 w0 w1 dr2 k2 => ?_⟩
    have cl := cl.keep dr1 k2 Ld
    have k02 := k1.trans k2
    refine ⟨_, rfl, _, rfl, _, _, rfl, rfl, _, _, rfl, rfl, ?_⟩
    refine ⟨_, rfl, rfl, _, rfl, or_both ?_ (fun hA _ => ⟨_, rfl, rfl, _, rfl, or_both hA (fun hA _ => ⟨_, rfl, rfl, _, rfl, ite2 (fun _ => hA) (fun _ => ?_)⟩)⟩)⟩
    · obtain ⟨xs, hL, hx⟩ := id cl
      refine ⟨_, rfl, .inl ⟨rfl, _, SqL.of hL⟩, _, rfl, _, rfl, _, _, rfl, d, c, 3, rfl, rfl, dr2, by omega, by omega, fun r3 H3 a3 b3 dr3 k3 => ?_⟩
      refine ⟨_, rfl, _, _, rfl, d, c, 2, rfl, rfl, dr3, by omega, by omega, fun r4 H4 a4 b4 dr4 k4 => ?_⟩
      refine ⟨_, rfl, _, rfl, _, _, rfl, d, c, n - i - 1, rfl, congrArg V.int (by omega), dr4, by omega, fun h5 H5 hh5 dr5 k5 => ?_⟩
      refine ⟨_, rfl, _, rfl, d, c, rfl, dr5, fun rem H6 hrem dr6 k6 => ?_⟩
      refine ⟨sl 5, fun p np => ?_⟩
      have k26 := ((k3.trans k4).trans k5).trans k6
      have cl6 := (cl.keep dr2 k26 Ld).same (same_new (o := .tup [V.str "unless", V.int r3, V.int r4, V.int (h5 : Int), rem]) np)
      obtain ⟨ys, hL6, hy⟩ := id cl6
      have lys := All2.len hy
      refine ⟨L, _, _, rfl, rfl, hL6, small1000 (by omega), ss ++ [(1, h5)], _, _, _, rfl, CodeL.push hL6 hy (.inr (.inl ⟨h5, rfl, p, r3, r4, rem, rfl, upd_same, hrem⟩)), by rw [List.length_append, ls]; rfl, ok.snoc (by show ss.length + 1 + h5 ≤ n; omega), (dr6.new np).else Ld Lc, wr ((k02.trans k26).trans (Keep.new np))⟩
    refine ⟨_, rfl, rfl, _, rfl, ite2 (fun _ => ?_) (fun _ => ?_)⟩
    · obtain ⟨xs, hL, hx⟩ := id cl
      refine ⟨_, rfl, .inl ⟨rfl, _, SqL.of hL⟩, _, rfl, _, rfl, _, _, rfl, d, c, n - i - 1, rfl, congrArg V.int (by omega), dr2, by omega, fun h5 H5 hh5 dr5 k5 => ?_⟩
      refine ⟨sl 2, fun p np => ?_⟩
      have cl6 := (cl.keep dr2 k5 Ld).same (same_new (o := .tup [V.str "skip", V.int (h5 : Int)]) np)
      obtain ⟨ys, hL6, hy⟩ := id cl6
      have lys := All2.len hy
      refine ⟨L, _, _, rfl, rfl, hL6, small1000 (by omega), ss ++ [(2, h5)], _, _, _, rfl, CodeL.push hL6 hy (.inr (.inr ⟨h5, rfl, p, rfl, upd_same⟩)), by rw [List.length_append, ls]; rfl, ok.snoc (by show ss.length + 1 + h5 ≤ n; omega), (dr5.new np).else Ld Lc, wr ((k02.trans k5).trans (Keep.new np))⟩
    · obtain ⟨xs, hL, hx⟩ := id cl
      refine ⟨_, rfl, .inl ⟨rfl, _, SqL.of hL⟩, _, rfl, _, rfl, _, _, rfl, d, c, 3, rfl, rfl, by omega, by omega, dr2, fun v H5 hv dr5 k5 => ?_⟩
      have cl6 := cl.keep dr2 k5 Ld
      obtain ⟨ys, hL6, hy⟩ := id cl6
      have lys := All2.len hy
      refine ⟨L, _, _, rfl, rfl, hL6, small1000 (by omega), ss ++ [(0, 0)], _, _, _, rfl, CodeL.push hL6 hy hv, by rw [List.length_append, ls]; rfl, ok.snoc (by show ss.length + 1 + 0 ≤ n; omega), dr5.else Ld Lc, wr (k02.trans k5)⟩
  · rintro σ H1 ⟨ss, v4, v5, v6, rfl, ⟨xs, hL, hx⟩, ls, ok, dr1, k1⟩
    have ls : ss.length = n := by omega
    refine ⟨_, rfl, L, _, rfl, .inl ⟨SqL.of hL, fun p np => ?_⟩⟩
    exact q _ _ ss ⟨p, xs, rfl, upd_same, All2.imp (fun _ _ => StepR.ts (TS.new np)) hx, by rw [ls]; exact ok, by omega⟩ (by omega) (dr1.new np) (k1.trans (Keep.new np))
end

section
variable {P : Program} {w : World} {K : PySem.W.Frag} {mg : Str → Option Value} {base : Heap}
theorem ok_diamonds (T : Tx K mg w) : FnOk P w K mg base CX0 7 T.f_diamonds T.fd_diamonds ["d", "blocks"] (sp2 rDia) := by
  refine okR2 T.F_diamonds sc_diamonds rfl fun cdv A outer s H Q EE x y hr h => ?_
  obtain ⟨d, c, n, rfl, rfl, hn, dr, q⟩ := h
  refine ⟨_, pss_cons (ps_set (i := 2) sc_diamonds.nd rfl (Or.inl rfl) (pe_lst pa_nil))
      (pss_cons (ps_for PassesOwn.never rfl (pi_range1 rfl T.z_range (pa_cons (pv 1) pa_nil)) (pg_name (i := 3) sc_diamonds.nd rfl (Or.inl rfl))
      (pss_cons (ps_set (i := 4) sc_diamonds.nd rfl (Or.inl rfl) (pe_lst (pa_cons (pe_call (ok_draw T) (hr.mono (by decide)) rfl T.m_draw T.F_draw.kp T.b_draw .nil pass0 (pa_cons (pv 0) (pa_cons pe_int pa_nil))) (pa_cons (pe_call (ok_draw T) (hr.mono (by decide)) rfl T.m_draw T.F_draw.kp T.b_draw .nil pass0 (pa_cons (pv 0) (pa_cons pe_int pa_nil))) pa_nil))))
      (pss_cons (ps_expr (pe_bm PySem.F.plainAttrs_list PySem.F.slot_list_append PySem.F.type_list_append mt_append (pv 2) (pa_cons (pe_tup (pa_cons pe_str (pa_cons (pe_call (ok_draw T) (hr.mono (by decide)) rfl T.m_draw T.F_draw.kp T.b_draw .nil pass0 (pa_cons (pv 0) (pa_cons pe_int pa_nil))) (pa_cons (pe_call (ok_draw T) (hr.mono (by decide)) rfl T.m_draw T.F_draw.kp T.b_draw .nil pass0 (pa_cons (pv 0) (pa_cons pe_int pa_nil))) (pa_cons (pe_op op_add (pe_ix ix_list (pv 4) pe_int (fun _ _ => rfl)) pe_int) (pa_cons (pe_call (ok_remark T) (hr.mono (by decide)) rfl T.m_remark T.F_remark.kp T.b_remark .nil pass0 (pa_cons (pv 0) pa_nil)) pa_nil)))))) pa_nil)))
      (pss_cons (ps_for PassesOwn.never rfl (pi_range1 rfl T.z_range (pa_cons (pe_ix ix_list (pv 4) pe_int (fun _ _ => rfl)) pa_nil)) (pg_name (i := 5) sc_diamonds.nd rfl (Or.inl rfl))
      (pss_one (ps_expr (pe_bm PySem.F.plainAttrs_list PySem.F.slot_list_append PySem.F.type_list_append mt_append (pv 2) (pa_cons (pe_call (ok_plain_step T) (hr.mono (by decide)) rfl T.m_plain_step T.F_plain_step.kp T.b_plain_step .nil pass0 (pa_cons (pv 0) (pa_cons pe_int pa_nil))) pa_nil)))))
      (pss_cons (ps_expr (pe_bm PySem.F.plainAttrs_list PySem.F.slot_list_append PySem.F.type_list_append mt_append (pv 2) (pa_cons (pe_tup (pa_cons pe_str (pa_cons (pe_ix ix_list (pv 4) pe_int (fun _ _ => rfl)) pa_nil))) pa_nil)))
      (pss_one (ps_for PassesOwn.never rfl (pi_range1 rfl T.z_range (pa_cons (pe_ix ix_list (pv 4) pe_int (fun _ _ => rfl)) pa_nil)) (pg_name (i := 5) sc_diamonds.nd rfl (Or.inl rfl))
      (pss_one (ps_expr (pe_bm PySem.F.plainAttrs_list PySem.F.slot_list_append PySem.F.type_list_append mt_append (pv 2) (pa_cons (pe_call (ok_plain_step T) (hr.mono (by decide)) rfl T.m_plain_step T.F_plain_step.kp T.b_plain_step .nil pass0 (pa_cons (pv 0) (pa_cons pe_int pa_nil))) pa_nil)))))))))))
      (pss_one (ps_ret (pe_callTy (show CallR _ (.type "tuple") (rTupOf K) from call_tup) (by rfl) T.z_tuple (by decide +kernel) (pa_cons (pv 2) pa_nil))))), ?_⟩
  refine ⟨sl 0, fun L nL => ?_⟩
  have Ld := dr.dne nL
  have Lc := dr.cne nL
  have HL : ∀ b o, H b = some o → b ≠ L := fun b o e => ne_of_none e nL
  have wr : ∀ {H1 : Hp} {xs : List V}, Keep d H H1 → Keep d H (upd H1 L (.lst xs)) := fun k b o e nb => upd_else (k b o e nb) (HL b o e)
  refine ⟨_, rfl, n, rfl, by omega, by omega, for_range (lo := 0) (n := ((n : Nat) : Int).toNat) (fun i σ H' => ∃ (ss : List (Nat × Nat)) (v3 v4 v5 : Option V), σ = [some (.ref d), some (.int (n : Int)), some (.ref L), v3, v4, v5] ∧ CodeL L H' ss ∧ ss.length ≤ 9 * i ∧ okV ss ss.length ∧ Dr d c H' ∧ Keep d H H') ⟨[], none, none, none, rfl, ⟨[], upd_same, trivial⟩, Nat.zero_le _, okV.nil _, dr.new nL, Keep.new nL⟩ ?_ ?_⟩
  · rintro i σ H1 hi ⟨ss, v3, v4, v5, rfl, cl, ls, ok, dr1, k1⟩
    have hin : i < n := by omega
    refine ⟨_, rfl, _, _, rfl, d, c, 4, rfl, rfl, dr1, by omega, by omega, fun a H2 a0 a1 dr2 k2 => ?_⟩
    refine ⟨_, rfl, _, _, rfl, d, c, 5, rfl, rfl, dr2, by omega, by omega, fun b H3 b0 b1 dr3 k3 => ?_⟩
    obtain ⟨ja, rfl⟩ := Int.eq_ofNat_of_zero_le a0
    obtain ⟨jb, rfl⟩ := Int.eq_ofNat_of_zero_le b0
    refine ⟨sl 2, fun S nS => ?_⟩
    have Sd := dr3.dne nS
    have k23 := k2.trans k3
    have cl3 := cl.keep dr1 k23 Ld
    have LS : L ≠ S := by
      obtain ⟨xs, h, _⟩ := cl3
      exact ne_of_none h nS
    have cl4 := cl3.same (same_new (o := .lst [V.int (ja : Int), V.int (jb : Int)]) nS)
    have dr4 := dr3.new (o := .lst [V.int (ja : Int), V.int (jb : Int)]) nS
    have hS := upd_same (H := H3) (a := S) (o := .lst [V.int (ja : Int), V.int (jb : Int)])
    have k04 := (k1.trans k23).trans (Keep.new (o := .lst [V.int (ja : Int), V.int (jb : Int)]) nS)
    generalize upd H3 S (.lst [V.int (ja : Int), V.int (jb : Int)]) = H4 at cl4 dr4 hS k04 ⊢
    obtain ⟨N, eN⟩ : ∃ N, N = ss.length + 2 + ja + jb := ⟨_, rfl⟩
    obtain ⟨xs, hL, hx⟩ := id cl4
    refine ⟨_, rfl, .inl ⟨rfl, _, SqL.of hL⟩, _, rfl, _, _, rfl, d, c, 3, rfl, rfl, dr4, by omega, by omega, fun r5 H5 a5 b5 dr5 k5 => ?_⟩
    refine ⟨_, rfl, _, _, rfl, d, c, 2, rfl, rfl, dr5, by omega, by omega, fun r6 H6 a6 b6 dr6 k6 => ?_⟩
    have k46 := k5.trans k6
    refine ⟨_, rfl, S, _, _, _, rfl, rfl, SqL.of (k46 _ _ hS Sd), at_n 0 rfl, _, _, rfl, rfl, ?_⟩
    refine ⟨_, rfl, _, rfl, d, c, rfl, dr6, fun rem H7 hrem dr7 k7 => ?_⟩
    have k47 := k46.trans k7
    refine ⟨sl 5, fun p np => ?_⟩
    have cl7 := (cl4.keep dr4 k47 Ld).same (same_new (o := .tup [V.str "unless", V.int r5, V.int r6, V.int ((ja : Int) + 1), rem]) np)
    obtain ⟨ys, hL7, hy⟩ := id cl7
    have lys := All2.len hy
    have cl8 := CodeL.push (v := .ref p) (s := (1, ja + 1)) hL7 hy (.inr (.inl ⟨ja + 1, rfl, p, r5, r6, rem, rfl, by rw [upd_same]; rfl, hrem⟩))
    have dr8 := ((dr7.new np).else Ld Lc : Dr d c (upd (upd H7 p (.tup [V.str "unless", V.int r5, V.int r6, V.int ((ja : Int) + 1), rem])) L (.lst (ys ++ [.ref p]))))
    have hS8 := upd_else (o := .lst (ys ++ [.ref p])) ((same_new (o := .tup [V.str "unless", V.int r5, V.int r6, V.int ((ja : Int) + 1), rem]) np) _ _ (k47 _ _ hS Sd)) LS.symm
    have k08 := wr (xs := ys ++ [.ref p]) ((k04.trans k47).trans (Keep.new (o := .tup [V.str "unless", V.int r5, V.int r6, V.int ((ja : Int) + 1), rem]) np))
    refine ⟨L, _, _, rfl, rfl, hL7, small1000 (by omega), ?_⟩
    have ok8 : okV (ss ++ [(1, ja + 1)]) N := (ok.le (by omega)).snoc (by show ss.length + 1 + (ja + 1) ≤ N; omega)
    generalize upd (upd H7 p (.tup [V.str "unless", V.int r5, V.int r6, V.int ((ja : Int) + 1), rem])) L (.lst (ys ++ [.ref p])) = H8 at cl8 dr8 hS8 k08 ⊢
    refine ⟨_, rfl, S, _, _, _, rfl, rfl, SqL.of hS8, at_n 0 rfl, (ja : Int), rfl, by omega, by omega, for_range (lo := 0) (n := ((ja : Nat) : Int).toNat) (fun j σ H' => ∃ (tt : List (Nat × Nat)) (v5 : Option V), σ = [some (.ref d), some (.int (n : Int)), some (.ref L), some (.int (0 + (i : Int))), some (.ref S), v5] ∧ CodeL L H' tt ∧ tt.length = ss.length + 1 + j ∧ okV tt N ∧ H' S = some (.lst [V.int (ja : Int), V.int (jb : Int)]) ∧ Dr d c H' ∧ Keep d H H') ⟨_, v5, rfl, cl8, by rw [List.length_append]; rfl, ok8, hS8, dr8, k08⟩ ?_ ?_⟩
    · rintro j σ H9 hj ⟨tt, v5, rfl, cl9, lt, ok9, hS9, dr9, k9⟩
      have hja : j < ja := by omega
      obtain ⟨zs, hL9, hz⟩ := id cl9
      refine ⟨_, rfl, .inl ⟨rfl, _, SqL.of hL9⟩, _, rfl, _, _, rfl, d, c, 3, rfl, rfl, by omega, by omega, dr9, fun v H10 hv dr10 k10 => ?_⟩
      have cl10 := cl9.keep dr9 k10 Ld
      obtain ⟨us, hL10, hu⟩ := id cl10
      have lus := All2.len hu
      refine ⟨L, _, _, rfl, rfl, hL10, small1000 (by omega), tt ++ [(0, 0)], _, rfl, CodeL.push hL10 hu hv, by rw [List.length_append, lt]; show ss.length + 1 + j + 1 = ss.length + 1 + (j + 1); omega, ok9.snoc (by show tt.length + 1 + 0 ≤ N; omega), upd_else (k10 _ _ hS9 Sd) LS.symm, dr10.else Ld Lc, wr (k9.trans k10)⟩
    · rintro σ H9 ⟨tt, v5, rfl, cl9, lt, ok9, hS9, dr9, k9⟩
      have lt : tt.length = ss.length + 1 + ja := by omega
      obtain ⟨zs, hL9, hz⟩ := id cl9
      refine ⟨_, rfl, .inl ⟨rfl, _, SqL.of hL9⟩, _, rfl, S, _, _, _, rfl, rfl, SqL.of hS9, at_n 1 rfl, sl 2, fun p np => ?_⟩
      have cl10 := cl9.same (same_new (o := .tup [V.str "skip", V.int (jb : Int)]) np)
      obtain ⟨us, hL10, hu⟩ := id cl10
      have lus := All2.len hu
      have cl11 := CodeL.push (v := .ref p) (s := (2, jb)) hL10 hu (.inr (.inr ⟨jb, rfl, p, rfl, upd_same⟩))
      have dr11 := ((dr9.new np).else Ld Lc : Dr d c (upd (upd H9 p (.tup [V.str "skip", V.int (jb : Int)])) L (.lst (us ++ [.ref p]))))
      have hS11 := upd_else (o := .lst (us ++ [.ref p])) ((same_new (o := .tup [V.str "skip", V.int (jb : Int)]) np) _ _ hS9) LS.symm
      have k11 := wr (xs := us ++ [.ref p]) (k9.trans (Keep.new (o := .tup [V.str "skip", V.int (jb : Int)]) np))
      refine ⟨L, _, _, rfl, rfl, hL10, small1000 (by omega), ?_⟩
      have ok11 : okV (tt ++ [(2, jb)]) N := ok9.snoc (by show tt.length + 1 + jb ≤ N; omega)
      generalize upd (upd H9 p (.tup [V.str "skip", V.int (jb : Int)])) L (.lst (us ++ [.ref p])) = H11 at cl11 dr11 hS11 k11 ⊢
      refine ⟨_, rfl, S, _, _, _, rfl, rfl, SqL.of hS11, at_n 1 rfl, (jb : Int), rfl, by omega, by omega, for_range (lo := 0) (n := ((jb : Nat) : Int).toNat) (fun j σ H' => ∃ (tt : List (Nat × Nat)) (v5 : Option V), σ = [some (.ref d), some (.int (n : Int)), some (.ref L), some (.int (0 + (i : Int))), some (.ref S), v5] ∧ CodeL L H' tt ∧ tt.length = ss.length + 2 + ja + j ∧ okV tt N ∧ Dr d c H' ∧ Keep d H H') ⟨_, v5, rfl, cl11, by rw [List.length_append, lt]; show ss.length + 1 + ja + 1 = ss.length + 2 + ja + 0; omega, ok11, dr11, k11⟩ ?_ ?_⟩
      · rintro j σ H12 hj ⟨tt, v5, rfl, cl12, lt, ok12, dr12, k12⟩
        have hjb : j < jb := by omega
        obtain ⟨zs, hL12, hz⟩ := id cl12
        refine ⟨_, rfl, .inl ⟨rfl, _, SqL.of hL12⟩, _, rfl, _, _, rfl, d, c, 3, rfl, rfl, by omega, by omega, dr12, fun v H13 hv dr13 k13 => ?_⟩
        have cl13 := cl12.keep dr12 k13 Ld
        obtain ⟨us, hL13, hu⟩ := id cl13
        have lus := All2.len hu
        refine ⟨L, _, _, rfl, rfl, hL13, small1000 (by omega), tt ++ [(0, 0)], _, rfl, CodeL.push hL13 hu hv, by rw [List.length_append, lt]; show ss.length + 2 + ja + j + 1 = ss.length + 2 + ja + (j + 1); omega, ok12.snoc (by show tt.length + 1 + 0 ≤ N; omega), dr13.else Ld Lc, wr (k12.trans k13)⟩
      · rintro σ H12 ⟨tt, v5, rfl, cl12, lt, ok12, dr12, k12⟩
        have lt : tt.length = N := by omega
        exact ⟨tt, _, _, v5, rfl, cl12, by omega, by rw [lt]; exact ok12, dr12, k12⟩
  · rintro σ H1 ⟨ss, v3, v4, v5, rfl, ⟨xs, hL, hx⟩, ls, ok, dr1, k1⟩
    refine ⟨_, rfl, L, _, rfl, .inl ⟨SqL.of hL, fun p np => ?_⟩⟩
    exact q _ _ ss ⟨p, xs, rfl, upd_same, All2.imp (fun _ _ => StepR.ts (TS.new np)) hx, ok, by omega⟩ (by omega) (dr1.new np) (k1.trans (Keep.new np))
theorem ok_branchy (T : Tx K mg w) : FnOk P w K mg base CX0 8 T.f_branchy T.fd_branchy ["d", "size"] (sp2 rCode) := by
  refine okR2 T.F_branchy sc_branchy rfl fun cdv A outer s H Q EE x y hr h => ?_
  obtain ⟨d, c, n, rfl, rfl, hn, dr, q⟩ := h
  refine ⟨_, pss_cons (ps_if (pt_cmpR op_eq (pe_call (ok_draw T) (hr.mono (by decide)) rfl T.m_draw T.F_draw.kp T.b_draw .nil pass0 (pa_cons (pv 0) (pa_cons pe_int pa_nil))) pe_int (nomark _)) (pss_one (ps_ret (pe_call (ok_diamonds T) (hr.mono (by decide)) rfl T.m_diamonds T.F_diamonds.kp T.b_diamonds .nil pass0 (pa_cons (pv 0) (pa_cons (pe_op op_fdiv (pv 1) pe_int) pa_nil))))) pss_nil)
      (pss_one (ps_ret (pe_call (ok_some_code T) (hr.mono (by decide)) rfl T.m_some_code T.F_some_code.kp T.b_some_code .nil pass0 (pa_cons (pv 0) (pa_cons (pv 1) (pa_cons pe_int pa_nil)))))), ?_⟩
  refine ⟨_, rfl, _, _, rfl, d, c, 3, rfl, rfl, dr, by omega, by omega, fun r H1 r0 r1 dr1 k1 => ⟨rfl, _, rfl, ite2 (fun _ => ?_) (fun _ => ?_)⟩⟩
  · refine ⟨_, rfl, _, rfl, _, _, rfl, rfl, ⟨by decide, by decide⟩, _, _, rfl, d, c, n / 5, rfl, congrArg V.int (by show (n : Int) / 5 = ((n / 5 : Nat) : Int); omega), by omega, dr1, fun v H2 ss hc hl dr2 k2 => ?_⟩
    exact q v H2 ss hc hl dr2 (k1.trans k2)
  · refine ⟨_, rfl, _, rfl, _, _, _, rfl, d, c, n, rfl, rfl, rfl, by omega, dr1, fun v H2 ss hc hl dr2 k2 => ?_⟩
    exact q v H2 ss hc hl dr2 (k1.trans k2)
end

/-! ### the dear ways -/
def wk : List (Nat × Nat) → Nat → List (List Nat)
  | [], _ => [[]]
  | s :: r, i => (i :: (if s.1 = 2 ∨ (bk r).getD s.2 0 ≥ (bk r).getD 0 0 then (wk r (i + 1)).getD s.2 [] else (wk r (i + 1)).getD 0 [])) :: wk r (i + 1)
def wAt (ss : List (Nat × Nat)) (i : Nat) : List Nat := (wk ss 0).getD i []
theorem wk_drop : ∀ (ss : List (Nat × Nat)) (j i : Nat), i ≤ ss.length → (wk ss j).drop i = wk (ss.drop i) (j + i)
  | _, _, 0, _ => rfl
  | [], _, i + 1, h => by simp at h
  | s :: r, j, i + 1, h => by
    show (wk r (j + 1)).drop i = wk (r.drop i) (j + (i + 1))
    rw [wk_drop r (j + 1) i (by simpa using h), show j + 1 + i = j + (i + 1) by omega]
theorem wAt_drop {ss : List (Nat × Nat)} {i j : Nat} (h : i ≤ ss.length) : (wk (ss.drop i) i).getD j [] = wAt ss (i + j) := by
  have e := wk_drop ss 0 i h
  rw [Nat.zero_add] at e
  rw [← e, getD_drop]
  rfl
theorem wAt_end (ss : List (Nat × Nat)) : wAt ss ss.length = [] := by
  have h := wAt_drop (ss := ss) (i := ss.length) (j := 0) (Nat.le_refl _)
  rw [List.drop_length] at h
  exact h.symm
theorem wAt_step {ss : List (Nat × Nat)} {i : Nat} {s : Nat × Nat} (h : ss[i]? = some s) : wAt ss i = i :: (if s.1 = 2 ∨ cAt ss (i + 1 + s.2) ≥ cAt ss (i + 1) then wAt ss (i + 1 + s.2) else wAt ss (i + 1)) := by
  obtain ⟨hi, e⟩ := List.getElem?_eq_some_iff.mp h
  have h1 := wAt_drop (ss := ss) (i := i) (j := 0) (Nat.le_of_lt hi)
  rw [List.drop_eq_getElem_cons hi, e] at h1
  have hd : ∀ j, (bk (ss.drop (i + 1))).getD j 0 = cAt ss (i + 1 + j) := fun j => by
    rw [← bk_drop ss (i + 1) hi, getD_drop]
    rfl
  have hw : ∀ j, (wk (ss.drop (i + 1)) (i + 1)).getD j [] = wAt ss (i + 1 + j) := fun j => wAt_drop hi
  rw [show wAt ss i = wAt ss (i + 0) from rfl, ← h1]
  show i :: (if s.1 = 2 ∨ (bk (ss.drop (i + 1))).getD s.2 0 ≥ (bk (ss.drop (i + 1))).getD 0 0 then (wk (ss.drop (i + 1)) (i + 1)).getD s.2 [] else (wk (ss.drop (i + 1)) (i + 1)).getD 0 []) = _
  rw [hd, hd, hw, hw]
theorem wAt_len {ss : List (Nat × Nat)} (ok : okV ss ss.length) : ∀ (k i : Nat), i + k = ss.length → ((wAt ss i).length : Int) = cAt ss i := by
  intro k
  induction k using Nat.strongRecOn with
  | _ k ih =>
    intro i hi
    by_cases c : i < ss.length
    · obtain ⟨s, hs⟩ : ∃ s, ss[i]? = some s := ⟨ss[i], List.getElem?_eq_getElem c⟩
      have hok := ok i s hs
      have c1 := cAt_step hs
      have w1 := wAt_step hs
      have n1 := ih (ss.length - (i + 1)) (by omega) (i + 1) (by omega)
      have n2 := ih (ss.length - (i + 1 + s.2)) (by omega) (i + 1 + s.2) (by omega)
      rw [w1, List.length_cons, c1]
      by_cases g2 : s.1 = 2
      · rw [if_pos (.inl g2), if_pos g2]
        omega
      · rw [if_neg g2]
        by_cases g : cAt ss (i + 1 + s.2) ≥ cAt ss (i + 1)
        · rw [if_pos (.inr g)]
          by_cases g3 : cAt ss (i + 1 + s.2) > cAt ss (i + 1)
          · rw [if_pos g3]; omega
          · rw [if_neg g3]; omega
        · rw [if_neg (by omega), if_neg (by omega)]
          omega
    · have e : i = ss.length := by omega
      rw [e, wAt_end, cAt_end]
      rfl
def asI (ns : List Nat) : List Int := List.map (fun n : Nat => (n : Int)) ns
theorem asI_len (ns : List Nat) : (asI ns).length = ns.length := by
  unfold asI
  rw [List.length_map]
def foll (q : Nat × Nat) (i : Nat) : List Nat := if q.1 = 2 then [i + 1 + q.2] else if q.1 = 1 then [i + 1, i + 1 + q.2] else [i + 1]
def bestS (ss : List (Nat × Nat)) (i : Nat) (b : List Nat) (t : Nat) : List Nat :=
  if (i :: wAt ss t).length > b.length ∨ ((i :: wAt ss t).length = b.length ∧ gtI (asI (i :: wAt ss t)) (asI b) = true) then i :: wAt ss t else b
theorem best_way {ss : List (Nat × Nat)} {i : Nat} {q : Nat × Nat} (ok : okV ss ss.length) (h : ss[i]? = some q) (hq : q.1 = 0 ∧ q.2 = 0 ∨ q.1 = 1 ∨ q.1 = 2) : (foll q i).foldl (bestS ss i) [] = wAt ss i := by
  have w1 := wAt_step h
  have hok := ok i q h
  have first : ∀ t, bestS ss i [] t = i :: wAt ss t := fun t => if_pos (.inl (by rw [List.length_cons]; exact Nat.succ_pos _))
  rcases hq with ⟨q0, q1⟩ | q0 | q0
  · have e : foll q i = [i + 1] := by
      unfold foll
      rw [if_neg (by omega), if_neg (by omega)]
    rw [e, w1, q1]
    show bestS ss i [] (i + 1) = _
    rw [first]
    by_cases g : q.1 = 2 ∨ cAt ss (i + 1 + 0) ≥ cAt ss (i + 1)
    · rw [if_pos g]
    · rw [if_neg g]
  · have e : foll q i = [i + 1, i + 1 + q.2] := by
      unfold foll
      rw [if_neg (by omega), if_pos q0]
    rw [e, w1]
    show bestS ss i (bestS ss i [] (i + 1)) (i + 1 + q.2) = _
    rw [first]
    have l1 := wAt_len ok (ss.length - (i + 1)) (i + 1) (by omega)
    have l2 := wAt_len ok (ss.length - (i + 1 + q.2)) (i + 1 + q.2) (by omega)
    by_cases g : cAt ss (i + 1 + q.2) ≥ cAt ss (i + 1)
    · rw [if_pos (show q.1 = 2 ∨ cAt ss (i + 1 + q.2) ≥ cAt ss (i + 1) from .inr g)]
      by_cases g2 : q.2 = 0
      · rw [g2]
        unfold bestS
        split <;> rfl
      · unfold bestS
        refine if_pos ?_
        by_cases g3 : cAt ss (i + 1 + q.2) > cAt ss (i + 1)
        · refine .inl ?_
          rw [List.length_cons, List.length_cons]
          omega
        · refine .inr ⟨by rw [List.length_cons, List.length_cons]; omega, ?_⟩
          have nlt : i + 1 < ss.length := by omega
          obtain ⟨sn, hsn⟩ : ∃ s, ss[i + 1]? = some s := ⟨ss[i + 1], List.getElem?_eq_getElem nlt⟩
          have wn := wAt_step hsn
          have ln : 1 ≤ (wAt ss (i + 1)).length := by
            rw [wn, List.length_cons]
            omega
          have flt : i + 1 + q.2 < ss.length := by
            rcases Nat.lt_or_ge (i + 1 + q.2) ss.length with z | z
            · exact z
            · have e2 : i + 1 + q.2 = ss.length := by omega
              rw [e2, cAt_end] at g
              omega
          obtain ⟨sf, hsf⟩ : ∃ s, ss[i + 1 + q.2]? = some s := ⟨ss[i + 1 + q.2], List.getElem?_eq_getElem flt⟩
          have wf := wAt_step hsf
          rw [wn, wf]
          show gtI ((i : Int) :: ((i + 1 + q.2 : Nat) : Int) :: asI _) ((i : Int) :: ((i + 1 : Nat) : Int) :: asI _) = true
          rw [gtI_second (by omega)]
          exact decide_eq_true (by omega)
    · rw [if_neg (show ¬ (q.1 = 2 ∨ cAt ss (i + 1 + q.2) ≥ cAt ss (i + 1)) from fun z => z.elim (fun z => by omega) g)]
      unfold bestS
      refine if_neg ?_
      rw [List.length_cons, List.length_cons]
      rintro (z | ⟨z, _⟩) <;> omega
  · have e : foll q i = [i + 1 + q.2] := by
      unfold foll
      rw [if_pos q0]
    rw [e, w1, if_pos (.inl q0)]
    exact first _
def WayR (H : Hp) (v : V) (ns : List Nat) : Prop := ∃ p : Addr, v = .ref p ∧ H p = some (.tup ((asI ns).map V.int))
theorem WayR.ts {H H' : Hp} (s : TS H H') {v : V} {ns : List Nat} (h : WayR H v ns) : WayR H' v ns := by
  obtain ⟨p, e, hp⟩ := h
  exact ⟨p, e, s _ _ hp⟩
theorem catW {K : PySem.W.Frag} {H : Hp} {x y : V} {ns ms : List Nat} {Q : VK} (hx : WayR H x ns) (hy : WayR H y ms) (hz : ns.length + ms.length ≤ 1000)
    (q : ∀ (p : V) (H' : Hp), Same H H' → WayR H' p (ns ++ ms) → Q p H') : rCatA K x y H Q := by
  obtain ⟨a, rfl, ha⟩ := hx
  obtain ⟨b, rfl, hb⟩ := hy
  refine ⟨a, b, _, _, rfl, rfl, SqT.of ha, SqT.of hb, Nat.le_of_lt (small1000 (by rw [List.length_map, List.length_map, asI_len, asI_len]; omega)), fun e => ?_, fun _ e => ?_, fun _ _ p hp => ?_⟩
  · have e2 : ns = [] := List.map_eq_nil_iff.mp (List.map_eq_nil_iff.mp e)
    rw [e2] at q
    exact q _ H (Same.refl _) ⟨b, rfl, hb⟩
  · have e2 : ms = [] := List.map_eq_nil_iff.mp (List.map_eq_nil_iff.mp e)
    rw [e2, List.append_nil] at q
    exact q _ H (Same.refl _) ⟨a, rfl, ha⟩
  · refine q _ _ (same_new hp) ⟨p, rfl, ?_⟩
    rw [upd_same]
    unfold asI
    rw [List.map_append, List.map_append]
def rFoll2 : V → V → V → Hp → VK → Prop := fun x y z H Q => ∃ (ss : List (Nat × Nat)) (i : Nat) (k : Addr) (q : Nat × Nat), Cd H x ss ∧ y = .int (i : Int) ∧ ss[i]? = some q ∧ z = .ref k ∧ H k = some (.dK []) ∧
  ∀ (p : Addr) (H' : Hp), Same H H' → H p = none → H' p = some (.lst ((foll q i).map fun t => V.int ((t : Nat) : Int))) → (q.1 = 0 ∧ q.2 = 0 ∨ q.1 = 1 ∨ q.1 = 2) → Q (.ref p) H'
def rDearW : V → Hp → VK → Prop := fun x H Q => ∃ ss : List (Nat × Nat), Cd H x ss ∧ ∀ (v : V) (H' : Hp), Same H H' → WayR H' v (wAt ss 0) → (wAt ss 0).length ≤ 800 → Q v H'
def rTold : V → V → Hp → VK → Prop := fun x y H Q => ∃ i : Int, x = .int i ∧ y = .int i ∧ Q (.bl true) H
def rToldW : V → V → Hp → VK → Prop := fun x y H Q => ∃ ns : List Nat, WayR H x ns ∧ WayR H y ns ∧ ns.length ≤ 800 ∧ ∀ H' : Hp, Same H H' → Q (.bl true) H'

section
variable {P : Program} {w : World} {K : PySem.W.Frag} {mg : Str → Option Value} {base : Heap}
theorem told_int (T : Tx K mg w) : FnOk P w K mg base CX0 1 T.f_told_so T.fd_told_so ["one", "due"] (sp2 rTold) := by
  refine okR2 T.F_told_so sc_told_so rfl fun cdv A outer s H Q EE x y hr h => ?_
  obtain ⟨i, rfl, rfl, q⟩ := h
  refine ⟨_, pss_cons (ps_if (pt_val (pe_callB call_isi (by rfl) T.z_isinstance (by decide +kernel) (pa_cons (pv 1) (pa_cons (pe_bltn (v := .ty "tuple") rfl T.z_tuple (by decide +kernel) rfl) pa_nil)))) (pss_cons ps_never
      (pss_one ps_never)) pss_nil)
      (pss_cons (ps_if (pt_cmpR op_isN (pv 1) pe_non (nomark _)) (pss_one (ps_ret (pe_cmpR op_isN (pv 0) pe_non (nomark _)))) pss_nil)
      (pss_one (ps_ret (pe_and (pe_callB call_isi (by rfl) T.z_isinstance (by decide +kernel) (pa_cons (pv 0) (pa_cons (pe_bltn (v := .ty "int") rfl T.z_int (by decide +kernel) rfl) pa_nil))) (pe_and (pe_not (pe_callB call_isi (by rfl) T.z_isinstance (by decide +kernel) (pa_cons (pv 0) (pa_cons (pe_bltn (v := .ty "bool") rfl T.z_bool (by decide +kernel) rfl) pa_nil)))) (pe_one (pe_cmpR op_eq (pv 0) (pv 1) (nomark _)))))))), ?_⟩
  refine ⟨_, rfl, .int i, .ty "tuple", .type "int", .type "tuple", false, rfl, .ty _, .base (.int _), rfl, _, rfl, iteF ?_⟩
  refine ⟨_, rfl, rfl, _, rfl, ite2 (fun e => absurd (of_decide_eq_true e) (fun z => by cases z)) (fun _ => ?_)⟩
  refine ⟨_, rfl, .int i, .ty "int", .type "int", .type "int", true, rfl, .ty _, .base (.int _), rfl, true, rfl, iteT ?_⟩
  refine ⟨_, rfl, .int i, .ty "bool", .type "int", .type "bool", false, rfl, .ty _, .base (.int _), rfl, false, rfl, true, rfl, iteT ?_⟩
  refine ⟨_, rfl, _, rfl, rfl, ?_⟩
  rw [decide_eq_true rfl]
  exact q
end

theorem at_0 {xs : List V} {v : V} (i : Nat) (h : xs[i]? = some v) : atI xs (0 + (i : Int)) = some v := by
  rw [Int.zero_add]
  exact at_n i h
def DearW (ss : List (Nat × Nat)) (a C L : Addr) (H1 : Hp) (m : Nat) (σ : L2.St) (H' : Hp) : Prop := ∃ (i : Nat) (pre : List Nat) (v4 v5 v6 : Option V), m = ss.length - i ∧ σ = [some (.ref a), some (.ref C), some (.ref L), some (.int (i : Int)), v4, v5, v6] ∧ i ≤ ss.length ∧ Same H1 H' ∧ H' L = some (.lst ((asI pre).map V.int)) ∧ pre ++ wAt ss i = wAt ss 0 ∧ pre.length ≤ i
section
variable {P : Program} {w : World} {K : PySem.W.Frag} {mg : Str → Option Value} {base : Heap}
theorem ok_told_so (T : Tx K mg w) : FnOk P w K mg base CX0 2 T.f_told_so T.fd_told_so ["one", "due"] (sp2 rToldW) := by
  have ih := told_int (P := P) (base := base) T
  refine okR2 T.F_told_so sc_told_so rfl fun cdv A outer s H Q EE x y hr h => ?_
  obtain ⟨ns, ⟨p, rfl, hp⟩, ⟨q0, rfl, hq⟩, hl, q⟩ := h
  refine ⟨_, pss_cons (ps_if (pt_val (pe_callB call_isi (by rfl) T.z_isinstance (by decide +kernel) (pa_cons (pv 1) (pa_cons (pe_bltn (v := .ty "tuple") rfl T.z_tuple (by decide +kernel) rfl) pa_nil)))) (pss_cons (ps_if (PW.pt (pw_or (pt_not (pt_val (pe_callB call_isi (by rfl) T.z_isinstance (by decide +kernel) (pa_cons (pv 0) (pa_cons (pe_bltn (v := .ty "tuple") rfl T.z_tuple (by decide +kernel) rfl) pa_nil))))) (pw_or1 (pt_cmpR op_ne (pe_callB call_len_seq (by rfl) T.z_len (by decide +kernel) (pa_cons (pv 0) pa_nil)) (pe_callB call_len_seq (by rfl) T.z_len (by decide +kernel) (pa_cons (pv 1) pa_nil)) (nomark _))))) (pss_one (ps_ret pe_bl)) pss_nil)
      (pss_one (ps_ret (pe_notT (pe_lc (own := [("k", 2)]) (g := gName 2)  rfl sc_told_so.nd (pi_range1 rfl T.z_range (pa_cons (pe_callB call_len_seq (by rfl) T.z_len (by decide +kernel) (pa_cons (pv 1) pa_nil)) pa_nil)) (blkOk_by (N := ["one", "due", "k"]) (sc := defScope s_told_so) (by decide +kernel)) (fun _ _ _ _ _ => pg_name (i := 2) sc_told_so.nd rfl (Or.inl rfl)) (fun _ _ _ _ _ => pts_one (pt_not (pt_val (pe_call ih (hr.mono (by omega)) rfl T.m_told_so T.F_told_so.kp T.b_told_so .nil pass0 (pa_cons (pe_ix (show IxR _ (rIxT K) from ix_tup) (pv 0) (pv 2) (fun _ _ => rfl)) (pa_cons (pe_ix (show IxR _ (rIxT K) from ix_tup) (pv 1) (pv 2) (fun _ _ => rfl)) pa_nil)))))) (fun _ _ _ _ _ => (pv 2))))))) pss_nil)
      (pss_cons (ps_if (pt_cmpR op_isN (pv 1) pe_non (nomark _)) (pss_one (ps_ret (pe_cmpR op_isN (pv 0) pe_non (nomark _)))) pss_nil)
      (pss_one (ps_ret (pe_and (pe_callB call_isi (by rfl) T.z_isinstance (by decide +kernel) (pa_cons (pv 0) (pa_cons (pe_bltn (v := .ty "int") rfl T.z_int (by decide +kernel) rfl) pa_nil))) (pe_and (pe_not (pe_callB call_isi (by rfl) T.z_isinstance (by decide +kernel) (pa_cons (pv 0) (pa_cons (pe_bltn (v := .ty "bool") rfl T.z_bool (by decide +kernel) rfl) pa_nil)))) (pe_one (pe_cmpR op_eq (pv 0) (pv 1) (nomark _)))))))), ?_⟩
  refine ⟨_, rfl, .ref q0, .ty "tuple", .type "tuple", .type "tuple", true, rfl, .ty _, .base (.tup hq), rfl, _, rfl, iteT ?_⟩
  refine ⟨_, rfl, .ref p, .ty "tuple", .type "tuple", .type "tuple", true, rfl, .ty _, .base (.tup hp), rfl, _, rfl, iteF ?_⟩
  refine ⟨_, rfl, p, _, rfl, .inr (SqT.of hp), _, rfl, q0, _, rfl, .inr (SqT.of hq), rfl, _, rfl, ?_⟩
  refine ite2 (fun h => absurd h (by rw [decide_eq_true rfl]; decide)) (fun _ => ?_)
  have ll : ((asI ns).map V.int).length = ns.length := by rw [List.length_map, asI_len]
  refine ⟨_, rfl, q0, _, rfl, .inr (SqT.of hq), _, rfl, by omega, by omega, fun D hD => lc_it (walk_range (lo := 0)) (fun i H' => Same H H' ∧ H' D = some (.lst [])) ⟨same_new hD, upd_same⟩ (fun _ _ _ _ => trivial) ?_ ?_⟩
  · rintro i x H1 H2 hi ⟨s1, h1⟩ ⟨rfl, rfl⟩
    have hin : i < ns.length := by omega
    have ai : ((asI ns).map V.int)[i]? = some (.int ((ns[i] : Nat) : Int)) := by
      unfold asI
      rw [List.getElem?_map, List.getElem?_map, List.getElem?_eq_getElem hin]
      rfl
    refine ⟨rfl, ?_⟩
    refine ⟨_, rfl, _, rfl, p, _, _, _, rfl, rfl, SqT.of (s1 _ _ hp), at_0 i ai, _, rfl, _, rfl, q0, _, _, _, rfl, rfl, SqT.of (s1 _ _ hq), at_0 i ai, _, _, rfl, _, rfl, rfl, _, rfl, iteF ⟨s1, h1⟩⟩
  · rintro H1 ⟨s1, h1⟩
    exact ⟨false, .inl ⟨[], SqL.of h1, rfl⟩, q H1 s1⟩
theorem ok_follows (T : Tx K mg w) : FnOk P w K mg base CX0 1 T.f_follows T.fd_follows ["code", "at", "known"] (sp3 rFoll2) := by
  refine okR3 T.F_follows sc_follows rfl fun cdv A outer s H Q EE x y z hr h => ?_
  obtain ⟨ss, i, k, q0, ⟨a, xs, rfl, ha, hx, ok, hl⟩, rfl, hq0, rfl, hk, q⟩ := h
  refine ⟨_, pss_cons (ps_set (i := 3) sc_follows.nd rfl (Or.inl rfl) (pe_ix ix_tup (pv 0) (pv 1) (fun _ _ => rfl)))
      (pss_cons (ps_if (pt_cmpR op_eq (pe_ix ix_tup (pv 3) pe_int (fun _ _ => rfl)) pe_str (nomark _)) (pss_one (ps_ret (pe_lst (pa_cons (pe_op op_add (pe_op op_add (pv 1) pe_int) (pe_ix ix_tup (pv 3) pe_int (fun _ _ => rfl))) pa_nil)))) pss_nil)
      (pss_cons (ps_if (pt_cmpR op_ne (pe_ix ix_tup (pv 3) pe_int (fun _ _ => rfl)) pe_str (nomark _)) (pss_one (ps_ret (pe_lst (pa_cons (pe_op op_add (pv 1) pe_int) pa_nil)))) pss_nil)
      (pss_cons (ps_if (pt_cmp (pc_dinN (hu_of hr) (pe_ix ix_tup (pv 3) pe_int (fun _ _ => rfl)) (pv 2))) (pss_one ps_never) pss_nil)
      (pss_one (ps_ret (pe_lst (pa_cons (pe_op op_add (pv 1) pe_int) (pa_cons (pe_op op_add (pe_op op_add (pv 1) pe_int) (pe_ix ix_tup (pv 3) pe_int (fun _ _ => rfl))) pa_nil)))))))), ?_⟩
  obtain ⟨xv, hxv, hst⟩ := All2.at' hx hq0
  refine ⟨_, rfl, _, rfl, a, _, _, _, rfl, rfl, SqT.of ha, at_n i hxv, ?_⟩
  rcases hst with ⟨rfl, p, wd, r, rfl, hp, n1, n2⟩ | ⟨h, rfl, p, u, v, rem, rfl, hp, hrem⟩ | ⟨h, rfl, p, rfl, hp⟩
  · refine ⟨_, rfl, p, _, _, _, rfl, rfl, SqT.of hp, at_n 0 rfl, rfl, _, rfl, ite2 (fun e => absurd (V.str.inj (of_decide_eq_true e)) n2) (fun _ => ?_)⟩
    refine ⟨_, rfl, p, _, _, _, rfl, rfl, SqT.of hp, at_n 0 rfl, rfl, _, rfl, ite2 (fun _ => ?_) (fun e => absurd ?_ e)⟩
    · exact ⟨_, rfl, _, _, rfl, rfl, sl 1, fun l nl => q l _ (same_new nl) nl upd_same (.inl ⟨rfl, rfl⟩)⟩
    · show (!decide (V.str wd = V.str "unless")) = true
      rw [decide_eq_false (fun z => n1 (V.str.inj z))]
      rfl
  · refine ⟨_, rfl, p, _, _, _, rfl, rfl, SqT.of hp, at_n 0 rfl, rfl, _, rfl, ite2 (fun e => absurd (V.str.inj (of_decide_eq_true e)) (by decide +kernel)) (fun _ => ?_)⟩
    refine ⟨_, rfl, p, _, _, _, rfl, rfl, SqT.of hp, at_n 0 rfl, rfl, _, rfl, ite2 (fun e => absurd e (by decide +kernel)) (fun _ => ?_)⟩
    have fin : ∀ l, H l = none → Q (.ref l) (upd H l (.lst [V.int ((i : Int) + 1), V.int ((i : Int) + 1 + (h : Int))])) := fun l nl => q l _ (same_new nl) nl upd_same (.inr (.inl rfl))
    rcases hrem with rfl | ⟨r, rfl⟩
    · refine ⟨_, rfl, p, _, _, _, rfl, rfl, SqT.of hp, at_n 4 rfl, _, rfl, .inr ⟨k, [], rfl, rfl, .inl hk, _, rfl, iteF ?_⟩⟩
      exact ⟨_, rfl, _, _, rfl, rfl, _, rfl, _, _, rfl, rfl, _, rfl, p, _, _, _, rfl, rfl, SqT.of hp, at_n 3 rfl, _, _, rfl, rfl, sl 2, fin⟩
    · refine ⟨_, rfl, p, _, _, _, rfl, rfl, SqT.of hp, at_n 4 rfl, _, rfl, .inl ⟨k, none, rfl, DGet.k (k := Sum.inl r) hk, _, rfl, iteF ?_⟩⟩
      exact ⟨_, rfl, _, _, rfl, rfl, _, rfl, _, _, rfl, rfl, _, rfl, p, _, _, _, rfl, rfl, SqT.of hp, at_n 3 rfl, _, _, rfl, rfl, sl 2, fin⟩
  · refine ⟨_, rfl, p, _, _, _, rfl, rfl, SqT.of hp, at_n 0 rfl, rfl, _, rfl, ite2 (fun _ => ?_) (fun e => absurd (decide_eq_true rfl) e)⟩
    refine ⟨_, rfl, _, _, rfl, rfl, _, rfl, p, _, _, _, rfl, rfl, SqT.of hp, at_n 1 rfl, _, _, rfl, rfl, sl 1, fun l nl => q l _ (same_new nl) nl upd_same (.inr (.inr rfl))⟩
theorem ok_dear_way (T : Tx K mg w) : FnOk P w K mg base CX0 3 T.f_dear_way T.fd_dear_way ["code"] (sp1 rDearW) := by
  refine okR1 T.F_dear_way sc_dear_way rfl fun cdv A outer s H Q EE x hr h => ?_
  obtain ⟨ss, hc, q⟩ := h
  refine ⟨_, pss_cons (ps_set (i := 1) sc_dear_way.nd rfl (Or.inl rfl) (pe_call (ok_counts T) (hr.mono (by decide)) rfl T.m_counts T.F_counts.kp T.b_counts .nil pass0 (pa_cons (pv 0) (pa_cons pe_int (pa_cons (pe_callB call_len_seq (by rfl) T.z_len (by decide +kernel) (pa_cons (pv 0) pa_nil)) (pa_cons pe_dnewK pa_nil))))))
      (pss_cons (ps_set (i := 2) sc_dear_way.nd rfl (Or.inl rfl) (pe_lst pa_nil))
      (pss_cons (ps_set (i := 3) sc_dear_way.nd rfl (Or.inl rfl) pe_int)
      (pss_cons (ps_while PassesOwn.never (pt_cmpR op_lt (pv 3) (pe_callB call_len_seq (by rfl) T.z_len (by decide +kernel) (pa_cons (pv 0) pa_nil)) (nomark _)) (pss_cons (ps_expr (pe_bm PySem.F.plainAttrs_list PySem.F.slot_list_append PySem.F.type_list_append mt_append (pv 2) (pa_cons (pv 3) pa_nil)))
      (pss_cons (ps_set (i := 4) sc_dear_way.nd rfl (Or.inl rfl) (pe_op op_add (pv 3) pe_int))
      (pss_cons (ps_set (i := 5) sc_dear_way.nd rfl (Or.inl rfl) (pe_op op_add (pv 4) (pe_call (ok_passed_by T) (hr.mono (by decide)) rfl T.m_passed_by T.F_passed_by.kp T.b_passed_by .nil pass0 (pa_cons (pe_ix ix_tup (pv 0) (pv 3) (fun _ _ => rfl)) pa_nil))))
      (C8.pss_cut (ps_set (i := 6) sc_dear_way.nd rfl (Or.inl rfl) (pe_or (pe_cmpR op_eq (pe_ix ix_tup (pe_ix ix_tup (pv 0) (pv 3) (fun _ _ => rfl)) pe_int (fun _ _ => rfl)) pe_str (nomark _)) (pe_one (pe_cmpR op_ge (pe_ix ix_list (pv 1) (pv 5) (fun _ _ => rfl)) (pe_ix ix_list (pv 1) (pv 4) (fun _ _ => rfl)) (nomark _)))))
      (pss_one (ps_set (i := 3) sc_dear_way.nd rfl (Or.inl rfl) (pe_ifExp (pt_val (pv 6)) (pv 5) (pv 4)))))))))
      (pss_one (ps_ret (pe_callTy (show CallR _ (.type "tuple") (rTupOf K) from call_tup) (by rfl) T.z_tuple (by decide +kernel) (pa_cons (pv 2) pa_nil))))))), ?_⟩
  obtain ⟨a, xs, rfl, ha, hx, ok, hl⟩ := id hc
  have lx := All2.len hx
  refine ⟨_, rfl, _, rfl, a, xs, rfl, .inr (SqT.of ha), fun d nd => ?_⟩
  have sd := same_new (o := .dK []) nd
  refine ⟨_, _, _, _, rfl, ss, d, hc.ts (TS.of sd), rfl, by rw [lx], rfl, upd_same, fun C H1 s1 hC => ?_⟩
  have s01 := sd.trans s1
  refine ⟨sl 0, fun L nL => ?_⟩
  have sL := same_new (o := .lst []) nL
  have HL : ∀ b o, H1 b = some o → b ≠ L := fun b o e => ne_of_none e nL
  refine ⟨DearW ss a C L H1, ⟨_, 0, [], none, none, none, rfl, rfl, Nat.zero_le _, sL, upd_same, rfl, Nat.le_refl _⟩, ?_⟩
  rintro m σ H2 ⟨i, pre, v4, v5, v6, rfl, rfl, hin, s2, hL, hpre, lp⟩
  have ha2 := s2 _ _ (s01 _ _ ha)
  refine ⟨_, rfl, _, rfl, a, _, rfl, .inr (SqT.of ha2), _, _, rfl, rfl, _, rfl, ite2 (fun h => ?_) (fun h => ?_)⟩
  · have hi : i < ss.length := by
      have := of_decide_eq_true h
      omega
    refine ⟨fun σ' H' => ∃ m', m' < ss.length - i ∧ DearW ss a C L H1 m' σ' H', fun _ _ z => z, ?_⟩
    obtain ⟨q0, hq0⟩ : ∃ q0, ss[i]? = some q0 := ⟨ss[i], List.getElem?_eq_getElem hi⟩
    obtain ⟨xv, hxv, hst⟩ := All2.at' hx hq0
    have hok := ok i q0 hq0
    have wst := wAt_step hq0
    have lpre : ((asI pre).map V.int).length = pre.length := by rw [List.length_map, asI_len]
    refine ⟨_, rfl, .inl ⟨rfl, _, SqL.of hL⟩, _, rfl, L, _, _, rfl, rfl, hL, small1000 (by omega), ?_⟩
    have s3 : Same H1 (upd H2 L (.lst ((asI pre).map V.int ++ [V.int (i : Int)]))) := fun b o e => upd_else (s2 _ _ e) (HL b o e)
    have hL3 : upd H2 L (.lst ((asI pre).map V.int ++ [V.int (i : Int)])) L = some (.lst ((asI (pre ++ [i])).map V.int)) := by
      rw [upd_same]
      unfold asI
      rw [List.map_append, List.map_append]
      rfl
    generalize upd H2 L (.lst ((asI pre).map V.int ++ [V.int (i : Int)])) = H3 at s3 hL3 ⊢
    have ha3 := s3 _ _ (s01 _ _ ha)
    have hst3 := StepR.ts (TS.of (s01.trans s3)) hst
    obtain ⟨p, wd, r, rfl, hp, iw⟩ := hst3.word
    have cAtC : ∀ j, j ≤ ss.length → ((bk ss).map V.int)[j]? = some (.int (cAt ss j)) := fun j hj => by
      have := cL_at (ss := ss) (m := 0) (j := j) (Nat.zero_le _) (Nat.zero_le _) hj
      rw [List.getElem?_map, show (bk ss)[j]? = (cL ss 0)[j]? from rfl, this]
      rfl
    refine ⟨_, rfl, _, _, rfl, rfl, ?_⟩
    refine ⟨_, rfl, _, rfl, _, rfl, a, _, _, _, rfl, rfl, SqT.of ha3, at_n i hxv, _, rfl, q0, hst3, _, _, rfl, rfl, ?_⟩
    have e1 : (i : Int) + 1 = ((i + 1 : Nat) : Int) := by omega
    have e2 : ((i + 1 : Nat) : Int) + (q0.2 : Int) = ((i + 1 + q0.2 : Nat) : Int) := by omega
    refine ⟨fun σ H' => H' = H3 ∧ σ = [some (.ref a), some (.ref C), some (.ref L), some (.int (i : Int)), some (.int ((i + 1 : Nat) : Int)), some (.int ((i + 1 + q0.2 : Nat) : Int)), some (.bl (decide (q0.1 = 2 ∨ cAt ss (i + 1 + q0.2) ≥ cAt ss (i + 1))))], ?_, ?_⟩
    · refine ⟨_, rfl, _, rfl, a, _, _, _, rfl, rfl, SqT.of ha3, at_n i hxv, p, _, _, _, rfl, rfl, SqT.of hp, at_n 0 rfl, rfl, _, rfl, ite2 (fun e => ?_) (fun e => ?_)⟩
      · have g2 := iw.mp (V.str.inj (of_decide_eq_true e))
        rw [decide_eq_true (show q0.1 = 2 ∨ cAt ss (i + 1 + q0.2) ≥ cAt ss (i + 1) from .inl g2)]
        exact ⟨rfl, rfl⟩
      · have g2 : ¬ q0.1 = 2 := fun z => e (decide_eq_true (congrArg V.str (iw.mpr z)))
        refine ⟨_, rfl, _, rfl, C, _, _, _, rfl, rfl, SqL.of (s3 _ _ hC), at_n (i + 1 + q0.2) (cAtC _ hok), _, rfl, _, rfl, C, _, _, _, rfl, rfl, SqL.of (s3 _ _ hC), at_n (i + 1) (cAtC _ (by omega)), _, _, rfl, rfl, rfl, ?_⟩
        have : decide (q0.1 = 2 ∨ cAt ss (i + 1 + q0.2) ≥ cAt ss (i + 1)) = decide (cAt ss (i + 1) ≤ cAt ss (i + 1 + q0.2)) := decide_eq_decide.mpr ⟨fun z => z.elim (fun z => absurd z g2) id, .inr⟩
        rw [this]
        rfl
    · rintro σ H4 ⟨rfl, rfl⟩
      have pl : ∀ w, wAt ss i = i :: w → (pre ++ [i]) ++ w = wAt ss 0 := fun w e => by
        rw [← hpre, e, List.append_assoc]
        rfl
      refine ⟨_, rfl, _, rfl, ite2 (fun h => ?_) (fun h => ?_)⟩
      · rw [if_pos (of_decide_eq_true h)] at wst
        exact ⟨_, rfl, _, by omega, i + 1 + q0.2, pre ++ [i], _, _, _, rfl, rfl, hok, s3, hL3, pl _ wst, by rw [List.length_append]; simp only [List.length_cons, List.length_nil]; omega⟩
      · rw [if_neg (fun z => h (decide_eq_true z))] at wst
        exact ⟨_, rfl, _, by omega, i + 1, pre ++ [i], _, _, _, rfl, rfl, by omega, s3, hL3, pl _ wst, by rw [List.length_append]; simp only [List.length_cons, List.length_nil]; omega⟩
  · have e : i = ss.length := by
      have : ¬ ((i : Int) < (xs.length : Int)) := fun z => h (decide_eq_true z)
      omega
    rw [e, wAt_end, List.append_nil] at hpre
    refine ⟨_, rfl, L, _, rfl, .inl ⟨SqL.of hL, fun p np => ?_⟩⟩
    exact q _ _ ((s01.trans s2).trans (same_new np)) ⟨p, rfl, by rw [upd_same, hpre]⟩ (by rw [← hpre]; omega)
theorem ok_dear (T : Tx K mg w) : FnOk P w K mg base CX0 2 T.f_dear T.fd_dear ["code"] (sp1 rDearW) := by
  refine okR1 T.F_dear sc_dear rfl fun cdv A outer s H Q EE x hr h => ?_
  obtain ⟨ss, hc, q⟩ := h
  refine ⟨_, pss_cons (ps_set (i := 1) sc_dear.nd rfl (Or.inl rfl) (pe_op op_cat (pe_lc (own := [("step", 7)]) (g := gName 7) (tt := tYes) rfl sc_dear.nd (pi_tup (pv 0)) (blkOk_by (N := ["code", "found", "back", "at", "best", "to", "way", "step"]) (sc := defScope s_dear) (by decide +kernel)) (fun _ _ _ _ _ => pg_name (i := 7) sc_dear.nd rfl (Or.inl rfl)) (fun _ _ _ _ _ => pts_nil) (fun _ _ _ _ _ => (pe_tup pa_nil))) (pe_lst (pa_cons (pe_tup pa_nil) pa_nil))))
      (pss_cons (ps_for PassesOwn.never rfl (pi_range1 rfl T.z_range (pa_cons (pe_callB call_len_seq (by rfl) T.z_len (by decide +kernel) (pa_cons (pv 0) pa_nil)) pa_nil)) (pg_name (i := 2) sc_dear.nd rfl (Or.inl rfl))
      (pss_cons (ps_set (i := 3) sc_dear.nd rfl (Or.inl rfl) (pe_op op_sub (pe_op op_sub (pe_callB call_len_seq (by rfl) T.z_len (by decide +kernel) (pa_cons (pv 0) pa_nil)) pe_int) (pv 2)))
      (pss_cons (ps_set (i := 4) sc_dear.nd rfl (Or.inl rfl) (pe_tup pa_nil))
      (pss_cons (ps_for PassesOwn.never rfl (pi_list (pe_call (ok_follows T) (hr.mono (by decide)) rfl T.m_follows T.F_follows.kp T.b_follows .nil pass0 (pa_cons (pv 0) (pa_cons (pv 3) (pa_cons pe_dnewK pa_nil))))) (pg_name (i := 5) sc_dear.nd rfl (Or.inl rfl))
      (pss_cons (ps_set (i := 6) sc_dear.nd rfl (Or.inl rfl) (pe_op op_catA (pe_tup (pa_cons (pv 3) pa_nil)) (pe_ix ix_list (pv 1) (pv 5) (fun _ _ => rfl))))
      (pss_one (ps_if (PW.pt (pw_or (pt_cmpR op_gt (pe_callB call_len_seq (by rfl) T.z_len (by decide +kernel) (pa_cons (pv 6) pa_nil)) (pe_callB call_len_seq (by rfl) T.z_len (by decide +kernel) (pa_cons (pv 4) pa_nil)) (nomark _)) (pw_or1 (PW.pt (pw_and (pt_cmpR op_eq (pe_callB call_len_seq (by rfl) T.z_len (by decide +kernel) (pa_cons (pv 6) pa_nil)) (pe_callB call_len_seq (by rfl) T.z_len (by decide +kernel) (pa_cons (pv 4) pa_nil)) (nomark _)) (pw_and1 (pt_cmpR (op_gtT (Nat.lt_of_succ_lt (hu_of hr))) (pv 6) (pv 4) (nomark _)))))))) (pss_one (ps_set (i := 4) sc_dear.nd rfl (Or.inl rfl) (pv 6))) pss_nil))))
      (pss_one (ps_asg (pv 4) (pg_sub (pv 1) (pv 3) set_list)))))))
      (pss_one (ps_ret (pe_ix ix_list (pv 1) pe_int (fun _ _ => rfl))))), ?_⟩
  obtain ⟨a, xs, rfl, ha, hx, ok, hl⟩ := id hc
  have lx := All2.len hx
  refine ⟨_, rfl, a, rfl, ⟨_, SqT.of ha⟩, fun D hD => lc_tup (K := K) (a := a) (xs := xs) (fun i H' => Same H H' ∧ ∃ vs : List V, H' D = some (.lst vs) ∧ vs.length = i ∧ ∀ v ∈ vs, WayR H' v []) ⟨same_new hD, [], upd_same, rfl, fun v hv => by cases hv⟩ ?_ ?_ ?_⟩
  · rintro i H' _ ⟨s, _⟩
    exact SqT.of (s _ _ ha)
  · rintro i x H1 hi ⟨s1, vs, h1, lv, hv⟩
    refine ⟨rfl, yes ⟨sl 0, fun p np => ?_⟩⟩
    have sp := same_new (o := .tup []) np
    have hi2 := (List.getElem?_eq_some_iff.mp hi).1
    refine ⟨_, sp _ _ h1, small1000 (by omega), fun b o e => upd_else (sp _ _ (s1 _ _ e)) (ne_of_none e hD), vs ++ [.ref p], upd_same, by rw [List.length_append, lv]; rfl, fun v hv2 => ?_⟩
    have ts := (TS.of sp).trans (TS.wr (o := .lst (vs ++ [.ref p])) (sp _ _ h1))
    rcases List.mem_append.mp hv2 with hv2 | hv2
    · exact (hv v hv2).ts ts
    · rw [List.mem_singleton.mp hv2]
      exact WayR.ts (TS.wr (sp _ _ h1)) ⟨p, rfl, upd_same⟩
  · rintro H1 ⟨s1, vs, h1, lv, hv⟩
    refine ⟨sl 0, fun p np => ⟨sl 1, fun l nl => ?_⟩⟩
    have sp := (same_new (o := .tup []) np).trans (same_new (o := .lst [V.ref p]) nl)
    refine ⟨D, l, _, _, rfl, rfl, sp _ _ h1, upd_same, by rw [sizeLine_eq]; simp only [List.length_cons, List.length_nil]; omega, fun L nL => ?_⟩
    have s3 := (s1.trans sp).trans (same_new (o := .lst (vs ++ [.ref p])) nL)
    have HL : ∀ b o, H b = some o → b ≠ L := fun b o e => ne_of_none (sp _ _ (s1 _ _ e)) nL
    have hw : ∀ v ∈ vs ++ [.ref p], WayR (upd (upd (upd H1 p (.tup [])) l (.lst [V.ref p])) L (.lst (vs ++ [.ref p]))) v [] := fun v hv2 => by
      rcases List.mem_append.mp hv2 with hv2 | hv2
      · exact (hv v hv2).ts (TS.of (sp.trans (same_new nL)))
      · rw [List.mem_singleton.mp hv2]
        exact WayR.ts (TS.of ((same_new nl).trans (same_new nL))) ⟨p, rfl, upd_same⟩
    have hL := upd_same (H := upd (upd H1 p (.tup [])) l (.lst [V.ref p])) (a := L) (o := .lst (vs ++ [.ref p]))
    have lvs : (vs ++ [V.ref p]).length = ss.length + 1 := by
      rw [List.length_append, lv, lx]
      rfl
    generalize upd (upd (upd H1 p (.tup [])) l (.lst [V.ref p])) L (.lst (vs ++ [.ref p])) = H2 at s3 hw hL ⊢
    generalize vs ++ [V.ref p] = vs at hw hL lvs ⊢
    refine ⟨_, rfl, a, _, rfl, .inr (SqT.of (s3 _ _ ha)), (xs.length : Int), rfl, by omega, by omega, for_range (lo := 0) (n := ((xs.length : Nat) : Int).toNat) (fun i σ H' => ∃ (vs : List V) (v2 v3 v4 v5 v6 : Option V), σ = [some (.ref a), some (.ref L), v2, v3, v4, v5, v6, none] ∧ Same H H' ∧ H' L = some (.lst vs) ∧ vs.length = ss.length + 1 ∧ ∀ j, ss.length ≤ i + j → j ≤ ss.length → ∃ v, vs[j]? = some v ∧ WayR H' v (wAt ss j)) ⟨vs, none, none, none, none, none, rfl, s3, hL, lvs, fun j h1 h2 => ?_⟩ ?_ ?_⟩
    · have e : j = ss.length := by omega
      have hj : j < vs.length := by omega
      rw [e, wAt_end]
      exact ⟨vs[j], by rw [← e]; exact List.getElem?_eq_getElem hj, hw _ (List.getElem_mem hj)⟩
    · rintro i σ H3 hi ⟨vs, v2, v3, v4, v5, v6, rfl, s4, hL3, lvs, all⟩
      have hin : i < ss.length := by omega
      obtain ⟨m, hm⟩ : ∃ m, m = ss.length - 1 - i := ⟨_, rfl⟩
      have hmn : m < ss.length := by omega
      have em : ((xs.length : Nat) : Int) - 1 - (0 + (i : Int)) = (m : Int) := by omega
      obtain ⟨q0, hq0⟩ : ∃ q0, ss[m]? = some q0 := ⟨ss[m], List.getElem?_eq_getElem hmn⟩
      refine ⟨_, rfl, a, _, rfl, .inr (SqT.of (s4 _ _ ha)), _, _, rfl, rfl, _, rfl, _, _, rfl, rfl, ?_⟩
      dsimp only
      rw [em]
      refine ⟨sl 0, fun p np => ?_⟩
      have sp := same_new (o := .tup []) np
      refine ⟨_, rfl, _, rfl, fun k nk => ?_⟩
      have sk := same_new (o := .dK []) nk
      have s5 := (s4.trans sp).trans sk
      refine ⟨_, _, _, rfl, ss, m, k, q0, hc.ts (TS.of s5), rfl, hq0, rfl, upd_same, fun F H4 s6 nF hF hq => ?_⟩
      have s36 := (sp.trans sk).trans s6
      have hok := ok m q0 hq0
      have fm : ∀ t ∈ foll q0 m, m + 1 ≤ t ∧ t ≤ ss.length := by
        intro t ht
        unfold foll at ht
        by_cases g2 : q0.1 = 2
        · rw [if_pos g2] at ht
          rw [List.mem_singleton.mp ht]
          omega
        · rw [if_neg g2] at ht
          by_cases g1 : q0.1 = 1
          · rw [if_pos g1] at ht
            rcases List.mem_cons.mp ht with rfl | ht
            · omega
            · rw [List.mem_singleton.mp ht]
              omega
          · rw [if_neg g1] at ht
            rw [List.mem_singleton.mp ht]
            omega
      have LF : L ≠ F := ne_of_none ((sp.trans sk) _ _ hL3) nF
      have lens : ∀ b : List Nat, b.length ≤ 801 → True := fun _ _ => trivial
      refine ⟨F, rfl, ⟨_, SqL.of hF⟩, for_list (K := K) (a := F) (xs := (foll q0 m).map fun t => V.int ((t : Nat) : Int)) (fun j σ H' => ∃ (bv : V) (v5 v6 : Option V), σ = [some (.ref a), some (.ref L), some (.int (0 + (i : Int))), some (.int (m : Int)), some bv, v5, v6, none] ∧ Same H H' ∧ H' F = some (.lst ((foll q0 m).map fun t => V.int ((t : Nat) : Int))) ∧ H' L = some (.lst vs) ∧ (∀ j, ss.length ≤ i + j → j ≤ ss.length → ∃ v, vs[j]? = some v ∧ WayR H' v (wAt ss j)) ∧ (((foll q0 m).take j).foldl (bestS ss m) []).length ≤ 801 ∧ WayR H' bv (((foll q0 m).take j).foldl (bestS ss m) [])) ⟨.ref p, v5, v6, rfl, s4.trans s36, hF, s36 _ _ hL3, ?_, Nat.zero_le _, WayR.ts (TS.of (sk.trans s6)) ⟨p, rfl, upd_same⟩⟩ ?_ ?_ ?_⟩
      · intro j h1 h2
        obtain ⟨v, hv, hw⟩ := all j h1 h2
        exact ⟨v, hv, hw.ts (TS.of s36)⟩
      · rintro j σ H' _ ⟨_, _, _, _, _, h, _⟩
        exact SqL.of h
      · rintro j x σ H5 hj ⟨bv, v5, v6, rfl, s7, hF5, hL5, all5, lb, hb⟩
        rw [List.getElem?_map] at hj
        obtain ⟨t, ht, rfl⟩ := Option.map_eq_some_iff.mp hj
        have htm := fm t (List.mem_of_getElem? ht)
        have tk1 : (foll q0 m).take (j + 1) = (foll q0 m).take j ++ [t] := by
          rw [List.take_succ, ht]
          rfl
        obtain ⟨v, hv, hwv⟩ := all5 t (by omega) (by omega)
        have lw := wAt_len ok (ss.length - t) t (by omega)
        have cb : (wAt ss t).length ≤ 800 := by
          have : ∀ (k i : Nat), i + k = ss.length → cAt ss i ≤ k := by
            intro k
            induction k using Nat.strongRecOn with
            | _ k ih =>
              intro i hi
              by_cases c : i < ss.length
              · obtain ⟨s0, hs0⟩ : ∃ s0, ss[i]? = some s0 := ⟨ss[i], List.getElem?_eq_getElem c⟩
                have o0 := ok i s0 hs0
                have n1 := ih (ss.length - (i + 1)) (by omega) (i + 1) (by omega)
                have n2 := ih (ss.length - (i + 1 + s0.2)) (by omega) (i + 1 + s0.2) (by omega)
                have c1 := cAt_step hs0
                by_cases g2 : s0.1 = 2
                · rw [if_pos g2] at c1; omega
                · rw [if_neg g2] at c1
                  by_cases g3 : cAt ss (i + 1 + s0.2) > cAt ss (i + 1)
                  · rw [if_pos g3] at c1; omega
                  · rw [if_neg g3] at c1; omega
              · have e : i = ss.length := by omega
                rw [e, cAt_end]
                omega
          have := this (ss.length - t) t (by omega)
          omega
        refine ⟨_, rfl, sl 1, fun t1 n1 => ?_⟩
        have st1 := same_new (o := .tup [V.int (m : Int)]) n1
        refine ⟨_, rfl, _, rfl, L, _, _, _, rfl, rfl, SqL.of (st1 _ _ hL5), at_n t hv, ?_⟩
        refine catW (ns := [m]) (ms := wAt ss t) ⟨t1, rfl, upd_same⟩ (hwv.ts (TS.of st1)) (by simp only [List.length_cons, List.length_nil]; omega) fun wv H6 s6' hww => ?_
        have s56 := st1.trans s6'
        have hb6 := hb.ts (TS.of s56)
        obtain ⟨wp, rfl, hwp⟩ := id hww
        obtain ⟨bp, rfl, hbp⟩ := id hb6
        have fin : ∀ (z : V), WayR H6 z (bestS ss m (((foll q0 m).take j).foldl (bestS ss m) []) t) → ∃ (bv : V) (v5 v6 : Option V), ([some (.ref a), some (.ref L), some (.int (0 + (i : Int))), some (.int (m : Int)), some z, some (.int (t : Int)), some (.ref wp), none] : L2.St) = [some (.ref a), some (.ref L), some (.int (0 + (i : Int))), some (.int (m : Int)), some bv, v5, v6, none] ∧ Same H H6 ∧ H6 F = some (.lst ((foll q0 m).map fun t => V.int ((t : Nat) : Int))) ∧ H6 L = some (.lst vs) ∧ (∀ j, ss.length ≤ i + j → j ≤ ss.length → ∃ v, vs[j]? = some v ∧ WayR H6 v (wAt ss j)) ∧ (((foll q0 m).take (j + 1)).foldl (bestS ss m) []).length ≤ 801 ∧ WayR H6 bv (((foll q0 m).take (j + 1)).foldl (bestS ss m) []) := by
          intro z hz
          have e : ((foll q0 m).take (j + 1)).foldl (bestS ss m) [] = bestS ss m (((foll q0 m).take j).foldl (bestS ss m) []) t := by
            rw [tk1, List.foldl_append]
            rfl
          refine ⟨z, _, _, rfl, s7.trans s56, s56 _ _ hF5, s56 _ _ hL5, fun j h1 h2 => ?_, ?_, by rw [e]; exact hz⟩
          · obtain ⟨v, hv, hw⟩ := all5 j h1 h2
            exact ⟨v, hv, hw.ts (TS.of s56)⟩
          · rw [e]
            unfold bestS
            split
            · rw [List.length_cons]; omega
            · exact lb
        generalize hB : ((foll q0 m).take j).foldl (bestS ss m) [] = B at fin hbp lb
        have l1 : ((asI ([m] ++ wAt ss t)).map V.int).length = (m :: wAt ss t).length := by
          rw [List.length_map, asI_len]
          rfl
        have l2 : ((asI B).map V.int).length = B.length := by rw [List.length_map, asI_len]
        refine ⟨_, rfl, wp, _, rfl, .inr (SqT.of hwp), _, rfl, bp, _, rfl, .inr (SqT.of hbp), _, _, rfl, rfl, _, rfl, ite2 (fun h => iteT ?_) (fun h => ?_)⟩
        · have h := of_decide_eq_true h
          refine ⟨_, rfl, fin _ ?_⟩
          rw [show bestS ss m B t = m :: wAt ss t from if_pos (.inl (by omega))]
          exact hww
        · have h : ¬ ((((asI B).map V.int).length : Int) < (((asI ([m] ++ wAt ss t)).map V.int).length : Int)) := fun z => h (decide_eq_true z)
          refine ⟨_, rfl, wp, _, rfl, .inr (SqT.of hwp), _, rfl, bp, _, rfl, .inr (SqT.of hbp), rfl, _, rfl, ite2 (fun h3 => ?_) (fun h3 => iteF (fin _ ?_))⟩
          · have h3 := V.int.inj (of_decide_eq_true h3)
            refine ⟨_, rfl, _, rfl, wp, bp, asI ([m] ++ wAt ss t), asI B, rfl, rfl, SqT.of hwp, SqT.of hbp, _, rfl, ite2 (fun h4 => ?_) (fun h4 => fin _ ?_)⟩
            · refine ⟨_, rfl, fin _ ?_⟩
              rw [show bestS ss m B t = m :: wAt ss t from if_pos (.inr ⟨by omega, h4⟩)]
              exact hww
            · rw [show bestS ss m B t = B from if_neg (fun z => z.elim (fun z => by omega) (fun z => h4 z.2))]
              exact ⟨bp, rfl, hbp⟩
          · have h3 : ¬ ((((asI ([m] ++ wAt ss t)).map V.int).length : Int) = (((asI B).map V.int).length : Int)) := fun z => h3 (decide_eq_true (congrArg V.int z))
            rw [show bestS ss m B t = B from if_neg (fun z => z.elim (fun z => by omega) (fun z => by omega))]
            exact ⟨bp, rfl, hbp⟩
      · rintro σ H5 ⟨bv, v5, v6, rfl, s7, hF5, hL5, all5, lb, hb⟩
        rw [List.length_map, List.take_length, best_way ok hq0 hq] at hb
        refine ⟨_, rfl, _, rfl, _, rfl, L, _, _, m, rfl, rfl, hL5, by rw [lvs]; exact ix_nat (by omega), ?_⟩
        refine ⟨vs.set m bv, _, _, _, _, _, rfl, fun b o e => upd_else (s7 _ _ e) (HL b o e), upd_same, by rw [List.length_set]; exact lvs, fun j h1 h2 => ?_⟩
        by_cases e : m = j
        · subst e
          exact ⟨bv, List.getElem?_set_self (by omega), hb.ts (TS.wr hL5)⟩
        · obtain ⟨v, hv, hw⟩ := all5 j (by omega) h2
          exact ⟨v, by rw [List.getElem?_set_ne e]; exact hv, hw.ts (TS.wr hL5)⟩
    · rintro σ H3 ⟨vs, v2, v3, v4, v5, v6, rfl, s4, hL3, lvs, all⟩
      obtain ⟨v, hv, hw⟩ := all 0 (by omega) (Nat.zero_le _)
      have lw := wAt_len ok ss.length 0 (by omega)
      refine ⟨_, rfl, L, _, _, _, rfl, rfl, SqL.of hL3, at_n 0 hv, q v H3 s4 hw ?_⟩
      have : ∀ (k i : Nat), i + k = ss.length → cAt ss i ≤ k := by
        intro k
        induction k using Nat.strongRecOn with
        | _ k ih =>
          intro i hi
          by_cases c : i < ss.length
          · obtain ⟨s0, hs0⟩ : ∃ s0, ss[i]? = some s0 := ⟨ss[i], List.getElem?_eq_getElem c⟩
            have o0 := ok i s0 hs0
            have n1 := ih (ss.length - (i + 1)) (by omega) (i + 1) (by omega)
            have n2 := ih (ss.length - (i + 1 + s0.2)) (by omega) (i + 1 + s0.2) (by omega)
            have c1 := cAt_step hs0
            by_cases g2 : s0.1 = 2
            · rw [if_pos g2] at c1; omega
            · rw [if_neg g2] at c1
              by_cases g3 : cAt ss (i + 1 + s0.2) > cAt ss (i + 1)
              · rw [if_pos g3] at c1; omega
              · rw [if_neg g3] at c1; omega
          · have e : i = ss.length := by omega
            rw [e, cAt_end]
            omega
      have := this ss.length 0 (by omega)
      omega
end

/-! ### the law -/
def rLaw (K : PySem.W.Frag) : V → Hp → VK → Prop := fun x H Q => ∃ (a : Addr) (ns : List Int), x = .ref a ∧ SqL K H a (ns.map V.int) ∧ ns.length ≤ 63 ∧ ∀ H', Q (.bl true) H'
theorem catC {K : PySem.W.Frag} {H : Hp} {x y : V} {ss tt : List (Nat × Nat)} {Q : VK} (hx : Cd H x ss) (hy : Cd H y tt) (hz : ss.length + tt.length ≤ 800)
    (q : ∀ (p : V) (H' : Hp), Same H H' → Cd H' p (ss ++ tt) → Q p H') : rCatA K x y H Q := by
  obtain ⟨a, xs, rfl, ha, h1, o1, b1⟩ := hx
  obtain ⟨b, ys, rfl, hb, h2, o2, b2⟩ := hy
  have l1 := All2.len h1
  have l2 := All2.len h2
  refine ⟨a, b, xs, ys, rfl, rfl, SqT.of ha, SqT.of hb, Nat.le_of_lt (small1000 (by omega)), fun e => ?_, fun _ e => ?_, fun _ _ p hp => ?_⟩
  · rw [nil_of_len l1 e] at q
    exact q _ H (Same.refl _) ⟨b, ys, rfl, hb, h2, o2, b2⟩
  · rw [nil_of_len l2 e, List.append_nil] at q
    exact q _ H (Same.refl _) ⟨a, xs, rfl, ha, h1, o1, b1⟩
  · refine q _ _ (same_new hp) ⟨p, _, rfl, upd_same, All2.imp (fun _ _ => StepR.ts (TS.new hp)) (All2.app h1 h2), ?_, by rw [List.length_append]; exact hz⟩
    rw [List.length_append]
    exact okV.app o1 o2 (by omega)
section
variable {P : Program} {w : World} {K : PySem.W.Frag} {mg : Str → Option Value} {base : Heap}
theorem ok_law (T : Tx K mg w) : FnOk P w K mg base CX0 9 T.f_law T.fd_law ["script"] (sp1 (rLaw K)) := by
  refine okR1 T.F_law sc_law rfl fun cdv A outer s H Q EE x hr h => ?_
  obtain ⟨sa, ns, rfl, hS, h63, q⟩ := h
  refine ⟨_, pss_cons (ps_set (i := 1) sc_law.nd rfl (Or.inl rfl) (pe_call (ok_begin T) (hr.mono (by decide)) rfl T.m_begin T.F_begin.kp T.b_begin .nil pass0 (pa_cons (pv 0) pa_nil)))
      (pss_cons (ps_set (i := 2) sc_law.nd rfl (Or.inl rfl) (pe_ix ix_list (pe_lst (pa_cons pe_int (pa_cons pe_int (pa_cons pe_int (pa_cons pe_int (pa_cons pe_int (pa_cons pe_int (pa_cons pe_int (pa_cons pe_int pa_nil))))))))) (pe_call (ok_draw T) (hr.mono (by decide)) rfl T.m_draw T.F_draw.kp T.b_draw .nil pass0 (pa_cons (pv 1) (pa_cons pe_int pa_nil))) (fun _ _ => rfl)))
      (C8.pss_cut (ps_set (i := 3) sc_law.nd rfl (Or.inl rfl) (pe_call (ok_branchy T) (hr.mono (by decide)) rfl T.m_branchy T.F_branchy.kp T.b_branchy .nil pass0 (pa_cons (pv 1) (pa_cons (pe_ifExp (pt_val (pe_call (ok_rare T) (hr.mono (by decide)) rfl T.m_rare T.F_rare.kp T.b_rare .nil pass0 (pa_cons (pv 1) (pa_cons pe_int pa_nil)))) pe_int (pv 2)) pa_nil))))
      (pss_cons (ps_set (i := 4) sc_law.nd rfl (Or.inl rfl) (pe_call (ok_branchy T) (hr.mono (by decide)) rfl T.m_branchy T.F_branchy.kp T.b_branchy .nil pass0 (pa_cons (pv 1) (pa_cons (pe_ix ix_list (pe_lst (pa_cons pe_int (pa_cons pe_int (pa_cons pe_int (pa_cons pe_int pa_nil))))) (pe_call (ok_draw T) (hr.mono (by decide)) rfl T.m_draw T.F_draw.kp T.b_draw .nil pass0 (pa_cons (pv 1) (pa_cons pe_int pa_nil))) (fun _ _ => rfl)) pa_nil))))
      (pss_cons (ps_for PassesOwn.never rfl (pi_tup (pe_tup (pa_cons (pv 3) (pa_cons (pv 4) (pa_cons (pe_op op_catA (pv 3) (pv 4)) (pa_cons (pv 3) pa_nil)))))) (pg_name (i := 5) sc_law.nd rfl (Or.inl rfl))
      (pss_one (ps_if (pt_not (pt_val (pe_call (ok_told_so T) (hr.mono (by decide)) rfl T.m_told_so T.F_told_so.kp T.b_told_so .nil pass0 (pa_cons (pe_call (ok_dear_way T) (hr.mono (by decide)) rfl T.m_dear_way T.F_dear_way.kp T.b_dear_way .nil pass0 (pa_cons (pv 5) pa_nil)) (pa_cons (pe_call (ok_dear T) (hr.mono (by decide)) rfl T.m_dear T.F_dear.kp T.b_dear .nil pass0 (pa_cons (pv 5) pa_nil)) pa_nil))))) (pss_one (ps_ret pe_bl)) pss_nil)))
      (pss_one (ps_ret pe_bl)))))), ?_⟩
  refine ⟨_, rfl, _, rfl, sa, ns, rfl, hS, h63, fun d c H0 dr0 s0 => ?_⟩
  refine ⟨sl 8, fun l1 n1 => ?_⟩
  refine ⟨_, rfl, _, _, rfl, d, c, 8, rfl, rfl, dr0.new n1, by omega, by omega, fun r H1 r0 r1 dr1 k1 => ?_⟩
  obtain ⟨size, hn, hm⟩ := at_int (ns := [6, 9, 14, 3, 0, 1, 25, 40]) r0 r1
  have sb : 0 ≤ size ∧ size ≤ 40 := by
    simp only [List.mem_cons, List.not_mem_nil, or_false] at hm
    omega
  obtain ⟨n, rfl⟩ := Int.eq_ofNat_of_zero_le sb.1
  refine ⟨l1, _, _, _, rfl, rfl, SqL.of (k1 _ _ upd_same (dr0.dne n1)), hn, ?_⟩
  refine ⟨fun σ H' => ∃ (v : V) (ss : List (Nat × Nat)), σ = [some (.ref sa), some (.ref d), some (.int (n : Int)), some v, none, none] ∧ Cd H' v ss ∧ ss.length ≤ 360 ∧ Dr d c H', ?_, ?_⟩
  · refine ⟨_, rfl, _, rfl, _, _, rfl, d, c, 16, rfl, rfl, dr1, by omega, by omega, fun b H2 dr2 k2 => ⟨_, rfl, ite2 (fun _ => ?_) (fun _ => ?_)⟩⟩
    · exact ⟨_, _, rfl, d, c, 70, rfl, rfl, by omega, dr2, fun v H3 ss hc hl dr3 k3 => ⟨v, ss, rfl, hc, hl, dr3⟩⟩
    · exact ⟨_, rfl, _, _, rfl, d, c, n, rfl, rfl, by omega, dr2, fun v H3 ss hc hl dr3 k3 => ⟨v, ss, rfl, hc, hl, dr3⟩⟩
  · rintro σ H3 ⟨v1, ss, rfl, hc1, hl1, dr3⟩
    refine ⟨_, rfl, sl 4, fun l2 n2 => ?_⟩
    refine ⟨_, rfl, _, _, rfl, d, c, 4, rfl, rfl, dr3.new n2, by omega, by omega, fun r4 H4 a4 b4 dr4 k4 => ?_⟩
    obtain ⟨size, hn, hm⟩ := at_int (ns := [5, 8, 1, 12]) a4 b4
    have sb : 0 ≤ size ∧ size ≤ 12 := by
      simp only [List.mem_cons, List.not_mem_nil, or_false] at hm
      omega
    obtain ⟨m, rfl⟩ := Int.eq_ofNat_of_zero_le sb.1
    refine ⟨l2, _, _, _, rfl, rfl, SqL.of (k4 _ _ upd_same (dr3.dne n2)), hn, _, _, rfl, d, c, m, rfl, rfl, by omega, dr4, fun v2 H5 tt hc2 hl2 dr5 k5 => ?_⟩
    have ts5 : TS H3 H5 := ((TS.new n2).trans (TS.dr (dr3.new n2) k4)).trans (TS.dr dr4 k5)
    have hc1 := hc1.ts ts5
    refine ⟨_, rfl, _, rfl, _, rfl, _, rfl, catC hc1 hc2 (by omega) fun v3 H6 s6 hc3 => ⟨_, rfl, sl 4, fun t nt => ?_⟩⟩
    have st := same_new (o := .tup [v1, v2, v3, v1]) nt
    have all : ∀ v ∈ [v1, v2, v3, v1], ∃ ss, Cd (upd H6 t (.tup [v1, v2, v3, v1])) v ss := by
      intro v hv
      simp only [List.mem_cons, List.not_mem_nil, or_false] at hv
      rcases hv with rfl | rfl | rfl | rfl
      · exact ⟨_, hc1.ts (TS.of (s6.trans st))⟩
      · exact ⟨_, hc2.ts (TS.of (s6.trans st))⟩
      · exact ⟨_, hc3.ts (TS.of st)⟩
      · exact ⟨_, hc1.ts (TS.of (s6.trans st))⟩
    have ht := upd_same (H := H6) (a := t) (o := .tup [v1, v2, v3, v1])
    generalize upd H6 t (.tup [v1, v2, v3, v1]) = H7 at all ht ⊢
    refine ⟨t, rfl, ⟨_, SqT.of ht⟩, for_it (walk_tup (K := K) (a := t) (xs := [v1, v2, v3, v1])) (fun i σ H' => ∃ v5 : Option V, σ = [some (.ref sa), some (.ref d), some (.int (n : Int)), some v1, some v2, v5] ∧ Same H7 H') ⟨none, rfl, Same.refl _⟩ ?_ ?_ ?_⟩
    · rintro i σ H' _ ⟨_, _, s⟩
      exact SqT.of (s _ _ ht)
    · rintro i x σ H8 H9 hi ⟨v5, rfl, s8⟩ ⟨rfl, hxi⟩
      obtain ⟨uu, hcu⟩ := all x (List.mem_of_getElem? hxi)
      refine ⟨_, rfl, _, rfl, uu, hcu.ts (TS.of s8), fun w1 H10 s10 hw1 lw1 => ?_⟩
      refine ⟨_, rfl, _, rfl, uu, hcu.ts (TS.of (s8.trans s10)), fun w2 H11 s11 hw2 lw2 => ?_⟩
      exact ⟨_, _, rfl, _, hw1.ts (TS.of s11), hw2, lw1, fun H12 s12 => ⟨_, rfl, iteF ⟨_, rfl, ((s8.trans s10).trans s11).trans s12⟩⟩⟩
    · rintro σ H8 _
      exact q H8
end

/-! ### the head -/
def d_dear_way : He.DefD := ⟨("dear_way", none), "dear_way", "dear_way", defArgs s_dear_way, defBody s_dear_way, defScope s_dear_way, [], []⟩
def d_passed_by : He.DefD := ⟨("passed_by", none), "passed_by", "passed_by", defArgs s_passed_by, defBody s_passed_by, defScope s_passed_by, [], []⟩
def d_counts : He.DefD := ⟨("_counts", none), "_counts", "_counts", defArgs s_counts, defBody s_counts, defScope s_counts, [], []⟩
def d_begin : He.DefD := ⟨("_law_begin", none), "_law_begin", "_law_begin", defArgs s_begin, defBody s_begin, defScope s_begin, [], []⟩
def d_mixed : He.DefD := ⟨("_law_mixed", none), "_law_mixed", "_law_mixed", defArgs s_mixed, defBody s_mixed, defScope s_mixed, [], []⟩
def d_draw : He.DefD := ⟨("_law_draw", none), "_law_draw", "_law_draw", defArgs s_draw, defBody s_draw, defScope s_draw, [], []⟩
def d_draw_digit : He.DefD := ⟨("_law_draw_digit", none), "_law_draw_digit", "_law_draw_digit", defArgs s_draw_digit, defBody s_draw_digit, defScope s_draw_digit, [], []⟩
def d_pick : He.DefD := ⟨("_law_pick", none), "_law_pick", "_law_pick", defArgs s_pick, defBody s_pick, defScope s_pick, [], []⟩
def d_rare : He.DefD := ⟨("_law_rare", none), "_law_rare", "_law_rare", defArgs s_rare, defBody s_rare, defScope s_rare, [], []⟩
def d_num : He.DefD := ⟨("_law_num", none), "_law_num", "_law_num", defArgs s_num, defBody s_num, defScope s_num, [], []⟩
def d_told_so : He.DefD := ⟨("_law_told_so", none), "_law_told_so", "_law_told_so", defArgs s_told_so, defBody s_told_so, defScope s_told_so, [], []⟩
def d_whole : He.DefD := ⟨("_law_whole", none), "_law_whole", "_law_whole", defArgs s_whole, defBody s_whole, defScope s_whole, [], []⟩
def d_per : He.DefD := ⟨("_law_per", none), "_law_per", "_law_per", defArgs s_per, defBody s_per, defScope s_per, [], []⟩
def d_step_num : He.DefD := ⟨("_law_step_num", none), "_law_step_num", "_law_step_num", defArgs s_step_num, defBody s_step_num, defScope s_step_num, [], []⟩
def d_hop : He.DefD := ⟨("_law_hop", none), "_law_hop", "_law_hop", defArgs s_hop, defBody s_hop, defScope s_hop, [], []⟩
def d_remark : He.DefD := ⟨("_law_remark", none), "_law_remark", "_law_remark", defArgs s_remark, defBody s_remark, defScope s_remark, [], []⟩
def d_do_step : He.DefD := ⟨("_law_do_step", none), "_law_do_step", "_law_do_step", defArgs s_do_step, defBody s_do_step, defScope s_do_step, [], []⟩
def d_plain_step : He.DefD := ⟨("_law_plain_step", none), "_law_plain_step", "_law_plain_step", defArgs s_plain_step, defBody s_plain_step, defScope s_plain_step, [], []⟩
def d_some_code : He.DefD := ⟨("_law_some_code", none), "_law_some_code", "_law_some_code", defArgs s_some_code, defBody s_some_code, defScope s_some_code, [], []⟩
def d_diamonds : He.DefD := ⟨("_law_diamonds", none), "_law_diamonds", "_law_diamonds", defArgs s_diamonds, defBody s_diamonds, defScope s_diamonds, [], []⟩
def d_branchy : He.DefD := ⟨("_law_branchy", none), "_law_branchy", "_law_branchy", defArgs s_branchy, defBody s_branchy, defScope s_branchy, [], []⟩
def d_follows : He.DefD := ⟨("_law_follows", none), "_law_follows", "_law_follows", defArgs s_follows, defBody s_follows, defScope s_follows, [], []⟩
def d_dear : He.DefD := ⟨("_law_dear", none), "_law_dear", "_law_dear", defArgs s_dear, defBody s_dear, defScope s_dear, [], []⟩
def d_law : He.DefD := ⟨("law", none), "law", "law", defArgs s_law, defBody s_law, defScope s_law, [], []⟩
def fn : List He.DefD := [d_dear_way, d_passed_by, d_counts, d_begin, d_mixed, d_draw, d_draw_digit, d_pick, d_rare, d_num, d_told_so, d_whole, d_per, d_step_num, d_hop, d_remark, d_do_step, d_plain_step, d_some_code, d_diamonds, d_branchy, d_follows, d_dear, d_law]
def fa : List He.Fa := [.glo "dear_way", .glo "passed_by", .glo "_counts", .glo "_law_begin", .glo "_law_mixed", .glo "_law_draw", .glo "_law_draw_digit", .glo "_law_pick", .glo "_law_rare", .glo "_law_num", .glo "_law_told_so", .glo "_law_whole", .glo "_law_per", .glo "_law_step_num", .glo "_law_hop", .glo "_law_remark", .glo "_law_do_step", .glo "_law_plain_step", .glo "_law_some_code", .glo "_law_diamonds", .glo "_law_branchy", .glo "_law_follows", .glo "_law_dear", .glo "law", .free "abs", .free "bool", .free "divmod", .free "int", .free "isinstance", .free "len", .free "max", .free "min", .free "range", .free "reversed", .free "tuple"]
def exB (K : PySem.W.Frag) : Bool := true
def tabs : List He.Tab := []
abbrev theRow : PySem.W.OpenRow := PySem.W.OpenLaw.row PySem.Challenge.rw_keepsgoing_k66_dear_ways
abbrev Seen : Type := He.AlD × Bool
def seenOf (K : PySem.W.Frag) : Seen := (He.obsD fa fn K, exB K)
def fragOf (g : Addr → Option Obj) : PySem.W.Frag := He.frG g (He.asD g 4)
def hookM : PySem.W.Hook where
  α := Seen
  obs := fun s => seenOf (fragOf s.heap.get?)
  val := fun _ => (He.valD fn, true)
  says := fun _ h => ∃ K : PySem.W.Frag, K.In h ∧ He.SaysD fa fn K ∧ exB K = true
  of := fun _ _ e => ⟨_, He.frG_in, congrArg (fun z : Seen => z.1) e, congrArg (fun z : Seen => z.2) e⟩
  keeps := fun _ _ _ ⟨K, h1, h2⟩ k => ⟨K, PySem.W.Frag.In.keeps h1 k, h2⟩
def obM (s : PySem.W.SharedT) : Seen := seenOf (fragOf (HandSHeadRun.getT s))
theorem obM_eq (s : PySem.W.SharedT) : obM s = hookM.obs s.abs := by
  have e : HandSHeadRun.getT s = s.abs.heap.get? := funext (HandSHeadRun.getT_eq s)
  unfold obM
  rw [e] <;> rfl
def others : List PySem.Str := (["dear_way", "passed_by", "_counts", "_law_begin", "_law_mixed", "_law_draw", "_law_draw_digit", "_law_pick", "_law_rare", "_law_num", "_law_told_so", "_law_whole", "_law_per", "_law_step_num", "_law_hop", "_law_remark", "_law_do_step", "_law_plain_step", "_law_some_code", "_law_diamonds"] : List PySem.Str) ++ (["_law_branchy", "_law_follows", "_law_dear"] : List PySem.Str)
theorem runM (w : World) : HandSHeadRun.RunEq theRow (PySem.W.view theRow.prog [25]) hookM obM 3000 others w := by
  intro os
  kernel_rfl
theorem factsM {P : Program} {w : World} {K : PySem.W.Frag} {h : Heap} {mg : Str → Option Value} {f : Addr} (X : K.In h) (G : h.Ns mainGlobals mg) (hfa : mg ("law" : Str) = some (.ref f)) (c : He.SaysD fa fn K) (cex : exB K = true) :
    ∃ fd : FuncData, (∀ (s : Shared) (v : Value), BindsTo s fd ⟨[v], []⟩ [("script", v)]) ∧ ∀ base : Heap, K.In base → base.Ns mainGlobals mg → FnOk P w K mg base CX0 9 f fd ["script"] (sp1 (rLaw K)) := by
  obtain ⟨fd_dear_way, F_dear_way⟩ := c.def_ 0 (d := d_dear_way) rfl
  obtain ⟨fd_passed_by, F_passed_by⟩ := c.def_ 1 (d := d_passed_by) rfl
  obtain ⟨fd_counts, F_counts⟩ := c.def_ 2 (d := d_counts) rfl
  obtain ⟨fd_begin, F_begin⟩ := c.def_ 3 (d := d_begin) rfl
  obtain ⟨fd_mixed, F_mixed⟩ := c.def_ 4 (d := d_mixed) rfl
  obtain ⟨fd_draw, F_draw⟩ := c.def_ 5 (d := d_draw) rfl
  obtain ⟨fd_draw_digit, F_draw_digit⟩ := c.def_ 6 (d := d_draw_digit) rfl
  obtain ⟨fd_pick, F_pick⟩ := c.def_ 7 (d := d_pick) rfl
  obtain ⟨fd_rare, F_rare⟩ := c.def_ 8 (d := d_rare) rfl
  obtain ⟨fd_num, F_num⟩ := c.def_ 9 (d := d_num) rfl
  obtain ⟨fd_told_so, F_told_so⟩ := c.def_ 10 (d := d_told_so) rfl
  obtain ⟨fd_whole, F_whole⟩ := c.def_ 11 (d := d_whole) rfl
  obtain ⟨fd_per, F_per⟩ := c.def_ 12 (d := d_per) rfl
  obtain ⟨fd_step_num, F_step_num⟩ := c.def_ 13 (d := d_step_num) rfl
  obtain ⟨fd_hop, F_hop⟩ := c.def_ 14 (d := d_hop) rfl
  obtain ⟨fd_remark, F_remark⟩ := c.def_ 15 (d := d_remark) rfl
  obtain ⟨fd_do_step, F_do_step⟩ := c.def_ 16 (d := d_do_step) rfl
  obtain ⟨fd_plain_step, F_plain_step⟩ := c.def_ 17 (d := d_plain_step) rfl
  obtain ⟨fd_some_code, F_some_code⟩ := c.def_ 18 (d := d_some_code) rfl
  obtain ⟨fd_diamonds, F_diamonds⟩ := c.def_ 19 (d := d_diamonds) rfl
  obtain ⟨fd_branchy, F_branchy⟩ := c.def_ 20 (d := d_branchy) rfl
  obtain ⟨fd_follows, F_follows⟩ := c.def_ 21 (d := d_follows) rfl
  obtain ⟨fd_dear, F_dear⟩ := c.def_ 22 (d := d_dear) rfl
  obtain ⟨fd_law, F_law⟩ := c.def_ 23 (d := d_law) rfl
  have T : Tx K mg w := {
    f_dear_way := _, fd_dear_way := fd_dear_way, F_dear_way := F_dear_way, m_dear_way := He.glo_ok X G (c.fact 0 (f := .glo "dear_way") rfl), b_dear_way := F_dear_way.bindsN fun _ _ _ _ _ _ us hl => match us, hl with | [_], _ => rfl
    f_passed_by := _, fd_passed_by := fd_passed_by, F_passed_by := F_passed_by, m_passed_by := He.glo_ok X G (c.fact 1 (f := .glo "passed_by") rfl), b_passed_by := F_passed_by.bindsN fun _ _ _ _ _ _ us hl => match us, hl with | [_], _ => rfl
    f_counts := _, fd_counts := fd_counts, F_counts := F_counts, m_counts := He.glo_ok X G (c.fact 2 (f := .glo "_counts") rfl), b_counts := F_counts.bindsN fun _ _ _ _ _ _ us hl => match us, hl with | [_, _, _, _], _ => rfl
    f_begin := _, fd_begin := fd_begin, F_begin := F_begin, m_begin := He.glo_ok X G (c.fact 3 (f := .glo "_law_begin") rfl), b_begin := F_begin.bindsN fun _ _ _ _ _ _ us hl => match us, hl with | [_], _ => rfl
    f_mixed := _, fd_mixed := fd_mixed, F_mixed := F_mixed, m_mixed := He.glo_ok X G (c.fact 4 (f := .glo "_law_mixed") rfl), b_mixed := F_mixed.bindsN fun _ _ _ _ _ _ us hl => match us, hl with | [_, _], _ => rfl
    f_draw := _, fd_draw := fd_draw, F_draw := F_draw, m_draw := He.glo_ok X G (c.fact 5 (f := .glo "_law_draw") rfl), b_draw := F_draw.bindsN fun _ _ _ _ _ _ us hl => match us, hl with | [_, _], _ => rfl
    f_draw_digit := _, fd_draw_digit := fd_draw_digit, F_draw_digit := F_draw_digit, m_draw_digit := He.glo_ok X G (c.fact 6 (f := .glo "_law_draw_digit") rfl), b_draw_digit := F_draw_digit.bindsN fun _ _ _ _ _ _ us hl => match us, hl with | [_, _], _ => rfl
    f_pick := _, fd_pick := fd_pick, F_pick := F_pick, m_pick := He.glo_ok X G (c.fact 7 (f := .glo "_law_pick") rfl), b_pick := F_pick.bindsN fun _ _ _ _ _ _ us hl => match us, hl with | [_, _], _ => rfl
    f_rare := _, fd_rare := fd_rare, F_rare := F_rare, m_rare := He.glo_ok X G (c.fact 8 (f := .glo "_law_rare") rfl), b_rare := F_rare.bindsN fun _ _ _ _ _ _ us hl => match us, hl with | [_, _], _ => rfl
    f_num := _, fd_num := fd_num, F_num := F_num, m_num := He.glo_ok X G (c.fact 9 (f := .glo "_law_num") rfl), b_num := F_num.bindsN fun _ _ _ _ _ _ us hl => match us, hl with | [_, _], _ => rfl
    f_told_so := _, fd_told_so := fd_told_so, F_told_so := F_told_so, m_told_so := He.glo_ok X G (c.fact 10 (f := .glo "_law_told_so") rfl), b_told_so := F_told_so.bindsN fun _ _ _ _ _ _ us hl => match us, hl with | [_, _], _ => rfl
    f_whole := _, fd_whole := fd_whole, F_whole := F_whole, m_whole := He.glo_ok X G (c.fact 11 (f := .glo "_law_whole") rfl), b_whole := F_whole.bindsN fun _ _ _ _ _ _ us hl => match us, hl with | [_], _ => rfl
    f_per := _, fd_per := fd_per, F_per := F_per, m_per := He.glo_ok X G (c.fact 12 (f := .glo "_law_per") rfl), b_per := F_per.bindsN fun _ _ _ _ _ _ us hl => match us, hl with | [_], _ => rfl
    f_step_num := _, fd_step_num := fd_step_num, F_step_num := F_step_num, m_step_num := He.glo_ok X G (c.fact 13 (f := .glo "_law_step_num") rfl), b_step_num := F_step_num.bindsN fun _ _ _ _ _ _ us hl => match us, hl with | [_], _ => rfl
    f_hop := _, fd_hop := fd_hop, F_hop := F_hop, m_hop := He.glo_ok X G (c.fact 14 (f := .glo "_law_hop") rfl), b_hop := F_hop.bindsN fun _ _ _ _ _ _ us hl => match us, hl with | [_, _], _ => rfl
    f_remark := _, fd_remark := fd_remark, F_remark := F_remark, m_remark := He.glo_ok X G (c.fact 15 (f := .glo "_law_remark") rfl), b_remark := F_remark.bindsN fun _ _ _ _ _ _ us hl => match us, hl with | [_], _ => rfl
    f_do_step := _, fd_do_step := fd_do_step, F_do_step := F_do_step, m_do_step := He.glo_ok X G (c.fact 16 (f := .glo "_law_do_step") rfl), b_do_step := F_do_step.bindsN fun _ _ _ _ _ _ us hl => match us, hl with | [_, _], _ => rfl
    f_plain_step := _, fd_plain_step := fd_plain_step, F_plain_step := F_plain_step, m_plain_step := He.glo_ok X G (c.fact 17 (f := .glo "_law_plain_step") rfl), b_plain_step := F_plain_step.bindsN fun _ _ _ _ _ _ us hl => match us, hl with | [_, _], _ => rfl
    f_some_code := _, fd_some_code := fd_some_code, F_some_code := F_some_code, m_some_code := He.glo_ok X G (c.fact 18 (f := .glo "_law_some_code") rfl), b_some_code := F_some_code.bindsN fun _ _ _ _ _ _ us hl => match us, hl with | [_, _, _], _ => rfl
    f_diamonds := _, fd_diamonds := fd_diamonds, F_diamonds := F_diamonds, m_diamonds := He.glo_ok X G (c.fact 19 (f := .glo "_law_diamonds") rfl), b_diamonds := F_diamonds.bindsN fun _ _ _ _ _ _ us hl => match us, hl with | [_, _], _ => rfl
    f_branchy := _, fd_branchy := fd_branchy, F_branchy := F_branchy, m_branchy := He.glo_ok X G (c.fact 20 (f := .glo "_law_branchy") rfl), b_branchy := F_branchy.bindsN fun _ _ _ _ _ _ us hl => match us, hl with | [_, _], _ => rfl
    f_follows := _, fd_follows := fd_follows, F_follows := F_follows, m_follows := He.glo_ok X G (c.fact 21 (f := .glo "_law_follows") rfl), b_follows := F_follows.bindsN fun _ _ _ _ _ _ us hl => match us, hl with | [_, _, _], _ => rfl
    f_dear := _, fd_dear := fd_dear, F_dear := F_dear, m_dear := He.glo_ok X G (c.fact 22 (f := .glo "_law_dear") rfl), b_dear := F_dear.bindsN fun _ _ _ _ _ _ us hl => match us, hl with | [_], _ => rfl
    f_law := _, fd_law := fd_law, F_law := F_law, m_law := He.glo_ok X G (c.fact 23 (f := .glo "law") rfl), b_law := F_law.bindsN fun _ _ _ _ _ _ us hl => match us, hl with | [_], _ => rfl
    z_abs := He.free_ok X G (c.fact 24 (f := .free "abs") rfl)
    z_bool := He.free_ok X G (c.fact 25 (f := .free "bool") rfl)
    z_divmod := He.free_ok X G (c.fact 26 (f := .free "divmod") rfl)
    z_int := He.free_ok X G (c.fact 27 (f := .free "int") rfl)
    z_isinstance := He.free_ok X G (c.fact 28 (f := .free "isinstance") rfl)
    z_len := He.free_ok X G (c.fact 29 (f := .free "len") rfl)
    z_max := He.free_ok X G (c.fact 30 (f := .free "max") rfl)
    z_min := He.free_ok X G (c.fact 31 (f := .free "min") rfl)
    z_range := He.free_ok X G (c.fact 32 (f := .free "range") rfl)
    z_reversed := He.free_ok X G (c.fact 33 (f := .free "reversed") rfl)
    z_tuple := He.free_ok X G (c.fact 34 (f := .free "tuple") rfl)
  }
  have e := hfa.symm.trans T.m_law
  cases e
  have b := FunD.bindsA (ps := ["script"]) T.F_law fun _ _ _ _ _ _ us hl => match us, hl with | [_], _ => rfl
  exact ⟨T.fd_law, fun s v => b s [v] rfl, fun base _ _ => ok_law T⟩
end My
open PySem PySem.W PySem.Calls PyProof.Rows
set_option maxRecDepth 100000 in
set_option maxHeartbeats 0 in
theorem PySem.Challenge.cw_keepsgoing_k66_dear_ways_holds : PySem.Challenge.rw_keepsgoing_k66_dear_ways.Holds := by
  w_on; o_law
  refine HandSHeadRun.head_any (r := My.theRow) (q := view My.theRow.prog [25]) (H := My.hookM) (ob := My.obM) (M := 3000) (loose := My.others) (d := HandSHeadRun.topDef My.theRow.prog 25) (kwd := []) My.obM_eq
    (by kernel_rfl) (fun s => by kernel_rfl) My.runM (by kernel_rfl) (by kernel_rfl) (by kernel_rfl) (by rfl) (by first | assumption | decide +kernel) (by decide +kernel) ⟨rfl, rfl, rfl, rfl, rfl, by decide +kernel⟩ ?hw ?hc
  case hw => w_witness2
  case hc =>
    refine L2.walk_ofE (l := PySem.Challenge.rw_keepsgoing_k66_dear_ways) (n := 63) (k := 9) (x := "script") (CX := L2.CX0) rfl (by decide) (by kernel_rfl) ⟨rfl, by decide, by decide⟩ ?F (fun _ _ _ _ z => z)
    intro w mg fa h Y G hmg0
    obtain ⟨K, KX, c, cx⟩ := Y
    have hmg : mg ("law" : PySem.Str) = some (.ref fa) := by
      have e : (HandSHeadRun.topDef My.theRow.prog 25).name = ("law" : PySem.Str) := by kernel_rfl
      rw [← e]
      exact hmg0
    obtain ⟨fd, hb, hF⟩ := My.factsM (P := My.theRow.prog) (w := w) KX G hmg c cx
    exact ⟨K, fd, My.sp1 (My.rLaw K), KX, hb, fun H a ns hl _ hS => ⟨_, rfl, a, ns, rfl, hS, hl, fun _ => rfl⟩, hF⟩
