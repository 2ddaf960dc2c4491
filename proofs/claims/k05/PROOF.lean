import PyProof.Rows.All
import Wide.All
import OpenK.AllK
import Wide.FinOn
import KE.KStateDown
import HandS.ForMost
import HandS.Walk
import HandS.IsInst
import HandS.TupAny
import HandS.Style
import HandS.Defaults
import HandS.WordsExc
import HandS.Head0
import HandS.Head1
import HandS.Head2
import HandS.HeadEnd
import HandS.HeadHook1
import HandS.HeadHook2
import PySem.Challenge.RW_keepsgoing_k05_tokens
set_option Elab.async false
set_option linter.all false
set_option maxRecDepth 100000
set_option maxHeartbeats 0
namespace My
open PySem PySem.Spec PyProof.Rows L2
/-! ### the text -/
def topS (i : Nat) : Stmt := PySem.Challenge.pw_keepsgoing_k05_tokens.main.body.getD i (.Pass ⟨0, 0, 0, 0⟩)
abbrev s_tokens_of : Stmt := topS 4
abbrev s_end_of_token : Stmt := topS 5
abbrev s_begin : Stmt := topS 7
abbrev s_mixed : Stmt := topS 8
abbrev s_draw : Stmt := topS 9
abbrev s_draw_digit : Stmt := topS 10
abbrev s_pick : Stmt := topS 11
abbrev s_rare : Stmt := topS 12
abbrev s_reserved : Stmt := topS 13
abbrev s_goes_on : Stmt := topS 14
abbrev s_own_tokens : Stmt := topS 15
abbrev s_piece : Stmt := topS 16
abbrev s_law : Stmt := topS 17
theorem sc_tokens_of : FnScope ["text", "found", "at", "end"] ["text"] (defScope s_tokens_of) := ⟨rfl, rfl, rfl, by decide +kernel, rfl, by decide +kernel, by decide +kernel⟩
theorem sc_end_of_token : FnScope ["text", "at", "end"] ["text", "at"] (defScope s_end_of_token) := ⟨rfl, rfl, rfl, by decide +kernel, rfl, by decide +kernel, by decide +kernel⟩
theorem sc_begin : FnScope ["_law_script", "_law_cell"] ["_law_script"] (defScope s_begin) := ⟨rfl, rfl, rfl, by decide +kernel, rfl, by decide +kernel, by decide +kernel⟩
theorem sc_mixed : FnScope ["_law_d", "_law_cell"] ["_law_d", "_law_cell"] (defScope s_mixed) := ⟨rfl, rfl, rfl, by decide +kernel, rfl, by decide +kernel, by decide +kernel⟩
theorem sc_draw : FnScope ["_law_d", "_law_many", "_law_cell"] ["_law_d", "_law_many"] (defScope s_draw) := ⟨rfl, rfl, rfl, by decide +kernel, rfl, by decide +kernel, by decide +kernel⟩
theorem sc_draw_digit : FnScope ["_law_d", "_law_many", "_law_pair"] ["_law_d", "_law_many"] (defScope s_draw_digit) := ⟨rfl, rfl, rfl, by decide +kernel, rfl, by decide +kernel, by decide +kernel⟩
theorem sc_pick : FnScope ["_law_d", "_law_row"] ["_law_d", "_law_row"] (defScope s_pick) := ⟨rfl, rfl, rfl, by decide +kernel, rfl, by decide +kernel, by decide +kernel⟩
theorem sc_rare : FnScope ["_law_d", "_law_many", "_law_amid"] ["_law_d", "_law_many"] (defScope s_rare) := ⟨rfl, rfl, rfl, by decide +kernel, rfl, by decide +kernel, by decide +kernel⟩
theorem sc_reserved : FnScope ["_law_words", "_law_more"] [] (defScope s_reserved) := ⟨rfl, rfl, rfl, by decide +kernel, rfl, by decide +kernel, by decide +kernel⟩
theorem sc_goes_on : FnScope ["_law_before", "_law_sign", "_law_runs"] ["_law_before", "_law_sign"] (defScope s_goes_on) := ⟨rfl, rfl, rfl, by decide +kernel, rfl, by decide +kernel, by decide +kernel⟩
theorem sc_own_tokens : FnScope ["_law_text", "_law_found", "_law_before", "_law_sign", "_law_token"] ["_law_text"] (defScope s_own_tokens) := ⟨rfl, rfl, rfl, by decide +kernel, rfl, by decide +kernel, by decide +kernel⟩
theorem sc_piece : FnScope ["_law_d", "_law_runs", "_law_way", "_law_word", "_law_step"] ["_law_d"] (defScope s_piece) := ⟨rfl, rfl, rfl, by decide +kernel, rfl, by decide +kernel, by decide +kernel⟩
theorem sc_law : FnScope ["_law_script", "_law_d", "_law_texts", "_law_turn", "_law_text", "_law_step", "_law_heavy", "_law_due", "_law_told", "_law_again", "_law_token"] ["_law_script"] (defScope s_law) := ⟨rfl, rfl, rfl, by decide +kernel, rfl, by decide +kernel, by decide +kernel⟩
abbrev FnP (K : PySem.W.Frag) (x : Str) (st : Stmt) (f : Addr) (fd : FuncData) : Prop := FunD K x x (defArgs st) (defBody st) (defScope st) [] [] f fd
structure Tx (K : PySem.W.Frag) (mg : Str → Option Value) where
  f_tokens_of : Addr
  fd_tokens_of : FuncData
  F_tokens_of : FnP K "tokens_of" s_tokens_of f_tokens_of fd_tokens_of
  m_tokens_of : mg "tokens_of" = some (.ref f_tokens_of)
  b_tokens_of : Binds K fd_tokens_of ["text"] []
  f_end_of_token : Addr
  fd_end_of_token : FuncData
  F_end_of_token : FnP K "_end_of_token" s_end_of_token f_end_of_token fd_end_of_token
  m_end_of_token : mg "_end_of_token" = some (.ref f_end_of_token)
  b_end_of_token : Binds K fd_end_of_token ["text", "at"] []
  f_begin : Addr
  fd_begin : FuncData
  F_begin : FnP K "_law_begin" s_begin f_begin fd_begin
  m_begin : mg "_law_begin" = some (.ref f_begin)
  b_begin : Binds K fd_begin ["_law_script"] []
  f_mixed : Addr
  fd_mixed : FuncData
  F_mixed : FnP K "_law_mixed" s_mixed f_mixed fd_mixed
  m_mixed : mg "_law_mixed" = some (.ref f_mixed)
  b_mixed : Binds K fd_mixed ["_law_d", "_law_cell"] []
  f_draw : Addr
  fd_draw : FuncData
  F_draw : FnP K "_law_draw" s_draw f_draw fd_draw
  m_draw : mg "_law_draw" = some (.ref f_draw)
  b_draw : Binds K fd_draw ["_law_d", "_law_many"] []
  f_draw_digit : Addr
  fd_draw_digit : FuncData
  F_draw_digit : FnP K "_law_draw_digit" s_draw_digit f_draw_digit fd_draw_digit
  m_draw_digit : mg "_law_draw_digit" = some (.ref f_draw_digit)
  b_draw_digit : Binds K fd_draw_digit ["_law_d", "_law_many"] []
  f_pick : Addr
  fd_pick : FuncData
  F_pick : FnP K "_law_pick" s_pick f_pick fd_pick
  m_pick : mg "_law_pick" = some (.ref f_pick)
  b_pick : Binds K fd_pick ["_law_d", "_law_row"] []
  f_rare : Addr
  fd_rare : FuncData
  F_rare : FnP K "_law_rare" s_rare f_rare fd_rare
  m_rare : mg "_law_rare" = some (.ref f_rare)
  b_rare : Binds K fd_rare ["_law_d", "_law_many"] []
  f_reserved : Addr
  fd_reserved : FuncData
  F_reserved : FnP K "_law_reserved" s_reserved f_reserved fd_reserved
  m_reserved : mg "_law_reserved" = some (.ref f_reserved)
  b_reserved : Binds K fd_reserved [] []
  f_goes_on : Addr
  fd_goes_on : FuncData
  F_goes_on : FnP K "_law_goes_on" s_goes_on f_goes_on fd_goes_on
  m_goes_on : mg "_law_goes_on" = some (.ref f_goes_on)
  b_goes_on : Binds K fd_goes_on ["_law_before", "_law_sign"] []
  f_own_tokens : Addr
  fd_own_tokens : FuncData
  F_own_tokens : FnP K "_law_own_tokens" s_own_tokens f_own_tokens fd_own_tokens
  m_own_tokens : mg "_law_own_tokens" = some (.ref f_own_tokens)
  b_own_tokens : Binds K fd_own_tokens ["_law_text"] []
  f_piece : Addr
  fd_piece : FuncData
  F_piece : FnP K "_law_piece" s_piece f_piece fd_piece
  m_piece : mg "_law_piece" = some (.ref f_piece)
  b_piece : Binds K fd_piece ["_law_d"] []
  f_law : Addr
  fd_law : FuncData
  F_law : FnP K "law" s_law f_law fd_law
  m_law : mg "law" = some (.ref f_law)
  b_law : Binds K fd_law ["_law_script"] []
  z_abs : mg "abs" = none
  z_divmod : mg "divmod" = none
  z_int : mg "int" = none
  z_isinstance : mg "isinstance" = none
  z_len : mg "len" = none
  z_list : mg "list" = none
  z_range : mg "range" = none
  z_tuple : mg "tuple" = none
  tk_RUN : Tok
  mg_RUN : mg "RUN" = some (.str "abcdefghijklmnopqrstuvwxyzABCDEFGHIJKLMNOPQRSTUVWXYZ0123456789" tk_RUN)
  mg_BLANKS : mg "BLANKS" = some (.ref (He.ga K "BLANKS"))
  tp_BLANKS : ∀ H : Hp, SqT K H (He.ga K "BLANKS") [.str " ", .str "\n"]
  mg_LONG_SIGNS : mg "LONG_SIGNS" = some (.ref (He.ga K "LONG_SIGNS"))
  tp_LONG_SIGNS : ∀ H : Hp, SqT K H (He.ga K "LONG_SIGNS") [.str "..", .str "==", .str "!=", .str "<="]



/-! ### promises of defs with so many arguments -/
def sp0 (R : Hp → VK → Prop) : Sp := fun vs H Q _ => vs = [] ∧ R H Q
def sp1 (R : V → Hp → VK → Prop) : Sp := fun vs H Q _ => ∃ x, vs = [x] ∧ R x H Q
def sp2 (R : V → V → Hp → VK → Prop) : Sp := fun vs H Q _ => ∃ x y, vs = [x, y] ∧ R x y H Q
def sp3 (R : V → V → V → Hp → VK → Prop) : Sp := fun vs H Q _ => ∃ x y z, vs = [x, y, z] ∧ R x y z H Q
section
variable {P : Program} {w : World} {K : PySem.W.Frag} {mg : Str → Option Value} {base : Heap} {x : Str} {st : Stmt} {f : Addr} {fd : FuncData} {N ps : List Str} {k : Nat}
theorem okR {sp : Sp} (F : FunD K x x (defArgs st) (defBody st) (defScope st) [] [] f fd) (S : FnScope N ps (defScope st)) (len : ∀ vs H Q E, sp vs H Q E → vs.length = ps.length)
    (body : ∀ (cdv : Value) (A : Around) (outer : List Env) (s : Shared) (H : Hp) (vs : List V) (Q : VK) (E : XK), Room k (A.deeper (envOfC x (defScope st) s.heap.objs.size f cdv)) → sp vs H Q E →
      ∃ t, PSs (cxOf CX0 P w K mg base N x (defScope st) f cdv A outer s H E).nox (defBody st) t ∧ t { nx := fun _ H' => Q .non H', rt := Q } (start N vs) H) : FnOk P w K mg base CX0 (k + 1) f fd ps sp := by
  refine F.ok S len fun cdv A outer s H vs Q E hr h => ?_
  obtain ⟨t, h1, h2⟩ := body cdv A outer s H vs Q E hr h
  exact ⟨t, h1.nox, h2⟩
theorem okR0 {R : Hp → VK → Prop} (F : FunD K x x (defArgs st) (defBody st) (defScope st) [] [] f fd) (S : FnScope N ps (defScope st)) (hl : ps.length = 0)
    (body : ∀ (cdv : Value) (A : Around) (outer : List Env) (s : Shared) (H : Hp) (Q : VK) (E : XK), Room k (A.deeper (envOfC x (defScope st) s.heap.objs.size f cdv)) → R H Q →
      ∃ t, PSs (cxOf CX0 P w K mg base N x (defScope st) f cdv A outer s H E).nox (defBody st) t ∧ t { nx := fun _ H' => Q .non H', rt := Q } (start N []) H) : FnOk P w K mg base CX0 (k + 1) f fd ps (sp0 R) := by
  refine okR F S (fun vs H Q E h => ?_) fun cdv A outer s H vs Q E hr h => ?_
  · obtain ⟨rfl, _⟩ := h
    exact hl.symm
  · obtain ⟨rfl, h⟩ := h
    exact body cdv A outer s H Q E hr h
theorem okR1 {R : V → Hp → VK → Prop} (F : FunD K x x (defArgs st) (defBody st) (defScope st) [] [] f fd) (S : FnScope N ps (defScope st)) (hl : ps.length = 1)
    (body : ∀ (cdv : Value) (A : Around) (outer : List Env) (s : Shared) (H : Hp) (Q : VK) (E : XK) (a : V), Room k (A.deeper (envOfC x (defScope st) s.heap.objs.size f cdv)) → R a H Q →
      ∃ t, PSs (cxOf CX0 P w K mg base N x (defScope st) f cdv A outer s H E).nox (defBody st) t ∧ t { nx := fun _ H' => Q .non H', rt := Q } (start N [a]) H) : FnOk P w K mg base CX0 (k + 1) f fd ps (sp1 R) := by
  refine okR F S (fun vs H Q E h => ?_) fun cdv A outer s H vs Q E hr h => ?_
  · obtain ⟨_, rfl, _⟩ := h
    exact hl.symm
  · obtain ⟨a, rfl, h⟩ := h
    exact body cdv A outer s H Q E a hr h
theorem okR2 {R : V → V → Hp → VK → Prop} (F : FunD K x x (defArgs st) (defBody st) (defScope st) [] [] f fd) (S : FnScope N ps (defScope st)) (hl : ps.length = 2)
    (body : ∀ (cdv : Value) (A : Around) (outer : List Env) (s : Shared) (H : Hp) (Q : VK) (E : XK) (a b : V), Room k (A.deeper (envOfC x (defScope st) s.heap.objs.size f cdv)) → R a b H Q →
      ∃ t, PSs (cxOf CX0 P w K mg base N x (defScope st) f cdv A outer s H E).nox (defBody st) t ∧ t { nx := fun _ H' => Q .non H', rt := Q } (start N [a, b]) H) : FnOk P w K mg base CX0 (k + 1) f fd ps (sp2 R) := by
  refine okR F S (fun vs H Q E h => ?_) fun cdv A outer s H vs Q E hr h => ?_
  · obtain ⟨_, _, rfl, _⟩ := h
    exact hl.symm
  · obtain ⟨a, b, rfl, h⟩ := h
    exact body cdv A outer s H Q E a b hr h
theorem okR3 {R : V → V → V → Hp → VK → Prop} (F : FunD K x x (defArgs st) (defBody st) (defScope st) [] [] f fd) (S : FnScope N ps (defScope st)) (hl : ps.length = 3)
    (body : ∀ (cdv : Value) (A : Around) (outer : List Env) (s : Shared) (H : Hp) (Q : VK) (E : XK) (a b c : V), Room k (A.deeper (envOfC x (defScope st) s.heap.objs.size f cdv)) → R a b c H Q →
      ∃ t, PSs (cxOf CX0 P w K mg base N x (defScope st) f cdv A outer s H E).nox (defBody st) t ∧ t { nx := fun _ H' => Q .non H', rt := Q } (start N [a, b, c]) H) : FnOk P w K mg base CX0 (k + 1) f fd ps (sp3 R) := by
  refine okR F S (fun vs H Q E h => ?_) fun cdv A outer s H vs Q E hr h => ?_
  · obtain ⟨_, _, _, rfl, _⟩ := h
    exact hl.symm
  · obtain ⟨a, b, c, rfl, h⟩ := h
    exact body cdv A outer s H Q E a b c hr h
end
/-! ### heaps: all but the object at d stays -/
def Keep (d : Addr) (H H' : Hp) : Prop := ∀ b o, H b = some o → b ≠ d → H' b = some o
theorem Keep.refl (d : Addr) (H : Hp) : Keep d H H := fun _ _ h _ => h
theorem Keep.trans {d : Addr} {H H1 H2 : Hp} (a : Keep d H H1) (b : Keep d H1 H2) : Keep d H H2 := fun c o h n => b c o (a c o h n) n
theorem Keep.of {d : Addr} {H H1 : Hp} (a : Same H H1) : Keep d H H1 := fun c o h _ => a c o h
theorem Keep.new {d p : Addr} {H : Hp} {o : HO} (h : H p = none) : Keep d H (upd H p o) := fun b u e _ => by
  rw [upd_ne (ne_of_none e h)]
  exact e
theorem Keep.at {d : Addr} {H : Hp} {o : HO} : Keep d H (upd H d o) := fun b u e n => by
  rw [upd_ne n]
  exact e
theorem same_new {H : Hp} {p : Addr} {o : HO} (h : H p = none) : Same H (upd H p o) := fun b u e => by
  rw [upd_ne (ne_of_none e h)]
  exact e
theorem upd_else {H : Hp} {a b : Addr} {o u : HO} (h : H b = some u) (n : b ≠ a) : upd H a o b = some u := by
  rw [upd_ne n]
  exact h
theorem sl (n : Nat) (h : n ≤ 1000 := by decide) : n ≤ sizeLine := Nat.le_of_lt (small1000 h)
/-- a list's item by a written place -/
theorem at_n {xs : List V} {v : V} (j : Nat) (h : xs[j]? = some v) : atI xs (j : Int) = some v := atI_nat h
theorem yes {σ : L2.St} {H : Hp} {A B : Hp → Prop} (h : A H) : tYes σ H fun b H' => if b = true then A H' else B H' := by
  show if true = true then A H else B H
  rw [if_pos rfl]
  exact h

/-! ### the law's draws: d holds the script's numbers (a list at c), a place and three numbers -/
def Dr (d c : Addr) (H : Hp) : Prop := ∃ (cells : List Int) (i : Nat) (big seed cnt : Int), H d = some (.lst [.ref c, .int i, .int big, .int seed, .int cnt]) ∧ H c = some (.lst (cells.map V.int)) ∧ c ≠ d
theorem Dr.same {d c : Addr} {H H' : Hp} (h : Dr d c H) (s : Same H H') : Dr d c H' := by
  obtain ⟨cells, i, big, seed, cnt, h1, h2, h3⟩ := h
  exact ⟨cells, i, big, seed, cnt, s _ _ h1, s _ _ h2, h3⟩
theorem Dr.new {d c p : Addr} {H : Hp} {o : HO} (h : Dr d c H) (n : H p = none) : Dr d c (upd H p o) := h.same (same_new n)
theorem Dr.there {d c : Addr} {H : Hp} (h : Dr d c H) : ∃ xs, H d = some (.lst xs) := by
  obtain ⟨cells, i, big, seed, cnt, h1, h2, h3⟩ := h
  exact ⟨_, h1⟩
theorem Dr.dne {d c p : Addr} {H : Hp} (h : Dr d c H) (n : H p = none) : p ≠ d := by
  obtain ⟨_, h1⟩ := h.there
  exact (ne_of_none h1 n).symm
theorem Dr.cne {d c p : Addr} {H : Hp} (h : Dr d c H) (n : H p = none) : p ≠ c := by
  obtain ⟨cells, i, big, seed, cnt, h1, h2, h3⟩ := h
  exact (ne_of_none h2 n).symm
/-- another object than d and c is written -/
theorem Dr.else {d c p : Addr} {H : Hp} {o : HO} (h : Dr d c H) (n1 : p ≠ d) (n2 : p ≠ c) : Dr d c (upd H p o) := by
  obtain ⟨cells, i, big, seed, cnt, h1, h2, h3⟩ := h
  exact ⟨cells, i, big, seed, cnt, upd_else h1 n1.symm, upd_else h2 n2.symm, h3⟩
def rBegin (K : PySem.W.Frag) : V → Hp → VK → Prop := fun x H Q => ∃ (a : Addr) (ns : List Int), x = .ref a ∧ SqL K H a (ns.map V.int) ∧ ns.length ≤ 63 ∧
  ∀ (d c : Addr) (H' : Hp), Dr d c H' → Same H H' → Q (.ref d) H'
def rMixed : V → V → Hp → VK → Prop := fun x y H Q => ∃ (d c : Addr) (z : Int), x = .ref d ∧ y = .int z ∧ Dr d c H ∧ ∀ (r : Int) (H' : Hp), Dr d c H' → Keep d H H' → Q (.int r) H'
def rDraw : V → V → Hp → VK → Prop := fun x y H Q => ∃ (d c : Addr) (m : Int), x = .ref d ∧ y = .int m ∧ Dr d c H ∧ 0 < m ∧ m < 1000000000 ∧ ∀ (r : Int) (H' : Hp), 0 ≤ r → r < m → Dr d c H' → Keep d H H' → Q (.int r) H'
def rRare : V → V → Hp → VK → Prop := fun x y H Q => ∃ (d c : Addr) (m : Int), x = .ref d ∧ y = .int m ∧ Dr d c H ∧ 4 < m ∧ m < 1000000000 ∧ ∀ (r : Bool) (H' : Hp), Dr d c H' → Keep d H H' → Q (.bl r) H'
section
variable {P : Program} {w : World} {K : PySem.W.Frag} {mg : Str → Option Value} {base : Heap}
theorem ok_begin (T : Tx K mg) : FnOk P w K mg base CX0 1 T.f_begin T.fd_begin ["_law_script"] (sp1 (rBegin K)) := by
  refine okR1 T.F_begin sc_begin rfl fun cdv A outer s H Q E x hr h => ?_
  obtain ⟨a, ns, rfl, hS, h63, q⟩ := h
  refine ⟨_, pss_one (ps_ret (pe_lst (pa_cons (pe_lc (own := [("_law_cell", 1)]) (g := gName 1) (tt := tYes) rfl sc_begin.nd (pi_list (pv 0)) (blkOk_by (N := ["_law_script", "_law_cell"]) (sc := defScope s_begin) (by decide +kernel)) (fun _ _ _ _ _ => pg_name (i := 1) sc_begin.nd rfl (Or.inl rfl)) (fun _ _ _ _ _ => pts_nil) (fun _ _ _ _ _ => (pe_callTy call_int1 (by rfl) T.z_int (by decide +kernel) (pa_cons (pv 1) pa_nil)))) (pa_cons pe_int (pa_cons pe_int (pa_cons pe_int (pa_cons pe_int pa_nil))))))), ?_⟩
  refine ⟨_, rfl, a, rfl, ⟨_, hS⟩, fun D hD => lc_list (K := K) (a := a) (xs := ns.map V.int) (fun i H' => H' = upd H D (.lst ((ns.take i).map V.int))) rfl ?_ ?_ ?_⟩
  · rintro i H' _ rfl
    exact (same_new hD).seq hS
  · rintro i x H' hi rfl
    rw [List.getElem?_map] at hi
    obtain ⟨z, hz, rfl⟩ := Option.map_eq_some_iff.mp hi
    refine ⟨rfl, yes ?_⟩
    refine ⟨_, rfl, .inl ⟨_, rfl, ?_⟩⟩
    refine ⟨_, upd_same, ?_, ?_⟩
    · rw [List.length_map, List.length_take]
      exact small1000 (by omega)
    · rw [upd_upd, List.take_add_one, hz, List.map_append] <;> rfl
  · rintro H' rfl
    rw [show (List.map V.int ns).length = ns.length from List.length_map _, List.take_length]
    refine ⟨sl 5, fun p hp => ?_⟩
    have hDp : D ≠ p := ne_of_none upd_same hp
    exact q p D _ ⟨ns, 0, 0, 1234577, 0, upd_same, upd_else upd_same hDp, hDp⟩ ((same_new hD).trans (same_new hp))
theorem ok_mixed (T : Tx K mg) : FnOk P w K mg base CX0 1 T.f_mixed T.fd_mixed ["_law_d", "_law_cell"] (sp2 rMixed) := by
  refine okR2 T.F_mixed sc_mixed rfl fun cdv A outer s H Q E x y hr h => ?_
  obtain ⟨d, c, z, rfl, rfl, ⟨cells, i, big, seed, cnt, h1, h2, hn⟩, q⟩ := h
  refine ⟨_, pss_cons (ps_asg (pe_op op_add (pe_ix ix_list (pv 0) pe_int (fun _ _ => rfl)) pe_int) (pg_sub (pv 0) pe_int set_list))
      (pss_cons (ps_asg (pe_op op_mod (pe_callTy call_int1 (by rfl) T.z_int (by decide +kernel) (pa_cons (pe_op op_add (pe_op op_add (pe_op op_mul (pe_ix ix_list (pv 0) pe_int (fun _ _ => rfl)) pe_int) (pe_op op_mul (pe_op op_add (pv 1) (pe_ix ix_list (pv 0) pe_int (fun _ _ => rfl))) pe_int)) pe_int) pa_nil)) pe_int) (pg_sub (pv 0) pe_int set_list))
      (pss_cons (ps_asg (pe_op op_mod (pe_callTy call_int1 (by rfl) T.z_int (by decide +kernel) (pa_cons (pe_op op_add (pe_op op_add (pe_op op_mul (pe_ix ix_list (pv 0) pe_int (fun _ _ => rfl)) pe_int) (pe_op op_mul (pe_ix ix_list (pv 0) pe_int (fun _ _ => rfl)) pe_int)) pe_int) pa_nil)) pe_int) (pg_sub (pv 0) pe_int set_list))
      (pss_one (ps_ret (pe_op op_fdiv (pe_ix ix_list (pv 0) pe_int (fun _ _ => rfl)) pe_int))))), ?_⟩
  refine ⟨_, rfl, d, _, _, _, rfl, rfl, SqL.of h1, at_n 4 rfl, _, _, rfl, rfl, _, rfl, d, _, _, 4, rfl, rfl, h1, rfl, ?_⟩
  refine ⟨_, rfl, d, _, _, _, rfl, rfl, SqL.of upd_same, at_n 3 rfl, _, _, rfl, rfl, .inr (by decide), _, rfl, _, rfl, d, _, _, _, rfl, rfl, SqL.of upd_same, at_n 4 rfl, _, _, rfl, rfl, _, _, rfl, rfl, .inr (by decide), _, _, rfl, rfl, _, _, rfl, rfl, .inl ⟨_, rfl, ?_⟩⟩
  refine ⟨_, _, rfl, rfl, (by show (0 : Int) < 2147483647; decide), _, rfl, d, _, _, 3, rfl, rfl, upd_same, rfl, ?_⟩
  rw [upd_upd]
  refine ⟨_, rfl, d, _, _, _, rfl, rfl, SqL.of upd_same, at_n 3 rfl, _, _, rfl, rfl, .inr (by decide), _, rfl, d, _, _, _, rfl, rfl, SqL.of upd_same, at_n 4 rfl, _, _, rfl, rfl, .inr (by decide), _, _, rfl, rfl, _, _, rfl, rfl, .inl ⟨_, rfl, ?_⟩⟩
  refine ⟨_, _, rfl, rfl, (by show (0 : Int) < 2147483629; decide), _, rfl, d, _, _, 3, rfl, rfl, upd_same, rfl, ?_⟩
  rw [upd_upd]
  refine ⟨_, rfl, d, _, _, _, rfl, rfl, SqL.of upd_same, at_n 3 rfl, _, _, rfl, rfl, ⟨by decide, by decide⟩, ?_⟩
  exact q _ _ ⟨cells, i, big, _, _, upd_same, upd_else h2 hn, hn⟩ Keep.at
theorem ok_draw_digit (T : Tx K mg) : FnOk P w K mg base CX0 1 T.f_draw_digit T.fd_draw_digit ["_law_d", "_law_many"] (sp2 rDraw) := by
  refine okR2 T.F_draw_digit sc_draw_digit rfl fun cdv A outer s H Q E x y hr h => ?_
  obtain ⟨d, c, m, rfl, rfl, ⟨cells, i, big, seed, cnt, h1, h2, hn⟩, m0, m1, q⟩ := h
  refine ⟨_, pss_cons (ps_set (i := 2) sc_draw_digit.nd rfl (Or.inl rfl) (pe_callB call_divmod (by rfl) T.z_divmod (by decide +kernel) (pa_cons (pe_ix ix_list (pv 0) pe_int (fun _ _ => rfl)) (pa_cons (pv 1) pa_nil))))
      (pss_cons (ps_asg (pe_ix ix_tup (pv 2) pe_int (fun _ _ => rfl)) (pg_sub (pv 0) pe_int set_list))
      (pss_one (ps_ret (pe_ix ix_tup (pv 2) pe_int (fun _ _ => rfl))))), ?_⟩
  refine ⟨_, rfl, d, _, _, _, rfl, rfl, SqL.of h1, at_n 2 rfl, _, rfl, _, _, rfl, ⟨m0, by omega⟩, fun p hp => ?_⟩
  have hdp : d ≠ p := ne_of_none h1 hp
  have hcp : c ≠ p := ne_of_none h2 hp
  refine ⟨_, rfl, p, _, _, _, rfl, rfl, SqT.of upd_same, at_n 0 rfl, _, rfl, d, _, _, 2, rfl, rfl, upd_else h1 hdp, rfl, ?_⟩
  refine ⟨_, rfl, p, _, _, _, rfl, rfl, SqT.of (upd_else upd_same hdp.symm), at_n 1 rfl, ?_⟩
  refine q _ _ (Int.emod_nonneg _ (by omega)) (Int.emod_lt_of_pos _ m0) ⟨cells, i, _, seed, cnt, upd_same, upd_else (upd_else h2 hcp) hn, hn⟩ ((Keep.new hp).trans Keep.at)
theorem ok_draw (T : Tx K mg) : FnOk P w K mg base CX0 2 T.f_draw T.fd_draw ["_law_d", "_law_many"] (sp2 rDraw) := by
  refine okR2 T.F_draw sc_draw rfl fun cdv A outer s H Q E x y hr h => ?_
  obtain ⟨d, c, m, rfl, rfl, ⟨cells, i, big, seed, cnt, h1, h2, hn⟩, m0, m1, q⟩ := h
  have dr : Dr d c H := ⟨cells, i, big, seed, cnt, h1, h2, hn⟩
  refine ⟨_, pss_cons (ps_if (pt_cmpR op_gt (pe_ix ix_list (pv 0) pe_int (fun _ _ => rfl)) pe_int (nomark _)) (pss_one (ps_ret (pe_call (ok_draw_digit T) (hr.mono (by decide)) rfl T.m_draw_digit T.F_draw_digit.kp T.b_draw_digit .nil pass0 (pa_cons (pv 0) (pa_cons (pv 1) pa_nil))))) pss_nil)
      (pss_cons (ps_if (pt_cmpR op_lt (pe_ix ix_list (pv 0) pe_int (fun _ _ => rfl)) (pe_callB call_len_seq (by rfl) T.z_len (by decide +kernel) (pa_cons (pe_ix ix_list (pv 0) pe_int (fun _ _ => rfl)) pa_nil)) (nomark _)) (pss_cons (ps_set (i := 2) sc_draw.nd rfl (Or.inl rfl) (pe_ix ix_list (pe_ix ix_list (pv 0) pe_int (fun _ _ => rfl)) (pe_ix ix_list (pv 0) pe_int (fun _ _ => rfl)) (fun _ _ => rfl)))
      (pss_cons (ps_asg (pe_op op_add (pe_ix ix_list (pv 0) pe_int (fun _ _ => rfl)) pe_int) (pg_sub (pv 0) pe_int set_list))
      (pss_cons (ps_if (pt_cmpR op_ge (pe_callB call_abs (by rfl) T.z_abs (by decide +kernel) (pa_cons (pv 2) pa_nil)) (pe_op op_pow pe_int pe_int) (nomark _)) (pss_cons (ps_asg (pe_op op_and (pe_op op_fdiv (pe_callB call_abs (by rfl) T.z_abs (by decide +kernel) (pa_cons (pv 2) pa_nil)) pe_int) (pe_op op_sub (pe_op op_shl pe_int pe_int) pe_int)) (pg_sub (pv 0) pe_int set_list))
      (pss_one (ps_ret (pe_call (ok_draw_digit T) (hr.mono (by decide)) rfl T.m_draw_digit T.F_draw_digit.kp T.b_draw_digit .nil pass0 (pa_cons (pv 0) (pa_cons (pv 1) pa_nil)))))) pss_nil)
      (pss_one (ps_ret (pe_op op_mod (pe_callTy call_int1 (by rfl) T.z_int (by decide +kernel) (pa_cons (pe_call (ok_mixed T) (hr.mono (by decide)) rfl T.m_mixed T.F_mixed.kp T.b_mixed .nil pass0 (pa_cons (pv 0) (pa_cons (pv 2) pa_nil))) pa_nil)) (pv 1))))))) pss_nil)
      (pss_one (ps_ret (pe_op op_mod (pe_callTy call_int1 (by rfl) T.z_int (by decide +kernel) (pa_cons (pe_call (ok_mixed T) (hr.mono (by decide)) rfl T.m_mixed T.F_mixed.kp T.b_mixed .nil pass0 (pa_cons (pv 0) (pa_cons pe_int pa_nil))) pa_nil)) (pv 1))))), ?_⟩
  -- if d[2] > 0
  refine ⟨_, rfl, d, _, _, _, rfl, rfl, SqL.of h1, at_n 2 rfl, _, _, rfl, rfl, _, rfl, ite2 (fun _ => ?_) (fun _ => ?_)⟩
  · exact ⟨_, rfl, _, rfl, _, _, rfl, d, c, m, rfl, rfl, dr, m0, m1, q⟩
  -- if d[1] < len(d[0])
  refine ⟨_, rfl, d, _, _, _, rfl, rfl, SqL.of h1, at_n 1 rfl, _, rfl, d, _, _, _, rfl, rfl, SqL.of h1, at_n 0 rfl, c, _, rfl, .inl (SqL.of h2), _, _, rfl, rfl, _, rfl, ite2 (fun hc => ?_) (fun _ => ?_)⟩
  · have hi : i < cells.length := by
      have e : (i : Int) < ((cells.map V.int).length : Int) := of_decide_eq_true hc
      rw [List.length_map] at e
      omega
    obtain ⟨z, hz⟩ : ∃ z, cells[i]? = some z := ⟨cells[i], List.getElem?_eq_getElem hi⟩
    have hz' : (cells.map V.int)[i]? = some (.int z) := by
      rw [List.getElem?_map, hz]
      rfl
    -- cell = d[0][d[1]]; d[1] = d[1] + 1
    refine ⟨_, rfl, d, _, _, _, rfl, rfl, SqL.of h1, at_n 0 rfl, _, rfl, d, _, _, _, rfl, rfl, SqL.of h1, at_n 1 rfl, c, _, _, _, rfl, rfl, SqL.of h2, at_n i hz', ?_⟩
    refine ⟨_, rfl, d, _, _, _, rfl, rfl, SqL.of h1, at_n 1 rfl, _, _, rfl, rfl, _, rfl, d, _, _, 1, rfl, rfl, h1, rfl, ?_⟩
    have dr1 : Dr d c (upd H d (.lst [.ref c, .int (i + 1), .int big, .int seed, .int cnt])) := ⟨cells, i + 1, big, seed, cnt, upd_same, upd_else h2 hn, hn⟩
    -- if abs(cell) >= 10 ** 18
    refine ⟨_, rfl, _, rfl, _, _, rfl, rfl, ⟨by decide, by decide, by decide⟩, _, _, rfl, rfl, _, rfl, ite2 (fun _ => ?_) (fun _ => ?_)⟩
    · refine ⟨_, rfl, _, rfl, _, _, rfl, rfl, ⟨by decide, by decide⟩, _, _, rfl, rfl, ⟨by decide, by decide, by decide⟩, _, _, rfl, rfl, _, _, rfl, rfl, _, rfl, d, _, _, 2, rfl, rfl, upd_same, rfl, ?_⟩
      rw [upd_upd]
      refine ⟨_, rfl, _, rfl, _, _, rfl, d, c, m, rfl, rfl, ⟨cells, i + 1, _, seed, cnt, upd_same, upd_else h2 hn, hn⟩, m0, m1, fun r H' r0 r1 dr' kp => ?_⟩
      exact q r H' r0 r1 dr' (Keep.at.trans kp)
    · refine ⟨_, rfl, _, rfl, _, _, rfl, d, c, z, rfl, rfl, dr1, fun r H' dr' kp => .inl ⟨_, rfl, ?_⟩⟩
      exact ⟨_, rfl, _, _, rfl, rfl, m0, q _ _ (Int.emod_nonneg _ (by omega)) (Int.emod_lt_of_pos _ m0) dr' (Keep.at.trans kp)⟩
  · refine ⟨_, rfl, _, _, rfl, d, c, 7, rfl, rfl, dr, fun r H' dr' kp => .inl ⟨_, rfl, ?_⟩⟩
    exact ⟨_, rfl, _, _, rfl, rfl, m0, q _ _ (Int.emod_nonneg _ (by omega)) (Int.emod_lt_of_pos _ m0) dr' kp⟩
end

/-! ### texts as lists of codes -/
def tx (l : List Nat) : Str := ⟨l.toArray⟩
theorem tx_cps (l : List Nat) : (tx l).cps.toList = l := rfl
theorem tx_len (l : List Nat) : (tx l).length = l.length := by
  show l.toArray.size = l.length
  exact List.size_toArray
theorem len_cps (z : Str) : z.length = z.cps.toList.length := by
  show z.cps.size = _
  rw [Array.length_toList]
theorem tx_eta (z : Str) : tx z.cps.toList = z := by
  obtain ⟨a⟩ := z
  show (⟨a.toList.toArray⟩ : Str) = ⟨a⟩
  rw [Array.toArray_toList]
theorem tx_app (a b : List Nat) : tx a ++ tx b = tx (a ++ b) := by
  show (⟨a.toArray ++ b.toArray⟩ : Str) = ⟨(a ++ b).toArray⟩
  rw [List.append_toArray]
theorem tx_inj {a b : List Nat} (h : tx a = tx b) : a = b := by
  have e : (tx a).cps.toList = (tx b).cps.toList := by rw [h]
  exact e
theorem tx_one (c : Nat) : (⟨#[c]⟩ : Str) = tx [c] := rfl
theorem app_len (a b : Str) : (a ++ b).length = a.length + b.length := by
  show (a.cps ++ b.cps).size = _
  rw [Array.size_append]
  rfl
theorem app_cps (a b : Str) : (a ++ b).cps.toList = a.cps.toList ++ b.cps.toList := by
  show (a.cps ++ b.cps).toList = _
  rw [Array.toList_append]
theorem str_ext {a b : Str} (h : a.cps.toList = b.cps.toList) : a = b := by
  rw [← tx_eta a, ← tx_eta b, h]
theorem sgn (z : Str) (i : Nat) {c : Nat} (h : z.cps.toList[i]? = some c) : atI z.cps.toList (i : Int) = some c := atI_nat h
theorem cut_tx (z : Str) (i j : Nat) (hij : i ≤ j) (hj : i ≤ z.length) : cutS z (some (i : Int)) (some (j : Int)) = tx ((z.cps.toList.drop i).take (j - i)) := by
  unfold cutS
  rw [HT.sIx_nat, HT.sIx_nat, Nat.min_eq_left hj]
  refine congrArg (fun q => (⟨q⟩ : Str)) ?_
  refine congrArg List.toArray ?_
  by_cases h : j ≤ z.length
  · rw [Nat.min_eq_left h]
  · rw [Nat.min_eq_right (by omega), List.take_of_length_le (by rw [List.length_drop, len_cps]; exact Nat.le_refl _), List.take_of_length_le (by rw [List.length_drop, ← len_cps]; omega)]
theorem inV_str (x : Str) (xs : List Str) : inV (.str x) (xs.map V.str) = decide (x ∈ xs) := by
  induction xs with
  | nil => rfl
  | cons y r ih =>
    have e : inV (.str x) ((y :: r).map V.str) = ((y == x) || inV (.str x) (r.map V.str)) := rfl
    rw [e, ih]
    by_cases h : y = x
    · rw [h]
      simp
    · have h2 : ¬ x = y := fun q => h q.symm
      simp [h, h2]
/-- every code is one that a text may have -/
def okB (z : Str) : Bool := z.cps.toList.all fun c => decide (c < 1114112)
theorem okB_app {a b : Str} (h1 : okB a = true) (h2 : okB b = true) : okB (a ++ b) = true := by
  unfold okB at *
  rw [app_cps, List.all_append, h1, h2]
  rfl
theorem okB_mem {z : Str} (h : okB z = true) {c : Nat} (hc : c ∈ z.cps.toList) : okB ⟨#[c]⟩ = true := by
  unfold okB at h
  have h2 := List.all_eq_true.mp h c hc
  show ([c].all fun c => decide (c < 1114112)) = true
  rw [List.all_cons, h2]
  rfl

/-! ### tokens -/
abbrev runs : Str := "abcdefghijklmnopqrstuvwxyzABCDEFGHIJKLMNOPQRSTUVWXYZ0123456789"
def isRun (c : Nat) : Bool := decide (c ∈ runs.cps.toList)
abbrev blanks : List Str := [" ", "\n"]
abbrev longs : List Str := ["..", "==", "!=", "<="]
def isBlank (c : Nat) : Bool := inV (.str (tx [c])) (blanks.map V.str)
def isLong (l : List Nat) : Bool := inV (.str (tx l)) (longs.map V.str)
theorem isBlank_iff (c : Nat) : isBlank c = true ↔ c = 32 ∨ c = 10 := by
  unfold isBlank
  rw [inV_str, decide_eq_true_iff]
  have e1 : (" " : Str) = tx [32] := by decide +kernel
  have e2 : ("\n" : Str) = tx [10] := by decide +kernel
  show tx [c] ∈ ([" ", "\n"] : List Str) ↔ _
  rw [e1, e2]
  constructor
  · intro h
    rcases List.mem_cons.mp h with h | h
    · exact .inl (List.cons.inj (tx_inj h)).1
    · rcases List.mem_cons.mp h with h | h
      · exact .inr (List.cons.inj (tx_inj h)).1
      · cases h
  · rintro (rfl | rfl) <;> simp
theorem isLong_iff (l : List Nat) : isLong l = true ↔ l = [46, 46] ∨ l = [61, 61] ∨ l = [33, 61] ∨ l = [60, 61] := by
  unfold isLong
  rw [inV_str, decide_eq_true_iff]
  have e1 : (".." : Str) = tx [46, 46] := by decide +kernel
  have e2 : ("==" : Str) = tx [61, 61] := by decide +kernel
  have e3 : ("!=" : Str) = tx [33, 61] := by decide +kernel
  have e4 : ("<=" : Str) = tx [60, 61] := by decide +kernel
  show tx l ∈ (["..", "==", "!=", "<="] : List Str) ↔ _
  rw [e1, e2, e3, e4]
  constructor
  · intro h
    rcases List.mem_cons.mp h with h | h
    · exact .inl (tx_inj h)
    · rcases List.mem_cons.mp h with h | h
      · exact .inr (.inl (tx_inj h))
      · rcases List.mem_cons.mp h with h | h
        · exact .inr (.inr (.inl (tx_inj h)))
        · rcases List.mem_cons.mp h with h | h
          · exact .inr (.inr (.inr (tx_inj h)))
          · cases h
  · rintro (rfl | rfl | rfl | rfl) <;> simp
theorem blank_norun {c : Nat} (h : isBlank c = true) : isRun c = false := by
  rcases (isBlank_iff c).mp h with rfl | rfl <;> decide +kernel
theorem long_two {l : List Nat} (h : isLong l = true) : ∃ c d, l = [c, d] ∧ isRun c = false ∧ isBlank c = false := by
  have nb : ∀ c : Nat, c ≠ 32 → c ≠ 10 → isBlank c = false := fun c h1 h2 => by
    cases q : isBlank c with
    | false => rfl
    | true => rcases (isBlank_iff c).mp q with z | z <;> contradiction
  rcases (isLong_iff l).mp h with rfl | rfl | rfl | rfl
  · exact ⟨46, 46, rfl, by decide +kernel, nb _ (by decide) (by decide)⟩
  · exact ⟨61, 61, rfl, by decide +kernel, nb _ (by decide) (by decide)⟩
  · exact ⟨33, 61, rfl, by decide +kernel, nb _ (by decide) (by decide)⟩
  · exact ⟨60, 61, rfl, by decide +kernel, nb _ (by decide) (by decide)⟩
theorem long_not {l : List Nat} (h : l.length ≠ 2) : isLong l = false := by
  cases q : isLong l with
  | false => rfl
  | true =>
    obtain ⟨c, d, rfl, _⟩ := long_two q
    exact absurd rfl h
def tokLen : List Nat → Nat
  | [] => 0
  | c :: r => if isRun c = true then 1 + (r.takeWhile isRun).length else if isLong ((c :: r).take 2) = true then 2 else 1
theorem tokLen_cons (c : Nat) (r : List Nat) : tokLen (c :: r) = if isRun c = true then 1 + (r.takeWhile isRun).length else if isLong ((c :: r).take 2) = true then 2 else 1 := rfl
theorem tokLen_pos (c : Nat) (r : List Nat) : 0 < tokLen (c :: r) := by
  rw [tokLen_cons]
  split
  · omega
  · split <;> omega
theorem tw_le (p : Nat → Bool) (r : List Nat) : (r.takeWhile p).length ≤ r.length := by
  induction r with
  | nil => exact Nat.le_refl _
  | cons a r ih =>
    rw [List.takeWhile_cons]
    split
    · exact Nat.succ_le_succ ih
    · exact Nat.zero_le _
theorem tokLen_le (l : List Nat) : tokLen l ≤ l.length := by
  cases l with
  | nil => exact Nat.le_refl _
  | cons c r =>
    rw [tokLen_cons]
    split
    · have := tw_le isRun r
      simp only [List.length_cons]
      omega
    · split
      · rename_i h
        obtain ⟨a, b, e, _⟩ := long_two h
        have e2 : ((c :: r).take 2).length = 2 := by rw [e]; rfl
        rw [List.length_take] at e2
        omega
      · simp only [List.length_cons]
        omega
def tokF : Nat → List Nat → List (List Nat)
  | 0, _ => []
  | _ + 1, [] => []
  | n + 1, c :: r => if isBlank c = true then tokF n ((c :: r).drop (tokLen (c :: r))) else (c :: r).take (tokLen (c :: r)) :: tokF n ((c :: r).drop (tokLen (c :: r)))
theorem tokF_more : ∀ (n m : Nat) (l : List Nat), l.length ≤ n → l.length ≤ m → tokF n l = tokF m l
  | 0, 0, _, _, _ => rfl
  | 0, m + 1, [], _, _ => rfl
  | 0, _ + 1, _ :: _, h, _ => by simp at h
  | n + 1, 0, [], _, _ => rfl
  | _ + 1, 0, _ :: _, _, h => by simp at h
  | n + 1, m + 1, [], _, _ => rfl
  | n + 1, m + 1, c :: r, h1, h2 => by
    have hp := tokLen_pos c r
    have hl : ((c :: r).drop (tokLen (c :: r))).length ≤ r.length := by
      rw [List.length_drop, List.length_cons]
      omega
    have e := tokF_more n m ((c :: r).drop (tokLen (c :: r))) (by simp only [List.length_cons] at h1; omega) (by simp only [List.length_cons] at h2; omega)
    show (if isBlank c = true then _ else _) = (if isBlank c = true then _ else _)
    rw [e]
def tok (l : List Nat) : List (List Nat) := tokF l.length l
theorem tok_nil : tok [] = [] := rfl
theorem tok_cons (c : Nat) (r : List Nat) : tok (c :: r) = if isBlank c = true then tok ((c :: r).drop (tokLen (c :: r))) else (c :: r).take (tokLen (c :: r)) :: tok ((c :: r).drop (tokLen (c :: r))) := by
  have hp := tokLen_pos c r
  have hl : ((c :: r).drop (tokLen (c :: r))).length ≤ r.length := by
    rw [List.length_drop, List.length_cons]
    omega
  have e : tokF r.length ((c :: r).drop (tokLen (c :: r))) = tok ((c :: r).drop (tokLen (c :: r))) := tokF_more _ _ _ hl (Nat.le_refl _)
  show tokF (r.length + 1) (c :: r) = _
  show (if isBlank c = true then _ else _) = (if isBlank c = true then _ else _)
  rw [e]
theorem tok_blank {c : Nat} {r : List Nat} (h : isBlank c = true) : tok (c :: r) = tok r := by
  have h1 := blank_norun h
  have h2 : isLong ((c :: r).take 2) = false := by
    cases q : isLong ((c :: r).take 2) with
    | false => rfl
    | true =>
      obtain ⟨a, b, e, h3, h4⟩ := long_two q
      cases r with
      | nil => cases e
      | cons d r =>
        have e2 : c = a := (List.cons.inj e).1
        rw [e2, h4] at h
        cases h
  have e : tokLen (c :: r) = 1 := by
    rw [tokLen_cons]
    rw [h1, h2, if_neg Bool.false_ne_true, if_neg Bool.false_ne_true]
  rw [tok_cons, if_pos h, e]
  rfl
theorem take_tw (p : Nat → Bool) : ∀ r : List Nat, r.take (r.takeWhile p).length = r.takeWhile p
  | [] => rfl
  | a :: r => by
    rw [List.takeWhile_cons]
    split
    · rw [List.length_cons, List.take_succ_cons, take_tw p r]
    · rfl
theorem drop_tw (p : Nat → Bool) : ∀ r : List Nat, r.drop (r.takeWhile p).length = r.dropWhile p
  | [] => rfl
  | a :: r => by
    rw [List.takeWhile_cons, List.dropWhile_cons]
    split
    · rw [List.length_cons, List.drop_succ_cons, drop_tw p r]
    · rfl
theorem run_noblank {c : Nat} (h : isRun c = true) : ¬ isBlank c = true := fun q => by
  rw [blank_norun q] at h
  cases h
theorem tok_run {c : Nat} {r : List Nat} (h : isRun c = true) : tok (c :: r) = (c :: r.takeWhile isRun) :: tok (r.dropWhile isRun) := by
  have e : tokLen (c :: r) = (r.takeWhile isRun).length + 1 := by
    rw [tokLen_cons]
    rw [if_pos h]
    omega
  rw [tok_cons, if_neg (run_noblank h), e, List.take_succ_cons, List.drop_succ_cons, take_tw, drop_tw]
theorem tok_long {c d : Nat} {r : List Nat} (h : isLong [c, d] = true) : tok (c :: d :: r) = [c, d] :: tok r := by
  obtain ⟨a, b, e, h1, h2⟩ := long_two h
  obtain ⟨rfl, e2⟩ := List.cons.inj e
  obtain ⟨rfl, _⟩ := List.cons.inj e2
  have e : tokLen (c :: d :: r) = 2 := by
    rw [tokLen_cons]
    rw [h1, if_neg Bool.false_ne_true]
    show (if isLong [c, d] = true then _ else _) = _
    rw [if_pos h]
  rw [tok_cons, h2, if_neg Bool.false_ne_true, e]
  rfl
theorem tok_one {c : Nat} {r : List Nat} (h1 : isRun c = false) (h2 : isBlank c = false) (h3 : isLong ((c :: r).take 2) = false) : tok (c :: r) = [c] :: tok r := by
  have e : tokLen (c :: r) = 1 := by
    rw [tokLen_cons]
    rw [h1, h3, if_neg Bool.false_ne_true, if_neg Bool.false_ne_true]
  rw [tok_cons, h2, if_neg Bool.false_ne_true, e]
  rfl
/-! the law's own way: sign by sign -/
def goesOn : List Nat → Nat → Bool
  | [], _ => false
  | c :: b, s => if isRun c = true then isRun s else isLong (c :: b ++ [s])
def own : List Nat → List Nat → List (List Nat)
  | b, [] => [b]
  | b, s :: r => if goesOn b s = true then own (b ++ [s]) r else b :: own (if isBlank s = true then [] else [s]) r
def some_ (t : List Nat) : Bool := !t.isEmpty
theorem own_tok : ∀ l : List Nat, ((own [] l).filter some_ = tok l) ∧ (∀ c b, isRun c = true → (own (c :: b) l).filter some_ = ((c :: b) ++ l.takeWhile isRun) :: tok (l.dropWhile isRun)) ∧
    (∀ c, isRun c = false → isBlank c = false → (own [c] l).filter some_ = tok (c :: l)) ∧ (∀ c d, isLong [c, d] = true → (own [c, d] l).filter some_ = [c, d] :: tok l)
  | [] => by
    refine ⟨rfl, fun c b h => ?_, fun c h1 h2 => ?_, fun c d h => rfl⟩
    · show [c :: b] = ((c :: b) ++ []) :: tok []
      rw [List.append_nil] <;> rfl
    · rw [tok_one h1 h2 (long_not (by simp))]
      rfl
  | s :: r => by
    obtain ⟨A, B, C, D⟩ := own_tok r
    have rst : (own (if isBlank s = true then [] else [s]) r).filter some_ = tok (s :: r) := by
      by_cases hb : isBlank s = true
      · rw [if_pos hb, tok_blank hb, A]
      · rw [if_neg hb]
        cases hr : isRun s with
        | true => rw [B s [] hr, tok_run hr] <;> rfl
        | false => exact C s hr (Bool.eq_false_iff.mpr hb)
    refine ⟨?_, fun c b h => ?_, fun c h1 h2 => ?_, fun c d h => ?_⟩
    · show (own (if isBlank s = true then [] else [s]) r).filter some_ = _
      exact rst
    · have eg : goesOn (c :: b) s = isRun s := by
        show (if isRun c = true then isRun s else _) = _
        rw [if_pos h]
      show (if goesOn (c :: b) s = true then own (c :: b ++ [s]) r else (c :: b) :: own (if isBlank s = true then [] else [s]) r).filter some_ = _
      rw [eg, List.takeWhile_cons, List.dropWhile_cons]
      cases hr : isRun s with
      | true =>
        rw [if_pos rfl, if_pos rfl, if_pos rfl]
        show (own (c :: (b ++ [s])) r).filter some_ = _
        rw [B c (b ++ [s]) h]
        simp
      | false =>
        rw [if_neg Bool.false_ne_true, if_neg Bool.false_ne_true, if_neg Bool.false_ne_true, List.append_nil]
        show (c :: b) :: (own (if isBlank s = true then [] else [s]) r).filter some_ = _
        rw [rst]
    · have eg : goesOn [c] s = isLong [c, s] := by
        show (if isRun c = true then isRun s else _) = _
        rw [h1, if_neg Bool.false_ne_true]
        rfl
      show (if goesOn [c] s = true then own [c, s] r else [c] :: own (if isBlank s = true then [] else [s]) r).filter some_ = _
      rw [eg]
      cases hl : isLong [c, s] with
      | true => rw [if_pos rfl, D c s hl, tok_long hl]
      | false =>
        rw [if_neg Bool.false_ne_true, tok_one h1 h2 (by exact hl)]
        show [c] :: (own (if isBlank s = true then [] else [s]) r).filter some_ = _
        rw [rst]
    · obtain ⟨a, b, e, h1, h2⟩ := long_two h
      have e1 : c = a := (List.cons.inj e).1
      rw [← e1] at h1
      have eg : goesOn [c, d] s = false := by
        show (if isRun c = true then isRun s else _) = _
        rw [h1, if_neg Bool.false_ne_true]
        exact long_not (by simp)
      show (if goesOn [c, d] s = true then own [c, d, s] r else [c, d] :: own (if isBlank s = true then [] else [s]) r).filter some_ = _
      rw [eg, if_neg Bool.false_ne_true]
      show [c, d] :: (own (if isBlank s = true then [] else [s]) r).filter some_ = _
      rw [rst]
theorem own_is (l : List Nat) : (own [] l).filter some_ = tok l := (own_tok l).1
/-! tokens with single blanks between them -/
def joinL : List (List Nat) → List Nat
  | [] => []
  | [t] => t
  | t :: u :: r => t ++ 32 :: joinL (u :: r)
def IsTok (t : List Nat) : Prop := (∃ c b, t = c :: b ∧ isRun c = true ∧ b.all isRun = true) ∨ (∃ c, t = [c] ∧ isRun c = false ∧ isBlank c = false) ∨ isLong t = true
theorem all_tw (p : Nat → Bool) : ∀ r : List Nat, (r.takeWhile p).all p = true
  | [] => rfl
  | a :: r => by
    rw [List.takeWhile_cons]
    split
    · rename_i h
      rw [List.all_cons, h, all_tw p r] <;> rfl
    · rfl
theorem tok_is : ∀ (n : Nat) (l : List Nat), l.length ≤ n → ∀ t ∈ tok l, IsTok t
  | _, [], _, t, h => by cases h
  | 0, _ :: _, hl, _, _ => by simp at hl
  | n + 1, c :: r, hl, t, h => by
    have hr : r.length ≤ n := by simpa using hl
    by_cases hb : isBlank c = true
    · rw [tok_blank hb] at h
      exact tok_is n r hr t h
    · have hb' : isBlank c = false := Bool.eq_false_iff.mpr hb
      cases hc : isRun c with
      | true =>
        rw [tok_run hc] at h
        rcases List.mem_cons.mp h with rfl | h
        · exact .inl ⟨c, _, rfl, hc, all_tw _ _⟩
        · refine tok_is n _ (Nat.le_trans ?_ hr) t h
          rw [← drop_tw, List.length_drop]
          omega
      | false =>
        cases q : isLong ((c :: r).take 2) with
        | false =>
          rw [tok_one hc hb' q] at h
          rcases List.mem_cons.mp h with rfl | h
          · exact .inr (.inl ⟨c, rfl, hc, hb'⟩)
          · exact tok_is n r hr t h
        | true =>
          cases r with
          | nil =>
            obtain ⟨_, _, e, _⟩ := long_two q
            cases e
          | cons d r =>
            have q2 : isLong [c, d] = true := q
            rw [tok_long q2] at h
            rcases List.mem_cons.mp h with rfl | h
            · exact .inr (.inr q2)
            · exact tok_is n r (by simp only [List.length_cons] at hr; omega) t h
theorem tw_all {p : Nat → Bool} : ∀ {b : List Nat}, b.all p = true → b.takeWhile p = b ∧ b.dropWhile p = []
  | [], _ => ⟨rfl, rfl⟩
  | a :: b, h => by
    rw [List.all_cons, Bool.and_eq_true] at h
    obtain ⟨e1, e2⟩ := tw_all h.2
    rw [List.takeWhile_cons, List.dropWhile_cons, if_pos h.1, if_pos h.1, e1, e2]
    exact ⟨rfl, rfl⟩
theorem tw_app {p : Nat → Bool} {s : Nat} (hs : p s = false) (r : List Nat) : ∀ {b : List Nat}, b.all p = true → (b ++ s :: r).takeWhile p = b ∧ (b ++ s :: r).dropWhile p = s :: r
  | [], _ => by
    rw [List.nil_append, List.takeWhile_cons, List.dropWhile_cons, hs]
    exact ⟨rfl, rfl⟩
  | a :: b, h => by
    rw [List.all_cons, Bool.and_eq_true] at h
    obtain ⟨e1, e2⟩ := tw_app hs r h.2
    rw [List.cons_append, List.takeWhile_cons, List.dropWhile_cons, if_pos h.1, if_pos h.1, e1, e2]
    exact ⟨rfl, rfl⟩
theorem b32 : isBlank 32 = true := (isBlank_iff 32).mpr (.inl rfl)
theorem tok_self {t : List Nat} (h : IsTok t) : tok t = [t] := by
  rcases h with ⟨c, b, rfl, hc, hb⟩ | ⟨c, rfl, h1, h2⟩ | h
  · obtain ⟨e1, e2⟩ := tw_all hb
    rw [tok_run hc, e1, e2]
    rfl
  · rw [tok_one h1 h2 (long_not (by simp))]
    rfl
  · obtain ⟨c, d, rfl, _⟩ := long_two h
    rw [tok_long h]
    rfl
theorem tok_sep {t : List Nat} (h : IsTok t) (r : List Nat) : tok (t ++ 32 :: r) = t :: tok r := by
  rcases h with ⟨c, b, rfl, hc, hb⟩ | ⟨c, rfl, h1, h2⟩ | h
  · obtain ⟨e1, e2⟩ := tw_app (blank_norun b32) r hb
    rw [List.cons_append, tok_run hc, e1, e2, tok_blank b32]
  · have q : isLong ((c :: 32 :: r).take 2) = false := by
      cases q : isLong ((c :: 32 :: r).take 2) with
      | false => rfl
      | true =>
        have q2 : isLong [c, 32] = true := q
        rcases (isLong_iff _).mp q2 with e | e | e | e <;> simp at e
    show tok (c :: 32 :: r) = _
    rw [tok_one h1 h2 q, tok_blank b32]
  · obtain ⟨c, d, rfl, _⟩ := long_two h
    show tok (c :: d :: 32 :: r) = _
    rw [tok_long h, tok_blank b32]
theorem tok_join : ∀ ts : List (List Nat), (∀ t ∈ ts, IsTok t) → tok (joinL ts) = ts
  | [], _ => rfl
  | [t], h => tok_self (h t (by simp))
  | t :: u :: r, h => by
    show tok (t ++ 32 :: joinL (u :: r)) = _
    rw [tok_sep (h t (by simp)), tok_join (u :: r) fun x hx => h x (List.mem_cons_of_mem _ hx)]
theorem tok_again (l : List Nat) : tok (joinL (tok l)) = tok l := tok_join _ (tok_is _ l (Nat.le_refl _))
theorem join_tx : ∀ ts : List (List Nat), Txt.join " " (ts.map tx) = tx (joinL ts) := by
  intro ts
  show Builtin.Str.glued " " (ts.map tx) = _
  rw [StrLaws.glued_eq_join]
  have e : (" " : Str) = tx [32] := by decide +kernel
  rw [e]
  induction ts with
  | nil => rfl
  | cons t r ih =>
    cases r with
    | nil => rfl
    | cons u r =>
      show tx t ++ tx [32] ++ Str.join (tx [32]) ((u :: r).map tx) = tx (t ++ 32 :: joinL (u :: r))
      rw [ih, tx_app, tx_app, List.append_assoc]
      rfl
theorem tok_sizes (n : Nat) : ∀ l : List Nat, l.length ≤ n → ((tok l).map List.length).sum ≤ l.length ∧ (tok l).length ≤ l.length := by
  induction n with
  | zero =>
    intro l h
    cases l with
    | nil => exact ⟨Nat.le_refl _, Nat.le_refl _⟩
    | cons c r => simp at h
  | succ n ih =>
    intro l h
    cases l with
    | nil => exact ⟨Nat.le_refl _, Nat.le_refl _⟩
    | cons c r =>
      have hp := tokLen_pos c r
      have hle := tokLen_le (c :: r)
      have hd : ((c :: r).drop (tokLen (c :: r))).length = (c :: r).length - tokLen (c :: r) := List.length_drop
      obtain ⟨i1, i2⟩ := ih ((c :: r).drop (tokLen (c :: r))) (by rw [hd]; omega)
      rw [tok_cons]
      split
      · exact ⟨by omega, by omega⟩
      · rw [List.map_cons, List.sum_cons, List.length_take, List.length_cons (as := tok _)]
        omega

section
variable {P : Program} {w : World} {K : PySem.W.Frag} {mg : Str → Option Value} {base : Heap}
def tks (ts : List (List Nat)) : List V := ts.map fun t => V.str (tx t)
theorem get_at {l : List Nat} {i : Nat} (h : i < l.length) : ∃ c, l[i]? = some c ∧ l.drop i = c :: l.drop (i + 1) := ⟨l[i], List.getElem?_eq_getElem h, List.drop_eq_getElem_cons h⟩
def rEnd : V → V → Hp → VK → Prop := fun x y H Q => ∃ (z : Str) (i : Nat), x = .str z ∧ y = .int (i : Int) ∧ z.length ≤ 100000 ∧ i < z.cps.toList.length ∧ Q (.int ((i + tokLen (z.cps.toList.drop i) : Nat) : Int)) H
theorem sl5 {n : Nat} (h : n ≤ 1000000) : n ≤ sizeLine := by
  rw [sizeLine_eq]
  omega
theorem ok_end_of_token (T : Tx K mg) : FnOk P w K mg base CX0 1 T.f_end_of_token T.fd_end_of_token ["text", "at"] (sp2 rEnd) := by
  refine okR2 T.F_end_of_token sc_end_of_token rfl fun cdv A outer s H Q E x y hr h => ?_
  obtain ⟨z, i, rfl, rfl, hz, hi, q⟩ := h
  have hlen := len_cps z
  obtain ⟨c, hc, hd⟩ := get_at hi
  refine ⟨_, pss_cons (ps_if (pt_cmpR op_in_sign (pe_ix ix_str (pv 0) (pv 1) (fun _ _ => rfl)) (pe_glob (v := .str "abcdefghijklmnopqrstuvwxyzABCDEFGHIJKLMNOPQRSTUVWXYZ0123456789") rfl T.mg_RUN ⟨_, rfl⟩) (by rfl)) (pss_cons (ps_set (i := 2) sc_end_of_token.nd rfl (Or.inl rfl) (pe_op op_add (pv 1) pe_int))
      (pss_cons (ps_while PassesOwn.never (PW.pt (pw_and (pt_cmpR op_lt (pv 2) (pe_callB call_len_str (by rfl) T.z_len (by decide +kernel) (pa_cons (pv 0) pa_nil)) (nomark _)) (pw_and1 (pt_cmpR op_in_sign (pe_ix ix_str (pv 0) (pv 2) (fun _ _ => rfl)) (pe_glob (v := .str "abcdefghijklmnopqrstuvwxyzABCDEFGHIJKLMNOPQRSTUVWXYZ0123456789") rfl T.mg_RUN ⟨_, rfl⟩) (by rfl))))) (pss_one (ps_aug (i := 2) sc_end_of_token.nd rfl (Or.inl rfl) pe_int ip_add)))
      (pss_one (ps_ret (pv 2))))) pss_nil)
      (pss_cons (ps_if (pt_cmpR op_in_seq (pe_slice sl_str (pv 0) (po_some (pv 1)) (po_some (pe_op op_add (pv 1) pe_int))) (pe_glob (v := .ref (He.ga K "LONG_SIGNS")) rfl T.mg_LONG_SIGNS rfl) (by rfl)) (pss_one (ps_ret (pe_op op_add (pv 1) pe_int))) pss_nil)
      (pss_one (ps_ret (pe_op op_add (pv 1) pe_int)))), ?_⟩
  refine ⟨_, rfl, _, rfl, z, _, c, rfl, rfl, sl5 (by omega), sgn z i hc, c, runs, rfl, rfl, _, rfl, ite2 (fun hr1 => ?_) (fun hr1 => ?_)⟩
  · have run1 : isRun c = true := hr1
    have el : tokLen (z.cps.toList.drop i) = 1 + ((z.cps.toList.drop (i + 1)).takeWhile isRun).length := by
      rw [hd, tokLen_cons, if_pos run1]
    refine ⟨_, rfl, _, _, rfl, rfl, ?_⟩
    refine ⟨fun m σ H' => ∃ j : Nat, σ = [some (.str z), some (.int i), some (.int (j : Int))] ∧ H' = H ∧ i < j ∧ j ≤ z.cps.toList.length ∧ m = z.cps.toList.length - j ∧ j + ((z.cps.toList.drop j).takeWhile isRun).length = i + 1 + ((z.cps.toList.drop (i + 1)).takeWhile isRun).length,
      ⟨_, i + 1, rfl, rfl, by omega, by omega, rfl, rfl⟩, ?_⟩
    rintro m σ H' ⟨j, rfl, rfl, h1, h2, rfl, h3⟩
    refine ⟨_, rfl, _, rfl, z, rfl, sl5 (by omega), _, _, rfl, rfl, _, rfl, ite2 (fun hj => ?_) (fun hj => ?_)⟩
    · have hj' : (j : Int) < (z.length : Int) := of_decide_eq_true hj
      obtain ⟨d, hdd, hdr⟩ := get_at (l := z.cps.toList) (i := j) (by omega)
      refine ⟨_, rfl, _, rfl, z, _, d, rfl, rfl, sl5 (by omega), sgn z j hdd, d, runs, rfl, rfl, _, rfl, ite2 (fun hr2 => ?_) (fun hr2 => ?_)⟩
      · have run2 : isRun d = true := hr2
        refine ⟨fun σ' H' => ∃ m', m' < z.cps.toList.length - j ∧ _, fun _ _ h => h, ?_⟩
        refine ⟨_, rfl, _, _, rfl, rfl, z.cps.toList.length - (j + 1), by omega, j + 1, rfl, rfl, by omega, by omega, rfl, ?_⟩
        rw [hdr, List.takeWhile_cons, if_pos run2, List.length_cons] at h3
        omega
      · have run2 : isRun d = false := Bool.eq_false_iff.mpr hr2
        rw [hdr, List.takeWhile_cons, run2] at h3
        refine ⟨_, rfl, ?_⟩
        have e : ((i + tokLen (z.cps.toList.drop i) : Nat) : Int) = (j : Int) := by
          rw [el]
          have h4 : j + 0 = i + 1 + ((z.cps.toList.drop (i + 1)).takeWhile isRun).length := h3
          omega
        rw [e] at q
        exact q
    · have hj' : ¬ (j : Int) < (z.length : Int) := fun q => hj (decide_eq_true q)
      rw [List.drop_eq_nil_of_le (by omega : z.cps.toList.length ≤ j)] at h3
      refine ⟨_, rfl, ?_⟩
      have e : ((i + tokLen (z.cps.toList.drop i) : Nat) : Int) = (j : Int) := by
        rw [el]
        have h4 : j + 0 = i + 1 + ((z.cps.toList.drop (i + 1)).takeWhile isRun).length := h3
        omega
      rw [e] at q
      exact q
  · have run1 : isRun c = false := Bool.eq_false_iff.mpr hr1
    have el : tokLen (z.cps.toList.drop i) = if isLong ((z.cps.toList.drop i).take 2) = true then 2 else 1 := by
      rw [hd, tokLen_cons, run1, if_neg Bool.false_ne_true]
    have e2 : cutS z (some (i : Int)) (some ((i : Int) + 2)) = tx ((z.cps.toList.drop i).take 2) := by
      have := cut_tx z i (i + 2) (by omega) (by omega)
      rw [show i + 2 - i = 2 by omega] at this
      exact this
    refine ⟨_, rfl, _, rfl, _, rfl, _, rfl, _, _, rfl, rfl, _, rfl, z, rfl, sl5 (by omega), _, _, rfl, .inr (T.tp_LONG_SIGNS H), rfl, rfl, _, rfl, ?_⟩
    rw [e2]
    refine ite2 (fun hl => ?_) (fun hl => ?_)
    · have hl' : isLong ((z.cps.toList.drop i).take 2) = true := hl
      refine ⟨_, rfl, _, _, rfl, rfl, ?_⟩
      rw [el, if_pos hl'] at q
      exact q
    · have hl' : ¬ isLong ((z.cps.toList.drop i).take 2) = true := hl
      refine ⟨_, rfl, _, _, rfl, rfl, ?_⟩
      rw [el, if_neg hl'] at q
      exact q
def rTokens : V → Hp → VK → Prop := fun x H Q => ∃ z : Str, x = .str z ∧ z.length ≤ 100000 ∧ ∀ (p : Addr) (H' : Hp), Same H H' → H p = none → H' p = some (.tup (tks (tok z.cps.toList))) → Q (.ref p) H'
theorem tks_app (a b : List (List Nat)) : tks (a ++ b) = tks a ++ tks b := List.map_append
theorem tks_len (a : List (List Nat)) : (tks a).length = a.length := List.length_map _
theorem ok_tokens_of (T : Tx K mg) : FnOk P w K mg base CX0 2 T.f_tokens_of T.fd_tokens_of ["text"] (sp1 rTokens) := by
  refine okR1 T.F_tokens_of sc_tokens_of rfl fun cdv A outer s H Q E x hr h => ?_
  obtain ⟨z, rfl, hz, q⟩ := h
  have hlen := len_cps z
  have hsz := tok_sizes _ z.cps.toList (Nat.le_refl _)
  refine ⟨_, pss_cons (ps_set (i := 1) sc_tokens_of.nd rfl (Or.inl rfl) (pe_lst pa_nil))
      (pss_cons (ps_set (i := 2) sc_tokens_of.nd rfl (Or.inl rfl) pe_int)
      (pss_cons (ps_while PassesOwn.never (pt_cmpR op_lt (pv 2) (pe_callB call_len_str (by rfl) T.z_len (by decide +kernel) (pa_cons (pv 0) pa_nil)) (nomark _)) (pss_cons (ps_set (i := 3) sc_tokens_of.nd rfl (Or.inl rfl) (pe_call (ok_end_of_token T) (hr.mono (by decide)) rfl T.m_end_of_token T.F_end_of_token.kp T.b_end_of_token .nil pass0 (pa_cons (pv 0) (pa_cons (pv 2) pa_nil))))
      (pss_cons (ps_if (pt_cmpR op_notIn_seq (pe_ix ix_str (pv 0) (pv 2) (fun _ _ => rfl)) (pe_glob (v := .ref (He.ga K "BLANKS")) rfl T.mg_BLANKS rfl) (by rfl)) (pss_one (ps_expr (pe_bm PySem.F.plainAttrs_list PySem.F.slot_list_append PySem.F.type_list_append mt_append (pv 1) (pa_cons (pe_slice sl_str (pv 0) (po_some (pv 2)) (po_some (pv 3))) pa_nil)))) pss_nil)
      (pss_one (ps_set (i := 2) sc_tokens_of.nd rfl (Or.inl rfl) (pv 3))))))
      (pss_one (ps_ret (pe_callTy call_tuple_of (by rfl) T.z_tuple (by decide +kernel) (pa_cons (pv 1) pa_nil)))))), ?_⟩
  refine ⟨sl 0, fun p hp => ?_⟩
  refine ⟨fun m σ H' => ∃ (i : Nat) (pre : List (List Nat)) (e : Option V), σ = [some (.str z), some (.ref p), some (.int (i : Int)), e] ∧ H' = upd H p (.lst (tks pre)) ∧ i ≤ z.cps.toList.length ∧ m = z.cps.toList.length - i ∧ tok z.cps.toList = pre ++ tok (z.cps.toList.drop i),
    ⟨_, 0, [], none, rfl, rfl, Nat.zero_le _, rfl, rfl⟩, ?_⟩
  rintro m σ H' ⟨i, pre, e, rfl, rfl, hi, rfl, ht⟩
  have hpl : pre.length ≤ z.length := by
    have : (tok z.cps.toList).length = pre.length + (tok (z.cps.toList.drop i)).length := by rw [ht, List.length_append]
    omega
  refine ⟨_, rfl, _, rfl, z, rfl, sl5 (by omega), _, _, rfl, rfl, _, rfl, ite2 (fun hj => ?_) (fun hj => ?_)⟩
  · have hj' : (i : Int) < (z.length : Int) := of_decide_eq_true hj
    have hil : i < z.cps.toList.length := by omega
    obtain ⟨c, hc, hd⟩ := get_at hil
    have hle := tokLen_le (z.cps.toList.drop i)
    rw [List.length_drop] at hle
    have hpos : 0 < tokLen (z.cps.toList.drop i) := by
      rw [hd]
      exact tokLen_pos _ _
    refine ⟨fun σ' H' => ∃ m', m' < z.cps.toList.length - i ∧ _, fun _ _ h => h, ?_⟩
    refine ⟨_, rfl, _, rfl, _, _, rfl, z, i, rfl, rfl, hz, hil, ?_⟩
    refine ⟨_, rfl, _, rfl, z, _, c, rfl, rfl, sl5 (by omega), sgn z i hc, _, _, rfl, .inr (T.tp_BLANKS _), rfl, rfl, _, rfl, ?_⟩
    have edrop : (z.cps.toList.drop i).drop (tokLen (z.cps.toList.drop i)) = z.cps.toList.drop (i + tokLen (z.cps.toList.drop i)) := List.drop_drop
    have etk : tok (z.cps.toList.drop i) = if isBlank c = true then tok (z.cps.toList.drop (i + tokLen (z.cps.toList.drop i))) else (z.cps.toList.drop i).take (tokLen (z.cps.toList.drop i)) :: tok (z.cps.toList.drop (i + tokLen (z.cps.toList.drop i))) := by
      rw [← edrop]
      conv => lhs; rw [hd]
      rw [tok_cons, ← hd]
    show if (!isBlank c) = true then _ else _
    by_cases hb : isBlank c = true
    · rw [hb, if_neg (by decide)]
      rw [if_pos hb] at etk
      exact ⟨_, rfl, z.cps.toList.length - (i + tokLen (z.cps.toList.drop i)), by omega, i + tokLen (z.cps.toList.drop i), pre, _, rfl, rfl, by omega, rfl, by rw [ht, etk]⟩
    · rw [Bool.eq_false_iff.mpr hb, if_pos (by decide)]
      rw [if_neg hb] at etk
      have ec := cut_tx z i (i + tokLen (z.cps.toList.drop i)) (by omega) (by omega)
      rw [show i + tokLen (z.cps.toList.drop i) - i = tokLen (z.cps.toList.drop i) by omega] at ec
      refine ⟨_, rfl, .inl ⟨rfl, _, SqL.of upd_same⟩, _, rfl, _, rfl, _, rfl, _, rfl, _, rfl, z, rfl, sl5 (by omega), p, _, _, rfl, rfl, upd_same, ?_, ?_⟩
      · rw [tks_len]
        exact Nat.lt_of_le_of_lt hpl (by rw [sizeLine_eq]; omega)
      · refine ⟨_, rfl, z.cps.toList.length - (i + tokLen (z.cps.toList.drop i)), by omega, i + tokLen (z.cps.toList.drop i), pre ++ [(z.cps.toList.drop i).take (tokLen (z.cps.toList.drop i))], _, rfl, ?_, by omega, rfl, ?_⟩
        · rw [upd_upd, ec, tks_app]
          rfl
        · rw [ht, etk, List.append_assoc]
          rfl
  · have hj' : ¬ (i : Int) < (z.length : Int) := fun q => hj (decide_eq_true q)
    have e0 : z.cps.toList.drop i = [] := List.drop_eq_nil_of_le (by omega)
    rw [e0, tok_nil, List.append_nil] at ht
    refine ⟨_, rfl, p, _, rfl, .inl ⟨SqL.of upd_same, fun t hpt => ?_⟩⟩
    have s1 : Same H (upd H p (.lst (tks pre))) := same_new hp
    refine q t _ (s1.trans (same_new hpt)) (s1.free hpt) ?_
    rw [upd_same, ht]
end

section
variable {P : Program} {w : World} {K : PySem.W.Frag} {mg : Str → Option Value} {base : Heap}
theorem ok_rare (T : Tx K mg) : FnOk P w K mg base CX0 3 T.f_rare T.fd_rare ["_law_d", "_law_many"] (sp2 rRare) := by
  refine okR2 T.F_rare sc_rare rfl fun cdv A outer s H Q E x y hr h => ?_
  obtain ⟨d, c, m, rfl, rfl, dr, m0, m1, q⟩ := h
  refine ⟨_, pss_cons (ps_set (i := 2) sc_rare.nd rfl (Or.inl rfl) (pe_op op_fdiv (pv 1) pe_int))
      (pss_cons (ps_if (pt_cmpR op_eq (pe_op op_mod (pe_callTy call_int1 (by rfl) T.z_int (by decide +kernel) (pa_cons (pv 2) pa_nil)) pe_int) pe_int (nomark _)) (pss_one (ps_set (i := 2) sc_rare.nd rfl (Or.inl rfl) (pe_op op_sub (pv 2) pe_int))) pss_nil)
      (pss_one (ps_ret (pe_cmpR op_eq (pe_call (ok_draw T) (hr.mono (by decide)) rfl T.m_draw T.F_draw.kp T.b_draw .nil pass0 (pa_cons (pv 0) (pa_cons (pv 1) pa_nil))) (pv 2) (nomark _))))), ?_⟩
  refine ⟨_, rfl, _, _, rfl, rfl, ⟨by decide, by decide⟩, ?_⟩
  refine ⟨_, rfl, .inl ⟨_, rfl, _, _, rfl, rfl, (by show (0 : Int) < 2; decide), rfl, _, rfl, ite2 (fun _ => ?_) (fun _ => ?_)⟩⟩
  · refine ⟨_, rfl, _, _, rfl, rfl, ?_⟩
    refine ⟨_, rfl, _, rfl, _, _, rfl, d, c, m, rfl, rfl, dr, by omega, m1, fun r H' _ _ dr' kp => ⟨_, rfl, rfl, q _ _ dr' kp⟩⟩
  · refine ⟨_, rfl, _, rfl, _, _, rfl, d, c, m, rfl, rfl, dr, by omega, m1, fun r H' _ _ dr' kp => ⟨_, rfl, rfl, q _ _ dr' kp⟩⟩
end
/-- one of some values: of a list that stands at p, or the signs of a text -/
def rPick : V → V → Hp → VK → Prop := fun x y H Q => ∃ (d c : Addr) (items : List V), x = .ref d ∧ Dr d c H ∧ items ≠ [] ∧ items.length ≤ 1000000 ∧
  ((∃ p, y = .ref p ∧ p ≠ d ∧ H p = some (.lst items)) ∨ ∃ z : Str, y = .str z ∧ items = z.cps.toList.map fun c => V.str ⟨#[c]⟩) ∧ ∀ (v : V) (H' : Hp), v ∈ items → Dr d c H' → Keep d H H' → Q v H'
theorem ne_len {α : Type} {xs : List α} (h : xs ≠ []) : 0 < xs.length := by
  cases xs with
  | nil => exact absurd rfl h
  | cons a r => exact Nat.succ_pos _
section
variable {P : Program} {w : World} {K : PySem.W.Frag} {mg : Str → Option Value} {base : Heap}
theorem ok_pick (T : Tx K mg) : FnOk P w K mg base CX0 3 T.f_pick T.fd_pick ["_law_d", "_law_row"] (sp2 rPick) := by
  refine okR2 T.F_pick sc_pick rfl fun cdv A outer s H Q E x y hr h => ?_
  obtain ⟨d, c, items, rfl, dr, hne, hlen, hrow, q⟩ := h
  have hpos := ne_len hne
  refine ⟨_, pss_one (ps_ret (pe_ix ix_seq (pv 1) (pe_call (ok_draw T) (hr.mono (by decide)) rfl T.m_draw T.F_draw.kp T.b_draw .nil pass0 (pa_cons (pv 0) (pa_cons (pe_callB call_len (by rfl) T.z_len (by decide +kernel) (pa_cons (pv 1) pa_nil)) pa_nil))) (fun _ _ => rfl))), ?_⟩
  rcases hrow with ⟨p, rfl, hpd, hp⟩ | ⟨z, rfl, hz⟩
  · refine ⟨_, rfl, _, rfl, _, rfl, _, items.length, rfl, .inl ⟨items, SqL.of hp, rfl⟩, _, _, rfl, d, c, _, rfl, rfl, dr, by omega, by omega, fun r H' r0 r1 dr' kp => ?_⟩
    obtain ⟨j, rfl⟩ := Int.eq_ofNat_of_zero_le r0
    have hj : j < items.length := by omega
    exact .inl ⟨p, items, _, items[j], rfl, rfl, SqL.of (kp _ _ hp hpd), at_n j (List.getElem?_eq_getElem hj), q _ _ (List.getElem_mem hj) dr' kp⟩
  · have hl : items.length = z.length := by rw [hz, List.length_map, len_cps]
    refine ⟨_, rfl, _, rfl, _, rfl, _, z.length, rfl, ⟨by rw [sizeLine_eq]; omega, rfl⟩, _, _, rfl, d, c, _, rfl, rfl, dr, by omega, by omega, fun r H' r0 r1 dr' kp => ?_⟩
    obtain ⟨j, rfl⟩ := Int.eq_ofNat_of_zero_le r0
    have hj : j < z.cps.toList.length := by
      rw [← len_cps]
      omega
    refine .inr (.inr ⟨z, _, z.cps.toList[j], rfl, rfl, by rw [sizeLine_eq]; omega, sgn z j (List.getElem?_eq_getElem hj), q _ _ ?_ dr' kp⟩)
    rw [hz]
    exact List.mem_map_of_mem (f := fun c => V.str ⟨#[c]⟩) (List.getElem_mem hj)
end
theorem op_mul_str {X : Cx} : OpR X (binaryOp .Mult) (fun x y H Q => ∃ (z : Str) (n : Int), x = .str z ∧ y = .int n ∧ MulOk z n ∧ Q (.str (Txt.mul z n)) H) := by
  intro pins s σ H x y v u Q I rx ry h
  obtain ⟨z, n, rfl, rfl, ok, q⟩ := h
  obtain ⟨t, rfl⟩ := rx
  obtain ⟨t2, rfl⟩ := ry
  exact SB.mul ok fun t' k => ⟨.str _, H, I.tok k, ⟨t', rfl⟩, q⟩

/-! ### the law's defs -/
def rReserved : Hp → VK → Prop := fun H Q => ∀ (ys : List Str) (p : Addr), ys ≠ [] → ys.length ≤ 1000 → (∀ y ∈ ys, y.length ≤ 60 ∧ okB y = true) → H p = none → Q (.ref p) (upd H p (.lst (ys.map V.str)))
def goodL (ys : List Str) : Bool := !ys.isEmpty && (decide (ys.length ≤ 1000) && ys.all fun y => decide (y.length ≤ 60) && okB y)
theorem goodL_ok {ys : List Str} (h : goodL ys = true) : ys ≠ [] ∧ ys.length ≤ 1000 ∧ ∀ y ∈ ys, y.length ≤ 60 ∧ okB y = true := by
  unfold goodL at h
  rw [Bool.and_eq_true, Bool.and_eq_true] at h
  refine ⟨?_, of_decide_eq_true h.2.1, fun y hy => ?_⟩
  · rintro rfl
    exact absurd h.1 (by decide)
  · have h3 := List.all_eq_true.mp h.2.2 y hy
    rw [Bool.and_eq_true] at h3
    exact ⟨of_decide_eq_true h3.1, h3.2⟩
def rGoes : V → V → Hp → VK → Prop := fun x y H Q => ∃ (b : Str) (c : Nat), x = .str b ∧ y = .str ⟨#[c]⟩ ∧ b.length ≤ 1000000 ∧ ∀ H', Same H H' → Q (.bl (goesOn b.cps.toList c)) H'
def rOwn : V → Hp → VK → Prop := fun x H Q => ∃ z : Str, x = .str z ∧ z.length ≤ 100000 ∧ ∀ (p : Addr) (H' : Hp), Same H H' → H p = none → H' p = some (.lst (tks (tok z.cps.toList))) → Q (.ref p) H'
def rPiece : V → Hp → VK → Prop := fun x H Q => ∃ d c : Addr, x = .ref d ∧ Dr d c H ∧ ∀ (z : Str) (H' : Hp), z.length ≤ 60 → okB z = true → Dr d c H' → Keep d H H' → Q (.str z) H'
theorem str_nil (b : Str) : decide (V.str b = V.str "") = decide (b.cps.toList = []) := by
  have e : ("" : Str) = tx [] := by decide +kernel
  refine decide_eq_decide.mpr ⟨fun h => ?_, fun h => ?_⟩
  · have h2 := V.str.inj h
    rw [h2, e]
    rfl
  · rw [e]
    exact congrArg V.str (str_ext h)
section
variable {P : Program} {w : World} {K : PySem.W.Frag} {mg : Str → Option Value} {base : Heap}
theorem ok_reserved (T : Tx K mg) : FnOk P w K mg base CX0 1 T.f_reserved T.fd_reserved [] (sp0 rReserved) := by
  refine okR0 T.F_reserved sc_reserved rfl fun cdv A outer s H Q E hr q => ?_
  refine ⟨_, pss_cons (ps_set (i := 0) sc_reserved.nd rfl (Or.inl rfl) pe_str)
      (pss_cons (ps_set (i := 1) sc_reserved.nd rfl (Or.inl rfl) pe_str)
      (pss_one (ps_ret (pe_split (pe_op op_add_str (pe_op op_add_str (pv 0) (pv 1)) pe_str) pe_str)))), ?_⟩
  refine ⟨_, rfl, _, rfl, _, _, rfl, rfl, ?_, _, _, rfl, rfl, ?_, ⟨_, rfl⟩, _, _, rfl, rfl, by decide +kernel, ?_, fun p hp => ?_⟩
  · exact sl _ (by decide +kernel)
  · exact sl _ (by decide +kernel)
  · exact sl _ (by decide +kernel)
  · refine q _ p ?_ ?_ ?_ hp
    · exact (goodL_ok (by decide +kernel)).1
    · exact (goodL_ok (by decide +kernel)).2.1
    · exact (goodL_ok (by decide +kernel)).2.2
theorem ok_goes_on (T : Tx K mg) : FnOk P w K mg base CX0 1 T.f_goes_on T.fd_goes_on ["_law_before", "_law_sign"] (sp2 rGoes) := by
  refine okR2 T.F_goes_on sc_goes_on rfl fun cdv A outer s H Q E x y hr h => ?_
  obtain ⟨b, c, rfl, rfl, hb, q⟩ := h
  refine ⟨_, pss_cons (ps_set (i := 2) sc_goes_on.nd rfl (Or.inl rfl) pe_str)
      (pss_cons (ps_if (pt_cmpR op_eq (pv 0) pe_str (nomark _)) (pss_one (ps_ret pe_bl)) pss_nil)
      (pss_cons (ps_if (pt_cmpR op_in_sign (pe_ix ix_str (pv 0) pe_int (fun _ _ => rfl)) (pv 2) (by rfl)) (pss_one (ps_ret (pe_cmpR op_in_sign (pv 1) (pv 2) (by rfl)))) pss_nil)
      (pss_one (ps_ret (pe_cmpR op_in_seq (pe_op op_add_str (pv 0) (pv 1)) (pe_tup (pa_cons pe_str (pa_cons pe_str (pa_cons pe_str (pa_cons pe_str pa_nil))))) (by rfl)))))), ?_⟩
  refine ⟨_, rfl, rfl, _, rfl, ?_⟩
  rw [str_nil]
  refine ite2 (fun h => ?_) (fun h => ?_)
  · rw [of_decide_eq_true h] at q
    exact q _ (Same.refl _)
  · have hne : b.cps.toList ≠ [] := fun z => h (decide_eq_true z)
    cases e : b.cps.toList with
    | nil => exact absurd e hne
    | cons a r =>
      have hl := len_cps b
      refine ⟨_, rfl, b, _, a, rfl, rfl, by rw [sizeLine_eq]; omega, sgn b 0 (by rw [e]; rfl), _, rfl, a, runs, rfl, rfl, _, rfl, ite2 (fun hr1 => ?_) (fun hr1 => ?_)⟩
      · have h1 : isRun a = true := hr1
        refine ⟨_, rfl, _, rfl, c, runs, rfl, rfl, ?_⟩
        have eg : goesOn b.cps.toList c = isRun c := by
          rw [e]
          show (if isRun a = true then _ else _) = _
          rw [if_pos h1]
        rw [eg] at q
        exact q _ (Same.refl _)
      · have h1 : ¬ isRun a = true := hr1
        refine ⟨_, rfl, _, rfl, _, _, rfl, rfl, ?_, sl 4, fun p hp => ⟨p, _, rfl, .inr (SqT.of upd_same), rfl, rfl, ?_⟩⟩
        · rw [sizeLine_eq]
          show b.length + 1 ≤ _
          omega
        · have eg : goesOn b.cps.toList c = isLong (b.cps.toList ++ [c]) := by
            rw [e]
            show (if isRun a = true then _ else _) = _
            rw [if_neg h1]
          have e3 : b ++ (⟨#[c]⟩ : Str) = tx (b.cps.toList ++ [c]) := by
            rw [← tx_app, tx_eta]
            rfl
          show Q (.bl (inV (.str (b ++ ⟨#[c]⟩)) (longs.map V.str))) _
          rw [e3]
          rw [eg] at q
          exact q _ (same_new hp)
theorem ok_own_tokens (T : Tx K mg) : FnOk P w K mg base CX0 2 T.f_own_tokens T.fd_own_tokens ["_law_text"] (sp1 rOwn) := by
  refine okR1 T.F_own_tokens sc_own_tokens rfl fun cdv A outer s H Q E x hr h => ?_
  obtain ⟨z, rfl, hz, q⟩ := h
  have hlen := len_cps z
  refine ⟨_, pss_cons (ps_set (i := 1) sc_own_tokens.nd rfl (Or.inl rfl) (pe_lst pa_nil))
      (pss_cons (ps_set (i := 2) sc_own_tokens.nd rfl (Or.inl rfl) pe_str)
      (pss_cons (ps_for PassesOwn.never rfl (pi_str (pv 0)) (pg_name (i := 3) sc_own_tokens.nd rfl (Or.inl rfl))
      (pss_one (ps_if (pt_val (pe_call (ok_goes_on T) (hr.mono (by decide)) rfl T.m_goes_on T.F_goes_on.kp T.b_goes_on .nil pass0 (pa_cons (pv 2) (pa_cons (pv 3) pa_nil)))) (pss_one (ps_set (i := 2) sc_own_tokens.nd rfl (Or.inl rfl) (pe_op op_add_str (pv 2) (pv 3)))) (pss_cons (ps_expr (pe_bm PySem.F.plainAttrs_list PySem.F.slot_list_append PySem.F.type_list_append mt_append (pv 1) (pa_cons (pv 2) pa_nil)))
      (pss_one (ps_set (i := 2) sc_own_tokens.nd rfl (Or.inl rfl) (pe_ifExp (pt_cmpR op_in_seq (pv 3) (pe_tup (pa_cons pe_str (pa_cons pe_str pa_nil))) (by rfl)) pe_str (pv 3))))))))
      (pss_cons (ps_expr (pe_bm PySem.F.plainAttrs_list PySem.F.slot_list_append PySem.F.type_list_append mt_append (pv 1) (pa_cons (pv 2) pa_nil)))
      (pss_one (ps_ret (pe_lc (own := [("_law_token", 4)]) (g := gName 4)  rfl sc_own_tokens.nd (pi_list (pv 1)) (blkOk_by (N := ["_law_text", "_law_found", "_law_before", "_law_sign", "_law_token"]) (sc := defScope s_own_tokens) (by decide +kernel)) (fun _ _ _ _ _ => pg_name (i := 4) sc_own_tokens.nd rfl (Or.inl rfl)) (fun _ _ _ _ _ => pts_one (pt_cmpR op_ne (pv 4) pe_str (nomark _))) (fun _ _ _ _ _ => (pv 4)))))))), ?_⟩
  refine ⟨sl 0, fun p hp => ?_⟩
  refine ⟨_, rfl, z, rfl, ?_⟩
  refine for_it walk_str (fun i σ H' => ∃ (fs : List (List Nat)) (b : List Nat) (v : Option V), σ = [some (.str z), some (.ref p), some (.str (tx b)), v, none] ∧ H' p = some (.lst (tks fs)) ∧ Same H H' ∧ fs.length ≤ i ∧ b.length ≤ i ∧ own [] z.cps.toList = fs ++ own b (z.cps.toList.drop i))
    ⟨[], [], none, by rfl, upd_same, same_new hp, Nat.le_refl _, Nat.le_refl _, rfl⟩ (fun _ _ _ _ _ => trivial) ?_ ?_
  · rintro i x σ H1 H2 hi ⟨fs, b, v, rfl, h1, h2, h3, h4, h5⟩ ⟨rfl, c, hc, rfl⟩
    have hc' : z.cps.toList[i]? = some c := by
      rw [Array.getElem?_toList]
      exact hc
    have hi' : i < z.cps.toList.length := by
      rw [Array.length_toList]
      exact hi
    obtain ⟨c2, hc2, hd⟩ := get_at hi'
    have ec : c2 = c := Option.some.inj (hc2.symm.trans hc')
    subst ec
    rw [hd] at h5
    have tb : (tx b).cps.toList = b := rfl
    refine ⟨_, rfl, _, rfl, _, _, rfl, tx b, c2, rfl, rfl, by rw [tx_len]; omega, fun H3 s3 => ⟨_, rfl, ?_⟩⟩
    rw [tb]
    have own_step : own b (c2 :: z.cps.toList.drop (i + 1)) = if goesOn b c2 = true then own (b ++ [c2]) (z.cps.toList.drop (i + 1)) else b :: own (if isBlank c2 = true then [] else [c2]) (z.cps.toList.drop (i + 1)) := rfl
    rw [own_step] at h5
    refine ite2 (fun hg => ?_) (fun hg => ?_)
    · rw [if_pos hg] at h5
      refine ⟨_, rfl, _, rfl, _, _, rfl, rfl, ?_, fs, b ++ [c2], some (.str ⟨#[c2]⟩), ?_, s3 _ _ h1, h2.trans s3, by omega, by rw [List.length_append]; simp only [List.length_singleton]; omega, h5⟩
      · rw [tx_len, sizeLine_eq]
        show b.length + 1 ≤ _
        omega
      · rw [← tx_app]
        rfl
    · rw [if_neg hg] at h5
      refine ⟨_, rfl, .inl ⟨rfl, _, SqL.of (s3 _ _ h1)⟩, _, rfl, p, _, _, rfl, rfl, s3 _ _ h1, ?_, ?_⟩
      · rw [tks_len, sizeLine_eq]
        omega
      have hnew : (upd H3 p (.lst (tks fs ++ [V.str (tx b)]))) p = some (.lst (tks (fs ++ [b]))) := by
        rw [upd_same, tks_app]
        rfl
      have sm : Same H (upd H3 p (.lst (tks fs ++ [V.str (tx b)]))) := fun a o e => by
        rw [upd_ne (ne_of_none e hp)]
        exact s3 _ _ (h2 _ _ e)
      have h6 : own [] z.cps.toList = (fs ++ [b]) ++ own (if isBlank c2 = true then [] else [c2]) (z.cps.toList.drop (i + 1)) := by
        rw [h5, List.append_assoc]
        rfl
      refine ⟨_, rfl, sl 2, fun t ht => ⟨t, _, rfl, .inr (SqT.of upd_same), rfl, rfl, _, rfl, ?_⟩⟩
      have pt : p ≠ t := ne_of_none hnew ht
      show if isBlank c2 = true then _ else _
      refine ite2 (fun hb => ?_) (fun hb => ?_)
      · rw [if_pos hb] at h6
        exact ⟨fs ++ [b], [], _, by rfl, upd_else hnew pt, sm.trans (same_new ht), by rw [List.length_append]; simp only [List.length_singleton]; omega, Nat.zero_le _, h6⟩
      · rw [if_neg hb] at h6
        exact ⟨_, rfl, fs ++ [b], [c2], _, by rfl, upd_else hnew pt, sm.trans (same_new ht), by rw [List.length_append]; simp only [List.length_singleton]; omega, by simp only [List.length_singleton]; omega, h6⟩
  · rintro σ H1 ⟨fs, b, v, rfl, h1, h2, h3, h4, h5⟩
    have hn : z.cps.size = z.cps.toList.length := (Array.length_toList).symm
    rw [hn] at h3 h4 h5
    rw [List.drop_length] at h5
    have h5' : own [] z.cps.toList = fs ++ [b] := h5
    refine ⟨_, rfl, .inl ⟨rfl, _, SqL.of h1⟩, _, rfl, p, _, _, rfl, rfl, h1, ?_, ?_⟩
    · rw [tks_len, sizeLine_eq]
      omega
    have hnew : (upd H1 p (.lst (tks fs ++ [V.str (tx b)]))) p = some (.lst (tks (own [] z.cps.toList))) := by
      rw [upd_same, h5', tks_app]
      rfl
    have sm : Same H (upd H1 p (.lst (tks fs ++ [V.str (tx b)]))) := fun a o e => by
      rw [upd_ne (ne_of_none e hp)]
      exact h2 _ _ e
    generalize upd H1 p (.lst (tks fs ++ [V.str (tx b)])) = H4 at hnew sm
    refine ⟨_, rfl, p, rfl, ⟨_, SqL.of hnew⟩, fun D hD => ?_⟩
    have pD : p ≠ D := ne_of_none hnew hD
    have hol : (own [] z.cps.toList).length ≤ z.cps.toList.length + 1 := by
      rw [h5', List.length_append]
      simp only [List.length_singleton]
      omega
    refine lc_list (K := K) (a := p) (xs := tks (own [] z.cps.toList)) (fun i H' => H' = upd H4 D (.lst (tks (((own [] z.cps.toList).take i).filter some_)))) rfl ?_ ?_ ?_
    · rintro i H' _ rfl
      exact SqL.of (upd_else hnew pD)
    · rintro i x H' hi rfl
      unfold tks at hi
      rw [List.getElem?_map] at hi
      obtain ⟨t, ht, rfl⟩ := Option.map_eq_some_iff.mp hi
      have el : ((own [] z.cps.toList).take (i + 1)).filter some_ = ((own [] z.cps.toList).take i).filter some_ ++ if some_ t = true then [t] else [] := by
        rw [List.take_add_one, ht, List.filter_append]
        show _ ++ [t].filter some_ = _
        rw [List.filter_cons]
        rfl
      refine ⟨rfl, _, rfl, rfl, _, rfl, ?_⟩
      have es : (!decide (V.str (tx t) = V.str "")) = some_ t := by
        rw [str_nil, tx_cps]
        cases t <;> rfl
      rw [es]
      refine ite2 (fun hb => ?_) (fun hb => ?_)
      · rw [if_pos hb] at el
        refine ⟨_, rfl, _, upd_same, ?_, ?_⟩
        · rw [tks_len, sizeLine_eq]
          have h7 : (((own [] z.cps.toList).take i).filter some_).length ≤ ((own [] z.cps.toList).take i).length := List.length_filter_le _ _
          rw [List.length_take] at h7
          omega
        · rw [upd_upd, el, tks_app]
          rfl
      · rw [if_neg hb, List.append_nil] at el
        rw [el]
    · rintro H' rfl
      rw [tks_len, List.take_length, own_is]
      exact q D _ (sm.trans (same_new hD)) (sm.free hD) upd_same
theorem ok_piece (T : Tx K mg) : FnOk P w K mg base CX0 4 T.f_piece T.fd_piece ["_law_d"] (sp1 rPiece) := by
  refine okR1 T.F_piece sc_piece rfl fun cdv A outer s H Q E x hr h => ?_
  obtain ⟨d, c, rfl, dr, q⟩ := h
  refine ⟨_, pss_cons (ps_set (i := 1) sc_piece.nd rfl (Or.inl rfl) pe_str)
      (pss_cons (ps_set (i := 2) sc_piece.nd rfl (Or.inl rfl) (pe_call (ok_draw T) (hr.mono (by decide)) rfl T.m_draw T.F_draw.kp T.b_draw .nil pass0 (pa_cons (pv 0) (pa_cons pe_int pa_nil))))
      (pss_cons (ps_if (pt_cmpR op_lt (pv 2) pe_int (nomark _)) (pss_cons (ps_set (i := 3) sc_piece.nd rfl (Or.inl rfl) pe_str)
      (pss_cons (ps_for PassesOwn.never rfl (pi_range1 rfl T.z_range (pa_cons (pe_op op_add pe_int (pe_call (ok_draw T) (hr.mono (by decide)) rfl T.m_draw T.F_draw.kp T.b_draw .nil pass0 (pa_cons (pv 0) (pa_cons pe_int pa_nil)))) pa_nil)) (pg_name (i := 4) sc_piece.nd rfl (Or.inl rfl))
      (pss_one (ps_set (i := 3) sc_piece.nd rfl (Or.inl rfl) (pe_op op_add_str (pv 3) (pe_call (ok_pick T) (hr.mono (by decide)) rfl T.m_pick T.F_pick.kp T.b_pick .nil pass0 (pa_cons (pv 0) (pa_cons (pv 1) pa_nil)))))))
      (pss_one (ps_ret (pe_ifExp (pt_val (pe_call (ok_rare T) (hr.mono (by decide)) rfl T.m_rare T.F_rare.kp T.b_rare .nil pass0 (pa_cons (pv 0) (pa_cons pe_int pa_nil)))) (pe_op op_mul_str (pv 3) pe_int) (pv 3)))))) pss_nil)
      (pss_cons (ps_if (pt_cmpR op_eq (pv 2) pe_int (nomark _)) (pss_one (ps_ret (pe_call (ok_pick T) (hr.mono (by decide)) rfl T.m_pick T.F_pick.kp T.b_pick .nil pass0 (pa_cons (pv 0) (pa_cons (pe_call0 (ok_reserved T) (hr.mono (by decide)) rfl T.m_reserved T.F_reserved.kp T.b_reserved .nil pass0) pa_nil))))) pss_nil)
      (pss_cons (ps_if (pt_cmpR op_eq (pv 2) pe_int (nomark _)) (pss_one (ps_ret (pe_call (ok_pick T) (hr.mono (by decide)) rfl T.m_pick T.F_pick.kp T.b_pick .nil pass0 (pa_cons (pv 0) (pa_cons (pe_split pe_str pe_str) pa_nil))))) pss_nil)
      (pss_cons (ps_if (pt_cmpR op_eq (pv 2) pe_int (nomark _)) (pss_one (ps_ret (pe_call (ok_pick T) (hr.mono (by decide)) rfl T.m_pick T.F_pick.kp T.b_pick .nil pass0 (pa_cons (pv 0) (pa_cons (pe_split pe_str pe_str) pa_nil))))) pss_nil)
      (pss_cons (ps_if (pt_cmpR op_eq (pv 2) pe_int (nomark _)) (pss_one (ps_ret (pe_call (ok_pick T) (hr.mono (by decide)) rfl T.m_pick T.F_pick.kp T.b_pick .nil pass0 (pa_cons (pv 0) (pa_cons (pe_split pe_str pe_str) pa_nil))))) pss_nil)
      (pss_one (ps_ret (pe_call (ok_pick T) (hr.mono (by decide)) rfl T.m_pick T.F_pick.kp T.b_pick .nil pass0 (pa_cons (pv 0) (pa_cons pe_str pa_nil))))))))))), ?_⟩
  -- way = draw(7)
  refine ⟨_, rfl, _, _, rfl, d, c, 7, rfl, rfl, dr, by decide, by decide, fun w0 H1 _ _ dr1 kp1 => ?_⟩
  -- one of the words of a list that was made just now
  have words : ∀ (ys : List Str) (p : Addr) (H2 : Hp), goodL ys = true → Dr d c H2 → Keep d H H2 → H2 p = none → rPick (.ref d) (.ref p) (upd H2 p (.lst (ys.map V.str))) Q := by
    intro ys p H2 hg dr2 kp2 hp
    obtain ⟨g1, g2, g3⟩ := goodL_ok hg
    refine ⟨d, c, ys.map V.str, rfl, dr2.new hp, ?_, by rw [List.length_map]; omega, .inl ⟨p, rfl, dr2.dne hp, upd_same⟩, fun v H' hv dr' kp' => ?_⟩
    · intro e
      exact g1 (List.map_eq_nil_iff.mp e)
    · obtain ⟨y, hy, rfl⟩ := List.mem_map.mp hv
      exact q y H' (g3 y hy).1 (g3 y hy).2 dr' (kp2.trans ((Keep.new hp).trans kp'))
  -- if way < 2
  refine ⟨_, rfl, _, _, rfl, rfl, _, rfl, ite2 (fun _ => ?_) (fun _ => ?_)⟩
  · refine ⟨_, rfl, _, _, rfl, d, c, 6, rfl, rfl, dr1, by decide, by decide, fun n H2 n0 n1 dr2 kp2 => ⟨_, _, rfl, rfl, _, rfl, by omega, by omega, ?_⟩⟩
    refine for_range (lo := 0) (Pv := fun i σ H' => ∃ (z : Str) (v : Option V), σ = [some (.ref d), some (.str runs), some (.int w0), some (.str z), v] ∧ (z.length ≤ i ∧ okB z = true) ∧ Dr d c H' ∧ Keep d H H') ⟨"", none, by rfl, ⟨by decide +kernel, by decide +kernel⟩, dr2, kp1.trans kp2⟩ ?_ ?_
    · rintro i σ H' hi ⟨z, v, rfl, ⟨h1, h1b⟩, h2, h3⟩
      refine ⟨_, rfl, _, rfl, _, rfl, _, _, rfl, d, c, runs.cps.toList.map fun c => V.str ⟨#[c]⟩, rfl, h2, by decide +kernel, ?_, .inr ⟨runs, rfl, rfl⟩, fun y H3 hy dr3 kp3 => ?_⟩
      · rw [List.length_map]
        exact Nat.le_of_ble_eq_true (by decide +kernel)
      · obtain ⟨ch, hch, rfl⟩ := List.mem_map.mp hy
        refine ⟨_, _, rfl, rfl, ?_, _, _, rfl, ⟨?_, okB_app h1b (okB_mem (by decide +kernel) hch)⟩, dr3, h3.trans kp3⟩
        · rw [sizeLine_eq]
          show z.length + 1 ≤ _
          omega
        · rw [app_len]
          show z.length + 1 ≤ _
          omega
    · rintro σ H' ⟨z, v, rfl, ⟨h1, h1b⟩, h2, h3⟩
      have hz6 : z.length ≤ 6 := by omega
      refine ⟨_, rfl, _, _, rfl, d, c, 9, rfl, rfl, h2, by decide, by decide, fun r H3 dr3 kp3 => ⟨_, rfl, ?_⟩⟩
      cases r with
      | true =>
        refine iteT ⟨_, rfl, _, _, rfl, rfl, ?_, ?_⟩
        · refine ⟨by decide, fun _ _ => ?_, fun _ _ => ?_⟩
          · have e : ((2 ^ 63 - 1 : Int) / 10) = 922337203685477580 := by decide
            rw [e]
            omega
          · have e : z.length * (10 : Int).toNat ≤ 16777216 := by
              show z.length * 10 ≤ _
              omega
            exact decide_eq_false (by rw [sizeLine_eq]; omega)
        · refine q _ _ ?_ ?_ dr3 (h3.trans kp3)
          rotate_left
          · unfold Txt.mul
            rw [if_neg (by decide)]
            split
            · exact h1b
            · show (((List.replicate 10 z.cps).foldl (· ++ ·) #[]).toList.all _) = true
              unfold okB at h1b
              simp only [List.replicate, List.foldl_cons, List.foldl_nil, Array.toList_append, List.all_append, h1b]
              rfl
          unfold Txt.mul
          rw [if_neg (by decide)]
          split
          · omega
          · show ((List.replicate 10 z.cps).foldl (· ++ ·) #[]).size ≤ 60
            have e : z.cps.size ≤ 6 := hz6
            simp only [List.replicate, List.foldl_cons, List.foldl_nil, Array.size_append]
            show 0 + _ + _ + _ + _ + _ + _ + _ + _ + _ + _ ≤ 60
            omega
      | false => exact iteF ⟨_, rfl, q z _ (by omega) h1b dr3 (h3.trans kp3)⟩
  -- if way == 2
  refine ⟨_, rfl, rfl, _, rfl, ite2 (fun _ => ?_) (fun _ => ?_)⟩
  · refine ⟨_, rfl, rfl, fun ys p g1 g2 g3 hp => ?_⟩
    exact ⟨_, _, rfl, words ys p H1 (by unfold goodL; rw [Bool.and_eq_true, Bool.and_eq_true]; exact ⟨by cases ys with | nil => exact absurd rfl g1 | cons a r => rfl, decide_eq_true g2, List.all_eq_true.mpr fun y hy => by rw [decide_eq_true (g3 y hy).1, (g3 y hy).2]; rfl⟩) dr1 kp1 hp⟩
  refine ⟨_, rfl, rfl, _, rfl, ite2 (fun _ => ?_) (fun _ => ?_)⟩
  · exact ⟨_, rfl, ⟨_, rfl⟩, _, _, rfl, rfl, by decide +kernel, sl _ (by decide +kernel), fun p hp => ⟨_, _, rfl, words _ p H1 (by decide +kernel) dr1 kp1 hp⟩⟩
  refine ⟨_, rfl, rfl, _, rfl, ite2 (fun _ => ?_) (fun _ => ?_)⟩
  · exact ⟨_, rfl, ⟨_, rfl⟩, _, _, rfl, rfl, by decide +kernel, sl _ (by decide +kernel), fun p hp => ⟨_, _, rfl, words _ p H1 (by decide +kernel) dr1 kp1 hp⟩⟩
  refine ⟨_, rfl, rfl, _, rfl, ite2 (fun _ => ?_) (fun _ => ?_)⟩
  · exact ⟨_, rfl, ⟨_, rfl⟩, _, _, rfl, rfl, by decide +kernel, sl _ (by decide +kernel), fun p hp => ⟨_, _, rfl, words _ p H1 (by decide +kernel) dr1 kp1 hp⟩⟩
  refine ⟨_, rfl, _, _, rfl, d, c, _, rfl, dr1, ?_, ?_, .inr ⟨_, rfl, rfl⟩, fun y H3 hy dr3 kp3 => ?_⟩
  · decide +kernel
  · rw [List.length_map]
    exact Nat.le_of_ble_eq_true (by decide +kernel)
  · obtain ⟨ch, hch, rfl⟩ := List.mem_map.mp hy
    exact q _ _ (by show 1 ≤ 60; decide) (okB_mem (by decide +kernel) hch) dr3 (kp1.trans kp3)
end

/-! ### the law -/
def rLaw (K : PySem.W.Frag) : V → Hp → VK → Prop := fun x H Q => ∃ (a : Addr) (ns : List Int), x = .ref a ∧ SqL K H a (ns.map V.int) ∧ ns.length ≤ 63 ∧ ∀ H', Q (.bl true) H'
theorem at_in {xs : List V} {r : Int} (h0 : 0 ≤ r) (h1 : r < (xs.length : Int)) : ∃ v, atI xs r = some v ∧ v ∈ xs := by
  obtain ⟨j, rfl⟩ := Int.eq_ofNat_of_zero_le h0
  exact ⟨xs[j], at_n j (List.getElem?_eq_getElem (by omega)), List.getElem_mem _⟩
theorem dp_tks {K : PySem.W.Frag} {H : Hp} : ∀ ts : List (List Nat), DpAll K H (tks ts) (ts.map fun t => PyData.str (tx t))
  | [] => .nil
  | t :: r => .cons (.str _) (dp_tks r)
theorem tok_mem (n : Nat) : ∀ l : List Nat, l.length ≤ n → ∀ t ∈ tok l, ∀ c ∈ t, c ∈ l := by
  induction n with
  | zero =>
    intro l h
    cases l with
    | nil => intro t ht; cases ht
    | cons c r => simp at h
  | succ n ih =>
    intro l h
    cases l with
    | nil => intro t ht; cases ht
    | cons c r =>
      have hp := tokLen_pos c r
      have hd : ((c :: r).drop (tokLen (c :: r))).length = (c :: r).length - tokLen (c :: r) := List.length_drop
      have i1 := ih ((c :: r).drop (tokLen (c :: r))) (by rw [hd]; omega)
      intro t ht x hx
      rw [tok_cons] at ht
      split at ht
      · exact List.mem_of_mem_drop (i1 t ht x hx)
      · rcases List.mem_cons.mp ht with rfl | ht
        · exact List.mem_of_mem_take hx
        · exact List.mem_of_mem_drop (i1 t ht x hx)
theorem lay_tks : ∀ ts : List (List Nat), (∀ t ∈ ts, ∀ c ∈ t, c < 1114112) → PyData.canLayAll0 (ts.map fun t => PyData.str (tx t)) = true
  | [], _ => rfl
  | t :: r, h => by
    show (PyData.strOk (tx t) && PyData.canLayAll0 (r.map fun t => PyData.str (tx t))) = true
    rw [lay_tks r fun u hu => h u (List.mem_cons_of_mem _ hu), Bool.and_true]
    show (t.toArray.all (· < 0x110000)) = true
    rw [List.all_toArray]
    exact List.all_eq_true.mpr fun c hc => decide_eq_true (h t (by simp) c hc)
theorem depth_tks : ∀ ts : List (List Nat), PyData.depthAll (ts.map fun t => PyData.str (tx t)) = 0
  | [] => rfl
  | t :: r => by
    show max 0 (PyData.depthAll (r.map fun t => PyData.str (tx t))) = 0
    rw [depth_tks r] <;> rfl
theorem shaped_tks {ts : List (List Nat)} (h : ∀ t ∈ ts, ∀ c ∈ t, c < 1114112) : SeqAt.shaped (.list (ts.map fun t => PyData.str (tx t))) = true := by
  show (PyData.canLayAll0 (ts.map fun t => PyData.str (tx t)) && decide (PyData.depthAll (ts.map fun t => PyData.str (tx t)) + 1 ≤ 64)) = true
  rw [lay_tks ts h, depth_tks ts]
  rfl
theorem eqv_tks {ts : List (List Nat)} (h : ∀ t ∈ ts, ∀ c ∈ t, c < 1114112) : PyData.eqv (.list (ts.map fun t => PyData.str (tx t))) (.list (ts.map fun t => PyData.str (tx t))) = true :=
  SeqAt.eqv_refl _ (SeqAt.canLay_of_shaped (shaped_tks h))
theorem ok_lt {z : Str} (h : okB z = true) : ∀ t ∈ tok z.cps.toList, ∀ c ∈ t, c < 1114112 := fun t ht c hc => of_decide_eq_true (List.all_eq_true.mp h c (tok_mem _ _ (Nat.le_refl _) t ht c hc))
section
variable {P : Program} {w : World} {K : PySem.W.Frag} {mg : Str → Option Value} {base : Heap}
/-- the texts that a row of the law's own holds -/
def goodT (n : Nat) (ys : List Str) : Bool := ys.all fun y => decide (y.length ≤ n) && okB y
theorem goodT_ok {n : Nat} {ys : List Str} (h : goodT n ys = true) {v : V} (hv : v ∈ ys.map V.str) : ∃ z : Str, v = .str z ∧ z.length ≤ n ∧ okB z = true := by
  obtain ⟨y, hy, rfl⟩ := List.mem_map.mp hv
  have h3 := List.all_eq_true.mp h y hy
  rw [Bool.and_eq_true] at h3
  exact ⟨y, rfl, of_decide_eq_true h3.1, h3.2⟩
/-- a row of texts is made and one of them is picked -/
theorem pick_row {d c : Addr} {H : Hp} {Q : VK} (n : Nat) (ys : List Str) (hg : goodT n ys = true) (hn : ys ≠ []) (hl : ys.length ≤ 1000) (dr : Dr d c H) (q : ∀ (z : Str) (H' : Hp), z.length ≤ n → okB z = true → Dr d c H' → Keep d H H' → Q (.str z) H') {p : Addr} (hp : H p = none) :
    rPick (.ref d) (.ref p) (upd H p (.lst (ys.map V.str))) Q := by
  refine ⟨d, c, ys.map V.str, rfl, dr.new hp, fun e => hn (List.map_eq_nil_iff.mp e), by rw [List.length_map]; omega, .inl ⟨p, rfl, dr.dne hp, upd_same⟩, fun v H' hv dr' kp' => ?_⟩
  obtain ⟨z, rfl, h1, h2⟩ := goodT_ok hg hv
  exact q z H' h1 h2 dr' ((Keep.new hp).trans kp')
theorem ok_law (T : Tx K mg) : FnOk P w K mg base CX0 5 T.f_law T.fd_law ["_law_script"] (sp1 (rLaw K)) := by
  refine okR1 T.F_law sc_law rfl fun cdv A outer s H Q E x hr h => ?_
  obtain ⟨a, ns, rfl, hS, h63, q⟩ := h
  refine ⟨_, pss_cons (ps_set (i := 1) sc_law.nd rfl (Or.inl rfl) (pe_call (ok_begin T) (hr.mono (by decide)) rfl T.m_begin T.F_begin.kp T.b_begin .nil pass0 (pa_cons (pv 0) pa_nil)))
      (pss_cons (ps_set (i := 2) sc_law.nd rfl (Or.inl rfl) (pe_lst pa_nil))
      (pss_cons (ps_for PassesOwn.never rfl (pi_range1 rfl T.z_range (pa_cons pe_int pa_nil)) (pg_name (i := 3) sc_law.nd rfl (Or.inl rfl))
      (pss_cons (ps_set (i := 4) sc_law.nd rfl (Or.inl rfl) (pe_call (ok_pick T) (hr.mono (by decide)) rfl T.m_pick T.F_pick.kp T.b_pick .nil pass0 (pa_cons (pv 1) (pa_cons (pe_lst (pa_cons pe_str (pa_cons pe_str (pa_cons pe_str pa_nil)))) pa_nil))))
      (pss_cons (ps_for PassesOwn.never rfl (pi_range1 rfl T.z_range (pa_cons (pe_ix ix_list (pe_lst (pa_cons pe_int (pa_cons pe_int (pa_cons pe_int (pa_cons pe_int (pa_cons pe_int (pa_cons pe_int (pa_cons pe_int (pa_cons pe_int pa_nil))))))))) (pe_call (ok_draw T) (hr.mono (by decide)) rfl T.m_draw T.F_draw.kp T.b_draw .nil pass0 (pa_cons (pv 1) (pa_cons pe_int pa_nil))) (fun _ _ => rfl)) pa_nil)) (pg_name (i := 5) sc_law.nd rfl (Or.inl rfl))
      (pss_one (ps_set (i := 4) sc_law.nd rfl (Or.inl rfl) (pe_op op_add_str (pe_op op_add_str (pv 4) (pe_call (ok_piece T) (hr.mono (by decide)) rfl T.m_piece T.F_piece.kp T.b_piece .nil pass0 (pa_cons (pv 1) pa_nil))) (pe_call (ok_pick T) (hr.mono (by decide)) rfl T.m_pick T.F_pick.kp T.b_pick .nil pass0 (pa_cons (pv 1) (pa_cons (pe_lst (pa_cons pe_str (pa_cons pe_str (pa_cons pe_str (pa_cons pe_str (pa_cons pe_str (pa_cons pe_str pa_nil))))))) pa_nil)))))))
      (pss_cons (ps_setLc (i := 6) (own := [("_law_token", 10)]) (g := gName 10)  rfl sc_law.nd rfl rfl (sw_true rfl rfl rfl (by decide +kernel)) (pi_list (pe_call (ok_own_tokens T) (hr.mono (by decide)) rfl T.m_own_tokens T.F_own_tokens.kp T.b_own_tokens .nil pass0 (pa_cons (pv 4) pa_nil))) (blkOk_by (N := ["_law_script", "_law_d", "_law_texts", "_law_turn", "_law_text", "_law_step", "_law_heavy", "_law_due", "_law_told", "_law_again", "_law_token"]) (sc := defScope s_law) (by decide +kernel)) (fun _ _ _ _ _ => pg_name (i := 10) sc_law.nd rfl (Or.inl rfl)) (fun _ _ _ _ _ => pts_one (pt_cmpR (show OpR _ (compareOp .In) (rIn K false) from op_in_seq) (pv 10) (pe_tup (pa_cons pe_str (pa_cons pe_str (pa_cons pe_str (pa_cons pe_str (pa_cons pe_str (pa_cons pe_str pa_nil))))))) (by rfl))) (fun _ _ _ _ _ => (pv 10)))
      (pss_one (ps_expr (pe_bm PySem.F.plainAttrs_list PySem.F.slot_list_append PySem.F.type_list_append mt_append (pv 2) (pa_cons (pe_ifExp (pt_cmpR op_lt (pe_callB call_len_seq (by rfl) T.z_len (by decide +kernel) (pa_cons (pv 6) pa_nil)) pe_int (nomark _)) (pv 4) (pe_slice sl_str (pv 4) po_none (po_some pe_int))) pa_nil))))))))
      (pss_cons (ps_for PassesOwn.never rfl (pi_list (pe_lst (pa_cons (pe_ix ix_list (pv 2) pe_int (fun _ _ => rfl)) (pa_cons (pe_ix ix_list (pv 2) pe_int (fun _ _ => rfl)) (pa_cons (pe_ix ix_list (pv 2) pe_int (fun _ _ => rfl)) (pa_cons (pe_op op_add_str (pe_ix ix_list (pv 2) pe_int (fun _ _ => rfl)) (pe_ix ix_list (pv 2) pe_int (fun _ _ => rfl))) (pa_cons pe_str pa_nil))))))) (pg_name (i := 4) sc_law.nd rfl (Or.inl rfl))
      (pss_cons (ps_set (i := 7) sc_law.nd rfl (Or.inl rfl) (pe_call (ok_own_tokens T) (hr.mono (by decide)) rfl T.m_own_tokens T.F_own_tokens.kp T.b_own_tokens .nil pass0 (pa_cons (pv 4) pa_nil)))
      (pss_cons (ps_set (i := 8) sc_law.nd rfl (Or.inl rfl) (pe_call (ok_tokens_of T) (hr.mono (by decide)) rfl T.m_tokens_of T.F_tokens_of.kp T.b_tokens_of .nil pass0 (pa_cons (pv 4) pa_nil)))
      (pss_cons (ps_if (PW.pt (pw_or (pt_not (pt_val (pe_callB call_isi (by rfl) T.z_isinstance (by decide +kernel) (pa_cons (pv 8) (pa_cons (pe_bltn (v := .ty "tuple") rfl T.z_tuple (by decide +kernel) rfl) pa_nil))))) (pw_or1 (pt_cmpR (op_neD hr.units) (pe_callTy call_list_of (by rfl) T.z_list (by decide +kernel) (pa_cons (pv 8) pa_nil)) (pv 7) (nomark _))))) (pss_one (ps_ret pe_bl)) pss_nil)
      (pss_cons (ps_set (i := 9) sc_law.nd rfl (Or.inl rfl) (pe_call (ok_tokens_of T) (hr.mono (by decide)) rfl T.m_tokens_of T.F_tokens_of.kp T.b_tokens_of .nil pass0 (pa_cons (pe_join pe_str (pv 7)) pa_nil)))
      (pss_one (ps_if (PW.pt (pw_or (pt_not (pt_val (pe_callB call_isi (by rfl) T.z_isinstance (by decide +kernel) (pa_cons (pv 9) (pa_cons (pe_bltn (v := .ty "tuple") rfl T.z_tuple (by decide +kernel) rfl) pa_nil))))) (pw_or1 (pt_cmpR (op_neD hr.units) (pe_callTy call_list_of (by rfl) T.z_list (by decide +kernel) (pa_cons (pv 9) pa_nil)) (pv 7) (nomark _))))) (pss_one (ps_ret pe_bl)) pss_nil)))))))
      (pss_one (ps_ret pe_bl))))), ?_⟩
  refine ⟨_, rfl, _, rfl, a, ns, rfl, hS, h63, fun d c H1 dr1 s1 => ?_⟩
  refine ⟨sl 0, fun p hp => ?_⟩
  have pd : p ≠ d := dr1.dne hp
  have pc : p ≠ c := dr1.cne hp
  refine ⟨2, rfl, by decide, by decide, for_range (lo := 0) (n := 2) (fun i σ H' => ∃ (ts : List Str) (v3 v4 v5 v6 : Option V), σ = [some (.ref a), some (.ref d), some (.ref p), v3, v4, v5, v6, none, none, none, none] ∧ H' p = some (.lst (ts.map V.str)) ∧ ts.length = i ∧ (∀ t ∈ ts, t.length ≤ 5000 ∧ okB t = true) ∧ Dr d c H')
    ⟨[], none, none, none, none, rfl, upd_same, rfl, (fun t ht => by cases ht), dr1.new hp⟩ ?_ ?_⟩
  · rintro i σ H2 hi ⟨ts, v3, v4, v5, v6, rfl, h1, h2, h3, dr2⟩
    -- text = pick(d, ['', ' ', '\n'])
    refine ⟨_, rfl, sl 3, fun l hl => ⟨_, _, rfl, pick_row 3 ["", " ", "\n"] (by decide +kernel) (by simp) (by decide) dr2 (fun z0 H3 hz0 ok0 dr3 kp3 => ?_) hl⟩⟩
    -- for step in range([..][draw(8)])
    refine ⟨sl 8, fun l2 hl2 => ⟨_, rfl, _, _, rfl, d, c, 8, rfl, rfl, dr3.new hl2, by decide, by decide, fun r H4 r0 r1 dr4 kp4 => ?_⟩⟩
    obtain ⟨v, hv, hm⟩ := at_in (xs := ([3, 8, 1, 60, 5, 14, 0, 2] : List Int).map V.int) r0 (by rw [List.length_map]; exact r1)
    obtain ⟨n, hn, rfl⟩ := List.mem_map.mp hm
    have hn60 : 0 ≤ n ∧ n ≤ 60 := by
      have h4 : ([3, 8, 1, 60, 5, 14, 0, 2] : List Int).all (fun n => decide (0 ≤ n ∧ n ≤ 60)) = true := by decide
      exact of_decide_eq_true (List.all_eq_true.mp h4 n hn)
    have kp24 : Keep d H2 H4 := kp3.trans ((Keep.new hl2).trans kp4)
    refine ⟨l2, _, _, _, rfl, rfl, SqL.of (kp4 _ _ upd_same (dr3.dne hl2)), hv, n, rfl, by omega, by omega, ?_⟩
    refine for_range (lo := 0) (n := n.toNat) (fun i2 σ H' => ∃ (z : Str) (v5 : Option V), σ = [some (.ref a), some (.ref d), some (.ref p), some (.int (0 + (i : Int))), some (.str z), v5, v6, none, none, none, none] ∧ z.length ≤ 3 + 63 * i2 ∧ okB z = true ∧ H' p = some (.lst (ts.map V.str)) ∧ Dr d c H')
      ⟨z0, v5, rfl, by omega, ok0, kp24 _ _ h1 pd, dr4⟩ ?_ ?_
    · rintro i2 σ H5 hi2 ⟨z, v5', rfl, g1, g2, g3, dr5⟩
      refine ⟨_, rfl, _, rfl, _, rfl, d, c, rfl, dr5, fun z1 H6 hz1 ok1 dr6 kp6 => ⟨_, _, rfl, rfl, ?_, _, rfl, sl 6, fun l3 hl3 => ⟨_, _, rfl, pick_row 3 ["", " ", "", "\n", "", "  \n"] (by decide +kernel) (by simp) (by decide) dr6 (fun z2 H7 hz2 ok2 dr7 kp7 => ⟨_, _, rfl, rfl, ?_, ?_⟩) hl3⟩⟩⟩
      · rw [sizeLine_eq]
        omega
      · rw [app_len, sizeLine_eq]
        omega
      · exact ⟨_, _, rfl, by rw [app_len, app_len]; omega, okB_app (okB_app g2 ok1) ok2, kp7 _ _ (kp6 _ _ g3 pd) pd, dr7⟩
    · rintro σ H5 ⟨z, v5', rfl, g1, g2, g3, dr5⟩
      have hzl : z.length ≤ 4000 := by omega
      have hsz := tok_sizes _ z.cps.toList (Nat.le_refl _)
      have hlen := len_cps z
      -- heavy = [.. for token in own_tokens(text) if token in (..)]
      refine ⟨_, rfl, _, rfl, z, rfl, by omega, fun o H6 s6 ho hot => ⟨o, rfl, ⟨_, SqL.of hot⟩, fun D hD => ?_⟩⟩
      refine lc_list (K := K) (a := o) (xs := tks (tok z.cps.toList)) (fun i3 H' => ∃ acc : List V, H' D = some (.lst acc) ∧ acc.length ≤ i3 ∧ Same H6 H') ⟨[], upd_same, Nat.le_refl _, same_new hD⟩ ?_ ?_ ?_
      · rintro i3 H' _ ⟨acc, _, _, s7⟩
        exact SqL.of (s7 _ _ hot)
      · rintro i3 x H' hx ⟨acc, e1, e2, s7⟩
        have hi3 : i3 < (tks (tok z.cps.toList)).length := by
          obtain ⟨hlt, _⟩ := List.getElem?_eq_some_iff.mp hx
          exact hlt
        unfold tks at hx
        rw [List.getElem?_map] at hx
        obtain ⟨t, ht, rfl⟩ := Option.map_eq_some_iff.mp hx
        refine ⟨rfl, _, rfl, sl 6, fun tp htp => ⟨tp, _, rfl, .inr (SqT.of upd_same), rfl, rfl, _, rfl, ite2 (fun _ => ?_) (fun _ => ?_)⟩⟩
        · have eD := upd_else (o := .tup [.str "(", .str "{", .str "-", .str "not", .str "last", .str "then"]) e1 (ne_of_none e1 htp)
          refine ⟨_, rfl, acc, eD, ?_, acc ++ [V.str (tx t)], upd_same, ?_, fun b u e => ?_⟩
          · rw [tks_len] at hi3
            rw [sizeLine_eq]
            omega
          · rw [List.length_append]
            simp only [List.length_singleton]
            omega
          · rw [upd_ne (ne_of_none e hD)]
            exact same_new htp _ _ (s7 _ _ e)
        · exact ⟨acc, upd_else e1 (ne_of_none e1 htp), by omega, s7.trans (same_new htp)⟩
      · rintro H' ⟨acc, e1, e2, s7⟩
        have hp7 : H' p = some (.lst (ts.map V.str)) := s7 _ _ (s6 _ _ g3)
        have dr7 : Dr d c H' := (dr5.same s6).same s7
        have fin : ∀ y : Str, y.length ≤ 5000 → okB y = true → ∃ (ts' : List Str) (v3 v4 v5 v6 : Option V), [some (V.ref a), some (.ref d), some (.ref p), some (.int (0 + (i : Int))), some (.str z), v5', some (.ref D), none, none, none, none] = [some (.ref a), some (.ref d), some (.ref p), v3, v4, v5, v6, none, none, none, none] ∧
            (upd H' p (.lst (ts.map V.str ++ [.str y]))) p = some (.lst (ts'.map V.str)) ∧ ts'.length = i + 1 ∧ (∀ t ∈ ts', t.length ≤ 5000 ∧ okB t = true) ∧ Dr d c (upd H' p (.lst (ts.map V.str ++ [.str y]))) := fun y hy oky => by
          refine ⟨ts ++ [y], _, _, _, _, rfl, ?_, ?_, fun t ht => ?_, dr7.else pd pc⟩
          · rw [upd_same, List.map_append]
            rfl
          · rw [List.length_append, h2]
            rfl
          · rcases List.mem_append.mp ht with ht | ht
            · exact h3 t ht
            · rw [List.mem_singleton.mp ht]
              exact ⟨hy, oky⟩
        have tsl : (ts.map V.str).length < sizeLine := by
          rw [List.length_map, sizeLine_eq]
          omega
        refine ⟨_, rfl, .inl ⟨rfl, _, SqL.of hp7⟩, _, rfl, D, acc, rfl, .inl (SqL.of e1), _, _, rfl, rfl, _, rfl, ite2 (fun _ => ?_) (fun _ => ?_)⟩
        · exact ⟨_, rfl, p, _, _, rfl, rfl, hp7, tsl, fin z (by omega) g2⟩
        · refine ⟨_, rfl, _, rfl, z, rfl, by rw [sizeLine_eq]; omega, p, _, _, rfl, rfl, hp7, tsl, fin _ ?_ ?_⟩
          · exact Nat.le_trans (cutS_length _ _ _) (by omega)
          · unfold okB cutS
            exact List.all_eq_true.mpr fun c hc => List.all_eq_true.mp g2 c (List.mem_of_mem_drop (List.mem_of_mem_take hc))
  · rintro σ H2 ⟨ts, v3, v4, v5, v6, rfl, h1, h2, h3, dr2⟩
    obtain ⟨t0, t1, rfl⟩ : ∃ t0 t1, ts = [t0, t1] := by
      match ts, h2 with
      | [t0, t1], _ => exact ⟨t0, t1, rfl⟩
    obtain ⟨l0, k0⟩ := h3 t0 (by simp)
    obtain ⟨l1, k1⟩ := h3 t1 (by simp)
    have h1' : H2 p = some (.lst [.str t0, .str t1]) := h1
    refine ⟨_, rfl, p, _, _, _, rfl, rfl, SqL.of h1', at_n 0 rfl, _, rfl, p, _, _, _, rfl, rfl, SqL.of h1', at_n 1 rfl, _, rfl, p, _, _, _, rfl, rfl, SqL.of h1', at_n 0 rfl, _, rfl, p, _, _, _, rfl, rfl, SqL.of h1', at_n 1 rfl, _, rfl, p, _, _, _, rfl, rfl, SqL.of h1', at_n 0 rfl, _, _, rfl, rfl, by rw [sizeLine_eq]; omega, sl 5, fun e he => ?_⟩
    refine ⟨e, rfl, ⟨_, SqL.of upd_same⟩, for_list (K := K) (a := e) (xs := [t0, t1, t0, t1 ++ t0, ""].map V.str) (fun i σ H' => ∃ v4 v7 v8 v9 : Option V, σ = [some (.ref a), some (.ref d), some (.ref p), v3, v4, v5, v6, v7, v8, v9, none] ∧ H' e = some (.lst ([t0, t1, t0, t1 ++ t0, ""].map V.str)))
      ⟨v4, none, none, none, rfl, upd_same⟩ (fun i σ H' _ ⟨_, _, _, _, _, e1⟩ => SqL.of e1) ?_ ?_⟩
    · rintro i x σ H3 hx ⟨v4', v7, v8, v9, rfl, e1⟩
      have hgood : goodT 20000 [t0, t1, t0, t1 ++ t0, ""] = true := by
        have hl : (t1 ++ t0).length ≤ 20000 := by
          rw [app_len]
          omega
        show ((decide (t0.length ≤ 20000) && okB t0) && ((decide (t1.length ≤ 20000) && okB t1) && ((decide (t0.length ≤ 20000) && okB t0) && ((decide ((t1 ++ t0).length ≤ 20000) && okB (t1 ++ t0)) && ((decide (("" : Str).length ≤ 20000) && okB "") && true))))) = true
        rw [k0, k1, okB_app k1 k0, decide_eq_true (show t0.length ≤ 20000 by omega), decide_eq_true (show t1.length ≤ 20000 by omega), decide_eq_true hl]
        decide +kernel
      obtain ⟨z, rfl, hz, okz⟩ := goodT_ok hgood (List.mem_of_getElem? hx)
      have hlen := len_cps z
      have hsz := tok_sizes _ z.cps.toList (Nat.le_refl _)
      have lt := ok_lt okz
      refine ⟨_, rfl, _, rfl, z, rfl, by omega, fun u H4 s4 hu hut => ?_⟩
      refine ⟨_, rfl, _, rfl, z, rfl, by omega, fun v H5 s5 hv hvt => ?_⟩
      -- the same list twice: not unequal
      have same : ∀ (l m : Addr) (H' : Hp), H' l = some (.lst (tks (tok z.cps.toList))) → H' m = some (.lst (tks (tok z.cps.toList))) → ∀ (R : VK), R (.bl false) H' → rNeD K (.ref l) (.ref m) H' R := fun l m H' hl hm R hR => by
        refine ⟨_, _, .lst (SqL.of hl) (dp_tks _), .lst (SqL.of hm) (dp_tks _), shaped_tks lt, shaped_tks lt, ?_⟩
        rw [eqv_tks lt]
        exact hR
      refine ⟨_, rfl, _, .ty "tuple", _, _, true, rfl, .ty _, .base (.tup hvt), kit_ty (by decide +kernel), _, rfl, ?_⟩
      refine iteF ⟨_, rfl, v, _, rfl, .inr (SqT.of hvt), fun l hl => ⟨_, rfl, ?_⟩⟩
      have s6 : Same H4 (upd H5 l (.lst (tks (tok z.cps.toList)))) := s5.trans (same_new hl)
      refine same l u _ upd_same (s6 _ _ hut) _ ⟨_, rfl, iteF ?_⟩
      have es : tks (tok z.cps.toList) = ((tok z.cps.toList).map tx).map V.str := by
        rw [List.map_map]
        rfl
      refine ⟨⟨_, rfl⟩, _, rfl, " ", u, (tok z.cps.toList).map tx, rfl, rfl, .inl ?_, ?_, ?_⟩
      · rw [← es]
        exact SqL.of (s6 _ _ hut)
      · have e2 : ((tok z.cps.toList).map tx).map (·.length) = (tok z.cps.toList).map List.length := by
          rw [List.map_map]
          exact List.map_congr_left fun t _ => tx_len t
        rw [e2, List.length_map]
        show _ + _ * 1 ≤ _
        omega
      · rw [join_tx]
        have hj : (joinL (tok z.cps.toList)).length ≤ 50000 := by
          have h9 := StrLaws.join_length_le " " ((tok z.cps.toList).map tx)
          have e3 : Str.join " " ((tok z.cps.toList).map tx) = tx (joinL (tok z.cps.toList)) := by
            rw [← join_tx]
            exact (StrLaws.glued_eq_join _ _).symm
          have e2 : ((tok z.cps.toList).map tx).map (·.length) = (tok z.cps.toList).map List.length := by
            rw [List.map_map]
            exact List.map_congr_left fun t _ => tx_len t
          rw [e3, tx_len, e2, List.length_map] at h9
          have e4 : (" " : Str).length = 1 := by decide +kernel
          rw [e4] at h9
          omega
        refine ⟨_, rfl, _, rfl, by rw [tx_len]; omega, fun v2 H7 s7 hv2 hv2t => ?_⟩
        rw [tx_cps, tok_again] at hv2t
        refine ⟨_, rfl, _, .ty "tuple", _, _, true, rfl, .ty _, .base (.tup hv2t), kit_ty (by decide +kernel), _, rfl, ?_⟩
        refine iteF ⟨_, rfl, v2, _, rfl, .inr (SqT.of hv2t), fun l2 hl2 => ⟨_, rfl, ?_⟩⟩
        have s8 := s6.trans (s7.trans (same_new (o := .lst (tks (tok z.cps.toList))) hl2))
        refine same l2 u _ upd_same (s8 _ _ hut) _ ⟨_, rfl, iteF ?_⟩
        exact ⟨_, _, _, _, rfl, s8 _ _ (s4 _ _ e1)⟩
    · rintro σ H3 _
      exact q H3
end

/-! ### the head -/
def d_tokens_of : He.DefD := ⟨("tokens_of", none), "tokens_of", "tokens_of", defArgs s_tokens_of, defBody s_tokens_of, defScope s_tokens_of, [], []⟩
def d_end_of_token : He.DefD := ⟨("_end_of_token", none), "_end_of_token", "_end_of_token", defArgs s_end_of_token, defBody s_end_of_token, defScope s_end_of_token, [], []⟩
def d_begin : He.DefD := ⟨("_law_begin", none), "_law_begin", "_law_begin", defArgs s_begin, defBody s_begin, defScope s_begin, [], []⟩
def d_mixed : He.DefD := ⟨("_law_mixed", none), "_law_mixed", "_law_mixed", defArgs s_mixed, defBody s_mixed, defScope s_mixed, [], []⟩
def d_draw : He.DefD := ⟨("_law_draw", none), "_law_draw", "_law_draw", defArgs s_draw, defBody s_draw, defScope s_draw, [], []⟩
def d_draw_digit : He.DefD := ⟨("_law_draw_digit", none), "_law_draw_digit", "_law_draw_digit", defArgs s_draw_digit, defBody s_draw_digit, defScope s_draw_digit, [], []⟩
def d_pick : He.DefD := ⟨("_law_pick", none), "_law_pick", "_law_pick", defArgs s_pick, defBody s_pick, defScope s_pick, [], []⟩
def d_rare : He.DefD := ⟨("_law_rare", none), "_law_rare", "_law_rare", defArgs s_rare, defBody s_rare, defScope s_rare, [], []⟩
def d_reserved : He.DefD := ⟨("_law_reserved", none), "_law_reserved", "_law_reserved", defArgs s_reserved, defBody s_reserved, defScope s_reserved, [], []⟩
def d_goes_on : He.DefD := ⟨("_law_goes_on", none), "_law_goes_on", "_law_goes_on", defArgs s_goes_on, defBody s_goes_on, defScope s_goes_on, [], []⟩
def d_own_tokens : He.DefD := ⟨("_law_own_tokens", none), "_law_own_tokens", "_law_own_tokens", defArgs s_own_tokens, defBody s_own_tokens, defScope s_own_tokens, [], []⟩
def d_piece : He.DefD := ⟨("_law_piece", none), "_law_piece", "_law_piece", defArgs s_piece, defBody s_piece, defScope s_piece, [], []⟩
def d_law : He.DefD := ⟨("law", none), "law", "law", defArgs s_law, defBody s_law, defScope s_law, [], []⟩
def fn : List He.DefD := [d_tokens_of, d_end_of_token, d_begin, d_mixed, d_draw, d_draw_digit, d_pick, d_rare, d_reserved, d_goes_on, d_own_tokens, d_piece, d_law]
def fa : List He.Fa := [.glo "tokens_of", .glo "_end_of_token", .glo "_law_begin", .glo "_law_mixed", .glo "_law_draw", .glo "_law_draw_digit", .glo "_law_pick", .glo "_law_rare", .glo "_law_reserved", .glo "_law_goes_on", .glo "_law_own_tokens", .glo "_law_piece", .glo "law", .free "abs", .free "divmod", .free "int", .free "isinstance", .free "len", .free "list", .free "range", .free "tuple", .str "RUN" "abcdefghijklmnopqrstuvwxyzABCDEFGHIJKLMNOPQRSTUVWXYZ0123456789", .glo "BLANKS", .glo "LONG_SIGNS"]
def exB (K : PySem.W.Frag) : Bool := He.tupB K "BLANKS" [.str " ", .str "\n"] && He.tupB K "LONG_SIGNS" [.str "..", .str "==", .str "!=", .str "<="]
abbrev theRow : PySem.W.OpenRow := PySem.W.OpenLaw.row PySem.Challenge.rw_keepsgoing_k05_tokens
abbrev Seen : Type := He.AlD × Bool
def seenOf (K : PySem.W.Frag) : Seen := (He.obsD fa fn K, exB K)
def fragOf (g : Addr → Option Obj) : PySem.W.Frag := He.frG g (He.asD g 4)
def hookM : PySem.W.Hook where
  α := Seen
  obs := fun s => seenOf (fragOf s.heap.get?)
  val := fun _ => (He.valD fn, true)
  says := fun _ h => ∃ K : PySem.W.Frag, K.In h ∧ He.SaysD fa fn K ∧ exB K = true
  of := fun _ _ e => ⟨_, He.frG_in, congrArg (fun z : Seen => z.1) e, congrArg (fun z : Seen => z.2) e⟩
  keeps := fun _ _ _ ⟨K, h1, h2⟩ k => ⟨K, PySem.W.Frag.In.keeps h1 k, h2⟩
def obM (s : PySem.W.SharedT) : Seen := seenOf (fragOf (HandSHeadRun.getT s))
theorem obM_eq (s : PySem.W.SharedT) : obM s = hookM.obs s.abs := by
  have e : HandSHeadRun.getT s = s.abs.heap.get? := funext (HandSHeadRun.getT_eq s)
  unfold obM
  rw [e] <;> rfl
def others : List PySem.Str := ["tokens_of", "_end_of_token", "_law_begin", "_law_mixed", "_law_draw", "_law_draw_digit", "_law_pick", "_law_rare", "_law_reserved", "_law_goes_on", "_law_own_tokens", "_law_piece", "RUN", "BLANKS", "LONG_SIGNS"]
theorem runM (w : World) : HandSHeadRun.RunEq theRow (PySem.W.view theRow.prog [17]) hookM obM 3000 others w := by
  intro os
  kernel_rfl
theorem factsM {P : Program} {w : World} {K : PySem.W.Frag} {h : Heap} {mg : Str → Option Value} {f : Addr} (X : K.In h) (G : h.Ns mainGlobals mg) (hfa : mg ("law" : Str) = some (.ref f)) (c : He.SaysD fa fn K) (cex : exB K = true) :
    ∃ fd : FuncData, (∀ (s : Shared) (v : Value), BindsTo s fd ⟨[v], []⟩ [("_law_script", v)]) ∧ ∀ base : Heap, K.In base → base.Ns mainGlobals mg → FnOk P w K mg base CX0 5 f fd ["_law_script"] (sp1 (rLaw K)) := by
  obtain ⟨fd_tokens_of, F_tokens_of⟩ := c.def_ 0 (d := d_tokens_of) rfl
  obtain ⟨fd_end_of_token, F_end_of_token⟩ := c.def_ 1 (d := d_end_of_token) rfl
  obtain ⟨fd_begin, F_begin⟩ := c.def_ 2 (d := d_begin) rfl
  obtain ⟨fd_mixed, F_mixed⟩ := c.def_ 3 (d := d_mixed) rfl
  obtain ⟨fd_draw, F_draw⟩ := c.def_ 4 (d := d_draw) rfl
  obtain ⟨fd_draw_digit, F_draw_digit⟩ := c.def_ 5 (d := d_draw_digit) rfl
  obtain ⟨fd_pick, F_pick⟩ := c.def_ 6 (d := d_pick) rfl
  obtain ⟨fd_rare, F_rare⟩ := c.def_ 7 (d := d_rare) rfl
  obtain ⟨fd_reserved, F_reserved⟩ := c.def_ 8 (d := d_reserved) rfl
  obtain ⟨fd_goes_on, F_goes_on⟩ := c.def_ 9 (d := d_goes_on) rfl
  obtain ⟨fd_own_tokens, F_own_tokens⟩ := c.def_ 10 (d := d_own_tokens) rfl
  obtain ⟨fd_piece, F_piece⟩ := c.def_ 11 (d := d_piece) rfl
  obtain ⟨fd_law, F_law⟩ := c.def_ 12 (d := d_law) rfl
  obtain ⟨tk_RUN, mg_RUN⟩ := He.str_ok X G (c.fact 21 (f := .str "RUN" "abcdefghijklmnopqrstuvwxyzABCDEFGHIJKLMNOPQRSTUVWXYZ0123456789") rfl)
  obtain ⟨x_LONG_SIGNS', tb_LONG_SIGNS⟩ := He.ba (show (_ && _) = true from cex)
  have tb_BLANKS := x_LONG_SIGNS'
  have T : Tx K mg := {
    f_tokens_of := _, fd_tokens_of := fd_tokens_of, F_tokens_of := F_tokens_of, m_tokens_of := He.glo_ok X G (c.fact 0 (f := .glo "tokens_of") rfl), b_tokens_of := F_tokens_of.bindsN fun _ _ _ _ _ _ us hl => match us, hl with | [_], _ => rfl
    f_end_of_token := _, fd_end_of_token := fd_end_of_token, F_end_of_token := F_end_of_token, m_end_of_token := He.glo_ok X G (c.fact 1 (f := .glo "_end_of_token") rfl), b_end_of_token := F_end_of_token.bindsN fun _ _ _ _ _ _ us hl => match us, hl with | [_, _], _ => rfl
    f_begin := _, fd_begin := fd_begin, F_begin := F_begin, m_begin := He.glo_ok X G (c.fact 2 (f := .glo "_law_begin") rfl), b_begin := F_begin.bindsN fun _ _ _ _ _ _ us hl => match us, hl with | [_], _ => rfl
    f_mixed := _, fd_mixed := fd_mixed, F_mixed := F_mixed, m_mixed := He.glo_ok X G (c.fact 3 (f := .glo "_law_mixed") rfl), b_mixed := F_mixed.bindsN fun _ _ _ _ _ _ us hl => match us, hl with | [_, _], _ => rfl
    f_draw := _, fd_draw := fd_draw, F_draw := F_draw, m_draw := He.glo_ok X G (c.fact 4 (f := .glo "_law_draw") rfl), b_draw := F_draw.bindsN fun _ _ _ _ _ _ us hl => match us, hl with | [_, _], _ => rfl
    f_draw_digit := _, fd_draw_digit := fd_draw_digit, F_draw_digit := F_draw_digit, m_draw_digit := He.glo_ok X G (c.fact 5 (f := .glo "_law_draw_digit") rfl), b_draw_digit := F_draw_digit.bindsN fun _ _ _ _ _ _ us hl => match us, hl with | [_, _], _ => rfl
    f_pick := _, fd_pick := fd_pick, F_pick := F_pick, m_pick := He.glo_ok X G (c.fact 6 (f := .glo "_law_pick") rfl), b_pick := F_pick.bindsN fun _ _ _ _ _ _ us hl => match us, hl with | [_, _], _ => rfl
    f_rare := _, fd_rare := fd_rare, F_rare := F_rare, m_rare := He.glo_ok X G (c.fact 7 (f := .glo "_law_rare") rfl), b_rare := F_rare.bindsN fun _ _ _ _ _ _ us hl => match us, hl with | [_, _], _ => rfl
    f_reserved := _, fd_reserved := fd_reserved, F_reserved := F_reserved, m_reserved := He.glo_ok X G (c.fact 8 (f := .glo "_law_reserved") rfl), b_reserved := F_reserved.bindsN fun _ _ _ _ _ _ us hl => match us, hl with | [], _ => rfl
    f_goes_on := _, fd_goes_on := fd_goes_on, F_goes_on := F_goes_on, m_goes_on := He.glo_ok X G (c.fact 9 (f := .glo "_law_goes_on") rfl), b_goes_on := F_goes_on.bindsN fun _ _ _ _ _ _ us hl => match us, hl with | [_, _], _ => rfl
    f_own_tokens := _, fd_own_tokens := fd_own_tokens, F_own_tokens := F_own_tokens, m_own_tokens := He.glo_ok X G (c.fact 10 (f := .glo "_law_own_tokens") rfl), b_own_tokens := F_own_tokens.bindsN fun _ _ _ _ _ _ us hl => match us, hl with | [_], _ => rfl
    f_piece := _, fd_piece := fd_piece, F_piece := F_piece, m_piece := He.glo_ok X G (c.fact 11 (f := .glo "_law_piece") rfl), b_piece := F_piece.bindsN fun _ _ _ _ _ _ us hl => match us, hl with | [_], _ => rfl
    f_law := _, fd_law := fd_law, F_law := F_law, m_law := He.glo_ok X G (c.fact 12 (f := .glo "law") rfl), b_law := F_law.bindsN fun _ _ _ _ _ _ us hl => match us, hl with | [_], _ => rfl
    z_abs := He.free_ok X G (c.fact 13 (f := .free "abs") rfl)
    z_divmod := He.free_ok X G (c.fact 14 (f := .free "divmod") rfl)
    z_int := He.free_ok X G (c.fact 15 (f := .free "int") rfl)
    z_isinstance := He.free_ok X G (c.fact 16 (f := .free "isinstance") rfl)
    z_len := He.free_ok X G (c.fact 17 (f := .free "len") rfl)
    z_list := He.free_ok X G (c.fact 18 (f := .free "list") rfl)
    z_range := He.free_ok X G (c.fact 19 (f := .free "range") rfl)
    z_tuple := He.free_ok X G (c.fact 20 (f := .free "tuple") rfl)
    tk_RUN := tk_RUN, mg_RUN := mg_RUN
    mg_BLANKS := He.glo_ok X G (c.fact 22 (f := .glo "BLANKS") rfl), tp_BLANKS := fun H => He.tupB_ok tb_BLANKS H
    mg_LONG_SIGNS := He.glo_ok X G (c.fact 23 (f := .glo "LONG_SIGNS") rfl), tp_LONG_SIGNS := fun H => He.tupB_ok tb_LONG_SIGNS H
  }
  have e := hfa.symm.trans T.m_law
  cases e
  have b := FunD.bindsA (ps := ["_law_script"]) T.F_law fun _ _ _ _ _ _ us hl => match us, hl with | [_], _ => rfl
  exact ⟨T.fd_law, fun s v => b s [v] rfl, fun base _ _ => ok_law T⟩
end My
open PySem PySem.W PySem.Calls PyProof.Rows
set_option maxRecDepth 100000 in
set_option maxHeartbeats 0 in
theorem PySem.Challenge.cw_keepsgoing_k05_tokens_holds : PySem.Challenge.rw_keepsgoing_k05_tokens.Holds := by
  w_on; o_law
  refine HandSHeadRun.head_any (r := My.theRow) (q := view My.theRow.prog [17]) (H := My.hookM) (ob := My.obM) (M := 3000) (loose := My.others) (d := HandSHeadRun.topDef My.theRow.prog 17) (kwd := []) My.obM_eq
    (by kernel_rfl) (fun s => by kernel_rfl) My.runM (by kernel_rfl) (by kernel_rfl) (by kernel_rfl) (by rfl) (by first | assumption | decide +kernel) (by decide +kernel) ⟨rfl, rfl, rfl, rfl, rfl, by decide +kernel⟩ ?hw ?hc
  case hw => w_witness2
  case hc =>
    refine L2.walk_ofE (l := PySem.Challenge.rw_keepsgoing_k05_tokens) (n := 63) (k := 5) (x := "_law_script") (CX := L2.CX0) rfl (by decide) (by kernel_rfl) ⟨rfl, by decide, by decide⟩ ?F (fun _ _ _ _ z => z)
    intro w mg fa h Y G hmg0
    obtain ⟨K, KX, c, cx⟩ := Y
    have hmg : mg ("law" : PySem.Str) = some (.ref fa) := by
      have e : (HandSHeadRun.topDef My.theRow.prog 17).name = ("law" : PySem.Str) := by kernel_rfl
      rw [← e]
      exact hmg0
    obtain ⟨fd, hb, hF⟩ := My.factsM (P := My.theRow.prog) (w := w) KX G hmg c cx
    exact ⟨K, fd, My.sp1 (My.rLaw K), KX, hb, fun H a ns hl _ hS => ⟨_, rfl, a, ns, rfl, hS, hl, fun _ => rfl⟩, hF⟩

