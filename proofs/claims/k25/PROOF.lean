import PyProof.Rows.All
import Wide.All
import OpenK.AllK
import Wide.FinOn
import KE.KStateDown
import HandS.ForMost
import HandS.Walk
import HandS.IsInst
import HandS.TupAny
import HandS.Style
import HandS.More
import HandS.Codes
import HandS.Defaults
import HandS.WordsExc
import HandS.Head0
import HandS.Head1
import HandS.Head2
import HandS.HeadEnd
import HandS.HeadHook1
import HandS.HeadHook2
import PySem.Challenge.RW_keepsgoing_k25_rates
set_option Elab.async false
set_option linter.all false
set_option maxRecDepth 100000
set_option maxHeartbeats 0
namespace My
open PySem PySem.Spec PyProof.Rows L2
/-! ### the text -/
def topS (i : Nat) : Stmt := PySem.Challenge.pw_keepsgoing_k25_rates.main.body.getD i (.Pass ⟨0, 0, 0, 0⟩)
abbrev s_rate_of : Stmt := topS 1
abbrev s_slowed : Stmt := topS 2
abbrev s_begin : Stmt := topS 4
abbrev s_mixed : Stmt := topS 5
abbrev s_draw : Stmt := topS 6
abbrev s_draw_digit : Stmt := topS 7
abbrev s_rare : Stmt := topS 8
abbrev s_rate : Stmt := topS 9
abbrev s_is_layer : Stmt := topS 10
abbrev s_passed : Stmt := topS 11
abbrev s_product : Stmt := topS 12
abbrev s_rate_due : Stmt := topS 13
abbrev s_rate_clock : Stmt := topS 14
abbrev s_law : Stmt := topS 15
theorem sc_rate_of : FnScope ["clock", "rate", "layer"] ["clock"] (defScope s_rate_of) := ⟨rfl, rfl, rfl, by decide +kernel, rfl, by decide +kernel, by decide +kernel⟩
theorem sc_slowed : FnScope ["rate", "many", "start", "n", "k"] ["rate", "many", "start"] (defScope s_slowed) := ⟨rfl, rfl, rfl, by decide +kernel, rfl, by decide +kernel, by decide +kernel⟩
theorem sc_begin : FnScope ["_law_script", "_law_cell"] ["_law_script"] (defScope s_begin) := ⟨rfl, rfl, rfl, by decide +kernel, rfl, by decide +kernel, by decide +kernel⟩
theorem sc_mixed : FnScope ["_law_d", "_law_cell"] ["_law_d", "_law_cell"] (defScope s_mixed) := ⟨rfl, rfl, rfl, by decide +kernel, rfl, by decide +kernel, by decide +kernel⟩
theorem sc_draw : FnScope ["_law_d", "_law_many", "_law_cell"] ["_law_d", "_law_many"] (defScope s_draw) := ⟨rfl, rfl, rfl, by decide +kernel, rfl, by decide +kernel, by decide +kernel⟩
theorem sc_draw_digit : FnScope ["_law_d", "_law_many", "_law_pair"] ["_law_d", "_law_many"] (defScope s_draw_digit) := ⟨rfl, rfl, rfl, by decide +kernel, rfl, by decide +kernel, by decide +kernel⟩
theorem sc_rare : FnScope ["_law_d", "_law_many", "_law_amid"] ["_law_d", "_law_many"] (defScope s_rare) := ⟨rfl, rfl, rfl, by decide +kernel, rfl, by decide +kernel, by decide +kernel⟩
theorem sc_rate : FnScope ["_law_d", "_law_most", "_law_many", "_law_first"] ["_law_d", "_law_most"] (defScope s_rate) := ⟨rfl, rfl, rfl, by decide +kernel, rfl, by decide +kernel, by decide +kernel⟩
theorem sc_is_layer : FnScope ["_law_d", "_law_name"] ["_law_d"] (defScope s_is_layer) := ⟨rfl, rfl, rfl, by decide +kernel, rfl, by decide +kernel, by decide +kernel⟩
theorem sc_passed : FnScope ["_law_layers", "_law_many", "_law_counts", "_law_found", "_law_tick", "_law_there", "_law_at", "_law_count", "_law_layer"] ["_law_layers", "_law_many"] (defScope s_passed) := ⟨rfl, rfl, rfl, by decide +kernel, rfl, by decide +kernel, by decide +kernel⟩
theorem sc_product : FnScope ["_law_layers", "_law_many", "_law_layer"] ["_law_layers"] (defScope s_product) := ⟨rfl, rfl, rfl, by decide +kernel, rfl, by decide +kernel, by decide +kernel⟩
theorem sc_rate_due : FnScope ["_law_clock", "_law_many", "_law_ticks", "_law_n", "_law_k", "_law_layer"] ["_law_clock"] (defScope s_rate_due) := ⟨rfl, rfl, rfl, by decide +kernel, rfl, by decide +kernel, by decide +kernel⟩
theorem sc_rate_clock : FnScope ["_law_d", "_law_many", "_law_most", "_law_layers", "_law_step"] ["_law_d"] (defScope s_rate_clock) := ⟨rfl, rfl, rfl, by decide +kernel, rfl, by decide +kernel, by decide +kernel⟩
theorem sc_law : FnScope ["_law_script", "_law_d", "_law_clocks", "_law_clock"] ["_law_script"] (defScope s_law) := ⟨rfl, rfl, rfl, by decide +kernel, rfl, by decide +kernel, by decide +kernel⟩
abbrev FnP (K : PySem.W.Frag) (x : Str) (st : Stmt) (f : Addr) (fd : FuncData) : Prop := FunD K x x (defArgs st) (defBody st) (defScope st) [] [] f fd
structure Tx (K : PySem.W.Frag) (mg : Str → Option Value) where
  f_rate_of : Addr
  fd_rate_of : FuncData
  F_rate_of : FnP K "rate_of" s_rate_of f_rate_of fd_rate_of
  m_rate_of : mg "rate_of" = some (.ref f_rate_of)
  b_rate_of : Binds K fd_rate_of ["clock"] []
  f_slowed : Addr
  fd_slowed : FuncData
  F_slowed : FnP K "_slowed" s_slowed f_slowed fd_slowed
  m_slowed : mg "_slowed" = some (.ref f_slowed)
  b_slowed : Binds K fd_slowed ["rate", "many", "start"] []
  f_begin : Addr
  fd_begin : FuncData
  F_begin : FnP K "_law_begin" s_begin f_begin fd_begin
  m_begin : mg "_law_begin" = some (.ref f_begin)
  b_begin : Binds K fd_begin ["_law_script"] []
  f_mixed : Addr
  fd_mixed : FuncData
  F_mixed : FnP K "_law_mixed" s_mixed f_mixed fd_mixed
  m_mixed : mg "_law_mixed" = some (.ref f_mixed)
  b_mixed : Binds K fd_mixed ["_law_d", "_law_cell"] []
  f_draw : Addr
  fd_draw : FuncData
  F_draw : FnP K "_law_draw" s_draw f_draw fd_draw
  m_draw : mg "_law_draw" = some (.ref f_draw)
  b_draw : Binds K fd_draw ["_law_d", "_law_many"] []
  f_draw_digit : Addr
  fd_draw_digit : FuncData
  F_draw_digit : FnP K "_law_draw_digit" s_draw_digit f_draw_digit fd_draw_digit
  m_draw_digit : mg "_law_draw_digit" = some (.ref f_draw_digit)
  b_draw_digit : Binds K fd_draw_digit ["_law_d", "_law_many"] []
  f_rare : Addr
  fd_rare : FuncData
  F_rare : FnP K "_law_rare" s_rare f_rare fd_rare
  m_rare : mg "_law_rare" = some (.ref f_rare)
  b_rare : Binds K fd_rare ["_law_d", "_law_many"] []
  f_rate : Addr
  fd_rate : FuncData
  F_rate : FnP K "_law_rate" s_rate f_rate fd_rate
  m_rate : mg "_law_rate" = some (.ref f_rate)
  b_rate : Binds K fd_rate ["_law_d", "_law_most"] []
  f_is_layer : Addr
  fd_is_layer : FuncData
  F_is_layer : FnP K "_law_is_layer" s_is_layer f_is_layer fd_is_layer
  m_is_layer : mg "_law_is_layer" = some (.ref f_is_layer)
  b_is_layer : Binds K fd_is_layer ["_law_d"] []
  f_passed : Addr
  fd_passed : FuncData
  F_passed : FnP K "_law_passed" s_passed f_passed fd_passed
  m_passed : mg "_law_passed" = some (.ref f_passed)
  b_passed : Binds K fd_passed ["_law_layers", "_law_many"] []
  f_product : Addr
  fd_product : FuncData
  F_product : FnP K "_law_product" s_product f_product fd_product
  m_product : mg "_law_product" = some (.ref f_product)
  b_product : Binds K fd_product ["_law_layers"] []
  f_rate_due : Addr
  fd_rate_due : FuncData
  F_rate_due : FnP K "_law_rate_due" s_rate_due f_rate_due fd_rate_due
  m_rate_due : mg "_law_rate_due" = some (.ref f_rate_due)
  b_rate_due : Binds K fd_rate_due ["_law_clock"] []
  f_rate_clock : Addr
  fd_rate_clock : FuncData
  F_rate_clock : FnP K "_law_rate_clock" s_rate_clock f_rate_clock fd_rate_clock
  m_rate_clock : mg "_law_rate_clock" = some (.ref f_rate_clock)
  b_rate_clock : Binds K fd_rate_clock ["_law_d"] []
  f_law : Addr
  fd_law : FuncData
  F_law : FnP K "law" s_law f_law fd_law
  m_law : mg "law" = some (.ref f_law)
  b_law : Binds K fd_law ["_law_script"] []
  z_abs : mg "abs" = none
  z_divmod : mg "divmod" = none
  z_int : mg "int" = none
  z_len : mg "len" = none
  z_range : mg "range" = none
  z_repr : mg "repr" = none
  z_tuple : mg "tuple" = none



/-! ### promises of defs with so many arguments -/
def sp0 (R : Hp → VK → Prop) : Sp := fun vs H Q _ => vs = [] ∧ R H Q
def sp1 (R : V → Hp → VK → Prop) : Sp := fun vs H Q _ => ∃ x, vs = [x] ∧ R x H Q
def sp2 (R : V → V → Hp → VK → Prop) : Sp := fun vs H Q _ => ∃ x y, vs = [x, y] ∧ R x y H Q
def sp3 (R : V → V → V → Hp → VK → Prop) : Sp := fun vs H Q _ => ∃ x y z, vs = [x, y, z] ∧ R x y z H Q
section
variable {P : Program} {w : World} {K : PySem.W.Frag} {mg : Str → Option Value} {base : Heap} {x : Str} {st : Stmt} {f : Addr} {fd : FuncData} {N ps : List Str} {k : Nat}
theorem okR {sp : Sp} (F : FunD K x x (defArgs st) (defBody st) (defScope st) [] [] f fd) (S : FnScope N ps (defScope st)) (len : ∀ vs H Q E, sp vs H Q E → vs.length = ps.length)
    (body : ∀ (cdv : Value) (A : Around) (outer : List Env) (s : Shared) (H : Hp) (vs : List V) (Q : VK) (E : XK), Room k (A.deeper (envOfC x (defScope st) s.heap.objs.size f cdv)) → sp vs H Q E →
      ∃ t, PSs (cxOf CX0 P w K mg base N x (defScope st) f cdv A outer s H E).nox (defBody st) t ∧ t { nx := fun _ H' => Q .non H', rt := Q } (start N vs) H) : FnOk P w K mg base CX0 (k + 1) f fd ps sp := by
  refine F.ok S len fun cdv A outer s H vs Q E hr h => ?_
  obtain ⟨t, h1, h2⟩ := body cdv A outer s H vs Q E hr h
  exact ⟨t, h1.nox, h2⟩
theorem okR0 {R : Hp → VK → Prop} (F : FunD K x x (defArgs st) (defBody st) (defScope st) [] [] f fd) (S : FnScope N ps (defScope st)) (hl : ps.length = 0)
    (body : ∀ (cdv : Value) (A : Around) (outer : List Env) (s : Shared) (H : Hp) (Q : VK) (E : XK), Room k (A.deeper (envOfC x (defScope st) s.heap.objs.size f cdv)) → R H Q →
      ∃ t, PSs (cxOf CX0 P w K mg base N x (defScope st) f cdv A outer s H E).nox (defBody st) t ∧ t { nx := fun _ H' => Q .non H', rt := Q } (start N []) H) : FnOk P w K mg base CX0 (k + 1) f fd ps (sp0 R) := by
  refine okR F S (fun vs H Q E h => ?_) fun cdv A outer s H vs Q E hr h => ?_
  · obtain ⟨rfl, _⟩ := h
    exact hl.symm
  · obtain ⟨rfl, h⟩ := h
    exact body cdv A outer s H Q E hr h
theorem okR1 {R : V → Hp → VK → Prop} (F : FunD K x x (defArgs st) (defBody st) (defScope st) [] [] f fd) (S : FnScope N ps (defScope st)) (hl : ps.length = 1)
    (body : ∀ (cdv : Value) (A : Around) (outer : List Env) (s : Shared) (H : Hp) (Q : VK) (E : XK) (a : V), Room k (A.deeper (envOfC x (defScope st) s.heap.objs.size f cdv)) → R a H Q →
      ∃ t, PSs (cxOf CX0 P w K mg base N x (defScope st) f cdv A outer s H E).nox (defBody st) t ∧ t { nx := fun _ H' => Q .non H', rt := Q } (start N [a]) H) : FnOk P w K mg base CX0 (k + 1) f fd ps (sp1 R) := by
  refine okR F S (fun vs H Q E h => ?_) fun cdv A outer s H vs Q E hr h => ?_
  · obtain ⟨_, rfl, _⟩ := h
    exact hl.symm
  · obtain ⟨a, rfl, h⟩ := h
    exact body cdv A outer s H Q E a hr h
theorem okR2 {R : V → V → Hp → VK → Prop} (F : FunD K x x (defArgs st) (defBody st) (defScope st) [] [] f fd) (S : FnScope N ps (defScope st)) (hl : ps.length = 2)
    (body : ∀ (cdv : Value) (A : Around) (outer : List Env) (s : Shared) (H : Hp) (Q : VK) (E : XK) (a b : V), Room k (A.deeper (envOfC x (defScope st) s.heap.objs.size f cdv)) → R a b H Q →
      ∃ t, PSs (cxOf CX0 P w K mg base N x (defScope st) f cdv A outer s H E).nox (defBody st) t ∧ t { nx := fun _ H' => Q .non H', rt := Q } (start N [a, b]) H) : FnOk P w K mg base CX0 (k + 1) f fd ps (sp2 R) := by
  refine okR F S (fun vs H Q E h => ?_) fun cdv A outer s H vs Q E hr h => ?_
  · obtain ⟨_, _, rfl, _⟩ := h
    exact hl.symm
  · obtain ⟨a, b, rfl, h⟩ := h
    exact body cdv A outer s H Q E a b hr h
theorem okR3 {R : V → V → V → Hp → VK → Prop} (F : FunD K x x (defArgs st) (defBody st) (defScope st) [] [] f fd) (S : FnScope N ps (defScope st)) (hl : ps.length = 3)
    (body : ∀ (cdv : Value) (A : Around) (outer : List Env) (s : Shared) (H : Hp) (Q : VK) (E : XK) (a b c : V), Room k (A.deeper (envOfC x (defScope st) s.heap.objs.size f cdv)) → R a b c H Q →
      ∃ t, PSs (cxOf CX0 P w K mg base N x (defScope st) f cdv A outer s H E).nox (defBody st) t ∧ t { nx := fun _ H' => Q .non H', rt := Q } (start N [a, b, c]) H) : FnOk P w K mg base CX0 (k + 1) f fd ps (sp3 R) := by
  refine okR F S (fun vs H Q E h => ?_) fun cdv A outer s H vs Q E hr h => ?_
  · obtain ⟨_, _, _, rfl, _⟩ := h
    exact hl.symm
  · obtain ⟨a, b, c, rfl, h⟩ := h
    exact body cdv A outer s H Q E a b c hr h
end
/-! ### heaps: all but the object at d stays -/
def Keep (d : Addr) (H H' : Hp) : Prop := ∀ b o, H b = some o → b ≠ d → H' b = some o
theorem Keep.refl (d : Addr) (H : Hp) : Keep d H H := fun _ _ h _ => h
theorem Keep.trans {d : Addr} {H H1 H2 : Hp} (a : Keep d H H1) (b : Keep d H1 H2) : Keep d H H2 := fun c o h n => b c o (a c o h n) n
theorem Keep.of {d : Addr} {H H1 : Hp} (a : Same H H1) : Keep d H H1 := fun c o h _ => a c o h
theorem Keep.new {d p : Addr} {H : Hp} {o : HO} (h : H p = none) : Keep d H (upd H p o) := fun b u e _ => by
  rw [upd_ne (ne_of_none e h)]
  exact e
theorem Keep.at {d : Addr} {H : Hp} {o : HO} : Keep d H (upd H d o) := fun b u e n => by
  rw [upd_ne n]
  exact e
theorem same_new {H : Hp} {p : Addr} {o : HO} (h : H p = none) : Same H (upd H p o) := fun b u e => by
  rw [upd_ne (ne_of_none e h)]
  exact e
theorem upd_else {H : Hp} {a b : Addr} {o u : HO} (h : H b = some u) (n : b ≠ a) : upd H a o b = some u := by
  rw [upd_ne n]
  exact h
theorem sl (n : Nat) (h : n ≤ 1000 := by decide) : n ≤ sizeLine := Nat.le_of_lt (small1000 h)
/-- a list's item by a written place -/
theorem at_n {xs : List V} {v : V} (j : Nat) (h : xs[j]? = some v) : atI xs (j : Int) = some v := atI_nat h
theorem yes {σ : L2.St} {H : Hp} {A B : Hp → Prop} (h : A H) : tYes σ H fun b H' => if b = true then A H' else B H' := by
  show if true = true then A H else B H
  rw [if_pos rfl]
  exact h

/-! ### the law's def, run where nothing else runs (so that repr knows what it stands in) -/
def RootOk (P : Program) (w : World) (K : PySem.W.Frag) (mg : Str → Option Value) (base : Heap) (f : Addr) (fd : FuncData) (ps : List Str) (sp : Sp) : Prop :=
  ∀ (t : Shared) (G : Hp) (ar : Args) (us : List Value) (vs : List V) (R : VK), Env0 P w K mg base callerA [] t G → BindsTo t fd ar (ps.zip us) → Vals vs us → sp vs G R E0 →
    codeAny (model P w) callerA (.call (.ref f) ar) (CR CX0 [] P w G t R E0) t
theorem rootOk {P : Program} {w : World} {K : PySem.W.Frag} {mg : Str → Option Value} {base : Heap} {x : Str} {st : Stmt} {f : Addr} {fd : FuncData} {N ps : List Str} {sp : Sp} (F : FunD K x x (defArgs st) (defBody st) (defScope st) [] [] f fd) (S : FnScope N ps (defScope st))
    (len : ∀ vs G R, sp vs G R E0 → vs.length = ps.length)
    (body : ∀ (cd : Value) (t : Shared) (G : Hp) (vs : List V) (R : VK), sp vs G R E0 →
      ∃ tr, PSs (cxOf CX0 P w K mg base N x (defScope st) f cd callerA [] t G E0).nox (defBody st) tr ∧ tr { nx := fun _ G' => R .non G', rt := R } (start N vs) G) : RootOk P w K mg base f fd ps sp := by
  intro t G ar us vs R e0 hb r hsp
  obtain ⟨oc, od, dV, kV, doc, pm, an, cd, ct, osl, rfl, lk, hcd, hD, _⟩ := F.ex
  have hlen := len _ _ _ hsp
  have kin : K.In t.heap := e0.mod.kin.keeps fun b o q => (e0.bs b o q).1
  have noL : t.heap.NoLimit := e0.mod.nolimit.keeps fun b o q => (e0.bs b o q).1
  refine codeAny_call_function (by rw [depth_caller]; decide) (kin _ _ lk) rfl S.co S.gen rfl (PySem.W.codeRec_of kin hcd) (hb _ _ _ _ ?_)
  refine wpAny_newFunctionEnv_cells S.kind (fun ⟨n, v⟩ hy => ?_) fun env he t1 z => ?_
  · rcases S.par n (List.of_mem_zip hy).1 with q | q
    · exact .inl q
    · exact .inr ⟨q, PySem.W.cellsFrom_some _ _ _ (.inl q)⟩
  · subst he
    refine ⟨noL.keeps z.toInCall.keep, codeAny_func ?_⟩
    obtain ⟨tr, ht, hq⟩ := body cd t G vs R hsp
    have I : Inv (cxOf CX0 P w K mg base N x (defScope st) f cd callerA [] t G E0) [] (start N vs) G t1 := inv_start S rfl e0 hlen r z
    refine wpAny_mono (ht.nox.run [] t1 (start N vs) G _ I hq) (fun fl t2 h2 => ?_) fun e t2 h2 => h2
    have ends : ∀ {σ' : L2.St} {G' : Hp} {v : V} {u : Value}, Inv (cxOf CX0 P w K mg base N x (defScope st) f cd callerA [] t G E0) [] σ' G' t2 → RelV v u → R v G' → CE [] P w G t R u t2 :=
      fun {σ' G' v u} J rv q => ⟨v, G', J.os, J.bare, J.base, J.hok, rv, q⟩
    cases fl with
    | ret u =>
      obtain ⟨v, σ', G', J, rv, q⟩ := h2
      exact ends J rv q
    | next =>
      obtain ⟨σ', G', J, q⟩ := h2
      exact ends (v := V.non) (u := Value.none) J rfl q
    | brk =>
      obtain ⟨_, _, _, q⟩ := h2
      exact q.elim
    | cont =>
      obtain ⟨_, _, _, q⟩ := h2
      exact q.elim
theorem root_call {P : Program} {w : World} {K : PySem.W.Frag} {mg mb : Str → Option Value} {fa a : Addr} {fd : FuncData} {x : Str} {sp : Sp} {t : Shared} {us : List Value} {ns : List Int}
    (kin : K.In t.heap) (hns : t.heap.Ns mainGlobals mg) (hbn : t.heap.Ns builtinsNs mb) (hbb : ∀ x : Str, x ≠ "__name__" → mb x = bootBuiltins x) (noL : t.heap.NoLimit) (hg : t.gens = #[])
    (ha : t.heap.get? a = some { cls := .type "list", data := .seq us.toArray }) (hi : IntsAre us ns) (hl : ns.length ≤ sizeLine)
    (F : ∀ base : Heap, K.In base → base.Ns mainGlobals mg → RootOk P w K mg base fa fd [x] sp) (hbind : ∀ (s : Shared) (u : Value), BindsTo s fd ⟨[u], []⟩ [(x, u)])
    (hsp : ∀ G : Hp, Only G → SqL K G a (ns.map V.int) → sp [.ref a] G (fun v _ => v = .bl true) E0) :
    codeAny (model P w) callerA (.call (.ref fa) ⟨[.ref a], []⟩) (fun r s' => r = .ok (.ret (.bool true)) ∧ OldK t.heap s'.heap ∧ s'.os = t.os ∧ AllBare s'.gens) t := by
  have rv := vals_ints hi
  have lenU := hi.length
  have main : ∀ G : Hp, Only G → SqL K G a (ns.map V.int) → HOk P w G t.heap → (∀ b, G b ≠ none → b = a) → (G a ≠ none → K.lookup a = none) →
      codeAny (model P w) callerA (.call (.ref fa) ⟨[.ref a], []⟩) (fun r s' => r = .ok (.ret (.bool true)) ∧ OldK t.heap s'.heap ∧ s'.os = t.os ∧ AllBare s'.gens) t := by
    intro G only seq ok onlyA notK
    have free : ∀ {b : Addr} {o : Obj} {es : Array DictEntry} {ep : Nat}, t.heap.get? b = some o → o.data = .dict es ep → G b = none := fun {b o es ep} e d => by
      cases q : G b with
      | none => rfl
      | some u =>
        obtain rfl : b = a := onlyA b (by rw [q]; simp)
        rw [ha] at e
        cases e
        cases (show Data.seq us.toArray _ = Data.dict es ep from d)
    have names : ∀ {b : Addr} {m : Str → Option Value}, t.heap.Ns b m → (hidT t.heap G).Ns b m := fun ⟨o, es, ep, e, d, r⟩ => ⟨o, es, ep, hidT_get e (free e d), d, r⟩
    have kinB : K.In (hidT t.heap G) := fun b o e => hidT_get (kin b o e) (by
      cases q : G b with
      | none => rfl
      | some u =>
        obtain rfl : b = a := onlyA b (by rw [q]; simp)
        rw [notK (by rw [q]; simp)] at e
        cases e)
    have md : Mod K mg (hidT t.heap G) := ⟨kinB, names hns, ⟨mb, names hbn, hbb⟩, by
      obtain ⟨mc, h1, h2⟩ := noL
      exact ⟨mc, names h1, h2⟩⟩
    have e0 : Env0 P w K mg (hidT t.heap G) callerA [] t G := ⟨rfl, md, fun b o e => of_hidT e, Nat.le_of_eq (hidT_size _ _), trivial, (fun b hb => by cases (show b ∈ ([] : List Addr) from hb)), ok, .of_eq hg⟩
    refine codeAny_mono (F _ kinB (names hns) t G ⟨[.ref a], []⟩ [.ref a] [.ref a] _ e0 (hbind t (.ref a)) (.cons rfl .nil) (hsp G only seq)) fun r s' h => ?_
    cases r with
    | error e => exact (show False from h).elim
    | ok fl =>
      cases fl with
      | next => exact (show False from h).elim
      | brk => exact (show False from h).elim
      | cont => exact (show False from h).elim
      | ret u =>
        obtain ⟨v, G', os, bare, un, ok', r', q⟩ := h
        obtain rfl : v = .bl true := q
        obtain rfl : u = Value.bool true := r'
        refine ⟨rfl, OldK.of_keep fun b o e => ?_, os, bare⟩
        cases q : G b with
        | none => exact un.keep b o e q (fun z => by cases (show b ∈ ([] : List Addr) from z)) (by simp)
        | some u =>
          rcases only b with z | ⟨ob, xs, z⟩
          · rw [q] at z
            cases z
          · have e1 := (ok b _ z).1
            have e2 := (ok' b _ (un.frzs b ob _ z)).1
            rw [e] at e1
            cases e1
            exact e2
  cases hk : K.lookup a with
  | some o =>
    have e := kin a o hk
    rw [ha] at e
    cases e
    exact main (fun _ => none) (fun _ => .inl rfl) (.inr ⟨_, us.toArray, _, hk, rfl, rfl, rfl, by rw [List.size_toArray, lenU]; exact hl, by simpa using rv⟩) (fun b u z => by cases (show (none : Option HO) = some u from z)) (fun b z => absurd rfl z) fun z => absurd rfl z
  | none =>
    refine main (fun b => if b = a then some (.frz { cls := .type "list", data := .seq us.toArray } (.lst (ns.map V.int))) else none) (fun b => ?_) (.inl (.inr ⟨{ cls := .type "list", data := .seq us.toArray }, if_pos rfl⟩)) (fun b u z => ?_) (fun b z => ?_) fun _ => hk
    · by_cases hb : b = a
      · exact .inr ⟨_, _, if_pos hb⟩
      · exact .inl (if_neg hb)
    · by_cases hb : b = a
      · subst hb
        cases (if_pos rfl).symm.trans z
        exact ⟨ha, by rw [List.length_map]; exact hl, us, _, rv, ha⟩
      · cases (if_neg hb).symm.trans z
    · by_cases hb : b = a
      · exact hb
      · exact absurd (if_neg hb) z
theorem root_walk {l : PySem.W.OpenLaw} {n : Nat} {q : Program} {loose : List Str} {XP : (Str → Option Value) → Heap → Prop} {YP : World → Heap → Prop} {d : DefRec} {x : Str}
    (hn : l.most = some n) (hn2 : n ≤ sizeLine) (hdf : d.params.defaults = [])
    (F : ∀ (w : World) (mg : Str → Option Value) (fa : Addr) (h : Heap), YP w h → h.Ns mainGlobals mg → mg d.name = some (.ref fa) →
      ∃ (K : PySem.W.Frag) (fd : FuncData) (sp : Sp), K.In h ∧ (∀ (s : Shared) (u : Value), BindsTo s fd ⟨[u], []⟩ [(x, u)]) ∧
        (∀ (G : Hp) (a : Addr) (ns : List Int), ns.length ≤ n → Only G → SqL K G a (ns.map V.int) → sp [.ref a] G (fun v _ => v = .bl true) E0) ∧
        ∀ base : Heap, K.In base → base.Ns mainGlobals mg → RootOk l.prog w K mg base fa fd [x] sp) :
    PySem.W.WalkO q loose XP YP l.row.toRowW d [] (fun f vs => PySem.call f vs) := by
  refine Att.attach_call hn hdf fun w s₀ t mg mb fa o pm cd doc a us ns G Y ho hd hcd hmg hobj hints hlen hg => ?_
  obtain ⟨K, fd, sp, kin, hb, hsp, hF⟩ := F w mg fa _ Y G.T.g hmg
  exact root_call kin G.T.g G.T.b G.T.builtins G.T.nolimit hg hobj hints (Nat.le_trans hlen hn2) hF hb (fun H hO hS => hsp H a ns hlen hO hS)
/-- repr of data: None, truths, numbers, texts, lists and tuples of these -/
theorem call_repr {X : Cx} (hg : X.A.guards = some []) (hu : X.A.units + 70 < cLine) : CallR X (.builtin "repr") (fun xs H Q => ∃ (x : V) (d : PyData), xs = [x] ∧ Dp X.K H x d ∧ d.showable = true ∧ d.hasDict = false ∧ d.depth ≤ 60 ∧ d.shown.length ≤ sizeLine ∧ Q (.str d.shown) H) := by
  intro pins s σ H xs us Q I r h
  obtain ⟨x, d, rfl, hd, hs, hh, hdep, hz, q⟩ := h
  obtain ⟨u, rfl, rx⟩ := vals1 r
  obtain ⟨as, rd⟩ := Dp.reads I d x u hd rx
  have hsys : d.hasDict = true → sysModules ∉ as := fun z => by
    rw [hh] at z
    cases z
  cases hd with
  | non =>
    cases rx
    exact P.repr_of_none ⟨.str _, H, I.tok _, ⟨_, rfl⟩, q⟩
  | bl b =>
    cases rx
    exact P.repr_of_bool ⟨.str _, H, I.tok _, ⟨_, rfl⟩, q⟩
  | int i =>
    obtain ⟨t, rfl⟩ := rx
    exact P.repr_of_int (of_decide_eq_true hs) ⟨.str _, H, I.tok _, ⟨_, rfl⟩, q⟩
  | str z =>
    obtain ⟨t, rfl⟩ := rx
    exact P.repr_of_str ⟨.str _, H, I.tok _, ⟨_, rfl⟩, q⟩ hz
  | lst _ _ =>
    cases rx
    exact repr_of_reads' rd hs hsys hg (by omega) (fun _ _ e => e) (fun h' u tk hk => ⟨.str _, H, I.kept hk, ⟨_, rfl⟩, q⟩) hz
  | tup _ _ =>
    cases rx
    exact repr_of_reads' rd hs hsys hg (by omega) (fun _ _ e => e) (fun h' u tk hk => ⟨.str _, H, I.kept hk, ⟨_, rfl⟩, q⟩) hz

namespace Rv
section
variable {prog : Program} {w : World} {A : Around} {E : Value → Shared → Prop} {s : Shared}
theorem adj (n : Nat) : Builtin.Slice.sliceAdjust none none (-1) (n : Int) = ((n : Int) - 1, -1) := by
  unfold Builtin.Slice.sliceAdjust
  rfl
theorem plc (n : Nat) : Builtin.Slice.slicePlaces ((n : Int) - 1) (-1) (-1) = n := by
  unfold Builtin.Slice.slicePlaces
  rw [if_neg (show ¬ ((-1 : Int) > 0) by decide)]
  by_cases h : (n : Int) - 1 > -1
  · rw [if_pos h, show (-(-1) : Int) = 1 by decide, Int.ediv_one]
    omega
  · rw [if_neg h]
    omega
theorem applied {sl : Addr} {vl vu vs : Value} {n : Nat} {Q : Int × Int × Nat → Shared → Prop} (hs : s.heap.IsSliceOf sl vl vu vs) (pl : IsPart vl none) (pu : IsPart vu none) (ps : IsPart vs (some (-1))) (h : Q ((n : Int) - 1, -1, n) s) :
    wpAny (model prog w) A (Builtin.Slice.sliceApplied (.ref sl) (pure (n : Int))) Q E s := by
  obtain ⟨os, ho, hc, hd⟩ := id hs
  unfold Builtin.Slice.sliceApplied Builtin.Slice.sliceFields
  refine wpAny_bind (wpAny_bind (wpAny_field ho hd (x := vl) rfl (wpAny_bind (wpAny_field ho hd (x := vu) rfl (wpAny_bind (wpAny_field ho hd (x := vs) rfl (wpAny_pure ?_)))))))
  refine wpAny_bind (HT.slicePart_ ps ?_)
  show wpAny _ _ (if ((-1 : Int) == 0) = true then _ else _) _ _ s
  rw [if_neg (show ¬ ((-1 : Int) == 0) = true by decide)]
  refine wpAny_bind (HT.slicePart_ pl (wpAny_bind (HT.slicePart_ pu (wpAny_bind (wpAny_pure ?_)))))
  show wpAny _ _ (match Builtin.Slice.sliceAdjust none none (-1) (n : Int) with | (lo, hi) => pure (lo, (-1 : Int), Builtin.Slice.slicePlaces lo hi (-1))) _ _ s
  rw [adj]
  show wpAny _ _ (pure ((n : Int) - 1, (-1 : Int), Builtin.Slice.slicePlaces ((n : Int) - 1) (-1) (-1))) _ _ s
  rw [plc]
  exact wpAny_pure h
theorem picked (xs : Array Value) : ((List.range xs.size).filterMap fun (m : Nat) => xs[(((xs.size : Int) - 1) + (m : Int) * (-1)).toNat]?).toArray = xs.toList.reverse.toArray := by
  refine congrArg List.toArray ?_
  rw [← PySem.W.krv_all xs, ← List.filterMap_reverse, ← PySem.W.krv_range, List.filterMap_map]
  refine congrArg (fun f => List.filterMap f (List.range xs.size)) (funext fun m => ?_)
  have e : (((xs.size : Int) - 1) + (m : Int) * (-1)).toNat = xs.size - 1 - m := by omega
  show xs[(((xs.size : Int) - 1) + (m : Int) * (-1)).toNat]? = xs[xs.size - 1 - m]?
  rw [e]
theorem item {t sl : Addr} {items : Array Value} {vl vu vs : Value} {Q : Value → Shared → Prop} (ht : IsTup s.heap t items) (hs : s.heap.IsSliceOf sl vl vu vs) (pl : IsPart vl none) (pu : IsPart vu none) (ps : IsPart vs (some (-1)))
    (h : Q (.ref s.heap.objs.size) { s with heap := s.heap.push { cls := .type "tuple", data := .seq items.toList.reverse.toArray } }) (hz : items.size ≤ sizeLine) : wpAny (model prog w) A (getItem (.ref t) (.ref sl)) Q E s := by
  have fits : sizeOk (.seq items.toList.reverse.toArray) := by
    show items.toList.reverse.toArray.size ≤ sizeLine
    rw [List.size_toArray, List.length_reverse, Array.length_toList]
    exact hz
  obtain ⟨os, ho, hc, hd⟩ := id hs
  have isSl : s.TypeIs (.ref sl) "slice" := ⟨os, ho, hc⟩
  unfold getItem
  try with_reducible refine wpAny_holding ?_
  first | refine wpAny_bind (wpAny_pure ?_) | skip
  refine wpAny_bind (m := _) (wpAny_sequenceKey ht.typeIs (by decide) ?_)
  refine wpAny_bind (wpAny_callSpecial?_slot (name := "__getitem__") ht.typeIs PyProof.Rows.slot_tuple_getitem (wpAny_call_entry PyProof.Rows.slot_tuple_getitem ht.typeIs entry_tuple_getitem ?_ (args_tuple_getitem _ _)))
  show wpAny _ _ (Builtin.Tuple.tupleItemsOf (.ref t) >>= _) _ _ s
  refine wpAny_bind (tupleItemsOf_ ht (wpAny_bind (wpAny_typeOf isSl ?_)))
  rw [if_pos (by decide)]
  refine wpAny_bind (applied hs pl pu ps ?_)
  show wpAny _ _ (if (((items.size : Int) - 1) == 0 && (-1 : Int) == 1 && items.size == items.size) = true then _ else _) _ _ s
  rw [if_neg (by rw [show ((-1 : Int) == 1) = false by decide, Bool.and_false, Bool.false_and]; exact Bool.false_ne_true), picked]
  first
    | exact wpAny_bind (m := Builtin.Tuple.tupleExact _) (wpAny_newObj_type (wpAny_pure ⟨_, rfl, wpAny_pure h⟩) fits)
    | exact wpAny_bind (m := Builtin.Tuple.tupleExact _) (wpAny_newObj_type (wpAny_bind (wpAny_pure (wpAny_pure ⟨_, rfl, wpAny_pure h⟩))) fits)
    | exact wpAny_bind (wpAny_bind (m := Builtin.Tuple.tupleExact _) (wpAny_newObj_type (wpAny_pure (wpAny_pure ⟨_, rfl, wpAny_pure h⟩)) fits))
    | exact wpAny_bind (wpAny_bind (m := Builtin.Tuple.tupleExact _) (wpAny_newObj_type (wpAny_pure ⟨_, rfl, wpAny_pure h⟩) fits))
end
end Rv
def tRevT (K : PySem.W.Frag) (te : TE) : TE := fun σ H Q => te σ H fun x H1 => ∃ a xs, x = .ref a ∧ SqT K H1 a xs ∧ ∀ p, H1 p = none → Q (.ref p) (upd H1 p (.tup xs.reverse))
theorem pe_revT {X : Cx} {e : Expr} {te : TE} {k : Nat} {p1 p2 p3 pos : Pos} (he : PE X e te) : PE X (.Subscript e (.Slice none none (some (.UnaryOp .USub (.Constant (.int 1) k p1) p2)) p3) pos) (tRevT X.K te) := by
  refine ⟨fun pins s σ H Q I h => ?_⟩
  refine Subscript_ (thn (he.run pins s σ H _ I h) fun v s1 ⟨x, H1, I1, r1, a, xs, ex, hx, q⟩ => ?_)
  subst ex
  cases r1
  have step : PO X (some (.UnaryOp .USub (.Constant (.int 1) k p1) p2)) (tPart (tUn (rU fun i => .int (-i)) (tC (.int 1)))) := po_some (pe_un un_neg pe_int)
  refine wpAny_Slice (thn (po_none.run pins s1 σ H1 (fun o G => o = none ∧ G = H1) I1 ⟨rfl, rfl⟩) fun vl s2 ⟨l, H2, I2, pl, el, e2⟩ => thn (po_none.run pins s2 σ H2 (fun o G => o = none ∧ G = H2) I2 ⟨rfl, rfl⟩) fun vu s3 ⟨u, H3, I3, pu, eu, e3⟩ => thn (step.run pins s3 σ H3 (fun o G => o = some (-1) ∧ G = H3) I3 ⟨1, rfl, -1, rfl, rfl, rfl⟩) fun vs s4 ⟨o, H4, I4, ps, eo, e4⟩ => ?_)
  subst el e2 eu e3 eo e4
  have I5 : Inv X pins σ H4 { s4 with heap := s4.heap.push { cls := .type "slice", data := .fields #[vl, vu, vs] } } := I4.kept (t' := s4.toks) fun b ob z => Heap.get?_push_of_some _ z
  obtain ⟨its, r, ht, hz⟩ := I5.tuple hx
  have hlen := r.length
  show wpAny (model X.prog X.w) X.A (subscriptTail e (.Slice none none (some (.UnaryOp .USub (.Constant (.int 1) k p1) p2)) p3) (.ref a) (.ref s4.heap.objs.size)) (EP X pins σ Q) X.xe { s4 with heap := s4.heap.push { cls := .type "slice", data := .fields #[vl, vu, vs] } }
  refine tail_any (ops := [.ref a, .ref s4.heap.objs.size]) ht.typeIs (PyProof.Rows.slot_tuple_getitem.lookup) ?_ (by with_unfolding_all rfl)
  refine Rv.item ht (Heap.IsSliceOf.new _ vl vu vs) pl pu ps ?_ (by rw [List.size_toArray]; omega)
  refine ⟨.ref _, _, I5.laid (t' := s4.toks) (o := .tup xs.reverse) (fun b ob z => Heap.get?_push_of_some _ z) (Nat.le_refl _) ?_, rfl, q _ (I5.hok.fresh (Nat.le_refl _))⟩
  exact ⟨by rw [List.length_reverse]; exact hz, its.reverse, r.reverse, IsTup.new _ _⟩

/-! ### the law's draws: d holds the script's numbers (a list at c), a place and three numbers -/
def Dr (d c : Addr) (H : Hp) : Prop := ∃ (cells : List Int) (i : Nat) (big seed cnt : Int), H d = some (.lst [.ref c, .int i, .int big, .int seed, .int cnt]) ∧ H c = some (.lst (cells.map V.int)) ∧ c ≠ d
theorem Dr.same {d c : Addr} {H H' : Hp} (h : Dr d c H) (s : Same H H') : Dr d c H' := by
  obtain ⟨cells, i, big, seed, cnt, h1, h2, h3⟩ := h
  exact ⟨cells, i, big, seed, cnt, s _ _ h1, s _ _ h2, h3⟩
theorem Dr.new {d c p : Addr} {H : Hp} {o : HO} (h : Dr d c H) (n : H p = none) : Dr d c (upd H p o) := h.same (same_new n)
theorem Dr.there {d c : Addr} {H : Hp} (h : Dr d c H) : ∃ xs, H d = some (.lst xs) := by
  obtain ⟨cells, i, big, seed, cnt, h1, h2, h3⟩ := h
  exact ⟨_, h1⟩
theorem Dr.dne {d c p : Addr} {H : Hp} (h : Dr d c H) (n : H p = none) : p ≠ d := by
  obtain ⟨_, h1⟩ := h.there
  exact (ne_of_none h1 n).symm
theorem Dr.cne {d c p : Addr} {H : Hp} (h : Dr d c H) (n : H p = none) : p ≠ c := by
  obtain ⟨cells, i, big, seed, cnt, h1, h2, h3⟩ := h
  exact (ne_of_none h2 n).symm
/-- another object than d and c is written -/
theorem Dr.else {d c p : Addr} {H : Hp} {o : HO} (h : Dr d c H) (n1 : p ≠ d) (n2 : p ≠ c) : Dr d c (upd H p o) := by
  obtain ⟨cells, i, big, seed, cnt, h1, h2, h3⟩ := h
  exact ⟨cells, i, big, seed, cnt, upd_else h1 n1.symm, upd_else h2 n2.symm, h3⟩
def rBegin (K : PySem.W.Frag) : V → Hp → VK → Prop := fun x H Q => ∃ (a : Addr) (ns : List Int), x = .ref a ∧ SqL K H a (ns.map V.int) ∧ ns.length ≤ 63 ∧
  ∀ (d c : Addr) (H' : Hp), Dr d c H' → Same H H' → Q (.ref d) H'
def rMixed : V → V → Hp → VK → Prop := fun x y H Q => ∃ (d c : Addr) (z : Int), x = .ref d ∧ y = .int z ∧ Dr d c H ∧ ∀ (r : Int) (H' : Hp), Dr d c H' → Keep d H H' → Q (.int r) H'
def rDraw : V → V → Hp → VK → Prop := fun x y H Q => ∃ (d c : Addr) (m : Int), x = .ref d ∧ y = .int m ∧ Dr d c H ∧ 0 < m ∧ m < 1000000000 ∧ ∀ (r : Int) (H' : Hp), 0 ≤ r → r < m → Dr d c H' → Keep d H H' → Q (.int r) H'
def rRare : V → V → Hp → VK → Prop := fun x y H Q => ∃ (d c : Addr) (m : Int), x = .ref d ∧ y = .int m ∧ Dr d c H ∧ 4 < m ∧ m < 1000000000 ∧ ∀ (r : Bool) (H' : Hp), Dr d c H' → Keep d H H' → Q (.bl r) H'
section
variable {P : Program} {w : World} {K : PySem.W.Frag} {mg : Str → Option Value} {base : Heap}
theorem ok_begin (T : Tx K mg) : FnOk P w K mg base CX0 1 T.f_begin T.fd_begin ["_law_script"] (sp1 (rBegin K)) := by
  refine okR1 T.F_begin sc_begin rfl fun cdv A outer s H Q E x hr h => ?_
  obtain ⟨a, ns, rfl, hS, h63, q⟩ := h
  refine ⟨_, pss_one (ps_ret (pe_lst (pa_cons (pe_lc (own := [("_law_cell", 1)]) (g := gName 1) (tt := tYes) rfl sc_begin.nd (pi_list (pv 0)) (blkOk_by (N := ["_law_script", "_law_cell"]) (sc := defScope s_begin) (by decide +kernel)) (fun _ _ _ _ _ => pg_name (i := 1) sc_begin.nd rfl (Or.inl rfl)) (fun _ _ _ _ _ => pts_nil) (fun _ _ _ _ _ => (pe_callTy call_int1 (by rfl) T.z_int (by decide +kernel) (pa_cons (pv 1) pa_nil)))) (pa_cons pe_int (pa_cons pe_int (pa_cons pe_int (pa_cons pe_int pa_nil))))))), ?_⟩
  refine ⟨_, rfl, a, rfl, ⟨_, hS⟩, fun D hD => lc_list (K := K) (a := a) (xs := ns.map V.int) (fun i H' => H' = upd H D (.lst ((ns.take i).map V.int))) rfl ?_ ?_ ?_⟩
  · rintro i H' _ rfl
    exact (same_new hD).seq hS
  · rintro i x H' hi rfl
    rw [List.getElem?_map] at hi
    obtain ⟨z, hz, rfl⟩ := Option.map_eq_some_iff.mp hi
    refine ⟨rfl, yes ?_⟩
    refine ⟨_, rfl, .inl ⟨_, rfl, ?_⟩⟩
    refine ⟨_, upd_same, ?_, ?_⟩
    · rw [List.length_map, List.length_take]
      exact small1000 (by omega)
    · rw [upd_upd, List.take_add_one, hz, List.map_append] <;> rfl
  · rintro H' rfl
    rw [show (List.map V.int ns).length = ns.length from List.length_map _, List.take_length]
    refine ⟨sl 5, fun p hp => ?_⟩
    have hDp : D ≠ p := ne_of_none upd_same hp
    exact q p D _ ⟨ns, 0, 0, 1234577, 0, upd_same, upd_else upd_same hDp, hDp⟩ ((same_new hD).trans (same_new hp))
theorem ok_mixed (T : Tx K mg) : FnOk P w K mg base CX0 1 T.f_mixed T.fd_mixed ["_law_d", "_law_cell"] (sp2 rMixed) := by
  refine okR2 T.F_mixed sc_mixed rfl fun cdv A outer s H Q E x y hr h => ?_
  obtain ⟨d, c, z, rfl, rfl, ⟨cells, i, big, seed, cnt, h1, h2, hn⟩, q⟩ := h
  refine ⟨_, pss_cons (ps_asg (pe_op op_add (pe_ix ix_list (pv 0) pe_int (fun _ _ => rfl)) pe_int) (pg_sub (pv 0) pe_int set_list))
      (pss_cons (ps_asg (pe_op op_mod (pe_callTy call_int1 (by rfl) T.z_int (by decide +kernel) (pa_cons (pe_op op_add (pe_op op_add (pe_op op_mul (pe_ix ix_list (pv 0) pe_int (fun _ _ => rfl)) pe_int) (pe_op op_mul (pe_op op_add (pv 1) (pe_ix ix_list (pv 0) pe_int (fun _ _ => rfl))) pe_int)) pe_int) pa_nil)) pe_int) (pg_sub (pv 0) pe_int set_list))
      (pss_cons (ps_asg (pe_op op_mod (pe_callTy call_int1 (by rfl) T.z_int (by decide +kernel) (pa_cons (pe_op op_add (pe_op op_add (pe_op op_mul (pe_ix ix_list (pv 0) pe_int (fun _ _ => rfl)) pe_int) (pe_op op_mul (pe_ix ix_list (pv 0) pe_int (fun _ _ => rfl)) pe_int)) pe_int) pa_nil)) pe_int) (pg_sub (pv 0) pe_int set_list))
      (pss_one (ps_ret (pe_op op_fdiv (pe_ix ix_list (pv 0) pe_int (fun _ _ => rfl)) pe_int))))), ?_⟩
  refine ⟨_, rfl, d, _, _, _, rfl, rfl, SqL.of h1, at_n 4 rfl, _, _, rfl, rfl, _, rfl, d, _, _, 4, rfl, rfl, h1, rfl, ?_⟩
  refine ⟨_, rfl, d, _, _, _, rfl, rfl, SqL.of upd_same, at_n 3 rfl, _, _, rfl, rfl, .inr (by decide), _, rfl, _, rfl, d, _, _, _, rfl, rfl, SqL.of upd_same, at_n 4 rfl, _, _, rfl, rfl, _, _, rfl, rfl, .inr (by decide), _, _, rfl, rfl, _, _, rfl, rfl, .inl ⟨_, rfl, ?_⟩⟩
  refine ⟨_, _, rfl, rfl, (by show (0 : Int) < 2147483647; decide), _, rfl, d, _, _, 3, rfl, rfl, upd_same, rfl, ?_⟩
  rw [upd_upd]
  refine ⟨_, rfl, d, _, _, _, rfl, rfl, SqL.of upd_same, at_n 3 rfl, _, _, rfl, rfl, .inr (by decide), _, rfl, d, _, _, _, rfl, rfl, SqL.of upd_same, at_n 4 rfl, _, _, rfl, rfl, .inr (by decide), _, _, rfl, rfl, _, _, rfl, rfl, .inl ⟨_, rfl, ?_⟩⟩
  refine ⟨_, _, rfl, rfl, (by show (0 : Int) < 2147483629; decide), _, rfl, d, _, _, 3, rfl, rfl, upd_same, rfl, ?_⟩
  rw [upd_upd]
  refine ⟨_, rfl, d, _, _, _, rfl, rfl, SqL.of upd_same, at_n 3 rfl, _, _, rfl, rfl, ⟨by decide, by decide⟩, ?_⟩
  exact q _ _ ⟨cells, i, big, _, _, upd_same, upd_else h2 hn, hn⟩ Keep.at
theorem ok_draw_digit (T : Tx K mg) : FnOk P w K mg base CX0 1 T.f_draw_digit T.fd_draw_digit ["_law_d", "_law_many"] (sp2 rDraw) := by
  refine okR2 T.F_draw_digit sc_draw_digit rfl fun cdv A outer s H Q E x y hr h => ?_
  obtain ⟨d, c, m, rfl, rfl, ⟨cells, i, big, seed, cnt, h1, h2, hn⟩, m0, m1, q⟩ := h
  refine ⟨_, pss_cons (ps_set (i := 2) sc_draw_digit.nd rfl (Or.inl rfl) (pe_callB call_divmod (by rfl) T.z_divmod (by decide +kernel) (pa_cons (pe_ix ix_list (pv 0) pe_int (fun _ _ => rfl)) (pa_cons (pv 1) pa_nil))))
      (pss_cons (ps_asg (pe_ix ix_tup (pv 2) pe_int (fun _ _ => rfl)) (pg_sub (pv 0) pe_int set_list))
      (pss_one (ps_ret (pe_ix ix_tup (pv 2) pe_int (fun _ _ => rfl))))), ?_⟩
  refine ⟨_, rfl, d, _, _, _, rfl, rfl, SqL.of h1, at_n 2 rfl, _, rfl, _, _, rfl, ⟨m0, by omega⟩, fun p hp => ?_⟩
  have hdp : d ≠ p := ne_of_none h1 hp
  have hcp : c ≠ p := ne_of_none h2 hp
  refine ⟨_, rfl, p, _, _, _, rfl, rfl, SqT.of upd_same, at_n 0 rfl, _, rfl, d, _, _, 2, rfl, rfl, upd_else h1 hdp, rfl, ?_⟩
  refine ⟨_, rfl, p, _, _, _, rfl, rfl, SqT.of (upd_else upd_same hdp.symm), at_n 1 rfl, ?_⟩
  refine q _ _ (Int.emod_nonneg _ (by omega)) (Int.emod_lt_of_pos _ m0) ⟨cells, i, _, seed, cnt, upd_same, upd_else (upd_else h2 hcp) hn, hn⟩ ((Keep.new hp).trans Keep.at)
theorem ok_draw (T : Tx K mg) : FnOk P w K mg base CX0 2 T.f_draw T.fd_draw ["_law_d", "_law_many"] (sp2 rDraw) := by
  refine okR2 T.F_draw sc_draw rfl fun cdv A outer s H Q E x y hr h => ?_
  obtain ⟨d, c, m, rfl, rfl, ⟨cells, i, big, seed, cnt, h1, h2, hn⟩, m0, m1, q⟩ := h
  have dr : Dr d c H := ⟨cells, i, big, seed, cnt, h1, h2, hn⟩
  refine ⟨_, pss_cons (ps_if (pt_cmpR op_gt (pe_ix ix_list (pv 0) pe_int (fun _ _ => rfl)) pe_int (nomark _)) (pss_one (ps_ret (pe_call (ok_draw_digit T) (hr.mono (by decide)) rfl T.m_draw_digit T.F_draw_digit.kp T.b_draw_digit .nil pass0 (pa_cons (pv 0) (pa_cons (pv 1) pa_nil))))) pss_nil)
      (pss_cons (ps_if (pt_cmpR op_lt (pe_ix ix_list (pv 0) pe_int (fun _ _ => rfl)) (pe_callB call_len_seq (by rfl) T.z_len (by decide +kernel) (pa_cons (pe_ix ix_list (pv 0) pe_int (fun _ _ => rfl)) pa_nil)) (nomark _)) (pss_cons (ps_set (i := 2) sc_draw.nd rfl (Or.inl rfl) (pe_ix ix_list (pe_ix ix_list (pv 0) pe_int (fun _ _ => rfl)) (pe_ix ix_list (pv 0) pe_int (fun _ _ => rfl)) (fun _ _ => rfl)))
      (pss_cons (ps_asg (pe_op op_add (pe_ix ix_list (pv 0) pe_int (fun _ _ => rfl)) pe_int) (pg_sub (pv 0) pe_int set_list))
      (pss_cons (ps_if (pt_cmpR op_ge (pe_callB call_abs (by rfl) T.z_abs (by decide +kernel) (pa_cons (pv 2) pa_nil)) (pe_op op_pow pe_int pe_int) (nomark _)) (pss_cons (ps_asg (pe_op op_and (pe_op op_fdiv (pe_callB call_abs (by rfl) T.z_abs (by decide +kernel) (pa_cons (pv 2) pa_nil)) pe_int) (pe_op op_sub (pe_op op_shl pe_int pe_int) pe_int)) (pg_sub (pv 0) pe_int set_list))
      (pss_one (ps_ret (pe_call (ok_draw_digit T) (hr.mono (by decide)) rfl T.m_draw_digit T.F_draw_digit.kp T.b_draw_digit .nil pass0 (pa_cons (pv 0) (pa_cons (pv 1) pa_nil)))))) pss_nil)
      (pss_one (ps_ret (pe_op op_mod (pe_callTy call_int1 (by rfl) T.z_int (by decide +kernel) (pa_cons (pe_call (ok_mixed T) (hr.mono (by decide)) rfl T.m_mixed T.F_mixed.kp T.b_mixed .nil pass0 (pa_cons (pv 0) (pa_cons (pv 2) pa_nil))) pa_nil)) (pv 1))))))) pss_nil)
      (pss_one (ps_ret (pe_op op_mod (pe_callTy call_int1 (by rfl) T.z_int (by decide +kernel) (pa_cons (pe_call (ok_mixed T) (hr.mono (by decide)) rfl T.m_mixed T.F_mixed.kp T.b_mixed .nil pass0 (pa_cons (pv 0) (pa_cons pe_int pa_nil))) pa_nil)) (pv 1))))), ?_⟩
  -- if d[2] > 0
  refine ⟨_, rfl, d, _, _, _, rfl, rfl, SqL.of h1, at_n 2 rfl, _, _, rfl, rfl, _, rfl, ite2 (fun _ => ?_) (fun _ => ?_)⟩
  · exact ⟨_, rfl, _, rfl, _, _, rfl, d, c, m, rfl, rfl, dr, m0, m1, q⟩
  -- if d[1] < len(d[0])
  refine ⟨_, rfl, d, _, _, _, rfl, rfl, SqL.of h1, at_n 1 rfl, _, rfl, d, _, _, _, rfl, rfl, SqL.of h1, at_n 0 rfl, c, _, rfl, .inl (SqL.of h2), _, _, rfl, rfl, _, rfl, ite2 (fun hc => ?_) (fun _ => ?_)⟩
  · have hi : i < cells.length := by
      have e : (i : Int) < ((cells.map V.int).length : Int) := of_decide_eq_true hc
      rw [List.length_map] at e
      omega
    obtain ⟨z, hz⟩ : ∃ z, cells[i]? = some z := ⟨cells[i], List.getElem?_eq_getElem hi⟩
    have hz' : (cells.map V.int)[i]? = some (.int z) := by
      rw [List.getElem?_map, hz]
      rfl
    -- cell = d[0][d[1]]; d[1] = d[1] + 1
    refine ⟨_, rfl, d, _, _, _, rfl, rfl, SqL.of h1, at_n 0 rfl, _, rfl, d, _, _, _, rfl, rfl, SqL.of h1, at_n 1 rfl, c, _, _, _, rfl, rfl, SqL.of h2, at_n i hz', ?_⟩
    refine ⟨_, rfl, d, _, _, _, rfl, rfl, SqL.of h1, at_n 1 rfl, _, _, rfl, rfl, _, rfl, d, _, _, 1, rfl, rfl, h1, rfl, ?_⟩
    have dr1 : Dr d c (upd H d (.lst [.ref c, .int (i + 1), .int big, .int seed, .int cnt])) := ⟨cells, i + 1, big, seed, cnt, upd_same, upd_else h2 hn, hn⟩
    -- if abs(cell) >= 10 ** 18
    refine ⟨_, rfl, _, rfl, _, _, rfl, rfl, ⟨by decide, by decide, by decide⟩, _, _, rfl, rfl, _, rfl, ite2 (fun _ => ?_) (fun _ => ?_)⟩
    · refine ⟨_, rfl, _, rfl, _, _, rfl, rfl, ⟨by decide, by decide⟩, _, _, rfl, rfl, ⟨by decide, by decide, by decide⟩, _, _, rfl, rfl, _, _, rfl, rfl, _, rfl, d, _, _, 2, rfl, rfl, upd_same, rfl, ?_⟩
      rw [upd_upd]
      refine ⟨_, rfl, _, rfl, _, _, rfl, d, c, m, rfl, rfl, ⟨cells, i + 1, _, seed, cnt, upd_same, upd_else h2 hn, hn⟩, m0, m1, fun r H' r0 r1 dr' kp => ?_⟩
      exact q r H' r0 r1 dr' (Keep.at.trans kp)
    · refine ⟨_, rfl, _, rfl, _, _, rfl, d, c, z, rfl, rfl, dr1, fun r H' dr' kp => .inl ⟨_, rfl, ?_⟩⟩
      exact ⟨_, rfl, _, _, rfl, rfl, m0, q _ _ (Int.emod_nonneg _ (by omega)) (Int.emod_lt_of_pos _ m0) dr' (Keep.at.trans kp)⟩
  · refine ⟨_, rfl, _, _, rfl, d, c, 7, rfl, rfl, dr, fun r H' dr' kp => .inl ⟨_, rfl, ?_⟩⟩
    exact ⟨_, rfl, _, _, rfl, rfl, m0, q _ _ (Int.emod_nonneg _ (by omega)) (Int.emod_lt_of_pos _ m0) dr' kp⟩
end

/-! ### rates -/
/-- a layer: none for an «is», otherwise the two numbers of an «every» -/
abbrev Lay : Type := Option (Int × Int)
def good : Lay → Prop
  | none => True
  | some (n, k) => 1 ≤ n ∧ n ≤ 12 ∧ 0 ≤ k ∧ k < n
def LayV (H : Hp) (v : V) : Lay → Prop
  | none => ∃ a r, v = .ref a ∧ H a = some (.tup (.str "is" :: r))
  | some (n, k) => ∃ a h, v = .ref a ∧ H a = some (.tup [.str "every", .int n, .int k, h])
def ClkV (H : Hp) (v : V) (ls : List Lay) : Prop := ∃ a vs, v = .ref a ∧ H a = some (.tup vs) ∧ Paired (LayV H) vs ls
/-- tuples stay -/
def TS (H H' : Hp) : Prop := ∀ b xs, H b = some (.tup xs) → H' b = some (.tup xs)
theorem TS.of {H H' : Hp} (s : Same H H') : TS H H' := fun b xs e => s b _ e
theorem TS.keep {d : Addr} {H H' : Hp} (k : Keep d H H') (h : ∃ xs, H d = some (.lst xs)) : TS H H' := fun b xs e => by
  obtain ⟨ys, h⟩ := h
  refine k b _ e ?_
  rintro rfl
  rw [h] at e
  cases e
theorem TS.trans {H H1 H2 : Hp} (a : TS H H1) (b : TS H1 H2) : TS H H2 := fun c o h => b c o (a c o h)
theorem TS.upd {H : Hp} {l : Addr} {xs : List V} {o : HO} (h : H l = some (.lst xs)) : TS H (upd H l o) := fun b ys e => by
  refine upd_else e ?_
  rintro rfl
  rw [h] at e
  cases e
theorem LayV.mono {H H' : Hp} {v : V} {l : Lay} (s : TS H H') (h : LayV H v l) : LayV H' v l := by
  match l, h with
  | none, ⟨a, r, e, h⟩ => exact ⟨a, r, e, s _ _ h⟩
  | some (n, k), ⟨a, r, e, h⟩ => exact ⟨a, r, e, s _ _ h⟩
theorem ClkV.mono {H H' : Hp} {v : V} {ls : List Lay} (s : TS H H') (h : ClkV H v ls) : ClkV H' v ls := by
  obtain ⟨a, vs, e, h1, h2⟩ := h
  exact ⟨a, vs, e, s _ _ h1, Paired.mapP h2 fun x y z => LayV.mono s z⟩
theorem Paired.at {α β : Type} {F : α → β → Prop} : ∀ {xs : List α} {ys : List β} {i : Nat} {x : α}, Paired F xs ys → xs[i]? = some x → ∃ y, ys[i]? = some y ∧ F x y
  | _, _, _, _, .nil, e => by simp at e
  | _, _, 0, _, .cons r _, e => by
    simp at e
    subst e
    exact ⟨_, rfl, r⟩
  | _, _, i + 1, x, .cons _ t, e => by
    obtain ⟨u, h1, h2⟩ := Paired.at (i := i) (x := x) t (by simpa using e)
    exact ⟨u, by simpa using h1, h2⟩
theorem Paired.at' {α β : Type} {F : α → β → Prop} : ∀ {xs : List α} {ys : List β} {i : Nat} {y : β}, Paired F xs ys → ys[i]? = some y → ∃ x, xs[i]? = some x ∧ F x y
  | _, _, _, _, .nil, e => by simp at e
  | _, _, 0, _, .cons r _, e => by
    simp at e
    subst e
    exact ⟨_, rfl, r⟩
  | _, _, i + 1, x, .cons _ t, e => by
    obtain ⟨u, h1, h2⟩ := Paired.at' (i := i) (y := x) t (by simpa using e)
    exact ⟨u, by simpa using h1, h2⟩
theorem Paired.app {α β : Type} {F : α → β → Prop} : ∀ {xs xs' : List α} {ys ys' : List β}, Paired F xs ys → Paired F xs' ys' → Paired F (xs ++ xs') (ys ++ ys')
  | _, _, _, _, .nil, s => s
  | _, _, _, _, .cons r t, s => .cons r (Paired.app t s)
theorem Paired.tk {α β : Type} {F : α → β → Prop} : ∀ {xs : List α} {ys : List β} (n : Nat), Paired F xs ys → Paired F (xs.take n) (ys.take n)
  | _, _, 0, _ => .nil
  | _, _, _ + 1, .nil => .nil
  | _, _, n + 1, .cons r t => .cons r (Paired.tk n t)
theorem Paired.dp {α β : Type} {F : α → β → Prop} : ∀ {xs : List α} {ys : List β} (n : Nat), Paired F xs ys → Paired F (xs.drop n) (ys.drop n)
  | _, _, 0, r => r
  | _, _, _ + 1, .nil => .nil
  | _, _, n + 1, .cons _ t => Paired.dp n t
theorem Paired.rev {α β : Type} {F : α → β → Prop} : ∀ {xs : List α} {ys : List β}, Paired F xs ys → Paired F xs.reverse ys.reverse
  | _, _, .nil => .nil
  | _, _, .cons r t => by
    rw [List.reverse_cons, List.reverse_cons]
    exact Paired.app (Paired.rev t) (.cons r .nil)
/-- what the program finds: from the first layer to the last -/
def fwd : Int → Int → List Lay → Option (Int × Int)
  | n, k, [] => some (n, k)
  | _, _, none :: _ => none
  | n, k, some (m, j) :: r => fwd (n * m) (k + n * j) r
/-- what the law finds: from the last layer to the first -/
def bwd : List (Int × Int) → Int × Int
  | [] => (1, 0)
  | (m, j) :: r => (m * (bwd r).1, j + m * (bwd r).2)
theorem fwd_bwd : ∀ (r : List (Int × Int)) (n k : Int), fwd n k (r.map some) = some (n * (bwd r).1, k + n * (bwd r).2)
  | [], n, k => by
    show some (n, k) = some (n * 1, k + n * 0)
    rw [Int.mul_one, Int.mul_zero, Int.add_zero]
  | (m, j) :: r, n, k => by
    show fwd (n * m) (k + n * j) (r.map some) = some (n * (m * (bwd r).1), k + n * (j + m * (bwd r).2))
    rw [fwd_bwd r, Int.mul_assoc, Int.mul_assoc, Int.mul_add, Int.add_assoc]
theorem fwd_none : ∀ (ls : List Lay) (n k : Int), none ∈ ls → fwd n k ls = none
  | none :: _, _, _, _ => rfl
  | some (m, j) :: r, n, k, h => by
    rcases List.mem_cons.mp h with h | h
    · cases h
    · exact fwd_none r _ _ h
theorem all_some : ∀ (ls : List Lay), ¬ none ∈ ls → ∃ r : List (Int × Int), ls = r.map some
  | [], _ => ⟨[], rfl⟩
  | none :: r, h => absurd (by simp) h
  | some p :: r, h => by
    obtain ⟨q, hq⟩ := all_some r fun z => h (List.mem_cons_of_mem _ z)
    exact ⟨p :: q, by rw [hq]; rfl⟩
def RateV (H : Hp) (v : V) : Option (Int × Int) → Prop
  | none => v = .non
  | some (n, k) => ∃ p, v = .ref p ∧ H p = some (.tup [.int n, .int k])

def rSlowed : V → V → V → Hp → VK → Prop := fun x y z H Q => ∃ (a : Addr) (n k m j : Int), x = .ref a ∧ H a = some (.tup [.int n, .int k]) ∧ y = .int m ∧ z = .int j ∧ 1 ≤ m ∧ m ≤ 12 ∧ 0 ≤ j ∧ j < m ∧ ∀ p, H p = none → Q (.ref p) (upd H p (.tup [.int (n * m), .int (k + n * j)]))
def rRateOf : V → Hp → VK → Prop := fun x H Q => ∃ ls : List Lay, ClkV H x ls ∧ (∀ l ∈ ls, good l) ∧ ∀ (v : V) (H' : Hp), Same H H' → RateV H' v (fwd 1 0 ls) → Q v H'
section
variable {P : Program} {w : World} {K : PySem.W.Frag} {mg : Str → Option Value} {base : Heap}
theorem ok_slowed (T : Tx K mg) : FnOk P w K mg base CX0 1 T.f_slowed T.fd_slowed ["rate", "many", "start"] (sp3 rSlowed) := by
  refine okR3 T.F_slowed sc_slowed rfl fun cdv A outer s H Q E x y z hr h => ?_
  obtain ⟨a, n, k, m, j, rfl, ha, rfl, rfl, m1, m2, j1, j2, q⟩ := h
  refine ⟨_, pss_cons (ps_asg (pv 0) (pg_tup rfl (pgs_cons (pg_name (i := 3) sc_slowed.nd rfl (Or.inl rfl)) (pgs_cons (pg_name (i := 4) sc_slowed.nd rfl (Or.inl rfl)) pgs_nil))))
      (pss_one (ps_ret (pe_tup (pa_cons (pe_op op_mul (pv 3) (pv 1)) (pa_cons (pe_op op_add (pv 4) (pe_op op_mul (pv 3) (pv 2))) pa_nil))))), ?_⟩
  refine ⟨_, rfl, a, _, rfl, SqT.of ha, rfl, _, _, rfl, _, _, rfl, rfl, ?_⟩
  exact ⟨_, rfl, _, rfl, _, _, rfl, rfl, .inr ⟨by omega, by omega⟩, _, rfl, _, rfl, _, rfl, _, _, rfl, rfl, .inr ⟨by omega, by omega⟩, _, _, rfl, rfl, sl 2, fun p hp => q p hp⟩
theorem str_ne {x y : Str} (h : x ≠ y) : decide (V.str x = V.str y) = false := decide_eq_false fun z => h (V.str.inj z)
theorem ok_rate_of (T : Tx K mg) : FnOk P w K mg base CX0 2 T.f_rate_of T.fd_rate_of ["clock"] (sp1 rRateOf) := by
  refine okR1 T.F_rate_of sc_rate_of rfl fun cdv A outer s H Q E x hr h => ?_
  obtain ⟨ls, ⟨a, vs, rfl, ha, hp⟩, hg, q⟩ := h
  have hlen := Paired.length hp
  refine ⟨_, pss_cons (ps_set (i := 1) sc_rate_of.nd rfl (Or.inl rfl) (pe_tup (pa_cons pe_int (pa_cons pe_int pa_nil))))
      (pss_cons (ps_for PassesOwn.never rfl (pi_tup (pv 0)) (pg_name (i := 2) sc_rate_of.nd rfl (Or.inl rfl))
      (pss_cons (ps_if (pt_cmpR op_eq (pe_ix ix_tup (pv 2) pe_int (fun _ _ => rfl)) pe_str (nomark _)) (pss_one (ps_ret pe_non)) pss_nil)
      (pss_one (ps_set (i := 1) sc_rate_of.nd rfl (Or.inl rfl) (pe_call (ok_slowed T) (hr.mono (by decide)) rfl T.m_slowed T.F_slowed.kp T.b_slowed .nil pass0 (pa_cons (pv 1) (pa_cons (pe_ix ix_tup (pv 2) pe_int (fun _ _ => rfl)) (pa_cons (pe_ix ix_tup (pv 2) pe_int (fun _ _ => rfl)) pa_nil))))))))
      (pss_one (ps_ret (pv 1)))), ?_⟩
  refine ⟨sl 2, fun r0 hr0 => ?_⟩
  have s0 : Same H (upd H r0 (.tup [.int 1, .int 0])) := same_new hr0
  refine ⟨_, rfl, a, rfl, ⟨_, SqT.of (s0 _ _ ha)⟩, for_tup (K := K) (a := a) (xs := vs) (fun i σ H' => ∃ (r : Addr) (n k : Int) (v : Option V), σ = [some (.ref a), some (.ref r), v] ∧ H' r = some (.tup [.int n, .int k]) ∧ Same H H' ∧ fwd 1 0 ls = fwd n k (ls.drop i))
    ⟨r0, 1, 0, none, rfl, upd_same, s0, rfl⟩ (fun i σ H' _ ⟨_, _, _, _, _, _, s1, _⟩ => SqT.of (s1 _ _ ha)) ?_ ?_⟩
  · rintro i x σ H' hx ⟨r, n, k, v, rfl, h1, s1, h2⟩
    obtain ⟨l, hl, hv⟩ := Paired.at hp hx
    have hd : ls.drop i = l :: ls.drop (i + 1) := by
      obtain ⟨hlt, e⟩ := List.getElem?_eq_some_iff.mp hl
      rw [← e]
      exact List.drop_eq_getElem_cons hlt
    rw [hd] at h2
    have hgl := hg l (List.mem_of_getElem? hl)
    match l, hv, hgl, h2 with
    | none, ⟨b, r', e, hb⟩, _, h2 =>
      subst e
      refine ⟨_, rfl, b, _, _, _, rfl, rfl, SqT.of (s1 _ _ hb), at_n 0 rfl, rfl, _, rfl, ?_⟩
      rw [decide_eq_true (show V.str "is" = V.str "is" from rfl)]
      refine iteT (q .non H' s1 ?_)
      rw [h2]
      rfl
    | some (m, j), ⟨b, h, e, hb⟩, ⟨g1, g2, g3, g4⟩, h2 =>
      subst e
      refine ⟨_, rfl, b, _, _, _, rfl, rfl, SqT.of (s1 _ _ hb), at_n 0 rfl, rfl, _, rfl, ?_⟩
      rw [str_ne (by decide +kernel)]
      refine iteF ?_
      exact ⟨_, rfl, _, rfl, b, _, _, _, rfl, rfl, SqT.of (s1 _ _ hb), at_n 1 rfl, _, rfl, b, _, _, _, rfl, rfl, SqT.of (s1 _ _ hb), at_n 2 rfl, _, _, _, rfl, r, n, k, m, j, rfl, h1, rfl, rfl, g1, g2, g3, g4, fun p hp =>
        ⟨p, _, _, _, rfl, upd_same, s1.trans (same_new hp), h2⟩⟩
  · rintro σ H' ⟨r, n, k, v, rfl, h1, s1, h2⟩
    rw [List.drop_eq_nil_of_le (by omega)] at h2
    refine ⟨_, rfl, q _ H' s1 ?_⟩
    rw [h2]
    exact ⟨r, rfl, h1⟩
end

/-! ### the ticks that a clock lets by -/
def hit (n k t : Int) : Bool := decide (k ≤ t) && decide ((t - k) % n = 0)
def cnt (n k t : Int) : Int := (t - k + (n - 1)) / n
theorem hit_iff {n k t : Int} (hn : 1 ≤ n) : hit n k t = true ↔ ∃ q, 0 ≤ q ∧ t = k + n * q := by
  unfold hit
  rw [Bool.and_eq_true, decide_eq_true_iff, decide_eq_true_iff]
  constructor
  · rintro ⟨h1, h2⟩
    refine ⟨(t - k) / n, Int.ediv_nonneg (by omega) (by omega), ?_⟩
    have := Int.mul_ediv_add_emod (t - k) n
    omega
  · rintro ⟨q, h1, rfl⟩
    have h2 : 0 ≤ n * q := Int.mul_nonneg (by omega) h1
    refine ⟨by omega, ?_⟩
    rw [show k + n * q - k = n * q by omega]
    exact Int.mul_emod_right n q
theorem cnt_hit {n k q : Int} (hn : 1 ≤ n) : cnt n k (k + n * q) = q ∧ cnt n k (k + n * q + 1) = q + 1 := by
  unfold cnt
  constructor
  · rw [show k + n * q - k + (n - 1) = (n - 1) + n * q by omega, Int.add_mul_ediv_left _ _ (by omega), Int.ediv_eq_zero_of_lt (by omega) (by omega)]
    omega
  · rw [show k + n * q + 1 - k + (n - 1) = n * q + n * 1 by omega, ← Int.mul_add, Int.mul_ediv_cancel_left _ (by omega)]
theorem cnt_miss {n k t : Int} (hn : 1 ≤ n) (hk : 0 ≤ k) (hkn : k < n) (ht : 0 ≤ t) (h : hit n k t = false) : cnt n k (t + 1) = cnt n k t := by
  have hne : (t - k) % n ≠ 0 := by
    intro e
    have hd := Int.mul_ediv_add_emod (t - k) n
    rw [e] at hd
    have hq : hit n k t = true := by
      rw [hit_iff hn]
      refine ⟨(t - k) / n, ?_, by omega⟩
      by_cases hz : 0 ≤ (t - k) / n
      · exact hz
      · have h1 : n * ((t - k) / n) ≤ n * (-1) := Int.mul_le_mul_of_nonneg_left (by omega) (by omega)
        omega
    rw [h] at hq
    cases hq
  unfold cnt
  have hd := Int.mul_ediv_add_emod (t - k) n
  have h0 := Int.emod_nonneg (t - k) (show n ≠ 0 by omega)
  have h1 := Int.emod_lt_of_pos (t - k) (show 0 < n by omega)
  generalize (t - k) / n = y at hd
  generalize (t - k) % n = z at hd h0 h1 hne
  rw [show t + 1 - k + (n - 1) = z + n * (y + 1) by rw [Int.mul_add]; omega, show t - k + (n - 1) = (z - 1) + n * (y + 1) by rw [Int.mul_add]; omega, Int.add_mul_ediv_left _ _ (by omega), Int.add_mul_ediv_left _ _ (by omega), Int.ediv_eq_zero_of_lt h0 h1, Int.ediv_eq_zero_of_lt (by omega) (by omega)]
/-- the next layer lets by: so many ticks of the layers ahead were there -/
theorem hit_next {n k m j q : Int} (hn : 1 ≤ n) (hm : 1 ≤ m) : hit (n * m) (k + n * j) (k + n * q) = hit m j q := by
  have hnm : 1 ≤ n * m := by
    have := Int.mul_le_mul_of_nonneg_left hm (show 0 ≤ n by omega)
    omega
  rw [Bool.eq_iff_iff, hit_iff hnm, hit_iff hm]
  constructor
  · rintro ⟨y, h1, h2⟩
    refine ⟨y, h1, ?_⟩
    have h3 : n * q = n * (j + m * y) := by
      rw [Int.mul_add, ← Int.mul_assoc]
      omega
    exact Int.eq_of_mul_eq_mul_left (by omega) h3
  · rintro ⟨y, h1, rfl⟩
    refine ⟨y, h1, ?_⟩
    rw [Int.mul_add, Int.mul_assoc]
    omega
theorem hit_off {n k m j t : Int} (hn : 1 ≤ n) (hm : 1 ≤ m) (hj : 0 ≤ j) (h : hit n k t = false) : hit (n * m) (k + n * j) t = false := by
  have hnm : 1 ≤ n * m := by
    have := Int.mul_le_mul_of_nonneg_left hm (show 0 ≤ n by omega)
    omega
  cases e : hit (n * m) (k + n * j) t with
  | false => rfl
  | true =>
    obtain ⟨y, h1, h2⟩ := (hit_iff hnm).mp e
    have : hit n k t = true := by
      refine (hit_iff hn).mpr ⟨j + m * y, Int.add_nonneg hj (Int.mul_nonneg (by omega) h1), ?_⟩
      rw [h2, Int.mul_add, Int.mul_assoc]
      omega
    rw [h] at this
    cases this
def cnts (n k : Int) : List (Int × Int) → Int → List Int
  | [], _ => []
  | (m, j) :: r, t => cnt n k t :: cnts (n * m) (k + n * j) r t
theorem cnts_len : ∀ (ps : List (Int × Int)) (n k t : Int), (cnts n k ps t).length = ps.length
  | [], _, _, _ => rfl
  | (m, j) :: r, n, k, t => congrArg Nat.succ (cnts_len r (n * m) (k + n * j) t)
def goodP (p : Int × Int) : Prop := 1 ≤ p.1 ∧ p.1 ≤ 12 ∧ 0 ≤ p.2 ∧ p.2 < p.1
theorem step_ok {n k m j : Int} (hn : 1 ≤ n) (hk : 0 ≤ k) (hkn : k < n) (g : goodP (m, j)) : 1 ≤ n * m ∧ 0 ≤ k + n * j ∧ k + n * j < n * m := by
  obtain ⟨g1, _, g3, g4⟩ := g
  have g1' : 1 ≤ m := g1
  have g3' : 0 ≤ j := g3
  have g4' : j < m := g4
  have h1 : n * 1 ≤ n * m := Int.mul_le_mul_of_nonneg_left g1' (by omega)
  have h2 : 0 ≤ n * j := Int.mul_nonneg (by omega) g3'
  have h3 : n * (j + 1) ≤ n * m := Int.mul_le_mul_of_nonneg_left (by omega) (by omega)
  rw [Int.mul_add] at h3
  omega
theorem cnts_zero : ∀ (ps : List (Int × Int)) (n k : Int), 1 ≤ n → 0 ≤ k → k < n → (∀ p ∈ ps, goodP p) → cnts n k ps 0 = ps.map fun _ => (0 : Int)
  | [], _, _, _, _, _, _ => rfl
  | (m, j) :: r, n, k, hn, hk, hkn, g => by
    obtain ⟨s1, s2, s3⟩ := step_ok hn hk hkn (g (m, j) (by simp))
    show cnt n k 0 :: cnts (n * m) (k + n * j) r 0 = 0 :: r.map fun _ => (0 : Int)
    rw [cnts_zero r (n * m) (k + n * j) s1 s2 s3 fun p hp => g p (List.mem_cons_of_mem _ hp)]
    have e : cnt n k 0 = 0 := by
      unfold cnt
      exact Int.ediv_eq_zero_of_lt (by omega) (by omega)
    rw [e]
theorem bwd_ok : ∀ (ps : List (Int × Int)), (∀ p ∈ ps, goodP p) → 1 ≤ (bwd ps).1 ∧ 0 ≤ (bwd ps).2 ∧ (bwd ps).2 < (bwd ps).1
  | [], _ => by
    show (1 : Int) ≤ 1 ∧ (0 : Int) ≤ 0 ∧ (0 : Int) < 1
    omega
  | (m, j) :: r, g => by
    obtain ⟨g1, _, g3, g4⟩ := g (m, j) (by simp)
    have g1' : 1 ≤ m := g1
    have g3' : 0 ≤ j := g3
    have g4' : j < m := g4
    obtain ⟨h1, h2, h3⟩ := bwd_ok r fun p hp => g p (List.mem_cons_of_mem _ hp)
    show 1 ≤ m * (bwd r).1 ∧ 0 ≤ j + m * (bwd r).2 ∧ j + m * (bwd r).2 < m * (bwd r).1
    have e1 : m * 1 ≤ m * (bwd r).1 := Int.mul_le_mul_of_nonneg_left h1 (by omega)
    have e2 : 0 ≤ m * (bwd r).2 := Int.mul_nonneg (by omega) h2
    have e3 : m * ((bwd r).2 + 1) ≤ m * (bwd r).1 := Int.mul_le_mul_of_nonneg_left (by omega) (by omega)
    rw [Int.mul_add] at e3
    omega
theorem bwd_lt : ∀ (ps : List (Int × Int)), (∀ p ∈ ps, goodP p) → (bwd ps).1 < 2 ^ (4 * ps.length + 1)
  | [], _ => by
    show (1 : Int) < 2
    decide
  | (m, j) :: r, g => by
    obtain ⟨g1, g2, _, _⟩ := g (m, j) (by simp)
    have g2' : m ≤ 12 := g2
    have h := bwd_lt r fun p hp => g p (List.mem_cons_of_mem _ hp)
    obtain ⟨h1, _, _⟩ := bwd_ok r fun p hp => g p (List.mem_cons_of_mem _ hp)
    show m * (bwd r).1 < 2 ^ (4 * (r.length + 1) + 1)
    rw [show 4 * (r.length + 1) + 1 = (4 * r.length + 1) + 4 by omega, Int.pow_add]
    have e : m * (bwd r).1 ≤ 12 * (bwd r).1 := Int.mul_le_mul_of_nonneg_right g2' (by omega)
    have e2 : (2 : Int) ^ 4 = 16 := by decide
    rw [e2]
    omega
/-- the ticks that were let by so far -/
def foundAt (n k t : Int) : List Int := if t ≤ k then [] else if t ≤ k + n then [k] else [k, k + n]
theorem found_step {n k t : Int} (hn : 1 ≤ n) (hk : 0 ≤ k) (ht : 0 ≤ t) (h2 : t < k + 2 * n) : foundAt n k (t + 1) = if hit n k t = true then foundAt n k t ++ [t] else foundAt n k t := by
  by_cases h : hit n k t = true
  · rw [if_pos h]
    obtain ⟨q, h1, rfl⟩ := (hit_iff hn).mp h
    have hq : q = 0 ∨ q = 1 := by
      by_cases hz : q < 2
      · omega
      · have : n * 2 ≤ n * q := Int.mul_le_mul_of_nonneg_left (by omega) (by omega)
        omega
    rcases hq with rfl | rfl
    · unfold foundAt
      rw [Int.mul_zero, Int.add_zero, if_neg (by omega), if_pos (by omega), if_pos (Int.le_refl k)]
      rfl
    · unfold foundAt
      rw [Int.mul_one, if_neg (by omega), if_neg (by omega), if_neg (by omega), if_pos (Int.le_refl _)]
      rfl
  · rw [if_neg h]
    have h3 : t ≠ k := fun e => h ((hit_iff hn).mpr ⟨0, Int.le_refl 0, by omega⟩)
    have h4 : t ≠ k + n := fun e => h ((hit_iff hn).mpr ⟨1, by omega, by omega⟩)
    unfold foundAt
    by_cases a : t ≤ k
    · rw [if_pos a, if_pos (by omega)]
    · rw [if_neg a, if_neg (by omega)]
      by_cases b : t ≤ k + n
      · rw [if_pos b, if_pos (by omega)]
      · rw [if_neg b, if_neg (by omega)]

section
variable {P : Program} {w : World} {K : PySem.W.Frag} {mg : Str → Option Value} {base : Heap}
theorem ok_rare (T : Tx K mg) : FnOk P w K mg base CX0 3 T.f_rare T.fd_rare ["_law_d", "_law_many"] (sp2 rRare) := by
  refine okR2 T.F_rare sc_rare rfl fun cdv A outer s H Q E x y hr h => ?_
  obtain ⟨d, c, m, rfl, rfl, dr, m0, m1, q⟩ := h
  refine ⟨_, pss_cons (ps_set (i := 2) sc_rare.nd rfl (Or.inl rfl) (pe_op op_fdiv (pv 1) pe_int))
      (pss_cons (ps_if (pt_cmpR op_eq (pe_op op_mod (pe_callTy call_int1 (by rfl) T.z_int (by decide +kernel) (pa_cons (pv 2) pa_nil)) pe_int) pe_int (nomark _)) (pss_one (ps_set (i := 2) sc_rare.nd rfl (Or.inl rfl) (pe_op op_sub (pv 2) pe_int))) pss_nil)
      (pss_one (ps_ret (pe_cmpR op_eq (pe_call (ok_draw T) (hr.mono (by decide)) rfl T.m_draw T.F_draw.kp T.b_draw .nil pass0 (pa_cons (pv 0) (pa_cons (pv 1) pa_nil))) (pv 2) (nomark _))))), ?_⟩
  refine ⟨_, rfl, _, _, rfl, rfl, ⟨by decide, by decide⟩, ?_⟩
  refine ⟨_, rfl, .inl ⟨_, rfl, _, _, rfl, rfl, (by show (0 : Int) < 2; decide), rfl, _, rfl, ite2 (fun _ => ?_) (fun _ => ?_)⟩⟩
  · refine ⟨_, rfl, _, _, rfl, rfl, ?_⟩
    refine ⟨_, rfl, _, rfl, _, _, rfl, d, c, m, rfl, rfl, dr, by omega, m1, fun r H' _ _ dr' kp => ⟨_, rfl, rfl, q _ _ dr' kp⟩⟩
  · refine ⟨_, rfl, _, rfl, _, _, rfl, d, c, m, rfl, rfl, dr, by omega, m1, fun r H' _ _ dr' kp => ⟨_, rfl, rfl, q _ _ dr' kp⟩⟩
end

/-! ### the law's defs -/
def rRate : V → V → Hp → VK → Prop := fun x y H Q => ∃ (d c : Addr) (m : Int), x = .ref d ∧ y = .int m ∧ Dr d c H ∧ 1 ≤ m ∧ m ≤ 12 ∧ ∀ (v : V) (p : Int × Int) (H' : Hp), goodP p → LayV H' v (some p) → Dr d c H' → Keep d H H' → Q v H'
def rIs : V → Hp → VK → Prop := fun x H Q => ∃ d c : Addr, x = .ref d ∧ Dr d c H ∧ ∀ (v : V) (H' : Hp), LayV H' v none → Dr d c H' → Keep d H H' → Q v H'
theorem at_in {xs : List V} {r : Int} (h0 : 0 ≤ r) (h1 : r < (xs.length : Int)) : ∃ v, atI xs r = some v ∧ v ∈ xs := by
  obtain ⟨j, rfl⟩ := Int.eq_ofNat_of_zero_le h0
  exact ⟨xs[j], at_n j (List.getElem?_eq_getElem (by omega)), List.getElem_mem _⟩
theorem at_int {ns : List Int} {r : Int} (h0 : 0 ≤ r) (h1 : r < (ns.length : Int)) : ∃ n, atI (ns.map V.int) r = some (.int n) ∧ n ∈ ns := by
  obtain ⟨v, h, hm⟩ := at_in (xs := ns.map V.int) h0 (by rw [List.length_map]; exact h1)
  obtain ⟨n, hn, rfl⟩ := List.mem_map.mp hm
  exact ⟨n, h, hn⟩
section
variable {P : Program} {w : World} {K : PySem.W.Frag} {mg : Str → Option Value} {base : Heap}
theorem ok_rate (T : Tx K mg) : FnOk P w K mg base CX0 3 T.f_rate T.fd_rate ["_law_d", "_law_most"] (sp2 rRate) := by
  refine okR2 T.F_rate sc_rate rfl fun cdv A outer s H Q E x y hr h => ?_
  obtain ⟨d, c, m, rfl, rfl, dr, m1, m2, q⟩ := h
  refine ⟨_, pss_cons (ps_set (i := 2) sc_rate.nd rfl (Or.inl rfl) (pe_ix ix_list (pe_lst (pa_cons pe_int (pa_cons pe_int (pa_cons pe_int (pa_cons pe_int (pa_cons (pe_op op_add pe_int (pe_call (ok_draw T) (hr.mono (by decide)) rfl T.m_draw T.F_draw.kp T.b_draw .nil pass0 (pa_cons (pv 0) (pa_cons (pv 1) pa_nil)))) (pa_cons (pe_op op_add pe_int (pe_call (ok_draw T) (hr.mono (by decide)) rfl T.m_draw T.F_draw.kp T.b_draw .nil pass0 (pa_cons (pv 0) (pa_cons (pv 1) pa_nil)))) pa_nil))))))) (pe_call (ok_draw T) (hr.mono (by decide)) rfl T.m_draw T.F_draw.kp T.b_draw .nil pass0 (pa_cons (pv 0) (pa_cons pe_int pa_nil))) (fun _ _ => rfl)))
      (pss_cons (ps_set (i := 3) sc_rate.nd rfl (Or.inl rfl) (pe_ix ix_list (pe_lst (pa_cons pe_int (pa_cons (pe_op op_sub (pv 2) pe_int) (pa_cons (pe_call (ok_draw T) (hr.mono (by decide)) rfl T.m_draw T.F_draw.kp T.b_draw .nil pass0 (pa_cons (pv 0) (pa_cons (pv 2) pa_nil))) pa_nil)))) (pe_call (ok_draw T) (hr.mono (by decide)) rfl T.m_draw T.F_draw.kp T.b_draw .nil pass0 (pa_cons (pv 0) (pa_cons pe_int pa_nil))) (fun _ _ => rfl)))
      (pss_one (ps_ret (pe_tup (pa_cons pe_str (pa_cons (pv 2) (pa_cons (pv 3) (pa_cons (pe_ix ix_list (pe_lst (pa_cons pe_non (pa_cons pe_non (pa_cons pe_str (pa_cons pe_str pa_nil))))) (pe_call (ok_draw T) (hr.mono (by decide)) rfl T.m_draw T.F_draw.kp T.b_draw .nil pass0 (pa_cons (pv 0) (pa_cons pe_int pa_nil))) (fun _ _ => rfl)) pa_nil)))))))), ?_⟩
  refine ⟨_, rfl, _, rfl, _, _, rfl, d, c, m, rfl, rfl, dr, by omega, by omega, fun r1 H1 a1 b1 dr1 kp1 => ⟨_, _, rfl, rfl, _, rfl, _, rfl, _, _, rfl, d, c, m, rfl, rfl, dr1, by omega, by omega, fun r2 H2 a2 b2 dr2 kp2 => ⟨_, _, rfl, rfl, sl 6, fun p hp => ⟨_, rfl, _, _, rfl, d, c, 6, rfl, rfl, dr2.new hp, by decide, by decide, fun r3 H3 a3 b3 dr3 kp3 => ?_⟩⟩⟩⟩
  obtain ⟨n, hn, hm⟩ := at_int (ns := [2, 2, 3, 4, 1 + r1, 1 + r2]) a3 b3
  have n12 : 1 ≤ n ∧ n ≤ 12 := by
    simp only [List.mem_cons, List.not_mem_nil, or_false] at hm
    omega
  have pd := dr2.dne hp
  refine ⟨p, _, _, _, rfl, rfl, SqL.of (kp3 _ _ upd_same pd), hn, ?_⟩
  have kpA : Keep d H H3 := kp1.trans (kp2.trans ((Keep.new hp).trans kp3))
  -- first
  refine ⟨_, rfl, _, _, rfl, rfl, _, rfl, _, rfl, _, _, rfl, d, c, n, rfl, rfl, dr3, by omega, by omega, fun r4 H4 a4 b4 dr4 kp4 => ⟨sl 3, fun p2 hp2 => ⟨_, rfl, _, _, rfl, d, c, 3, rfl, rfl, dr4.new hp2, by decide, by decide, fun r5 H5 a5 b5 dr5 kp5 => ?_⟩⟩⟩
  obtain ⟨k, hk, hm2⟩ := at_int (ns := [0, n - 1, r4]) a5 b5
  have k12 : 0 ≤ k ∧ k < n := by
    simp only [List.mem_cons, List.not_mem_nil, or_false] at hm2
    omega
  have pd2 := dr4.dne hp2
  refine ⟨p2, _, _, _, rfl, rfl, SqL.of (kp5 _ _ upd_same pd2), hk, ?_⟩
  have kpB : Keep d H H5 := kpA.trans (kp4.trans ((Keep.new hp2).trans kp5))
  -- return
  refine ⟨_, rfl, _, rfl, sl 4, fun p3 hp3 => ⟨_, rfl, _, _, rfl, d, c, 4, rfl, rfl, dr5.new hp3, by decide, by decide, fun r6 H6 a6 b6 dr6 kp6 => ?_⟩⟩
  obtain ⟨v, hv, _⟩ := at_in (xs := [V.non, V.non, V.str "a", V.str "pump.x"]) a6 b6
  have pd3 := dr5.dne hp3
  refine ⟨p3, _, _, _, rfl, rfl, SqL.of (kp6 _ _ upd_same pd3), hv, sl 4, fun t ht => ?_⟩
  exact q _ (n, k) _ ⟨n12.1, n12.2, k12.1, k12.2⟩ ⟨t, v, rfl, upd_same⟩ (dr6.new ht) (kpB.trans ((Keep.new hp3).trans (kp6.trans (Keep.new ht))))
theorem ok_is_layer (T : Tx K mg) : FnOk P w K mg base CX0 3 T.f_is_layer T.fd_is_layer ["_law_d"] (sp1 rIs) := by
  refine okR1 T.F_is_layer sc_is_layer rfl fun cdv A outer s H Q E x hr h => ?_
  obtain ⟨d, c, rfl, dr, q⟩ := h
  refine ⟨_, pss_cons (ps_set (i := 1) sc_is_layer.nd rfl (Or.inl rfl) (pe_ix ix_list (pe_lst (pa_cons pe_str (pa_cons pe_str (pa_cons pe_str (pa_cons pe_str (pa_cons pe_str pa_nil)))))) (pe_call (ok_draw T) (hr.mono (by decide)) rfl T.m_draw T.F_draw.kp T.b_draw .nil pass0 (pa_cons (pv 0) (pa_cons pe_int pa_nil))) (fun _ _ => rfl)))
      (pss_cons (ps_if (pt_cmpR op_eq (pv 1) pe_str (nomark _)) (pss_one (ps_ret (pe_tup (pa_cons pe_str (pa_cons (pv 1) (pa_cons (pe_tup (pa_cons pe_str (pa_cons (pe_tup (pa_cons pe_str (pa_cons pe_str (pa_cons pe_str pa_nil)))) (pa_cons (pe_call (ok_draw T) (hr.mono (by decide)) rfl T.m_draw T.F_draw.kp T.b_draw .nil pass0 (pa_cons (pv 0) (pa_cons pe_int pa_nil))) pa_nil)))) pa_nil)))))) pss_nil)
      (pss_one (ps_ret (pe_tup (pa_cons pe_str (pa_cons (pv 1) (pa_cons (pe_tup (pa_cons pe_str (pa_cons (pe_call (ok_draw T) (hr.mono (by decide)) rfl T.m_draw T.F_draw.kp T.b_draw .nil pass0 (pa_cons (pv 0) (pa_cons pe_int pa_nil))) pa_nil))) pa_nil))))))), ?_⟩
  refine ⟨sl 5, fun p hp => ⟨_, rfl, _, _, rfl, d, c, 5, rfl, rfl, dr.new hp, by decide, by decide, fun r1 H1 a1 b1 dr1 kp1 => ?_⟩⟩
  obtain ⟨v, hv, hm⟩ := at_in (xs := ([("a" : Str), "b", "c", "m@now", "a@here"]).map V.str) a1 b1
  obtain ⟨y, _, rfl⟩ := List.mem_map.mp hm
  refine ⟨p, _, _, _, rfl, rfl, SqL.of (kp1 _ _ upd_same (dr.dne hp)), hv, ?_⟩
  have kpA : Keep d H H1 := (Keep.new hp).trans kp1
  refine ⟨_, rfl, rfl, _, rfl, ite2 (fun _ => ?_) (fun _ => ?_)⟩
  · refine ⟨_, rfl, sl 3, fun t ht => ⟨_, rfl, _, _, rfl, d, c, 3, rfl, rfl, dr1.new ht, by decide, by decide, fun r2 H2 a2 b2 dr2 kp2 => ⟨sl 3, fun t2 ht2 => ⟨sl 3, fun t3 ht3 => ?_⟩⟩⟩⟩
    exact q _ _ ⟨t3, _, rfl, upd_same⟩ ((dr2.new ht2).new ht3) (kpA.trans ((Keep.new ht).trans (kp2.trans ((Keep.new ht2).trans (Keep.new ht3)))))
  · refine ⟨_, rfl, _, rfl, _, _, rfl, d, c, 2, rfl, rfl, dr1, by decide, by decide, fun r2 H2 a2 b2 dr2 kp2 => ⟨sl 2, fun t2 ht2 => ⟨sl 3, fun t3 ht3 => ?_⟩⟩⟩
    exact q _ _ ⟨t3, _, rfl, upd_same⟩ ((dr2.new ht2).new ht3) (kpA.trans (kp2.trans ((Keep.new ht2).trans (Keep.new ht3))))
/-- a row of rates that stands at a -/
def RowAt (H : Hp) (a : Addr) (vs : List V) (ps : List (Int × Int)) : Prop := H a = some (.tup vs) ∧ Paired (LayV H) vs (ps.map some)
theorem RowAt.mono {H H' : Hp} {a : Addr} {vs : List V} {ps : List (Int × Int)} (s : TS H H') (h : RowAt H a vs ps) : RowAt H' a vs ps := ⟨s _ _ h.1, Paired.mapP h.2 fun x y z => LayV.mono s z⟩
theorem RowAt.len {H : Hp} {a : Addr} {vs : List V} {ps : List (Int × Int)} (h : RowAt H a vs ps) : vs.length = ps.length := by
  have := Paired.length h.2
  rw [List.length_map] at this
  exact this
theorem RowAt.item {H : Hp} {a : Addr} {vs : List V} {ps : List (Int × Int)} (h : RowAt H a vs ps) {i : Nat} {v : V} (e : vs[i]? = some v) : ∃ n k b hm, ps[i]? = some (n, k) ∧ v = .ref b ∧ H b = some (.tup [.str "every", .int n, .int k, hm]) := by
  obtain ⟨l, hl, hv⟩ := Paired.at h.2 e
  rw [List.getElem?_map] at hl
  obtain ⟨⟨n, k⟩, hp, rfl⟩ := Option.map_eq_some_iff.mp hl
  obtain ⟨b, hm, e1, e2⟩ := hv
  exact ⟨n, k, b, hm, hp, e1, e2⟩
def rProduct : V → Hp → VK → Prop := fun x H Q => ∃ (a : Addr) (vs : List V) (ps : List (Int × Int)), x = .ref a ∧ RowAt H a vs ps ∧ (∀ p ∈ ps, goodP p) ∧ Q (.int (bwd ps).1) H
theorem drop_at {α : Type} {l : List α} {i : Nat} {x : α} (h : l[i]? = some x) : l.drop i = x :: l.drop (i + 1) := by
  obtain ⟨hlt, e⟩ := List.getElem?_eq_some_iff.mp h
  rw [← e]
  exact List.drop_eq_getElem_cons hlt
theorem ok_product (T : Tx K mg) : FnOk P w K mg base CX0 1 T.f_product T.fd_product ["_law_layers"] (sp1 rProduct) := by
  refine okR1 T.F_product sc_product rfl fun cdv A outer s H Q E x hr h => ?_
  obtain ⟨a, vs, ps, rfl, hrow, hg, q⟩ := h
  refine ⟨_, pss_cons (ps_set (i := 1) sc_product.nd rfl (Or.inl rfl) pe_int)
      (pss_cons (ps_for PassesOwn.never rfl (pi_tup (pv 0)) (pg_name (i := 2) sc_product.nd rfl (Or.inl rfl))
      (pss_one (ps_set (i := 1) sc_product.nd rfl (Or.inl rfl) (pe_op op_mul (pv 1) (pe_ix ix_tup (pv 2) pe_int (fun _ _ => rfl))))))
      (pss_one (ps_ret (pv 1)))), ?_⟩
  refine ⟨_, rfl, a, rfl, ⟨_, SqT.of hrow.1⟩, for_tup (K := K) (a := a) (xs := vs) (fun i σ H' => ∃ (m : Int) (v : Option V), σ = [some (.ref a), some (.int m), v] ∧ H' = H ∧ m * (bwd (ps.drop i)).1 = (bwd ps).1)
    ⟨1, none, rfl, rfl, by rw [List.drop_zero, Int.one_mul]⟩ (fun i σ H' _ ⟨_, _, _, e, _⟩ => by rw [e]; exact SqT.of hrow.1) ?_ ?_⟩
  · rintro i x σ H' hx ⟨m, v, rfl, rfl, h2⟩
    obtain ⟨n, k, b, hm, hp, rfl, hb⟩ := hrow.item hx
    obtain ⟨g1, g2, g3, g4⟩ := hg _ (List.mem_of_getElem? hp)
    rw [drop_at hp] at h2
    refine ⟨_, rfl, _, rfl, b, _, _, _, rfl, rfl, SqT.of hb, at_n 1 rfl, _, _, rfl, rfl, .inr ⟨by have : 1 ≤ n := g1; omega, by have : n ≤ 12 := g2; omega⟩, _, _, rfl, rfl, ?_⟩
    rw [← h2]
    show m * n * _ = m * (n * _)
    rw [Int.mul_assoc]
  · rintro σ H' ⟨m, v, rfl, rfl, h2⟩
    rw [List.drop_eq_nil_of_le (by have := hrow.len; omega)] at h2
    have e : m = (bwd ps).1 := by
      have h3 : m * 1 = (bwd ps).1 := h2
      omega
    refine ⟨_, rfl, ?_⟩
    rw [e]
    exact q
def rPassed : V → V → Hp → VK → Prop := fun x y H Q => ∃ (a : Addr) (vs : List V) (ps : List (Int × Int)), x = .ref a ∧ y = .int (2 * (bwd ps).1) ∧ RowAt H a vs ps ∧ (∀ p ∈ ps, goodP p) ∧ ps.length ≤ 1000 ∧ (bwd ps).1 ≤ 2000 ∧
  ∀ (p : Addr) (H' : Hp), Same H H' → H' p = some (.lst [.int (bwd ps).2, .int ((bwd ps).2 + (bwd ps).1)]) → Q (.ref p) H'
theorem bl_eq {a b : Int} : decide (V.int a = V.int b) = decide (a = b) := decide_eq_decide.mpr ⟨V.int.inj, fun h => by rw [h]⟩
theorem ok_passed (T : Tx K mg) : FnOk P w K mg base CX0 1 T.f_passed T.fd_passed ["_law_layers", "_law_many"] (sp2 rPassed) := by
  refine okR2 T.F_passed sc_passed rfl fun cdv A outer s H Q E x y hr h => ?_
  obtain ⟨a, vs, ps, rfl, rfl, hrow, hg, hpl, hN, q⟩ := h
  obtain ⟨N1, K0, KN⟩ := bwd_ok ps hg
  have hvl := hrow.len
  refine ⟨_, pss_cons (ps_setLc (i := 2) (own := [("_law_layer", 8)]) (g := gName 8) (tt := tYes) rfl sc_passed.nd rfl rfl (sw_true rfl rfl rfl (by decide +kernel)) (pi_tup (pv 0)) (blkOk_by (N := ["_law_layers", "_law_many", "_law_counts", "_law_found", "_law_tick", "_law_there", "_law_at", "_law_count", "_law_layer"]) (sc := defScope s_passed) (by decide +kernel)) (fun _ _ _ _ _ => pg_name (i := 8) sc_passed.nd rfl (Or.inl rfl)) (fun _ _ _ _ _ => pts_nil) (fun _ _ _ _ _ => pe_int))
      (pss_cons (ps_set (i := 3) sc_passed.nd rfl (Or.inl rfl) (pe_lst pa_nil))
      (pss_cons (ps_for PassesOwn.never rfl (pi_range1 rfl T.z_range (pa_cons (pv 1) pa_nil)) (pg_name (i := 4) sc_passed.nd rfl (Or.inl rfl))
      (pss_cons (ps_set (i := 5) sc_passed.nd rfl (Or.inl rfl) pe_bl)
      (pss_cons (ps_for PassesOwn.never rfl (pi_range1 rfl T.z_range (pa_cons (pe_callB call_len_seq (by rfl) T.z_len (by decide +kernel) (pa_cons (pv 0) pa_nil)) pa_nil)) (pg_name (i := 6) sc_passed.nd rfl (Or.inl rfl))
      (pss_one (ps_if (pt_val (pv 5)) (pss_cons (ps_set (i := 7) sc_passed.nd rfl (Or.inl rfl) (pe_ix ix_list (pv 2) (pv 6) (fun _ _ => rfl)))
      (pss_cons (ps_asg (pe_op op_add (pv 7) pe_int) (pg_sub (pv 2) (pv 6) set_list))
      (pss_one (ps_set (i := 5) sc_passed.nd rfl (Or.inl rfl) (pe_and (pe_cmpR op_ge (pv 7) (pe_ix ix_tup (pe_ix ix_tup (pv 0) (pv 6) (fun _ _ => rfl)) pe_int (fun _ _ => rfl)) (nomark _)) (pe_one (pe_cmpR op_eq (pe_op op_mod (pe_callTy call_int1 (by rfl) T.z_int (by decide +kernel) (pa_cons (pe_op op_sub (pv 7) (pe_ix ix_tup (pe_ix ix_tup (pv 0) (pv 6) (fun _ _ => rfl)) pe_int (fun _ _ => rfl))) pa_nil)) (pe_ix ix_tup (pe_ix ix_tup (pv 0) (pv 6) (fun _ _ => rfl)) pe_int (fun _ _ => rfl))) pe_int (nomark _)))))))) pss_nil)))
      (pss_one (ps_if (pt_val (pv 5)) (pss_one (ps_expr (pe_bm PySem.F.plainAttrs_list PySem.F.slot_list_append PySem.F.type_list_append mt_append (pv 3) (pa_cons (pv 4) pa_nil)))) pss_nil)))))
      (pss_one (ps_ret (pv 3))))), ?_⟩
  -- counts = [0 for layer in layers]
  refine ⟨_, rfl, a, rfl, ⟨_, SqT.of hrow.1⟩, fun D hD => lc_tup (K := K) (a := a) (xs := vs) (fun i H' => H' = upd H D (.lst ((List.replicate i (0 : Int)).map V.int))) rfl ?_ ?_ ?_⟩
  · rintro i H' _ rfl
    exact SqT.of (same_new hD _ _ hrow.1)
  · rintro i x H' hi rfl
    have hil : i < vs.length := (List.getElem?_eq_some_iff.mp hi).1
    refine ⟨rfl, yes ⟨_, upd_same, ?_, ?_⟩⟩
    · rw [List.length_map, List.length_replicate]
      exact small1000 (by omega)
    · rw [upd_upd, List.replicate_succ', List.map_append]
      rfl
  rintro H1 rfl
  have ez : List.replicate vs.length (0 : Int) = cnts 1 0 ps 0 := by
    rw [cnts_zero ps 1 0 (by decide) (by decide) (by decide) hg, hvl]
    exact List.map_const'.symm
  rw [ez]
  have s1 : Same H (upd H D (.lst ((cnts 1 0 ps 0).map V.int))) := same_new hD
  have hD1 : (upd H D (.lst ((cnts 1 0 ps 0).map V.int))) D = some (.lst ((cnts 1 0 ps 0).map V.int)) := upd_same
  generalize upd H D (.lst ((cnts 1 0 ps 0).map V.int)) = H1 at s1 hD1
  -- found = []
  refine ⟨sl 0, fun F hF => ?_⟩
  have DF : D ≠ F := ne_of_none hD1 hF
  have s2 : Same H (upd H1 F (.lst [])) := s1.trans (same_new hF)
  have nD : ∀ {b : Addr} {o : HO}, H b = some o → b ≠ D := fun e => ne_of_none e hD
  have nF : ∀ {b : Addr} {o : HO}, H b = some o → b ≠ F := fun e => ne_of_none (s1 _ _ e) hF
  -- what all turns keep
  refine ⟨_, rfl, 2 * (bwd ps).1, rfl, by omega, by omega, for_range (lo := 0) (n := (2 * (bwd ps).1).toNat) (fun i σ H' => ∃ (v4 v5 v6 v7 : Option V), σ = [some (.ref a), some (.int (2 * (bwd ps).1)), some (.ref D), some (.ref F), v4, v5, v6, v7, none] ∧ Same H H' ∧ H' D = some (.lst ((cnts 1 0 ps (i : Int)).map V.int)) ∧ H' F = some (.lst ((foundAt (bwd ps).1 (bwd ps).2 (i : Int)).map V.int)))
    ⟨none, none, none, none, rfl, s2, upd_else hD1 DF, ?_⟩ ?_ ?_⟩
  · rw [upd_same]
    have e : foundAt (bwd ps).1 (bwd ps).2 ((0 : Nat) : Int) = [] := if_pos K0
    rw [e]
    rfl
  · rintro i σ H' hi ⟨v4, v5, v6, v7, rfl, s3, hD3, hF3⟩
    have hz : (0 : Int) + (i : Int) = (i : Int) := by omega
    -- there = True; for at in range(len(layers))
    refine ⟨_, rfl, a, vs, rfl, .inr (SqT.of (s3 _ _ hrow.1)), vs.length, rfl, by omega, by omega, ?_⟩
    refine for_range (lo := 0) (n := ((vs.length : Nat) : Int).toNat) (fun l σ G => ∃ (n k : Int) (pre : List Int) (v6 v7 : Option V), σ = [some (.ref a), some (.int (2 * (bwd ps).1)), some (.ref D), some (.ref F), some (.int (0 + (i : Int))), some (.bl (hit n k i)), v6, v7, none] ∧ Same H G ∧ G F = some (.lst ((foundAt (bwd ps).1 (bwd ps).2 (i : Int)).map V.int)) ∧
        G D = some (.lst ((pre ++ cnts n k (ps.drop l) i).map V.int)) ∧ pre.length = l ∧ cnts 1 0 ps (i + 1) = pre ++ cnts n k (ps.drop l) (i + 1) ∧ 1 ≤ n ∧ 0 ≤ k ∧ k < n ∧ n * (bwd (ps.drop l)).1 = (bwd ps).1 ∧ k + n * (bwd (ps.drop l)).2 = (bwd ps).2)
      ⟨1, 0, [], v6, v7, ?_, s3, hF3, hD3, rfl, rfl, by decide, by decide, by decide, by rw [List.drop_zero, Int.one_mul], by rw [List.drop_zero, Int.one_mul, Int.zero_add]⟩ ?_ ?_
    · have e : hit 1 0 (i : Int) = true := (hit_iff (by decide)).mpr ⟨i, by omega, by omega⟩
      rw [e]
      rfl
    · rintro l σ G hl ⟨n, k, pre, v6, v7, rfl, s4, hF4, hD4, e1, e2, n1, k0, kn, e3, e4⟩
      have hlv : l < vs.length := by omega
      obtain ⟨m, j, b, hm, hp, ev, hb⟩ := hrow.item (List.getElem?_eq_getElem hlv)
      have gp := hg _ (List.mem_of_getElem? hp)
      obtain ⟨g1, g2, g3, g4⟩ := id gp
      have g1' : 1 ≤ m := g1
      have g3' : 0 ≤ j := g3
      obtain ⟨t1, t2, t3⟩ := step_ok n1 k0 kn gp
      have hd := drop_at hp
      rw [hd] at hD4 e2 e3 e4
      have e3' : n * m * (bwd (ps.drop (l + 1))).1 = (bwd ps).1 := by
        rw [← e3, Int.mul_assoc]
        rfl
      have e4' : k + n * j + n * m * (bwd (ps.drop (l + 1))).2 = (bwd ps).2 := by
        rw [← e4, Int.mul_assoc, Int.add_assoc, ← Int.mul_add]
        rfl
      have hDl : (pre ++ cnts n k ((m, j) :: ps.drop (l + 1)) i)[l]? = some (cnt n k i) := by
        rw [List.getElem?_append_right (by omega), e1, Nat.sub_self]
        rfl
      have hset : ∀ z : Int, (pre ++ cnts n k ((m, j) :: ps.drop (l + 1)) i).set l z = (pre ++ [z]) ++ cnts (n * m) (k + n * j) (ps.drop (l + 1)) i := fun z => by
        rw [List.set_append_right _ _ (by omega), e1, Nat.sub_self, List.append_assoc]
        rfl
      have hvs : vs[l]? = some (.ref b) := by
        rw [List.getElem?_eq_getElem hlv, ev]
      have z0 : (0 : Int) + (l : Int) = ((l : Nat) : Int) := by omega
      have lenD : (pre ++ cnts n k ((m, j) :: ps.drop (l + 1)) i).length = vs.length := by
        rw [List.length_append, cnts_len, List.length_cons, List.length_drop]
        omega
      have e2' : cnts 1 0 ps (i + 1) = (pre ++ [cnt n k (i + 1)]) ++ cnts (n * m) (k + n * j) (ps.drop (l + 1)) (i + 1) := by
        rw [e2, List.append_assoc]
        rfl
      refine ⟨_, rfl, _, rfl, ?_⟩
      cases hh : hit n k i with
      | false =>
        refine iteF ?_
        refine ⟨n * m, k + n * j, pre ++ [cnt n k (i + 1)], some (.int (0 + (l : Int))), v7, ?_, s4, hF4, ?_, by rw [List.length_append, e1]; rfl, e2', t1, t2, t3, e3', e4'⟩
        · rw [hit_off n1 g1' g3' hh]
          rfl
        · rw [hD4, cnt_miss n1 k0 kn (by omega) hh, List.append_assoc]
          rfl
      | true =>
        obtain ⟨qq, q0, hq⟩ := (hit_iff n1).mp hh
        obtain ⟨c1, c2⟩ := cnt_hit (k := k) (q := qq) n1
        rw [← hq] at c1 c2
        have hn : hit (n * m) (k + n * j) i = hit m j qq := by
          rw [hq]
          exact hit_next n1 g1'
        refine iteT ?_
        refine ⟨_, rfl, _, rfl, D, _, _, .int (cnt n k i), rfl, rfl, SqL.of hD4, ?_, ?_⟩
        · rw [z0]
          refine at_n l ?_
          rw [List.getElem?_map, hDl]
          rfl
        refine ⟨_, rfl, _, _, rfl, rfl, _, rfl, _, rfl, D, _, _, l, rfl, rfl, hD4, ?_, ?_⟩
        · rw [List.length_map, lenD, z0]
          unfold ixN
          rw [if_pos (by omega), if_pos (by omega)]
          rfl
        have hG5 : Same H (upd G D (.lst (((pre ++ cnts n k ((m, j) :: ps.drop (l + 1)) i).map V.int).set l (.int (cnt n k i + 1))))) := fun b o e => upd_else (s4 _ _ e) (nD e)
        have hD5 : (upd G D (.lst (((pre ++ cnts n k ((m, j) :: ps.drop (l + 1)) i).map V.int).set l (.int (cnt n k i + 1))))) D = some (.lst (((pre ++ [cnt n k (i + 1)]) ++ cnts (n * m) (k + n * j) (ps.drop (l + 1)) i).map V.int)) := by
          rw [upd_same, ← hset, List.map_set, c1, c2]
        have hF5 := upd_else (a := D) (o := .lst (((pre ++ cnts n k ((m, j) :: ps.drop (l + 1)) i).map V.int).set l (.int (cnt n k i + 1)))) hF4 DF.symm
        generalize upd G D (.lst (((pre ++ cnts n k ((m, j) :: ps.drop (l + 1)) i).map V.int).set l (.int (cnt n k i + 1)))) = G5 at hG5 hD5 hF5
        have fin : ∀ bb : Bool, bb = hit m j qq → ∃ (n' k' : Int) (pre' : List Int) (v6 v7 : Option V), [some (V.ref a), some (.int (2 * (bwd ps).1)), some (.ref D), some (.ref F), some (.int (0 + (i : Int))), some (.bl bb), some (.int (0 + (l : Int))), some (.int (cnt n k i)), none] = [some (.ref a), some (.int (2 * (bwd ps).1)), some (.ref D), some (.ref F), some (.int (0 + (i : Int))), some (.bl (hit n' k' i)), v6, v7, none] ∧ Same H G5 ∧ G5 F = some (.lst ((foundAt (bwd ps).1 (bwd ps).2 (i : Int)).map V.int)) ∧
            G5 D = some (.lst ((pre' ++ cnts n' k' (ps.drop (l + 1)) i).map V.int)) ∧ pre'.length = l + 1 ∧ cnts 1 0 ps (i + 1) = pre' ++ cnts n' k' (ps.drop (l + 1)) (i + 1) ∧ 1 ≤ n' ∧ 0 ≤ k' ∧ k' < n' ∧ n' * (bwd (ps.drop (l + 1))).1 = (bwd ps).1 ∧ k' + n' * (bwd (ps.drop (l + 1))).2 = (bwd ps).2 := fun bb hbb => by
          refine ⟨n * m, k + n * j, pre ++ [cnt n k (i + 1)], some (.int (0 + (l : Int))), some (.int (cnt n k i)), ?_, hG5, hF5, hD5, by rw [List.length_append, e1]; rfl, e2', t1, t2, t3, e3', e4'⟩
          rw [hn, hbb]
        have hb5 := hG5 _ _ hb
        have ha5 := hG5 _ _ hrow.1
        have hat : atI vs (0 + (l : Int)) = some (.ref b) := by
          rw [z0]
          exact at_n l hvs
        refine ⟨_, rfl, _, rfl, _, rfl, a, _, _, _, rfl, rfl, SqT.of ha5, hat, b, _, _, _, rfl, rfl, SqT.of hb5, at_n 2 rfl, _, _, rfl, rfl, _, rfl, ite2 (fun hc => ?_) (fun hc => ?_)⟩
        · refine ⟨_, rfl, _, rfl, _, rfl, a, _, _, _, rfl, rfl, SqT.of ha5, hat, b, _, _, _, rfl, rfl, SqT.of hb5, at_n 2 rfl, _, _, rfl, rfl, .inl ⟨_, rfl, _, rfl, _, rfl, a, _, _, _, rfl, rfl, SqT.of ha5, hat, b, _, _, _, rfl, rfl, SqT.of hb5, at_n 1 rfl, _, _, rfl, rfl, (by show 0 < m; omega), rfl, ?_⟩⟩
          refine fin _ ?_
          rw [bl_eq, c1]
          have hc' : j ≤ cnt n k i := of_decide_eq_true hc
          rw [c1] at hc'
          unfold hit
          rw [decide_eq_true hc', Bool.true_and]
        · have hc' : ¬ j ≤ cnt n k i := fun z => hc (decide_eq_true z)
          rw [c1] at hc'
          refine fin _ ?_
          unfold hit
          rw [decide_eq_false hc', Bool.false_and]
    · rintro σ G ⟨n, k, pre, v6, v7, rfl, s4, hF4, hD4, e1, e2, n1, k0, kn, e3, e4⟩
      rw [show ((vs.length : Nat) : Int).toNat = vs.length by omega, List.drop_eq_nil_of_le (by omega)] at hD4 e2 e3 e4
      have en : n = (bwd ps).1 := by
        have h3 : n * 1 = (bwd ps).1 := e3
        omega
      have ek : k = (bwd ps).2 := by
        have h3 : k + n * 0 = (bwd ps).2 := e4
        omega
      have hD6 : G D = some (.lst ((cnts 1 0 ps ((i + 1 : Nat) : Int)).map V.int)) := by
        rw [hD4]
        have e5 : cnts 1 0 ps ((i + 1 : Nat) : Int) = pre ++ [] := e2
        rw [e5]
        rfl
      have fs := found_step (n := (bwd ps).1) (k := (bwd ps).2) (t := (i : Int)) N1 K0 (by omega) (by omega)
      rw [en, ek]
      refine ⟨_, rfl, _, rfl, ite2 (fun hh => ?_) (fun hh => ?_)⟩
      · rw [if_pos hh] at fs
        refine ⟨_, rfl, .inl ⟨rfl, _, SqL.of hF4⟩, _, rfl, F, _, _, rfl, rfl, hF4, ?_, ?_⟩
        · rw [List.length_map]
          unfold foundAt
          split
          · exact small1000 (by simp)
          · split
            · exact small1000 (by simp)
            · exact small1000 (by simp)
        · refine ⟨_, _, _, _, rfl, fun b o e => upd_else (s4 _ _ e) (nF e), upd_else hD6 DF, ?_⟩
          rw [upd_same]
          have fs' : foundAt (bwd ps).1 (bwd ps).2 ((i + 1 : Nat) : Int) = foundAt (bwd ps).1 (bwd ps).2 (i : Int) ++ [(i : Int)] := fs
          rw [fs', List.map_append, hz]
          rfl
      · rw [if_neg hh] at fs
        refine ⟨_, _, _, _, rfl, s4, hD6, ?_⟩
        have fs' : foundAt (bwd ps).1 (bwd ps).2 ((i + 1 : Nat) : Int) = foundAt (bwd ps).1 (bwd ps).2 (i : Int) := fs
        rw [fs']
        exact hF4
  · rintro σ H' ⟨v4, v5, v6, v7, rfl, s3, hD3, hF3⟩
    have e : foundAt (bwd ps).1 (bwd ps).2 (((2 * (bwd ps).1).toNat : Nat) : Int) = [(bwd ps).2, (bwd ps).2 + (bwd ps).1] := by
      unfold foundAt
      rw [if_neg (by omega), if_neg (by omega)]
    rw [e] at hF3
    exact ⟨_, rfl, q F H' s3 hF3⟩
/-- what a clock that stands in the heap is worth -/
def rDue (K : PySem.W.Frag) : V → Hp → VK → Prop := fun x H Q => ∃ ls : List Lay, ClkV H x ls ∧ (∀ l ∈ ls, good l) ∧ ls.length ≤ 1000 ∧ ∀ (v : V) (H' : Hp), Same H H' → RateV H' v (fwd 1 0 ls) → Q v H'
theorem ok_rate_due (T : Tx K mg) : FnOk P w K mg base CX0 2 T.f_rate_due T.fd_rate_due ["_law_clock"] (sp1 (rDue K)) := by
  refine okR1 T.F_rate_due sc_rate_due rfl fun cdv A outer s H Q E x hr h => ?_
  obtain ⟨ls, ⟨a, vs, rfl, ha, hp⟩, hg, hl1, q⟩ := h
  have hlen := Paired.length hp
  refine ⟨_, pss_cons (ps_if (pt_truth (pe_lc (own := [("_law_layer", 5)]) (g := gName 5)  rfl sc_rate_due.nd (pi_tup (pv 0)) (blkOk_by (N := ["_law_clock", "_law_many", "_law_ticks", "_law_n", "_law_k", "_law_layer"]) (sc := defScope s_rate_due) (by decide +kernel)) (fun _ _ _ _ _ => pg_name (i := 5) sc_rate_due.nd rfl (Or.inl rfl)) (fun _ _ _ _ _ => pts_one (pt_cmpR op_eq (pe_ix (show IxR _ (rIxT K) from ix_tup) (pv 5) pe_int (fun _ _ => rfl)) pe_str (nomark _))) (fun _ _ _ _ _ => (pv 5))) (by intro _; rfl)) (pss_one (ps_ret pe_non)) pss_nil)
      (pss_cons (ps_set (i := 1) sc_rate_due.nd rfl (Or.inl rfl) (pe_call (ok_product T) (hr.mono (by decide)) rfl T.m_product T.F_product.kp T.b_product .nil pass0 (pa_cons (pv 0) pa_nil)))
      (pss_cons (ps_if (pt_cmpR op_le (pv 1) pe_int (nomark _)) (pss_cons (ps_set (i := 2) sc_rate_due.nd rfl (Or.inl rfl) (pe_call (ok_passed T) (hr.mono (by decide)) rfl T.m_passed T.F_passed.kp T.b_passed .nil pass0 (pa_cons (pv 0) (pa_cons (pe_op op_mul pe_int (pv 1)) pa_nil))))
      (pss_one (ps_ret (pe_tup (pa_cons (pe_op op_sub (pe_ix ix_list (pv 2) pe_int (fun _ _ => rfl)) (pe_ix ix_list (pv 2) pe_int (fun _ _ => rfl))) (pa_cons (pe_ix ix_list (pv 2) pe_int (fun _ _ => rfl)) pa_nil)))))) pss_nil)
      (pss_cons (ps_set (i := 3) sc_rate_due.nd rfl (Or.inl rfl) pe_int)
      (pss_cons (ps_set (i := 4) sc_rate_due.nd rfl (Or.inl rfl) pe_int)
      (pss_cons (ps_for PassesOwn.never rfl (pi_tup (pe_revT (pv 0))) (pg_name (i := 5) sc_rate_due.nd rfl (Or.inl rfl))
      (pss_cons (ps_set (i := 4) sc_rate_due.nd rfl (Or.inl rfl) (pe_op op_add (pe_ix ix_tup (pv 5) pe_int (fun _ _ => rfl)) (pe_op op_mul (pe_ix ix_tup (pv 5) pe_int (fun _ _ => rfl)) (pv 4))))
      (pss_one (ps_set (i := 3) sc_rate_due.nd rfl (Or.inl rfl) (pe_op op_mul (pe_ix ix_tup (pv 5) pe_int (fun _ _ => rfl)) (pv 3))))))
      (pss_one (ps_ret (pe_tup (pa_cons (pv 3) (pa_cons (pv 4) pa_nil)))))))))), ?_⟩
  -- [layer for layer in clock if layer[0] == 'is']
  refine ⟨_, rfl, a, rfl, ⟨_, SqT.of ha⟩, fun D hD => lc_tup (K := K) (a := a) (xs := vs) (fun i H' => ∃ acc : List V, H' = upd H D (.lst acc) ∧ acc.length ≤ i ∧ (acc = [] ↔ ¬ none ∈ ls.take i)) ⟨[], rfl, Nat.le_refl _, by simp⟩ ?_ ?_ ?_⟩
  · rintro i H' _ ⟨acc, rfl, _⟩
    exact SqT.of (same_new hD _ _ ha)
  · rintro i x H' hi ⟨acc, rfl, e1, e2⟩
    have hil : i < vs.length := (List.getElem?_eq_some_iff.mp hi).1
    obtain ⟨l, hl, hv⟩ := Paired.at hp hi
    have et : ls.take (i + 1) = ls.take i ++ [l] := by
      rw [List.take_add_one, hl]
      rfl
    match l, hv, et with
    | none, ⟨b, r', e, hb⟩, et =>
      subst e
      refine ⟨rfl, _, rfl, b, _, _, _, rfl, rfl, SqT.of (same_new hD _ _ hb), at_n 0 rfl, rfl, _, rfl, ?_⟩
      rw [decide_eq_true (show V.str "is" = V.str "is" from rfl)]
      refine iteT ⟨_, rfl, acc, upd_same, small1000 (by omega), acc ++ [.ref b], upd_upd, by rw [List.length_append]; simp only [List.length_singleton]; omega, ?_⟩
      rw [et]
      simp
    | some (m, j), ⟨b, h, e, hb⟩, et =>
      subst e
      refine ⟨rfl, _, rfl, b, _, _, _, rfl, rfl, SqT.of (same_new hD _ _ hb), at_n 0 rfl, rfl, _, rfl, ?_⟩
      rw [str_ne (by decide +kernel)]
      refine iteF ⟨acc, rfl, by omega, ?_⟩
      rw [et, e2]
      simp
  rintro H' ⟨acc, rfl, e1, e2⟩
  rw [List.take_of_length_le (by omega)] at e2
  have s1 : Same H (upd H D (.lst acc)) := same_new hD
  refine ⟨_, .inl ⟨acc, SqL.of upd_same, rfl⟩, ?_⟩
  generalize upd H D (.lst acc) = H1 at s1
  by_cases hn : none ∈ ls
  · have hne : acc ≠ [] := fun z => e2.mp z hn
    rw [show (!acc.isEmpty) = true by cases acc with | nil => exact absurd rfl hne | cons _ _ => rfl]
    refine iteT (q .non H1 s1 ?_)
    rw [fwd_none ls 1 0 hn]
    rfl
  rw [show (!acc.isEmpty) = false by rw [e2.mpr hn]; rfl]
  refine iteF ?_
  obtain ⟨ps, rfl⟩ := all_some ls hn
  have gp : ∀ p ∈ ps, goodP p := fun p hp => hg (some p) (List.mem_map_of_mem hp)
  obtain ⟨N1, K0, KN⟩ := bwd_ok ps gp
  have efw : fwd 1 0 (ps.map some) = some ((bwd ps).1, (bwd ps).2) := by
    rw [fwd_bwd, Int.one_mul, Int.one_mul, Int.zero_add]
  rw [efw] at q
  have row : RowAt H a vs ps := ⟨ha, hp⟩
  have row1 : RowAt H1 a vs ps := row.mono (TS.of s1)
  have pl : ps.length ≤ 1000 := by
    rw [List.length_map] at hl1
    exact hl1
  have hvl := row.len
  refine ⟨_, rfl, _, rfl, a, vs, ps, rfl, row1, gp, ?_⟩
  refine ⟨_, rfl, _, _, rfl, rfl, _, rfl, ite2 (fun hc => ?_) (fun hc => ?_)⟩
  · have hc' : (bwd ps).1 ≤ 2000 := of_decide_eq_true hc
    refine ⟨_, rfl, _, rfl, _, _, rfl, rfl, .inl ⟨by decide, by decide⟩, _, _, rfl, a, vs, ps, rfl, rfl, row1, gp, pl, hc', fun F H2 s2 hF => ?_⟩
    refine ⟨_, rfl, F, _, _, _, rfl, rfl, SqL.of hF, at_n 1 rfl, _, rfl, F, _, _, _, rfl, rfl, SqL.of hF, at_n 0 rfl, _, _, rfl, rfl, _, rfl, F, _, _, _, rfl, rfl, SqL.of hF, at_n 0 rfl, sl 2, fun t ht => ?_⟩
    refine q _ _ (s1.trans (s2.trans (same_new ht))) ⟨t, rfl, ?_⟩
    rw [upd_same]
    show some (HO.tup [V.int ((bwd ps).2 + (bwd ps).1 - (bwd ps).2), V.int (bwd ps).2]) = _
    rw [show (bwd ps).2 + (bwd ps).1 - (bwd ps).2 = (bwd ps).1 by omega]
  · refine ⟨_, rfl, a, vs, rfl, SqT.of row1.1, fun R hR => ?_⟩
    have hRev : (upd H1 R (.tup vs.reverse)) R = some (.tup vs.reverse) := upd_same
    have s2 : Same H1 (upd H1 R (.tup vs.reverse)) := same_new hR
    generalize upd H1 R (.tup vs.reverse) = H2 at hRev s2
    have row2 : Paired (LayV H2) vs.reverse (ps.map some).reverse := Paired.rev (row1.mono (TS.of s2)).2
    refine ⟨R, rfl, ⟨_, SqT.of hRev⟩, for_tup (K := K) (a := R) (xs := vs.reverse) (fun i σ H' => ∃ (v2 v5 v6 : Option V) (n k : Int), σ = [some (.ref a), some (.int (bwd ps).1), v2, some (.int n), some (.int k), v5] ∧ H' = H2 ∧ (n, k) = bwd (ps.drop (ps.length - i)))
      ⟨_, _, none, 1, 0, rfl, rfl, by rw [Nat.sub_zero, List.drop_length]; rfl⟩ (fun i σ H' _ ⟨_, _, _, _, _, _, e, _⟩ => by rw [e]; exact SqT.of hRev) ?_ ?_⟩
    · rintro i x σ H' hx ⟨v2, v5, v6, n, k, rfl, rfl, e⟩
      have hil : i < vs.reverse.length := (List.getElem?_eq_some_iff.mp hx).1
      rw [List.length_reverse] at hil
      obtain ⟨l, hl, hv⟩ := Paired.at row2 hx
      rw [List.getElem?_reverse (by rw [List.length_map]; omega), List.length_map, List.getElem?_map] at hl
      obtain ⟨⟨m, j⟩, hmj, rfl⟩ := Option.map_eq_some_iff.mp hl
      obtain ⟨b, h, ex, hb⟩ := hv
      subst ex
      obtain ⟨g1, g2, g3, g4⟩ := gp _ (List.mem_of_getElem? hmj)
      have g1' : 1 ≤ m := g1
      have g2' : m ≤ 12 := g2
      have ed : ps.drop (ps.length - (i + 1)) = (m, j) :: ps.drop (ps.length - i) := by
        have h1 := drop_at hmj
        rw [show ps.length - 1 - i = ps.length - (i + 1) by omega, show ps.length - (i + 1) + 1 = ps.length - i by omega] at h1
        exact h1
      refine ⟨_, rfl, b, _, _, _, rfl, rfl, SqT.of hb, at_n 2 rfl, _, rfl, b, _, _, _, rfl, rfl, SqT.of hb, at_n 1 rfl, _, rfl, _, _, rfl, rfl, .inl ⟨by omega, by omega⟩, _, _, rfl, rfl, ?_⟩
      refine ⟨_, rfl, b, _, _, _, rfl, rfl, SqT.of hb, at_n 1 rfl, _, rfl, _, _, rfl, rfl, .inl ⟨by omega, by omega⟩, _, _, none, _, _, rfl, rfl, ?_⟩
      rw [ed]
      show _ = (m * (bwd (ps.drop (ps.length - i))).1, j + m * (bwd (ps.drop (ps.length - i))).2)
      rw [← e]
    · rintro σ H' ⟨v2, v5, v6, n, k, rfl, rfl, e⟩
      rw [List.length_reverse, show ps.length - vs.length = 0 by omega, List.drop_zero] at e
      refine ⟨_, rfl, _, rfl, sl 2, fun t ht => ?_⟩
      refine q _ _ (s1.trans (s2.trans (same_new ht))) ⟨t, rfl, ?_⟩
      rw [upd_same, ← e]
end

def rClock : V → Hp → VK → Prop := fun x H Q => ∃ d c : Addr, x = .ref d ∧ Dr d c H ∧ ∀ (v : V) (ls : List Lay) (H' : Hp), ClkV H' v ls → (∀ l ∈ ls, good l) → ls.length ≤ 60 → Dr d c H' → Keep d H H' → Q v H'
theorem TS.dr {d c : Addr} {H H' : Hp} (dr : Dr d c H) (k : Keep d H H') : TS H H' := TS.keep k dr.there
section
variable {P : Program} {w : World} {K : PySem.W.Frag} {mg : Str → Option Value} {base : Heap}
/-- a list of layers that grows -/
def Grow (d c : Addr) (H : Hp) (D : Addr) (m : Nat) (H' : Hp) : Prop := ∃ (acc : List V) (ls : List Lay), H' D = some (.lst acc) ∧ Paired (LayV H') acc ls ∧ (∀ l ∈ ls, good l) ∧ ls.length ≤ m ∧ Dr d c H' ∧ Keep d H H'
def MidA (d c : Addr) (H : Hp) (σ : L2.St) (G : Hp) : Prop := ∃ many : Int, σ = [some (.ref d), some (.int many), none, none, none] ∧ 0 ≤ many ∧ many ≤ 41 ∧ Dr d c G ∧ Keep d H G
def MidB (d c : Addr) (H : Hp) (σ : L2.St) (G : Hp) : Prop := ∃ many most : Int, σ = [some (.ref d), some (.int many), some (.int most), none, none] ∧ 0 ≤ many ∧ many ≤ 41 ∧ 1 ≤ most ∧ most ≤ 12 ∧ Dr d c G ∧ Keep d H G
theorem ok_rate_clock (T : Tx K mg) : FnOk P w K mg base CX0 4 T.f_rate_clock T.fd_rate_clock ["_law_d"] (sp1 rClock) := by
  refine okR1 T.F_rate_clock sc_rate_clock rfl fun cdv A outer s H Q E x hr h => ?_
  obtain ⟨d, c, rfl, dr, q⟩ := h
  refine ⟨_, pss_cons (ps_set (i := 1) sc_rate_clock.nd rfl (Or.inl rfl) (pe_op op_add (pe_call (ok_draw T) (hr.mono (by decide)) rfl T.m_draw T.F_draw.kp T.b_draw .nil pass0 (pa_cons (pv 0) (pa_cons pe_int pa_nil))) (pe_call (ok_draw T) (hr.mono (by decide)) rfl T.m_draw T.F_draw.kp T.b_draw .nil pass0 (pa_cons (pv 0) (pa_cons pe_int pa_nil)))))
      (C8.pss_cut (ps_if (pt_val (pe_call (ok_rare T) (hr.mono (by decide)) rfl T.m_rare T.F_rare.kp T.b_rare .nil pass0 (pa_cons (pv 0) (pa_cons pe_int pa_nil)))) (pss_one (ps_set (i := 1) sc_rate_clock.nd rfl (Or.inl rfl) (pe_op op_add pe_int (pe_call (ok_draw T) (hr.mono (by decide)) rfl T.m_draw T.F_draw.kp T.b_draw .nil pass0 (pa_cons (pv 0) (pa_cons pe_int pa_nil)))))) pss_nil)
      (C8.pss_cut (ps_set (i := 2) sc_rate_clock.nd rfl (Or.inr rfl) (pe_ifExp (pt_cmpR op_eq (pe_call (ok_draw T) (hr.mono (by decide)) rfl T.m_draw T.F_draw.kp T.b_draw .nil pass0 (pa_cons (pv 0) (pa_cons pe_int pa_nil))) pe_int (nomark _)) pe_int pe_int))
      (pss_cons (ps_setLc (i := 3) (own := [("_law_step", 4)]) (g := gName 4) (tt := tYes) rfl sc_rate_clock.nd rfl rfl (sw_true rfl rfl rfl (by decide +kernel)) (pi_range1 rfl T.z_range (pa_cons (pv 1) pa_nil)) (blkOk_by (N := ["_law_d", "_law_many", "_law_most", "_law_layers", "_law_step"]) (sc := defScope s_rate_clock) (by decide +kernel)) (fun _ _ _ _ _ => pg_name (i := 4) sc_rate_clock.nd rfl (Or.inl rfl)) (fun _ _ _ _ _ => pts_nil) (fun _ _ _ _ _ => (pe_call (ok_rate T) (hr.mono (by decide)) rfl T.m_rate T.F_rate.kp T.b_rate .nil pass0 (pa_cons (pv 0) (pa_cons (pv 2) pa_nil)))))
      (C8.pss_cut (ps_if (pt_cmpR op_eq (pe_call (ok_draw T) (hr.mono (by decide)) rfl T.m_draw T.F_draw.kp T.b_draw .nil pass0 (pa_cons (pv 0) (pa_cons pe_int pa_nil))) pe_int (nomark _)) (pss_one (ps_for PassesOwn.never rfl (pi_range1 rfl T.z_range (pa_cons (pe_op op_add pe_int (pe_call (ok_draw T) (hr.mono (by decide)) rfl T.m_draw T.F_draw.kp T.b_draw .nil pass0 (pa_cons (pv 0) (pa_cons pe_int pa_nil)))) pa_nil)) (pg_name (i := 4) sc_rate_clock.nd rfl (Or.inl rfl))
      (pss_one (ps_expr (pe_bm PySem.F.plainAttrs_list PySem.F.slot_list_insert PySem.F.type_list_insert mt_insert (pv 3) (pa_cons (pe_call (ok_draw T) (hr.mono (by decide)) rfl T.m_draw T.F_draw.kp T.b_draw .nil pass0 (pa_cons (pv 0) (pa_cons (pe_op op_add (pe_callB call_len_seq (by rfl) T.z_len (by decide +kernel) (pa_cons (pv 3) pa_nil)) pe_int) pa_nil))) (pa_cons (pe_call (ok_is_layer T) (hr.mono (by decide)) rfl T.m_is_layer T.F_is_layer.kp T.b_is_layer .nil pass0 (pa_cons (pv 0) pa_nil)) pa_nil))))))) pss_nil)
      (pss_one (ps_ret (pe_callTy call_tuple_of (by rfl) T.z_tuple (by decide +kernel) (pa_cons (pv 3) pa_nil)))))))), ?_⟩
  refine ⟨_, rfl, _, _, rfl, d, c, 4, rfl, rfl, dr, by decide, by decide, fun r1 H1 a1 b1 dr1 kp1 => ⟨_, rfl, _, _, rfl, d, c, 5, rfl, rfl, dr1, by decide, by decide, fun r2 H2 a2 b2 dr2 kp2 => ⟨_, _, rfl, rfl, ?_⟩⟩⟩
  have k2 : Keep d H H2 := kp1.trans kp2
  -- a word behind each if: the number of layers, the greatest rate, the layers
  have one : ∀ (many : Int) (H4 : Hp), 0 ≤ many → many ≤ 41 → Dr d c H4 → Keep d H H4 → MidA d c H [some (.ref d), some (.int many), none, none, none] H4 := fun many H4 m0 m1 dr4 k4 => ⟨many, rfl, m0, m1, dr4, k4⟩
  refine ⟨MidA d c H, ?_, ?_⟩
  · refine ⟨_, rfl, _, _, rfl, d, c, 6, rfl, rfl, dr2, by decide, by decide, fun rr H3 dr3 kp3 => ⟨_, rfl, ?_⟩⟩
    have k3 : Keep d H H3 := k2.trans kp3
    cases rr with
    | true =>
      refine iteT ⟨_, rfl, _, _, rfl, d, c, 33, rfl, rfl, dr3, by decide, by decide, fun r4 H4 a4 b4 dr4 kp4 => ⟨_, _, rfl, rfl, ?_⟩⟩
      exact one _ H4 (by omega) (by omega) dr4 (k3.trans kp4)
    | false => exact iteF (one _ H3 (by omega) (by omega) dr3 k3)
  rintro σ H4 ⟨many, rfl, m0, m1, dr4, k4⟩
  refine ⟨MidB d c H, ?_, ?_⟩
  · refine ⟨_, rfl, _, _, rfl, d, c, 2, rfl, rfl, dr4, by decide, by decide, fun r5 H5 a5 b5 dr5 kp5 => ⟨rfl, _, rfl, ?_⟩⟩
    exact ite2 (fun _ => ⟨many, 12, rfl, m0, m1, by decide, by decide, dr5, k4.trans kp5⟩) (fun _ => ⟨many, 3, rfl, m0, m1, by decide, by decide, dr5, k4.trans kp5⟩)
  rintro σ H5 ⟨many, most, rfl, m0, m1, o1, o2, dr5, k5⟩
  refine ⟨_, rfl, many, rfl, by omega, by omega, fun D hD => ?_⟩
  have Dd := dr5.dne hD
  have Dc := dr5.cne hD
  have nD : ∀ {b : Addr} {o : HO}, H b = some o → b ≠ d → b ≠ D := fun e n => ne_of_none (k5 _ _ e n) hD
  refine lc_range (lo := 0) (n := many.toNat) (fun i H' => Grow d c H D i H') ⟨[], [], upd_same, .nil, (fun l hl => by cases hl), Nat.le_refl _, dr5.new hD, k5.trans (Keep.new hD)⟩ ?_ ?_
  · rintro i H' hi ⟨acc, ls, e1, e2, e3, e4, dr', k'⟩
    refine ⟨rfl, yes ⟨_, rfl, _, rfl, _, _, rfl, d, c, most, rfl, rfl, dr', o1, o2, fun v p H6 gp hv dr6 kp6 => ?_⟩⟩
    have hacc : H6 D = some (.lst acc) := kp6 _ _ e1 Dd
    have hl := Paired.length e2
    refine ⟨acc, hacc, small1000 (by omega), acc ++ [v], ls ++ [some p], upd_same, ?_, fun l hl => ?_, by rw [List.length_append]; simp only [List.length_singleton]; omega, dr6.else Dd Dc, fun b o e n => upd_else (k'.trans kp6 _ _ e n) (nD e n)⟩
    · have ts : TS H' (upd H6 D (.lst (acc ++ [v]))) := (TS.dr dr' kp6).trans (TS.upd hacc)
      exact Paired.app (Paired.mapP e2 fun x y z => LayV.mono ts z) (.cons (LayV.mono (TS.upd hacc) hv) .nil)
    · rcases List.mem_append.mp hl with h | h
      · exact e3 l h
      · rw [List.mem_singleton.mp h]
        exact gp
  rintro H' ⟨acc, ls, e1, e2, e3, e4, dr', k'⟩
  refine ⟨fun σ G => ∃ v4, σ = [some (.ref d), some (.int many), some (.int most), some (.ref D), v4] ∧ Grow d c H D 60 G, ?_, ?_⟩
  · refine ⟨_, rfl, _, _, rfl, d, c, 4, rfl, rfl, dr', by decide, by decide, fun r8 H8 a8 b8 dr8 kp8 => ⟨rfl, _, rfl, ?_⟩⟩
    have g1 : H8 D = some (.lst acc) := kp8 _ _ e1 Dd
    have g2 : Paired (LayV H8) acc ls := Paired.mapP e2 fun x y z => LayV.mono (TS.dr dr' kp8) z
    have k8 : Keep d H H8 := k'.trans kp8
    refine ite2 (fun _ => ?_) (fun _ => ⟨none, rfl, acc, ls, g1, g2, e3, by omega, dr8, k8⟩)
    refine ⟨_, rfl, _, _, rfl, d, c, 2, rfl, rfl, dr8, by decide, by decide, fun r9 H9 a9 b9 dr9 kp9 => ⟨_, _, rfl, rfl, _, rfl, by omega, by omega, ?_⟩⟩
    refine for_range (lo := 0) (n := (1 + r9).toNat) (fun i σ G => ∃ v4 : Option V, σ = [some (.ref d), some (.int many), some (.int most), some (.ref D), v4] ∧ Grow d c H D (41 + i) G)
      ⟨none, rfl, acc, ls, kp9 _ _ g1 Dd, Paired.mapP g2 fun x y z => LayV.mono (TS.dr dr8 kp9) z, e3, by omega, dr9, k8.trans kp9⟩ ?_ ?_
    · rintro i σ G hi ⟨v4, rfl, acc, ls, f1, f2, f3, f4, drG, kG⟩
      have hl := Paired.length f2
      refine ⟨_, rfl, .inl ⟨rfl, _, SqL.of f1⟩, _, rfl, _, rfl, D, acc, rfl, .inl (SqL.of f1), _, _, rfl, rfl, _, _, rfl, d, c, _, rfl, rfl, drG, by omega, by omega, fun rA HA aA bA drA kpA => ⟨_, rfl, _, rfl, d, c, rfl, drA, fun v HB hv drB kpB => ?_⟩⟩
      have f1' : HB D = some (.lst acc) := kpB _ _ (kpA _ _ f1 Dd) Dd
      refine ⟨D, acc, rA, v, rfl, rfl, f1', small1000 (by omega), aA, by omega, ?_⟩
      have ts : TS G (upd HB D (.lst (acc.take rA.toNat ++ [v] ++ acc.drop rA.toNat))) := ((TS.dr drG kpA).trans (TS.dr drA kpB)).trans (TS.upd f1')
      have f2' : Paired (LayV (upd HB D (.lst (acc.take rA.toNat ++ [v] ++ acc.drop rA.toNat)))) acc ls := Paired.mapP f2 fun x y z => LayV.mono ts z
      refine ⟨_, rfl, _, ls.take rA.toNat ++ [none] ++ ls.drop rA.toNat, upd_same, Paired.app (Paired.app (Paired.tk _ f2') (.cons (LayV.mono (TS.upd f1') hv) .nil)) (Paired.dp _ f2'), fun l hl => ?_, ?_, drB.else Dd Dc, fun b o e n => upd_else (kpB _ _ (kpA _ _ (kG _ _ e n) n) n) (nD e n)⟩
      · rcases List.mem_append.mp hl with h | h
        · rcases List.mem_append.mp h with h | h
          · exact f3 l (List.mem_of_mem_take h)
          · rw [List.mem_singleton.mp h]
            trivial
        · exact f3 l (List.mem_of_mem_drop h)
      · simp only [List.length_append, List.length_take, List.length_drop, List.length_singleton]
        omega
    · rintro σ G ⟨v4, rfl, acc, ls, f1, f2, f3, f4, drG, kG⟩
      exact ⟨v4, rfl, acc, ls, f1, f2, f3, by omega, drG, kG⟩
  · rintro σ G ⟨v4, rfl, acc, ls, f1, f2, f3, f4, drG, kG⟩
    refine ⟨_, rfl, D, acc, rfl, .inl ⟨SqL.of f1, fun t ht => ?_⟩⟩
    exact q _ ls _ ⟨t, acc, rfl, upd_same, Paired.mapP f2 fun x y z => LayV.mono (TS.of (same_new ht)) z⟩ f3 f4 (drG.new ht) (kG.trans (Keep.new ht))
/-! ### the law -/
def rLaw (K : PySem.W.Frag) : V → Hp → VK → Prop := fun x H Q => ∃ (a : Addr) (ns : List Int), x = .ref a ∧ SqL K H a (ns.map V.int) ∧ ns.length ≤ 63 ∧ ∀ H', Q (.bl true) H'
theorem rate_data {H : Hp} {v : V} {o : Option (Int × Int)} (h : RateV H v o) (hb : ∀ n k, o = some (n, k) → n.natAbs < 2 ^ 1000 ∧ k.natAbs < 2 ^ 1000) :
    ∃ dd : PyData, Dp K H v dd ∧ dd.showable = true ∧ dd.hasDict = false ∧ dd.depth ≤ 60 ∧ dd.shown.length ≤ sizeLine ∧ dd = (match o with | none => .none | some (n, k) => .tuple [.int n, .int k]) := by
  cases o with
  | none =>
    have e : v = .non := h
    subst e
    exact ⟨.none, .non, rfl, rfl, by decide, by decide +kernel, rfl⟩
  | some nk =>
    obtain ⟨n, k⟩ := nk
    obtain ⟨p, e, h⟩ := h
    subst e
    obtain ⟨hn, hk⟩ := hb n k rfl
    have l1 : n.natAbs.log2 < 1920 := Nat.lt_of_lt_of_le (PySem.Flt.log2_lt_of (Nat.succ_pos 999) hn) (Nat.le_of_ble_eq_true rfl)
    have l2 : k.natAbs.log2 < 1920 := Nat.lt_of_lt_of_le (PySem.Flt.log2_lt_of (Nat.succ_pos 999) hk) (Nat.le_of_ble_eq_true rfl)
    refine ⟨.tuple [.int n, .int k], .tup (SqT.of h) (.cons (.int n) (.cons (.int k) .nil)), ?_, rfl, ?_, ?_, rfl⟩
    · show (decide (n.natAbs.log2 < 1920) && (decide (k.natAbs.log2 < 1920) && true)) = true
      rw [decide_eq_true l1, decide_eq_true l2]
      rfl
    · show 0 + 1 ≤ 60
      decide
    · have es : (PyData.tuple [.int n, .int k]).shown = tupleText [((toString n : String) : Str), ((toString k : String) : Str)] := by
        simp only [PyData.shown, PyData.shownAll]
      rw [es]
      show (("(" : Str) ++ (((toString n : String) : Str) ++ (", " : Str) ++ ((toString k : String) : Str)) ++ (")" : Str)).length ≤ sizeLine
      have e1 := PyProof.Rows.int_text_len_1921 l1
      have e2 := PyProof.Rows.int_text_len_1921 l2
      have e3 : ("(" : Str).length = 1 := by decide +kernel
      have e4 : (", " : Str).length = 2 := by decide +kernel
      have e5 : (")" : Str).length = 1 := by decide +kernel
      rw [Str.length_append, Str.length_append, Str.length_append, Str.length_append, e3, e4, e5, sizeLine_eq]
      omega
theorem fwd_small {ls : List Lay} (hg : ∀ l ∈ ls, good l) (hl : ls.length ≤ 61) : ∀ n k, fwd 1 0 ls = some (n, k) → n.natAbs < 2 ^ 1000 ∧ k.natAbs < 2 ^ 1000 := by
  intro n k h
  by_cases hn : none ∈ ls
  · rw [fwd_none ls 1 0 hn] at h
    cases h
  · obtain ⟨ps, rfl⟩ := all_some ls hn
    have gp : ∀ p ∈ ps, goodP p := fun p hp => hg (some p) (List.mem_map_of_mem hp)
    obtain ⟨N1, K0, KN⟩ := bwd_ok ps gp
    have hlt := bwd_lt ps gp
    rw [fwd_bwd, Int.one_mul, Int.one_mul, Int.zero_add] at h
    have e1 : (bwd ps).1 = n := (Prod.mk.inj (Option.some.inj h)).1
    have e2 : (bwd ps).2 = k := (Prod.mk.inj (Option.some.inj h)).2
    rw [List.length_map] at hl
    have hp : (2 : Nat) ^ (4 * ps.length + 1) ≤ 2 ^ 1000 := Nat.pow_le_pow_right (by decide) (by omega)
    have hc : ((2 ^ (4 * ps.length + 1) : Nat) : Int) = (2 : Int) ^ (4 * ps.length + 1) := by simp
    rw [← hc] at hlt
    generalize (2 : Nat) ^ 1000 = B at hp
    generalize (2 : Nat) ^ (4 * ps.length + 1) = C at hp hlt
    omega
theorem ok_law (T : Tx K mg) : RootOk P w K mg base T.f_law T.fd_law ["_law_script"] (sp1 (rLaw K)) := by
  refine rootOk T.F_law sc_law (fun vs G R h => ?_) fun cd t H vs Q h => ?_
  · obtain ⟨_, rfl, _⟩ := h
    rfl
  obtain ⟨x, rfl, a, ns, rfl, hS, h63, q⟩ := h
  have hr : Room 20 (callerA.deeper (envOfC "law" (defScope s_law) t.heap.objs.size T.f_law cd)) := ⟨rfl, (by show 1 + claimMargin + 1 + 3 * 20 + 5 < recursionLimit; decide), (by show 4 + 3 + 16 * 20 + 200 < cLine; decide)⟩
  have hu70 : (7 : Nat) + 70 < cLine := by decide
  refine ⟨_, pss_cons (ps_set (i := 1) sc_law.nd rfl (Or.inl rfl) (pe_call (ok_begin T) (hr.mono (by decide)) rfl T.m_begin T.F_begin.kp T.b_begin .nil pass0 (pa_cons (pv 0) pa_nil)))
      (pss_cons (ps_set (i := 2) sc_law.nd rfl (Or.inl rfl) (pe_lst (pa_cons (pe_call (ok_rate_clock T) (hr.mono (by decide)) rfl T.m_rate_clock T.F_rate_clock.kp T.b_rate_clock .nil pass0 (pa_cons (pv 1) pa_nil)) (pa_cons (pe_call (ok_rate_clock T) (hr.mono (by decide)) rfl T.m_rate_clock T.F_rate_clock.kp T.b_rate_clock .nil pass0 (pa_cons (pv 1) pa_nil)) pa_nil))))
      (C8.pss_cut (ps_expr (pe_bm PySem.F.plainAttrs_list PySem.F.slot_list_append PySem.F.type_list_append mt_append (pv 2) (pa_cons (pe_op op_catA (pe_ix ix_list (pv 2) pe_int (fun _ _ => rfl)) (pe_tup (pa_cons (pe_call (ok_rate T) (hr.mono (by decide)) rfl T.m_rate T.F_rate.kp T.b_rate .nil pass0 (pa_cons (pv 1) (pa_cons pe_int pa_nil))) pa_nil))) pa_nil)))
      (pss_cons (ps_expr (pe_bm PySem.F.plainAttrs_list PySem.F.slot_list_append PySem.F.type_list_append mt_append (pv 2) (pa_cons (pe_ix ix_list (pv 2) pe_int (fun _ _ => rfl)) pa_nil)))
      (pss_cons (ps_for PassesOwn.never rfl (pi_list (pv 2)) (pg_name (i := 3) sc_law.nd rfl (Or.inl rfl))
      (pss_one (ps_if (pt_cmpR op_ne (pe_callB (call_repr rfl hu70) (by rfl) T.z_repr (by decide +kernel) (pa_cons (pe_call (ok_rate_of T) (hr.mono (by decide)) rfl T.m_rate_of T.F_rate_of.kp T.b_rate_of .nil pass0 (pa_cons (pv 3) pa_nil)) pa_nil)) (pe_callB (call_repr rfl hu70) (by rfl) T.z_repr (by decide +kernel) (pa_cons (pe_call (ok_rate_due T) (hr.mono (by decide)) rfl T.m_rate_due T.F_rate_due.kp T.b_rate_due .nil pass0 (pa_cons (pv 3) pa_nil)) pa_nil)) (nomark _)) (pss_one (ps_ret pe_bl)) pss_nil)))
      (pss_one (ps_ret pe_bl)))))), ?_⟩
  refine ⟨_, rfl, _, rfl, a, ns, rfl, hS, h63, fun d c H1 dr1 s1 => ?_⟩
  refine ⟨_, rfl, _, rfl, d, c, rfl, dr1, fun v1 l1 H2 c1 g1 n1 dr2 k2 => ⟨_, rfl, _, rfl, d, c, rfl, dr2, fun v2 l2 H3 c2 g2 n2 dr3 k3 => ⟨sl 2, fun L hL => ?_⟩⟩⟩
  have Ld := dr3.dne hL
  have Lc := dr3.cne hL
  have c1' : ClkV H3 v1 l1 := c1.mono (TS.dr dr2 k3)
  have hL1 : (upd H3 L (.lst [v1, v2])) L = some (.lst [v1, v2]) := upd_same
  have c1'' : ClkV (upd H3 L (.lst [v1, v2])) v1 l1 := c1'.mono (TS.of (same_new hL))
  have c2'' : ClkV (upd H3 L (.lst [v1, v2])) v2 l2 := c2.mono (TS.of (same_new hL))
  have dr4 : Dr d c (upd H3 L (.lst [v1, v2])) := dr3.new hL
  generalize upd H3 L (.lst [v1, v2]) = H4 at hL1 c1'' c2'' dr4
  -- clocks.append(clocks[0] + (rate(d, 12),))
  obtain ⟨a1, vs1, rfl, ha1, p1⟩ := id c1''
  refine ⟨fun σ G => ∃ (v3 : V) (p : Int × Int), goodP p ∧ σ = [some (.ref a), some (.ref d), some (.ref L), none] ∧ G L = some (.lst [.ref a1, v2, v3]) ∧ ClkV G (.ref a1) l1 ∧ ClkV G v2 l2 ∧ ClkV G v3 (l1 ++ [some p]), ?_, ?_⟩
  · refine ⟨_, rfl, .inl ⟨rfl, _, SqL.of hL1⟩, _, rfl, L, _, _, _, rfl, rfl, SqL.of hL1, at_n 0 rfl, _, rfl, _, _, rfl, d, c, 12, rfl, rfl, dr4, by decide, by decide, fun v p H5 gp hv dr5 k5 => ⟨sl 1, fun tt htt => ?_⟩⟩
    have ts5 : TS H4 (upd H5 tt (.tup [v])) := (TS.dr dr4 k5).trans (TS.of (same_new htt))
    have hlen1 := Paired.length p1
    have hL5 : (upd H5 tt (.tup [v])) L = some (.lst [.ref a1, v2]) := same_new htt _ _ (k5 _ _ hL1 Ld)
    have htt1 : (upd H5 tt (.tup [v])) tt = some (.tup [v]) := upd_same
    have hv1 : LayV (upd H5 tt (.tup [v])) v (some p) := LayV.mono (TS.of (same_new htt)) hv
    generalize upd H5 tt (.tup [v]) = H6 at ts5 hL5 htt1 hv1
    have q1 : Paired (LayV H6) vs1 l1 := Paired.mapP p1 fun x y z => LayV.mono ts5 z
    have q2 : ClkV H6 v2 l2 := c2''.mono ts5
    -- whatever tuple is put behind the others
    have fin : ∀ (b : Addr) (H7 : Hp), Same H6 H7 → H7 b = some (.tup (vs1 ++ [v])) → rAppend (.ref L) [.ref b] H7 fun _ G => ∃ (v3 : V) (p : Int × Int), goodP p ∧ [some (V.ref a), some (.ref d), some (.ref L), none] = [some (V.ref a), some (.ref d), some (.ref L), none] ∧ G L = some (.lst [.ref a1, v2, v3]) ∧ ClkV G (.ref a1) l1 ∧ ClkV G v2 l2 ∧ ClkV G v3 (l1 ++ [some p]) := by
      intro b H7 s7 hb
      have hL7 := s7 _ _ hL5
      have ts7 : TS H6 (upd H7 L (.lst ([.ref a1, v2] ++ [.ref b]))) := (TS.of s7).trans (TS.upd hL7)
      refine ⟨L, _, _, rfl, rfl, hL7, small1000 (by show 2 ≤ 1000; decide), .ref b, p, gp, rfl, upd_same, ⟨a1, vs1, rfl, ts7 _ _ (ts5 _ _ ha1), Paired.mapP q1 fun x y z => LayV.mono ts7 z⟩, q2.mono ts7, ⟨b, _, rfl, TS.upd hL7 _ _ hb, ?_⟩⟩
      exact Paired.app (Paired.mapP q1 fun x y z => LayV.mono ts7 z) (.cons (LayV.mono ts7 hv1) .nil)
    refine ⟨a1, tt, vs1, [v], rfl, rfl, SqT.of (ts5 _ _ ha1), SqT.of htt1, ?_, fun e => ?_, (fun _ e => by cases e), fun _ _ b hb => ?_⟩
    · simp only [List.length_singleton]
      exact sl _ (by omega)
    · exact fin tt H6 (Same.refl _) (by rw [e]; exact htt1)
    · exact fin b _ (same_new hb) upd_same
  rintro σ G ⟨v3, p, gp, rfl, hG, d1, d2, d3⟩
  refine ⟨_, rfl, .inl ⟨rfl, _, SqL.of hG⟩, _, rfl, L, _, _, _, rfl, rfl, SqL.of hG, at_n 0 rfl, L, _, _, rfl, rfl, hG, small1000 (by show 3 ≤ 1000; decide), ?_⟩
  have ts : TS G (upd G L (.lst ([.ref a1, v2, v3] ++ [.ref a1]))) := TS.upd hG
  have hG1 : (upd G L (.lst ([.ref a1, v2, v3] ++ [.ref a1]))) L = some (.lst [.ref a1, v2, v3, .ref a1]) := upd_same
  have e1 := d1.mono ts
  have e2 := d2.mono ts
  have e3 := d3.mono ts
  generalize upd G L (.lst ([.ref a1, v2, v3] ++ [.ref a1])) = G1 at hG1 e1 e2 e3
  refine ⟨_, rfl, L, rfl, ⟨_, SqL.of hG1⟩, for_list (K := K) (a := L) (xs := [.ref a1, v2, v3, .ref a1]) (fun i σ G' => ∃ v4 : Option V, σ = [some (.ref a), some (.ref d), some (.ref L), v4] ∧ Same G1 G') ⟨none, rfl, Same.refl _⟩ (fun i σ G' _ ⟨_, _, s⟩ => SqL.of (s _ _ hG1)) ?_ ?_⟩
  · rintro i x σ G' hx ⟨v4, rfl, s⟩
    have hx' : ∃ ls : List Lay, ClkV G' x ls ∧ (∀ l ∈ ls, good l) ∧ ls.length ≤ 61 := by
      have hm := List.mem_of_getElem? hx
      have g3 : ∀ l ∈ l1 ++ [some p], good l := fun l hl => by
        rcases List.mem_append.mp hl with h | h
        · exact g1 l h
        · rw [List.mem_singleton.mp h]
          exact gp
      simp only [List.mem_cons, List.not_mem_nil, or_false] at hm
      rcases hm with rfl | rfl | rfl | rfl
      · exact ⟨l1, e1.mono (TS.of s), g1, by omega⟩
      · exact ⟨l2, e2.mono (TS.of s), g2, by omega⟩
      · exact ⟨l1 ++ [some p], e3.mono (TS.of s), g3, by rw [List.length_append]; simp only [List.length_singleton]; omega⟩
      · exact ⟨l1, e1.mono (TS.of s), g1, by omega⟩
    obtain ⟨ls, ck, gd, ll⟩ := hx'
    have hb := fwd_small gd ll
    refine ⟨_, rfl, _, rfl, ls, ck, gd, fun u1 Ga sa ra => ?_⟩
    obtain ⟨D1, p1, p2, p3, p4, p5, pe1⟩ := rate_data ra hb
    refine ⟨u1, D1, rfl, p1, p2, p3, p4, p5, ?_⟩
    refine ⟨_, rfl, _, rfl, ls, ck.mono (TS.of sa), gd, by omega, fun u2 Gb sb rb => ?_⟩
    obtain ⟨D2, t1, t2, t3, t4, t5, pe2⟩ := rate_data rb hb
    refine ⟨u2, D2, rfl, t1, t2, t3, t4, t5, ?_⟩
    have ed : D1 = D2 := by rw [pe1, pe2]
    refine ⟨rfl, _, rfl, ?_⟩
    rw [ed, decide_eq_true (show V.str D2.shown = V.str D2.shown from rfl)]
    exact iteF ⟨_, rfl, s.trans (sa.trans sb)⟩
  · rintro σ G' _
    exact q G'
end

/-! ### the head -/
def d_rate_of : He.DefD := ⟨("rate_of", none), "rate_of", "rate_of", defArgs s_rate_of, defBody s_rate_of, defScope s_rate_of, [], []⟩
def d_slowed : He.DefD := ⟨("_slowed", none), "_slowed", "_slowed", defArgs s_slowed, defBody s_slowed, defScope s_slowed, [], []⟩
def d_begin : He.DefD := ⟨("_law_begin", none), "_law_begin", "_law_begin", defArgs s_begin, defBody s_begin, defScope s_begin, [], []⟩
def d_mixed : He.DefD := ⟨("_law_mixed", none), "_law_mixed", "_law_mixed", defArgs s_mixed, defBody s_mixed, defScope s_mixed, [], []⟩
def d_draw : He.DefD := ⟨("_law_draw", none), "_law_draw", "_law_draw", defArgs s_draw, defBody s_draw, defScope s_draw, [], []⟩
def d_draw_digit : He.DefD := ⟨("_law_draw_digit", none), "_law_draw_digit", "_law_draw_digit", defArgs s_draw_digit, defBody s_draw_digit, defScope s_draw_digit, [], []⟩
def d_rare : He.DefD := ⟨("_law_rare", none), "_law_rare", "_law_rare", defArgs s_rare, defBody s_rare, defScope s_rare, [], []⟩
def d_rate : He.DefD := ⟨("_law_rate", none), "_law_rate", "_law_rate", defArgs s_rate, defBody s_rate, defScope s_rate, [], []⟩
def d_is_layer : He.DefD := ⟨("_law_is_layer", none), "_law_is_layer", "_law_is_layer", defArgs s_is_layer, defBody s_is_layer, defScope s_is_layer, [], []⟩
def d_passed : He.DefD := ⟨("_law_passed", none), "_law_passed", "_law_passed", defArgs s_passed, defBody s_passed, defScope s_passed, [], []⟩
def d_product : He.DefD := ⟨("_law_product", none), "_law_product", "_law_product", defArgs s_product, defBody s_product, defScope s_product, [], []⟩
def d_rate_due : He.DefD := ⟨("_law_rate_due", none), "_law_rate_due", "_law_rate_due", defArgs s_rate_due, defBody s_rate_due, defScope s_rate_due, [], []⟩
def d_rate_clock : He.DefD := ⟨("_law_rate_clock", none), "_law_rate_clock", "_law_rate_clock", defArgs s_rate_clock, defBody s_rate_clock, defScope s_rate_clock, [], []⟩
def d_law : He.DefD := ⟨("law", none), "law", "law", defArgs s_law, defBody s_law, defScope s_law, [], []⟩
def fn : List He.DefD := [d_rate_of, d_slowed, d_begin, d_mixed, d_draw, d_draw_digit, d_rare, d_rate, d_is_layer, d_passed, d_product, d_rate_due, d_rate_clock, d_law]
def fa : List He.Fa := [.glo "rate_of", .glo "_slowed", .glo "_law_begin", .glo "_law_mixed", .glo "_law_draw", .glo "_law_draw_digit", .glo "_law_rare", .glo "_law_rate", .glo "_law_is_layer", .glo "_law_passed", .glo "_law_product", .glo "_law_rate_due", .glo "_law_rate_clock", .glo "law", .free "abs", .free "divmod", .free "int", .free "len", .free "range", .free "repr", .free "tuple"]
def exB (K : PySem.W.Frag) : Bool := true
abbrev theRow : PySem.W.OpenRow := PySem.W.OpenLaw.row PySem.Challenge.rw_keepsgoing_k25_rates
abbrev Seen : Type := He.AlD × Bool
def seenOf (K : PySem.W.Frag) : Seen := (He.obsD fa fn K, exB K)
def fragOf (g : Addr → Option Obj) : PySem.W.Frag := He.frG g (He.asD g 4)
def hookM : PySem.W.Hook where
  α := Seen
  obs := fun s => seenOf (fragOf s.heap.get?)
  val := fun _ => (He.valD fn, true)
  says := fun _ h => ∃ K : PySem.W.Frag, K.In h ∧ He.SaysD fa fn K ∧ exB K = true
  of := fun _ _ e => ⟨_, He.frG_in, congrArg (fun z : Seen => z.1) e, congrArg (fun z : Seen => z.2) e⟩
  keeps := fun _ _ _ ⟨K, h1, h2⟩ k => ⟨K, PySem.W.Frag.In.keeps h1 k, h2⟩
def obM (s : PySem.W.SharedT) : Seen := seenOf (fragOf (HandSHeadRun.getT s))
theorem obM_eq (s : PySem.W.SharedT) : obM s = hookM.obs s.abs := by
  have e : HandSHeadRun.getT s = s.abs.heap.get? := funext (HandSHeadRun.getT_eq s)
  unfold obM
  rw [e] <;> rfl
def others : List PySem.Str := ["rate_of", "_slowed", "_law_begin", "_law_mixed", "_law_draw", "_law_draw_digit", "_law_rare", "_law_rate", "_law_is_layer", "_law_passed", "_law_product", "_law_rate_due", "_law_rate_clock"]
theorem runM (w : World) : HandSHeadRun.RunEq theRow (PySem.W.view theRow.prog [15]) hookM obM 3000 others w := by
  intro os
  kernel_rfl
theorem factsM {P : Program} {w : World} {K : PySem.W.Frag} {h : Heap} {mg : Str → Option Value} {f : Addr} (X : K.In h) (G : h.Ns mainGlobals mg) (hfa : mg ("law" : Str) = some (.ref f)) (c : He.SaysD fa fn K) (cex : exB K = true) :
    ∃ fd : FuncData, (∀ (s : Shared) (v : Value), BindsTo s fd ⟨[v], []⟩ [("_law_script", v)]) ∧ ∀ base : Heap, K.In base → base.Ns mainGlobals mg → RootOk P w K mg base f fd ["_law_script"] (sp1 (rLaw K)) := by
  obtain ⟨fd_rate_of, F_rate_of⟩ := c.def_ 0 (d := d_rate_of) rfl
  obtain ⟨fd_slowed, F_slowed⟩ := c.def_ 1 (d := d_slowed) rfl
  obtain ⟨fd_begin, F_begin⟩ := c.def_ 2 (d := d_begin) rfl
  obtain ⟨fd_mixed, F_mixed⟩ := c.def_ 3 (d := d_mixed) rfl
  obtain ⟨fd_draw, F_draw⟩ := c.def_ 4 (d := d_draw) rfl
  obtain ⟨fd_draw_digit, F_draw_digit⟩ := c.def_ 5 (d := d_draw_digit) rfl
  obtain ⟨fd_rare, F_rare⟩ := c.def_ 6 (d := d_rare) rfl
  obtain ⟨fd_rate, F_rate⟩ := c.def_ 7 (d := d_rate) rfl
  obtain ⟨fd_is_layer, F_is_layer⟩ := c.def_ 8 (d := d_is_layer) rfl
  obtain ⟨fd_passed, F_passed⟩ := c.def_ 9 (d := d_passed) rfl
  obtain ⟨fd_product, F_product⟩ := c.def_ 10 (d := d_product) rfl
  obtain ⟨fd_rate_due, F_rate_due⟩ := c.def_ 11 (d := d_rate_due) rfl
  obtain ⟨fd_rate_clock, F_rate_clock⟩ := c.def_ 12 (d := d_rate_clock) rfl
  obtain ⟨fd_law, F_law⟩ := c.def_ 13 (d := d_law) rfl
  have T : Tx K mg := {
    f_rate_of := _, fd_rate_of := fd_rate_of, F_rate_of := F_rate_of, m_rate_of := He.glo_ok X G (c.fact 0 (f := .glo "rate_of") rfl), b_rate_of := F_rate_of.bindsN fun _ _ _ _ _ _ us hl => match us, hl with | [_], _ => rfl
    f_slowed := _, fd_slowed := fd_slowed, F_slowed := F_slowed, m_slowed := He.glo_ok X G (c.fact 1 (f := .glo "_slowed") rfl), b_slowed := F_slowed.bindsN fun _ _ _ _ _ _ us hl => match us, hl with | [_, _, _], _ => rfl
    f_begin := _, fd_begin := fd_begin, F_begin := F_begin, m_begin := He.glo_ok X G (c.fact 2 (f := .glo "_law_begin") rfl), b_begin := F_begin.bindsN fun _ _ _ _ _ _ us hl => match us, hl with | [_], _ => rfl
    f_mixed := _, fd_mixed := fd_mixed, F_mixed := F_mixed, m_mixed := He.glo_ok X G (c.fact 3 (f := .glo "_law_mixed") rfl), b_mixed := F_mixed.bindsN fun _ _ _ _ _ _ us hl => match us, hl with | [_, _], _ => rfl
    f_draw := _, fd_draw := fd_draw, F_draw := F_draw, m_draw := He.glo_ok X G (c.fact 4 (f := .glo "_law_draw") rfl), b_draw := F_draw.bindsN fun _ _ _ _ _ _ us hl => match us, hl with | [_, _], _ => rfl
    f_draw_digit := _, fd_draw_digit := fd_draw_digit, F_draw_digit := F_draw_digit, m_draw_digit := He.glo_ok X G (c.fact 5 (f := .glo "_law_draw_digit") rfl), b_draw_digit := F_draw_digit.bindsN fun _ _ _ _ _ _ us hl => match us, hl with | [_, _], _ => rfl
    f_rare := _, fd_rare := fd_rare, F_rare := F_rare, m_rare := He.glo_ok X G (c.fact 6 (f := .glo "_law_rare") rfl), b_rare := F_rare.bindsN fun _ _ _ _ _ _ us hl => match us, hl with | [_, _], _ => rfl
    f_rate := _, fd_rate := fd_rate, F_rate := F_rate, m_rate := He.glo_ok X G (c.fact 7 (f := .glo "_law_rate") rfl), b_rate := F_rate.bindsN fun _ _ _ _ _ _ us hl => match us, hl with | [_, _], _ => rfl
    f_is_layer := _, fd_is_layer := fd_is_layer, F_is_layer := F_is_layer, m_is_layer := He.glo_ok X G (c.fact 8 (f := .glo "_law_is_layer") rfl), b_is_layer := F_is_layer.bindsN fun _ _ _ _ _ _ us hl => match us, hl with | [_], _ => rfl
    f_passed := _, fd_passed := fd_passed, F_passed := F_passed, m_passed := He.glo_ok X G (c.fact 9 (f := .glo "_law_passed") rfl), b_passed := F_passed.bindsN fun _ _ _ _ _ _ us hl => match us, hl with | [_, _], _ => rfl
    f_product := _, fd_product := fd_product, F_product := F_product, m_product := He.glo_ok X G (c.fact 10 (f := .glo "_law_product") rfl), b_product := F_product.bindsN fun _ _ _ _ _ _ us hl => match us, hl with | [_], _ => rfl
    f_rate_due := _, fd_rate_due := fd_rate_due, F_rate_due := F_rate_due, m_rate_due := He.glo_ok X G (c.fact 11 (f := .glo "_law_rate_due") rfl), b_rate_due := F_rate_due.bindsN fun _ _ _ _ _ _ us hl => match us, hl with | [_], _ => rfl
    f_rate_clock := _, fd_rate_clock := fd_rate_clock, F_rate_clock := F_rate_clock, m_rate_clock := He.glo_ok X G (c.fact 12 (f := .glo "_law_rate_clock") rfl), b_rate_clock := F_rate_clock.bindsN fun _ _ _ _ _ _ us hl => match us, hl with | [_], _ => rfl
    f_law := _, fd_law := fd_law, F_law := F_law, m_law := He.glo_ok X G (c.fact 13 (f := .glo "law") rfl), b_law := F_law.bindsN fun _ _ _ _ _ _ us hl => match us, hl with | [_], _ => rfl
    z_abs := He.free_ok X G (c.fact 14 (f := .free "abs") rfl)
    z_divmod := He.free_ok X G (c.fact 15 (f := .free "divmod") rfl)
    z_int := He.free_ok X G (c.fact 16 (f := .free "int") rfl)
    z_len := He.free_ok X G (c.fact 17 (f := .free "len") rfl)
    z_range := He.free_ok X G (c.fact 18 (f := .free "range") rfl)
    z_repr := He.free_ok X G (c.fact 19 (f := .free "repr") rfl)
    z_tuple := He.free_ok X G (c.fact 20 (f := .free "tuple") rfl)
  }
  have e := hfa.symm.trans T.m_law
  cases e
  have b := FunD.bindsA (ps := ["_law_script"]) T.F_law fun _ _ _ _ _ _ us hl => match us, hl with | [_], _ => rfl
  exact ⟨T.fd_law, fun s v => b s [v] rfl, fun base _ _ => ok_law T⟩
end My
open PySem PySem.W PySem.Calls PyProof.Rows
set_option maxRecDepth 100000 in
set_option maxHeartbeats 0 in
theorem PySem.Challenge.cw_keepsgoing_k25_rates_holds : PySem.Challenge.rw_keepsgoing_k25_rates.Holds := by
  w_on; o_law
  refine HandSHeadRun.head_any (r := My.theRow) (q := view My.theRow.prog [15]) (H := My.hookM) (ob := My.obM) (M := 3000) (loose := My.others) (d := HandSHeadRun.topDef My.theRow.prog 15) (kwd := []) My.obM_eq
    (by kernel_rfl) (fun s => by kernel_rfl) My.runM (by kernel_rfl) (by kernel_rfl) (by kernel_rfl) (by rfl) (by first | assumption | decide +kernel) (by decide +kernel) ⟨rfl, rfl, rfl, rfl, rfl, by decide +kernel⟩ ?hw ?hc
  case hw => w_witness2
  case hc =>
    refine My.root_walk (l := PySem.Challenge.rw_keepsgoing_k25_rates) (n := 63) (x := "_law_script") rfl (by decide) (by kernel_rfl) ?F
    intro w mg fa h Y G hmg0
    obtain ⟨K, KX, c, cx⟩ := Y
    have hmg : mg ("law" : PySem.Str) = some (.ref fa) := by
      have e : (HandSHeadRun.topDef My.theRow.prog 15).name = ("law" : PySem.Str) := by kernel_rfl
      rw [← e]
      exact hmg0
    obtain ⟨fd, hb, hF⟩ := My.factsM (P := My.theRow.prog) (w := w) KX G hmg c cx
    exact ⟨K, fd, My.sp1 (My.rLaw K), KX, hb, fun H a ns hl _ hS => ⟨_, rfl, a, ns, rfl, hS, hl, fun _ => rfl⟩, hF⟩

