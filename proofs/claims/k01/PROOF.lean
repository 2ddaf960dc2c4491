
import PyProof.Rows.All
import Wide.All
import OpenK.AllK
import Wide.FinOn
import KE.KStateDown
import HandS.ForMost
import HandS.Walk
import HandS.IsInst
import HandS.TupAny
import HandS.Style
import HandS.More
import HandS.Codes
import HandS.Defaults
import HandS.WordsExc
import HandS.Head0
import HandS.Head1
import HandS.Head2
import HandS.HeadEnd
import HandS.HeadHook1
import HandS.HeadHook2
import HandS.HeadHook3
import HandS.Deep
import HandS.Strs
import HandS.Star
import HandS.CallLocal
import HandS.NoneIn
import HandS.Conv
import HandS.RevRange
import HandS.TupLe
import HandS.Flow
import HandS.SetFor
import HandS.ListItems
import KE.KDictZip
import PyProof.TupleOfGen
import HandS.Sort
import HandS.AnyAll
import HandS.GenList
import HandS.HeadHook4
import HandS.HeadWalk
import HandS.SetKeys
import HandS.DictComp
import HandS.WordsDict
import HandS.DictTup
import HandS.SortOrd
import HandS.TupMul
import HandS.ForExc
import HandS.ExcInit
import HandS.ExcField
import HandS.ExcIs
import KE.KExcIs
import HandS.FStr
import HandS.Nested
import KE.KExcSuper
import KE.KSuper
import HandS.Zip
import HandS.SortInts
import KE.GoesEnum
import PySem.Challenge.RW_keepsgoing_k01_operations
set_option Elab.async false
set_option linter.all false
set_option maxRecDepth 100000
set_option maxHeartbeats 0
namespace My
open PySem PySem.Spec PyProof.Rows L2
/-! ### an own error whose __init__ says super().__init__(e), then self.f = f -/
abbrev envS (qual : Str) (scope : Scope) (L f cda cc : Addr) : Env := PySem.W.envX qual scope L f (.ref cda) [("__class__", cc)]
/-- the context of such an __init__ -/
def cxS (P : Program) (w : World) (K : PySem.W.Frag) (mg : Str → Option Value) (base : Heap) (N : List Str) (qual : Str) (scope : Scope) (f cda cc : Addr) (A : Around) (outer : List Env) (s : Shared) (H : Hp) : Cx where
  prog := P
  w := w
  K := K
  mg := mg
  base := base
  A := A.deeper (envS qual scope s.heap.objs.size f cda cc)
  N := N
  s_0 := s
  H_0 := H
  env := envS qual scope s.heap.objs.size f cda cc
  outer := outer
  stack := envS qual scope s.heap.objs.size f cda cc :: outer
  ex := []
  calm := true
  fn := fun _ => false
  pn := []
  xe := fun _ _ => False
/-- what the written part says of such an error's class at C, its __init__ at fI, its code at cda, its cell at cc -/
structure SupC (K : PySem.W.Frag) (C fI cda cc : Addr) (qual : Str) (params : Arguments) (body : List Stmt) (scope : Scope) (fd : FuncData) : Prop where
  ox : OexC K C
  fdO : ∃ oc od kV doc pm an ct osl, fd = PySem.W.fnX "__init__" qual params body scope [("__class__", cc)] .none kV doc pm an (.ref cda) ct ∧ K.lookup fI = some ⟨oc, od, .func fd, osl⟩
  file : ∃ ccl cdd vs ccs fl tf, K.lookup cda = some ⟨ccl, cdd, .fields vs, ccs⟩ ∧ vs[2]? = some (.str fl tf) ∧ (("/claim/cut.py" : Str) == fl) = true
  code : PySem.W.codeIn K (.ref cda) qual = true
  cell : ∃ cl cld csl, K.lookup cc = some ⟨cl, cld, .cell (some (.ref C)), csl⟩
  sub : PySem.W.mroIn K C (.ref C) = some true
  stat : PySem.W.nsIn K cStatics "thirdparty.any" = some none
  sup : PySem.W.ks_superIn K C C "__init__" = some (some (.builtin "ValueError.__init__"))
  subV : PySem.W.subIn K (.ref C) (.type "ValueError") = some true
theorem SupC.binds {K : PySem.W.Frag} {C fI cda cc : Addr} {qual : Str} {params : Arguments} {body : List Stmt} {scope : Scope} {fd : FuncData} (S : SupC K C fI cda cc qual params body scope fd) {ps : List Str}
    (h : ∀ (kV doc pm : Value) (an : Option Addr) (ct : Value) (us : List Value), us.length = ps.length → bindArgs (PySem.W.fnX "__init__" qual params body scope [("__class__", cc)] .none kV doc pm an (.ref cda) ct) ⟨us, []⟩ = pure (ps.zip us)) : Binds K fd ps [] := by
  obtain ⟨oc, od, kV, doc, pm, an, ct, osl, rfl, _⟩ := S.fdO
  exact .all (h kV doc pm an ct)
/-- the program's file, as it is named; it has no name super of its own -/
class PrgOk (P : Program) : Prop where
  file : (P.main.file : Str) = "/claim/cut.py"
  top : (P.main.scope.names.lookup ("super" : Str)).isSome = false
section
variable {X : Cx} {pins : List (Addr × Obj)} {σ : L2.St} {H : Hp} {s : Shared} {a C u : Addr} {us : List Value} {Q : Value → Shared → Prop} {E : Value → Shared → Prop} {A : Around}
theorem call_mw (T : OexC X.K C) (I : Inv X pins σ H s) (ea : H a = some (exo a C none)) (hu : s.heap.get? u = some (PySem.W.kxs_mw "ValueError.__init__" a)) (hl : us.length ≤ sizeLine) (h : ∀ s', Inv X pins σ H s' → Q .none s') :
    wpAny (model X.prog X.w) A (call (.ref u) us) Q E s := by
  obtain ⟨nm, q, N, bs, bm, sn, sb, ab, col, dd, k0, k1, k2, k3, k5, hC, hbm⟩ := T.cls
  obtain ⟨t1, ho⟩ := exo_at I.hok ea
  obtain ⟨hp, g, d, t, os⟩ := s
  have FB := F.excBase_ValueError
  have hC' : hp.get? C = _ := I.kIn _ _ hC
  have fin : ∀ h', (∀ b o, b ≠ a → hp.get? b = some o → h'.get? b = some o) → h'.get? a = some (PySem.W.excObj C hp.objs.size none .none) → Q .none ⟨h', g, d, t, os⟩ := fun h' k hx => by
    have J := I.write (t' := t) (x := a) (e := a) (o := exo a C none) (by rw [ea]; exact True.intro) (.inl rfl) k ⟨_, hx⟩ (exo_ok hx)
    have eu : upd H a (exo a C none) = H := funext fun b => by
      by_cases hb : b = a
      · rw [hb, upd_same, ea]
      · rw [upd_ne hb]
    exact h _ (eu ▸ J)
  refine wpAny_call (codeAny_of_tree ?_)
  show wpAny _ A.in1 (callAny (.ref u) ⟨us, []⟩) _ _ _
  simp only [callAny]
  refine wpAny_bind (wpAny_load hu ?_)
  simp only [PySem.W.kxs_mw, show (Value.type "method-wrapper" == Value.type "method" || Value.type "method-wrapper" == Value.type "builtin_function_or_method" || Value.type "method-wrapper" == Value.type "method-wrapper") = true by decide, if_true]
  refine PySem.W.KFB.if_so (by decide) (wpAny_bind (PySem.W.check_bound_init FB.toExcCallFacts hC' ho rfl ?_))
  refine wpAny_bind (wpAny_pure (wpAny_pure ⟨plainId_quiet FB.init.plain _, codeAny_builtin FB.initEntry ?_⟩))
  exact PySem.W.exc_init_tree (cls := .ref C) (t0 := t1) (dv := none) (c2 := .none) (c3 := .none) (b4 := .bool false) ho hl fun h' k hx _ => fin h' k hx
end
/-- a, v: an error that is being made, its argument -/
def spSup (C : Addr) (f : Str) (te : TE) : Sp := fun vs H Q _ => ∃ a v, vs = [.ref a, v] ∧ H a = some (exo a C none) ∧ (∀ R : VK, (∀ x, R x H) → te [some (.ref a), some v] H R) ∧ ∀ dx, H dx = none → dx ≠ a → Q .non (upd (upd H dx (exd dx [(f, v)])) a (exo a C (some dx)))
section
variable {P : Program} {w : World} {K : PySem.W.Frag} {mg : Str → Option Value} {base : Heap} {C fI cda cc : Addr} {qual f : Str} {params : Arguments} {scope : Scope} {fd : FuncData} {k : Nat} {te : TE} {e : Expr} {p0 p1 p2 p3 p4 p5 p6 p7 p8 : Pos}
theorem inv_sup {body : List Stmt} {A : Around} {outer : List Env} {s : Shared} {H : Hp} {h1 : Heap} {us : List Value} {vs : List V} {tk : Nat} {N : List Str} (S : SupC K C fI cda cc qual params body scope fd)
    (hk : scope.kind = .function) (hfr : ∀ x, scope.names.lookup x = some .cell ∨ scope.names.lookup x = some .free → x = "__class__") (hloc : ∀ x ∈ N, scope.names.lookup x = some .local) (hN : N.Nodup)
    (hd : A.handled = none) (e0 : Env0 P w K mg base A outer s H) (hl : vs.length = N.length) (r : Vals vs us)
    (hns : h1.Ns s.heap.objs.size (fun x => (N.zip us).reverse.lookup x)) (kk : ∀ b o, s.heap.get? b = some o → h1.get? b = some o) :
    Inv (cxS P w K mg base N qual scope fI cda cc A outer s H) [] (vs.map some) H { s with heap := h1, toks := tk } := by
  obtain ⟨cl, cld, csl, hcell⟩ := S.cell
  have KX : K.In s.heap := e0.mod.kin.keeps fun b o e => (e0.bs b o e).1
  have hc0 : base.get? cc = some ⟨cl, cld, .cell (some (.ref C)), csl⟩ := e0.mod.kin _ _ hcell
  have one : ∀ x c, (envS qual scope s.heap.objs.size fI cda cc).cells.lookup x = some c → x = "__class__" ∧ c = cc := fun x c h => by
    have h' : List.lookup x [(("__class__" : Str), cc)] = some c := h
    by_cases hx : x = "__class__"
    · subst hx
      simp at h'
      exact ⟨rfl, h'.symm⟩
    · have : (x == ("__class__" : Str)) = false := by simpa using hx
      simp [List.lookup, this] at h'
  have noA : ∀ b : Addr, b ∉ (cxS P w K mg base N qual scope fI cda cc A outer s H).ex := fun b z => absurd (show b ∈ ([] : List Addr) from z) (by simp)
  refine ⟨⟨e0.mod, hk, rfl, rfl, Nat.le_refl _, fun x y c h2 h3 => (one x c h2).1.trans (one y c h3).1.symm, fun x hx => ?_, fun x c h => (by cases h), fun _ => hd, Around.frames_deeper e0.frames, .inr ⟨rfl, rfl⟩, fun b z => absurd z (noA b), e0.bs, e0.bsz, fun b _ _ => noA b, fun b z => absurd z (noA b), e0.funs, e0.frf⟩,
    rfl, e0.bare, Un.kept kk, ⟨_, hns, fun i y v h2 h3 h4 => ?_⟩, fun y c h => ?_, e0.hok.fresh (Nat.le_refl _), fun y c h => ?_, fun p hp => absurd (show p ∈ ([] : List (Addr × Obj)) from hp) (by simp), e0.hok.kept kk, ?_⟩
  · have := hfr x hx
    subst this
    exact ⟨cc, by show List.lookup _ [(("__class__" : Str), cc)] = _; simp⟩
  · have ha : vs[i]? = some v := by
      rw [List.getElem?_map] at h3
      cases e : vs[i]? with
      | none => rw [e] at h3; cases h3
      | some b => rw [e] at h3; cases h3; rfl
    obtain ⟨u, hu, rv⟩ := r.get ha
    have hin : N[i]? = some y := h2
    refine ⟨u, rv, .inl ⟨hloc y (List.mem_of_getElem? hin), ?_⟩⟩
    exact NdefX.zip_look hN hin hu
  · obtain ⟨rfl, rfl⟩ := one y c h
    exact ⟨_, _, kk _ _ (e0.bs _ _ hc0).1, rfl⟩
  · obtain ⟨rfl, rfl⟩ := one y c h
    exact (e0.bs _ _ hc0).2
  · show (vs.map some).length = N.length
    rw [List.length_map, hl]
end

section
variable {P : Program} {w : World} {K : PySem.W.Frag} {mg : Str → Option Value} {base : Heap} {C fI cda cc : Addr} {qual f : Str} {params : Arguments} {scope : Scope} {fd : FuncData} {k : Nat} {te : TE} {e : Expr} {p0 p1 p2 p3 p4 p5 p6 p7 p8 p9 : Pos}
/-- the body of such an __init__ -/
abbrev supBody (f : Str) (e : Expr) (p0 p1 p2 p3 p4 p5 p6 p7 p8 : Pos) : List Stmt := [.Expr (.Call (.Attribute (.Call (.Name "super" p0) [] [] p1) "__init__" p2) [e] [] p3) p4, .Assign [.Attribute (.Name "self" p5) f p6] (.Name f p7) p8]
theorem ok_sup [PO : PrgOk P] (S : SupC K C fI cda cc qual params (supBody f e p0 p1 p2 p3 p4 p5 p6 p7 p8) scope fd) (hmg : mg "super" = none) (hno : PySem.W.findIn K (.ref C) f = some none)
    (hk : scope.kind = .function) (hco : scope.isCoroutine = false) (hgn : scope.isGenerator = false) (hcl : ∀ x ∈ scope.names, x.2 ≠ .cell) (hfr : ∀ x, scope.names.lookup x = some .cell ∨ scope.names.lookup x = some .free → x = "__class__")
    (hself : scope.names.lookup ("self" : Str) = some .local) (hf : scope.names.lookup f = some .local) (hks : scope.names.lookup ("super" : Str) = some .globalImplicit) (hkc : scope.names.lookup ("__class__" : Str) = some .free)
    (hpar : (params.posonlyargs ++ params.args).head?.map (·.arg) = some "self") (hne : (("self" : Str) == f) = false) (hd1 : (f == ("__debug__" : Str)) = false) (hd2 : (f == ("__classdict__" : Str)) = false)
    (hint : ∀ L, interactive (envS qual scope L fI cda cc) = false) {pl : Sem Bool}
    (hcall : ∀ L, eval (.Call (.Attribute (.Call (.Name "super" p0) [] [] p1) "__init__" p2) [e] [] p3) (envS qual scope L fI cda cc) = (do
      let ov ← attributeBase (.Call (.Name "super" p0) [] [] p1) "__init__" (envS qual scope L fI cda cc) (eval (.Call (.Name "super" p0) [] [] p1) (envS qual scope L fI cda cc))
      standAt p2.atName
      let (g, first) ← holding [ov] (getMethod ov "__init__" pl)
      callWith p3 g first (backTo p3 (starEach [e] (envS qual scope L fI cda cc))) []))
    (hsw : ∀ L, swapsWith (.Call (.Attribute (.Call (.Name "super" p0) [] [] p1) "__init__" p2) [e] [] p3) none p4.line (envS qual scope L fI cda cc) = pure false)
    (hst : ∀ L, starEach [e] (envS qual scope L fI cda cc) = [(false, eval e (envS qual scope L fI cda cc))])
    (he : ∀ (A : Around) (outer : List Env) (s : Shared) (H : Hp), Room k (A.deeper (envS qual scope s.heap.objs.size fI cda cc)) → PE (cxS P w K mg base ["self", f] qual scope fI cda cc A outer s H) e te) :
    FnOk P w K mg base CX0 (k + 1) fI fd ["self", f] (spSup C f te) := by
  refine ⟨fun vs H Q E h => ?_, fun A outer s H args us vs Q E hr e0 hb r hsp => ?_⟩
  · obtain ⟨a, v, rfl, _⟩ := h
    rfl
  obtain ⟨a, v, rfl, ea, hte, hq⟩ := hsp
  obtain ⟨oc, od, kV, doc, pm, an, ct, osl, rfl, lk⟩ := S.fdO
  obtain ⟨ccl, cdd, cvs, ccs, fl, tf, hcode, hvs, hfile⟩ := S.file
  obtain ⟨cl, cld, csl, hcell⟩ := S.cell
  obtain ⟨nm, q, N, bs, bm, sn, sb, ab, col, dd, k0, k1, k2, k3, k5, hC, hbm⟩ := S.ox.cls
  have hcls : PySem.W.clsIn K C = some { name := nm, bases := bs, mro := .ref C :: bm, ns := N, qualname := q, hasDict := true, slotNames := sn, subclasses := sb, abstract := ab, collection := col, hasDel := false } := by unfold PySem.W.clsIn; rw [hC] <;> rfl
  have KX : K.In s.heap := e0.mod.kin.keeps fun b o e => (e0.bs b o e).1
  have lim : s.heap.NoLimit := e0.mod.nolimit.keeps fun b o e => (e0.bs b o e).1
  have nd : (["self", f] : List Str).Nodup := by
    have : ("self" : Str) ≠ f := fun z => by rw [z] at hne; simp at hne
    simp [this]
  have hlc : ∀ x ∈ (["self", f] : List Str), scope.names.lookup x = some .local := fun x hx => by
    simp at hx
    rcases hx with rfl | rfl
    · exact hself
    · exact hf
  have hvl : ([V.ref a, v] : List V).length = (["self", f] : List Str).length := rfl
  refine ks_codeAny_call_defAt (body := supBody f e p0 p1 p2 p3 p4 p5 p6 p7 p8) (binds := (["self", f] : List Str).zip us) hr.depth (KX _ _ lk) rfl lim (PySem.W.codeRec_of KX S.code) rfl hb hcl (fun y hy => hlc y.1 (List.of_mem_zip hy).1) (fun h1 hns kk => ?_) hco hgn hk
  have I := inv_sup (w := w) (mg := mg) (tk := s.toks + ((["self", f] : List Str).zip us).length) S hk hfr hlc nd hr.hd e0 hvl r hns kk
  have hE := he A outer s H (hr.deeper _)
  generalize hs1 : ({ s with heap := h1, toks := s.toks + ((["self", f] : List Str).zip us).length } : Shared) = s1 at I ⊢
  let Y : Cx := cxS P w K mg base ["self", f] qual scope fI cda cc A outer s H
  let D : Ends := { nx := fun _ H' => Q .non H', rt := Q }
  refine ks_wpAt_mono (Q := SP Y [] D) (E := Y.xe) ?_ (fun fl s' hs => ?_) (fun _ _ z => False.elim z)
  rotate_left
  · have fin : ∀ {σ' : L2.St} {H' : Hp} {v : V} {u : Value}, Inv Y [] σ' H' s' → RelV v u → Q v H' → CE outer P w H s Q u s' :=
      fun {σ' H' v u} J rv q => ⟨v, H', J.os, J.bare, J.base, J.hok, rv, q⟩
    cases fl with
    | ret u => obtain ⟨v, σ', H', J, rv, q⟩ := hs; exact fin J rv q
    | next => obtain ⟨σ', H', J, q⟩ := hs; exact fin (v := V.non) (u := Value.none) J rfl q
    | brk => obtain ⟨_, _, _, q⟩ := hs; exact False.elim q
    | cont => obtain ⟨_, _, _, q⟩ := hs; exact False.elim q
  show _root_.PySem.wpAt (model P w) (A.deeper (envS qual scope s.heap.objs.size fI cda cc)) (.func (supBody f e p0 p1 p2 p3 p4 p5 p6 p7 p8) (envS qual scope s.heap.objs.size fI cda cc)) (execs (supBody f e p0 p1 p2 p3 p4 p5 p6 p7 p8) (envS qual scope s.heap.objs.size fI cda cc)) (SP Y [] D) Y.xe s1
  obtain ⟨par, hpe, hpn⟩ : ∃ ar : Arg, (params.posonlyargs ++ params.args).head? = some ar ∧ ar.arg = "self" := by
    cases q : (params.posonlyargs ++ params.args).head? with
    | none => rw [q] at hpar; cases hpar
    | some z => rw [q] at hpar; exact ⟨z, rfl, Option.some.inj hpar⟩
  refine ks_wpAt_execs_cons (ks_wpAt_Expr_any (ks_wpAt_MethodCall (ks_wpAt_super_base (env := envS qual scope s.heap.objs.size fI cda cc) (ar := par) hks hkc (by decide) rfl (I.kIn _ _ lk) rfl hpe rfl (I.kIn _ _ hcode) rfl hvs (by rw [PO.file]; exact hfile) PO.top ?_) (hcall _)) (hint _) (hsw _))
  have hcl0 : s1.heap.get? cc = some ⟨cl, cld, .cell (some (.ref C)), csl⟩ := I.kIn _ _ hcell
  obtain ⟨mb, hb1, hb2⟩ := I.mod.blt
  have ksup : (envS qual scope s.heap.objs.size fI cda cc).kindOf "super" = some .globalImplicit := hks
  refine PySem.W.ks_loadName_global hk ksup (Calls.loadGlobal_builtin (env := envS qual scope s.heap.objs.size fI cda cc) (I.mod.glob.keeps I.bk) hmg (hb1.keeps I.bk) ((hb2 "super" (by decide)).trans PyProof.Rows.Boot.«super») ⟨rfl, ?_⟩)
  refine wpAny_loadName_free hk hkc (show List.lookup _ [(("__class__" : Str), cc)] = some cc by simp) ⟨_, hcl0, rfl⟩ ?_
  rw [hpn]
  obtain ⟨m, hm1, hm2⟩ := I.loc
  obtain ⟨u0, ru0, lk0⟩ := hm2 0 "self" (.ref a) rfl rfl (.inl hself)
  obtain rfl : u0 = Value.ref a := ru0
  have hm0 : m "self" = some (.ref a) := by
    rcases lk0 with ⟨_, h⟩ | ⟨h, _⟩
    · exact h
    · have h' : scope.names.lookup ("self" : Str) = some .cell ∨ scope.names.lookup ("self" : Str) = some .free := h
      rw [hself] at h'
      rcases h' with h' | h' <;> cases h'
  refine wpAny_loadName_local hk hself hm1 hm0 ?_
  have hCo : s1.heap.get? C = _ := I.kIn _ _ hC
  obtain ⟨t1, hao⟩ := exo_at I.hok ea
  have hIa : PySem.W.InstAt s1.heap a _ C none := ⟨hao, rfl, rfl, trivial⟩
  refine ks_wpAny_isType_cls hCo rfl ⟨rfl, ?_⟩
  have hsub := PySem.W.looks_mroIn (M := model P w) I.kIn S.sub
  have hsubV : PySem.W.Looks (model P w) s1.heap (isInstance (.ref a) (.type "ValueError")) true := hIa.type.andThen (PySem.W.looks_subIn I.kIn S.subV)
  have hop := PySem.W.looks_opaque (M := model P w) (C := C) I.kIn S.stat
  have hmro : PySem.W.Looks (model P w) s1.heap (mroOf (.ref C)) (.ref C :: bm) := fun A Q E s k q => wpAny_bind ((PySem.W.looks_clsIn I.kIn hcls) A _ E s k (wpAny_pure q))
  have hac : a ≠ C := PySem.W.ks_ne I.kIn hIa hcls
  have hsup : PySem.W.alongIn K "__init__" (((Value.ref C :: bm).dropWhile (· != .ref C)).drop 1) = some (some (.builtin "ValueError.__init__")) := by
    have := S.sup
    unfold PySem.W.ks_superIn at this
    rw [hcls] at this
    exact this
  obtain ⟨hp, g, d, t, os⟩ := s1
  refine ks_wpAny_call_super hCo rfl hao rfl (fun c z => by cases z) hsub (fun h2 hso k2 => ?_)
  have I2 := I.kept (t' := t) (h' := h2) k2
  refine PySem.W.kxs_getMethod (D := C) (x := a) (C := C) PySem.W.kxs_ValueError hso (hop.keeps k2) (hmro.keeps k2) rfl I2.kIn hsup (hsubV.keeps k2) hac (by decide) ?_
  have hu := Heap.get?_push_size h2 (o := PySem.W.kxs_mw "ValueError.__init__" a) rfl
  have I3 : Inv Y [] (List.map some [V.ref a, v]) H ⟨h2.push (PySem.W.kxs_mw "ValueError.__init__" a), g, d, t + 1, os⟩ := I2.kept (t' := t + 1) fun b o z => Heap.get?_push_of_some _ z
  have hfu : H h2.objs.size = none := I2.hok.fresh (Nat.le_refl _)
  have I4 : Inv Y [(h2.objs.size, PySem.W.kxs_mw "ValueError.__init__" a)] (List.map some [V.ref a, v]) H ⟨h2.push (PySem.W.kxs_mw "ValueError.__init__" a), g, d, t + 1, os⟩ := I3.pins_of fun p hpm => by
    obtain rfl := List.mem_singleton.mp hpm
    obtain ⟨oL, _, _, hL, _⟩ := I2.loc.choose_spec.1
    refine ⟨hu, hfu, fun z => ?_, fun z => ?_, fun c z => by cases z⟩
    · have := Heap.lt_size hL
      rw [← z] at this
      exact absurd this (Nat.lt_irrefl _)
    · obtain ⟨_, o, ho, _⟩ := e0.funs.mem z
      obtain ⟨o', q⟩ := I.base.there _ _ ho (by simp [cxS])
      exact absurd (Heap.lt_size (k2 h2.objs.size o' q)) (Nat.lt_irrefl _)
  have hpa : PA Y [e] (tCons te tNil) := pa_cons hE pa_nil (hs := by rw [show starEach [e] Y.env = [(false, eval e Y.env)] from hst _]; rfl)
  have hrun := hpa.run p3 _ _ _ H (fun xs H1 => xs.length = 1 ∧ H1 = H) I4 (hte _ fun x => ⟨rfl, rfl⟩)
  rw [show starEach [e] Y.env = [(false, eval e Y.env)] from hst _] at hrun
  rw [hst]
  refine PySem.W.kxs_callWith (i := "ValueError.__init__") (x := a) rfl (Calls.evalArgs_plain (thn hrun fun ws s4 hs4 => ?_))
  obtain ⟨xs, H1, I5, r5, hl5, hH⟩ := hs4
  rw [hH] at I5
  have hu5 := (I5.pin _ (List.mem_append_right _ List.mem_cons_self)).1
  refine ⟨hu5, call_mw S.ox I5 ea hu5 (by show ws.length ≤ _; rw [← r5.length, hl5, sizeLine_eq]; omega) fun s5 I6 => ?_⟩
  have I7 : Inv Y [] (List.map some [V.ref a, v]) H s5 := I6.pins_of fun p hpm => absurd hpm (by simp)
  refine PySem.wpAt_of_wpAny ?_
  have hst2 : PSs Y [.Assign [.Attribute (.Name "self" p5) f p6] (.Name f p7) p8] (tOst K f (tVar 0) (tVar 1)) := pss_one (ps_ost (pe_var (i := 0) rfl (.inl hself)) (pe_var (i := 1) rfl (.inl hf) hd1 hd2) (by rfl))
  refine hst2.run [] s5 _ H D I7 ?_
  exact ⟨v, rfl, .ref a, rfl, a, C, rfl, S.ox, hno, .inl ⟨ea, fun dx n ne => hq dx n ne⟩⟩
end

/-! ### what the written part says of the own errors, looked up -/
abbrev FnS : Type := Option (Str × Str × Arguments × FuncBody × Scope × Addr × List Str × Addr)
structure ErD where
  name : Str
  fld : Str
  qual : Str
  params : Arguments
  body : List Stmt
  scope : Scope
  /-- own classes that it is, or is not, one of -/
  kin : List (Str × Bool)
  /-- the classes of except clauses -/
  exm : List (Str × Bool)
def ErD.C (K : PySem.W.Frag) (d : ErD) : Addr := He.ga K d.name
def ErD.fI (K : PySem.W.Frag) (d : ErD) : Addr := He.ma K (d.C K) "__init__"
def fnData (K : PySem.W.Frag) (f : Addr) : Option FuncData := match K.lookup f with
  | some ⟨_, _, .func fd, _⟩ => some fd
  | _ => none
def ErD.fd (K : PySem.W.Frag) (d : ErD) : Option FuncData := fnData K (d.fI K)
def ErD.cc (K : PySem.W.Frag) (d : ErD) : Addr := match d.fd K with
  | some fd => (match fd.closure with
    | (_, c) :: _ => c
    | _ => 0)
  | none => 0
def ErD.cda (K : PySem.W.Frag) (d : ErD) : Addr := match d.fd K with
  | some fd => (match fd.code with
    | .ref c => c
    | _ => 0)
  | none => 0
def ErD.obs (K : PySem.W.Frag) (d : ErD) : FnS := (d.fd K).map fun fd => (fd.name, fd.qualname, fd.params, fd.body, fd.scope, fd.globals, fd.closure.map (·.1), fd.builtins)
def ErD.val (d : ErD) : FnS := some ("__init__", d.qual, d.params, .stmts d.body, d.scope, mainGlobals, ["__class__"], builtinsNs)
def oexB (K : PySem.W.Frag) (C : Addr) : Bool := match K.lookup C with
  | some ⟨.type t, _, .cls ⟨_, _, .ref D :: bm, _, _, true, _, _, _, _, false⟩, ⟨[_, _, _, _, some (.builtin n), _]⟩⟩ => decide (t = "type") && (decide (D = C) && (HandSPX.refsVE bm && decide (n = "ValueError.__new__")))
  | _ => false
theorem oexB_ok {K : PySem.W.Frag} {C : Addr} (h : oexB K C = true) : ∃ nm q N bs bm sn sub ab col dd k0 k1 k2 k3 k5, K.lookup C = some (excClassObj nm q C N bs bm true sn sub ab col dd k0 k1 k2 k3 k5 "ValueError.__new__") ∧ HandSPX.refsVE bm = true := by
  unfold oexB at h
  split at h
  · next t dd nm bs D bm ns qn sn sb ab col k0 k1 k2 k3 n k5 e =>
    obtain ⟨h1, h2⟩ := He.ba h
    obtain ⟨h3, h4⟩ := He.ba h2
    obtain ⟨h5, h6⟩ := He.ba h4
    have e1 := of_decide_eq_true h1
    have e2 := of_decide_eq_true h3
    have e3 := of_decide_eq_true h6
    subst e1 e2 e3
    exact ⟨nm, qn, ns, bs, bm, sn, sb, ab, col, dd, k0, k1, k2, k3, k5, e, h5⟩
  · cases h
def codeB (K : PySem.W.Frag) (c : Addr) : Bool := match K.lookup c with
  | some ⟨_, _, .fields vs, _⟩ => (match (vs[2]? : Option Value) with
    | some (Value.str fl _) => decide (("/claim/cut.py" : Str) = fl)
    | _ => false)
  | _ => false
theorem codeB_ok {K : PySem.W.Frag} {c : Addr} (h : codeB K c = true) : ∃ ccl cdd vs ccs fl tf, K.lookup c = some ⟨ccl, cdd, .fields vs, ccs⟩ ∧ vs[2]? = some (.str fl tf) ∧ (("/claim/cut.py" : Str) == fl) = true := by
  unfold codeB at h
  split at h
  · next e =>
    split at h
    · next fl tf e2 => exact ⟨_, _, _, _, fl, tf, e, e2, by rw [of_decide_eq_true h]; simp⟩
    · cases h
  · cases h
def cellB (K : PySem.W.Frag) (c C : Addr) : Bool := match K.lookup c with
  | some ⟨_, _, .cell (some (.ref D)), _⟩ => decide (D = C)
  | _ => false
theorem cellB_ok {K : PySem.W.Frag} {c C : Addr} (h : cellB K c C = true) : ∃ cl cld csl, K.lookup c = some ⟨cl, cld, .cell (some (.ref C)), csl⟩ := by
  unfold cellB at h
  split at h
  · next e =>
    have := of_decide_eq_true h
    subst this
    exact ⟨_, _, _, e⟩
  · cases h
def ErD.codeRef (K : PySem.W.Frag) (d : ErD) : Bool := match d.fd K with
  | some fd => decide (fd.code = .ref (d.cda K)) && decide (fd.defaults = .none)
  | none => false
def ErD.ok (K : PySem.W.Frag) (d : ErD) : Bool :=
  (d.codeRef K) &&
  ((oexB K (d.C K) &&
  (codeB K (d.cda K) &&
  (cellB K (d.cc K) (d.C K) && PySem.W.codeIn K (.ref (d.cda K)) d.qual))) &&
  ((He.eqO (PySem.W.findIn K (.ref (d.C K)) "__setattr__") (some (some (.builtin "object.__setattr__"))) &&
  (decide (PySem.W.subIn K (.ref (d.C K)) (.type "BaseException") = some true) &&
  (decide (PySem.W.typeIn K (.ref (d.C K)) = some (.type "type")) && PySem.W.keepIn K (.ref (d.C K))))) &&
  ((decide (PySem.W.mroIn K (d.C K) (.ref (d.C K)) = some true) &&
  (He.eqO (PySem.W.nsIn K cStatics "thirdparty.any") (some none) &&
  (He.eqO (PySem.W.ks_superIn K (d.C K) (d.C K) "__init__") (some (some (.builtin "ValueError.__init__"))) && decide (PySem.W.subIn K (.ref (d.C K)) (.type "ValueError") = some true)))) &&
  ((He.eqO (PySem.W.findIn K (.ref (d.C K)) "__init__") (some (some (.ref (d.fI K)))) &&
  (decide (PySem.W.typeIn K (.ref (d.fI K)) = some (.type "function")) && He.eqO (PySem.W.findIn K (.ref (d.C K)) d.fld) (some none))) &&
  ((xfB K (d.C K) &&
  (He.eqO (PySem.W.findIn K (.ref (d.C K)) "__class__") (some (some (.builtin "object.__class__"))) &&
  (He.eqO (PySem.W.specialIn K (.builtin "object.__class__") "__get__") (some (some (.builtin "getset_descriptor.__get__"))) &&
  (decide (PySem.W.takesIn K (.builtin "object.__class__") = some true) && decide (PySem.W.mroIn K (d.C K) (.type "object") = some true))))) &&
  ((d.kin.all fun p => decide (PySem.W.kitOne K (.ref (d.C K)) (.ref (He.ga K p.1)) = some p.2)) &&
  ((d.exm.all fun p => decide (PySem.W.exmOne K (.ref (d.C K)) (.ref (He.ga K p.1)) = some p.2)) &&
  ((decide (PySem.W.kitOne K (.ref (d.C K)) (.type "ValueError") = some true))))))))))
/-- all of it -/
structure ErOk (K : PySem.W.Frag) (d : ErD) (fd : FuncData) : Prop where
  sup : SupC K (d.C K) (d.fI K) (d.cda K) (d.cc K) d.qual d.params d.body d.scope fd
  ini : PySem.W.findIn K (.ref (d.C K)) "__init__" = some (some (.ref (d.fI K)))
  tyI : PySem.W.typeIn K (.ref (d.fI K)) = some (.type "function")
  no : PySem.W.findIn K (.ref (d.C K)) d.fld = some none
  xf : XfC K (d.C K)
  is : ExcC K (d.C K)
  kin : ∀ p ∈ d.kin, PySem.W.kitOne K (.ref (d.C K)) (.ref (He.ga K p.1)) = some p.2
  exm : ∀ p ∈ d.exm, PySem.W.exmOne K (.ref (d.C K)) (.ref (He.ga K p.1)) = some p.2
  ve : PySem.W.kitOne K (.ref (d.C K)) (.type "ValueError") = some true
theorem ErD.get {K : PySem.W.Frag} {d : ErD} (e : d.obs K = d.val) (h : d.ok K = true) : ∃ fd, ErOk K d fd := by
  obtain ⟨g0, h⟩ := He.ba h
  obtain ⟨g1, h⟩ := He.ba h
  obtain ⟨g2, h⟩ := He.ba h
  obtain ⟨g3, h⟩ := He.ba h
  obtain ⟨g4, h⟩ := He.ba h
  obtain ⟨g5, h⟩ := He.ba h
  obtain ⟨g6, h⟩ := He.ba h
  obtain ⟨g7, g8⟩ := He.ba h
  obtain ⟨a1, g1⟩ := He.ba g1
  obtain ⟨a2, g1⟩ := He.ba g1
  obtain ⟨a3, a4⟩ := He.ba g1
  obtain ⟨b1, g2⟩ := He.ba g2
  obtain ⟨b2, g2⟩ := He.ba g2
  obtain ⟨b3, b4⟩ := He.ba g2
  obtain ⟨c1, g3⟩ := He.ba g3
  obtain ⟨c2, g3⟩ := He.ba g3
  obtain ⟨c3, c4⟩ := He.ba g3
  obtain ⟨d1, g4⟩ := He.ba g4
  obtain ⟨d2, d3⟩ := He.ba g4
  obtain ⟨e1, g5⟩ := He.ba g5
  obtain ⟨e2, g5⟩ := He.ba g5
  obtain ⟨e3, g5⟩ := He.ba g5
  obtain ⟨e4, e5⟩ := He.ba g5
  obtain ⟨fd, hfd, hv⟩ : ∃ fd, d.fd K = some fd ∧ (fd.name, fd.qualname, fd.params, fd.body, fd.scope, fd.globals, fd.closure.map (·.1), fd.builtins) = (("__init__" : Str), d.qual, d.params, FuncBody.stmts d.body, d.scope, mainGlobals, [("__class__" : Str)], builtinsNs) := by
    unfold ErD.obs ErD.val at e
    cases q : d.fd K with
    | none => rw [q] at e; cases e
    | some fd => rw [q] at e; exact ⟨fd, rfl, Option.some.inj e⟩
  obtain ⟨oc, od, osl, hlk⟩ : ∃ oc od osl, K.lookup (d.fI K) = some ⟨oc, od, .func fd, osl⟩ := by
    have q : fnData K (d.fI K) = some fd := hfd
    unfold fnData at q
    split at q
    · next e => cases q; exact ⟨_, _, _, e⟩
    · cases q
  have hcc : d.cc K = (match fd.closure with
    | (_, c) :: _ => c
    | _ => 0) := by unfold ErD.cc; rw [hfd]
  have hcda : d.cda K = (match fd.code with
    | .ref c => c
    | _ => 0) := by unfold ErD.cda; rw [hfd]
  obtain ⟨n1, n2, n3, n4, n5, n6, n7, n8, n9, n10, n11, n12, n13, n14, n15⟩ := fd
  simp only [Prod.mk.injEq] at hv
  obtain ⟨v1, v2, v3, v4, v5, v6, v7, v8⟩ := hv
  subst v1 v2 v3 v4 v5 v6 v8
  have hcl : n7 = [(("__class__" : Str), d.cc K)] := by
    cases n7 with
    | nil => cases v7
    | cons p r =>
      obtain ⟨x, c⟩ := p
      cases r with
      | nil =>
        have : x = "__class__" := (List.cons.inj v7).1
        rw [this, hcc]
      | cons q r => cases v7
  obtain ⟨hcd, hdf⟩ : n13 = .ref (d.cda K) ∧ n8 = .none := by
    unfold ErD.codeRef at g0
    rw [hfd] at g0
    obtain ⟨z1, z2⟩ := He.ba g0
    exact ⟨of_decide_eq_true z1, of_decide_eq_true z2⟩
  subst hcl hcd hdf
  refine ⟨_, ⟨⟨⟨oexB_ok a1, He.eqO_ok b1, of_decide_eq_true b2, of_decide_eq_true b3, b4⟩, ⟨oc, od, _, _, _, _, _, osl, rfl, hlk⟩, codeB_ok a2, a4, cellB_ok a3, of_decide_eq_true c1, He.eqO_ok c2, He.eqO_ok c3, of_decide_eq_true c4⟩, He.eqO_ok d1, of_decide_eq_true d2, He.eqO_ok d3, xfB_ok e1,
    ⟨(xfB_ok e1).ga, (xfB_ok e1).gg, (xfB_ok e1).exC, (xfB_ok e1).hdC, He.eqO_ok e2, He.eqO_ok e3, of_decide_eq_true e4, of_decide_eq_true e5⟩, fun p hp => of_decide_eq_true (List.all_eq_true.mp g6 p hp), fun p hp => of_decide_eq_true (List.all_eq_true.mp g7 p hp), of_decide_eq_true g8⟩⟩

/-! ### the text -/
def topS (i : Nat) : Stmt := PySem.Challenge.pw_keepsgoing_k01_operations.main.body.getD i (.Pass ⟨0, 0, 0, 0⟩)
abbrev s_is_int : Stmt := topS 1
abbrev s_is_within : Stmt := topS 2
abbrev s_is_tuple_of : Stmt := topS 3
abbrev s_is_num : Stmt := topS 7
abbrev s_is_row : Stmt := topS 8
abbrev s_zero : Stmt := topS 9
abbrev s_p_fit : Stmt := topS 10
abbrev s_alike : Stmt := topS 13
abbrev s_like_nums : Stmt := topS 14
abbrev s_logic_kind : Stmt := topS 15
abbrev s_equal_kind : Stmt := topS 16
abbrev s_order_kind : Stmt := topS 17
abbrev s_number_kind : Stmt := topS 18
abbrev s_as_kind : Stmt := topS 19
abbrev s_pick_kind : Stmt := topS 20
abbrev s_vote_kind : Stmt := topS 21
abbrev s_p_row_kind : Stmt := topS 22
abbrev s_at_kind : Stmt := topS 23
abbrev s_put_kind : Stmt := topS 24
abbrev s_sum_kind : Stmt := topS 25
abbrev s_p_some_kind : Stmt := topS 26
abbrev s_result_kind : Stmt := topS 28
abbrev s_place : Stmt := topS 29
abbrev s_not : Stmt := topS 30
abbrev s_and : Stmt := topS 31
abbrev s_or : Stmt := topS 32
abbrev s_xor : Stmt := topS 33
abbrev s_eq : Stmt := topS 34
abbrev s_ne : Stmt := topS 35
abbrev s_lt : Stmt := topS 36
abbrev s_le : Stmt := topS 37
abbrev s_neg : Stmt := topS 38
abbrev s_add : Stmt := topS 39
abbrev s_sub : Stmt := topS 40
abbrev s_mul : Stmt := topS 41
abbrev s_div : Stmt := topS 42
abbrev s_min : Stmt := topS 43
abbrev s_max : Stmt := topS 44
abbrev s_mid : Stmt := topS 45
abbrev s_as : Stmt := topS 46
abbrev s_p_pick : Stmt := topS 47
abbrev s_vote : Stmt := topS 48
abbrev s_row : Stmt := topS 49
abbrev s_at : Stmt := topS 50
abbrev s_put : Stmt := topS 51
abbrev s_sum : Stmt := topS 52
abbrev s_any : Stmt := topS 53
abbrev s_all : Stmt := topS 54
abbrev s_result : Stmt := topS 56
abbrev s_begin : Stmt := topS 58
abbrev s_mixed : Stmt := topS 59
abbrev s_draw : Stmt := topS 60
abbrev s_draw_digit : Stmt := topS 61
abbrev s_pick : Stmt := topS 62
abbrev s_pop : Stmt := topS 63
abbrev s_rare : Stmt := topS 64
abbrev s_pool : Stmt := topS 65
abbrev s_fit : Stmt := topS 66
abbrev s_ends : Stmt := topS 67
abbrev s_has : Stmt := topS 68
abbrev s_value : Stmt := topS 69
abbrev s_num : Stmt := topS 70
abbrev s_plain_kind : Stmt := topS 71
abbrev s_op_kind : Stmt := topS 72
abbrev s_row_kind : Stmt := topS 73
abbrev s_op : Stmt := topS 74
abbrev s_num_op : Stmt := topS 75
abbrev s_row_op : Stmt := topS 76
abbrev s_some_kind : Stmt := topS 77
abbrev s_operand_kinds : Stmt := topS 78
abbrev s_operand : Stmt := topS 79
abbrev s_bent : Stmt := topS 80
abbrev s_law : Stmt := topS 81
theorem sc_is_int : FnScope ["thing"] ["thing"] (defScope s_is_int) := ⟨rfl, rfl, rfl, by decide +kernel, rfl, by decide +kernel, by decide +kernel⟩
theorem sc_is_within : FnScope ["thing", "low", "high"] ["thing", "low", "high"] (defScope s_is_within) := ⟨rfl, rfl, rfl, by decide +kernel, rfl, by decide +kernel, by decide +kernel⟩
theorem sc_is_tuple_of : FnScope ["thing", "size"] ["thing", "size"] (defScope s_is_tuple_of) := ⟨rfl, rfl, rfl, by decide +kernel, rfl, by decide +kernel, by decide +kernel⟩
theorem sc_is_num : FnScope ["thing", "low", "high", "per", "how", "bounds"] ["thing"] (defScope s_is_num) := ⟨rfl, rfl, rfl, by decide +kernel, rfl, by decide +kernel, by decide +kernel⟩
theorem sc_is_row : FnScope ["kind"] ["kind"] (defScope s_is_row) := ⟨rfl, rfl, rfl, by decide +kernel, rfl, by decide +kernel, by decide +kernel⟩
theorem sc_zero : FnScope ["kind"] ["kind"] (defScope s_zero) := ⟨rfl, rfl, rfl, by decide +kernel, rfl, by decide +kernel, by decide +kernel⟩
theorem sc_p_fit : FnScope ["kind", "number", "_", "low", "high", "how"] ["kind", "number"] (defScope s_p_fit) := ⟨rfl, rfl, rfl, by decide +kernel, rfl, by decide +kernel, by decide +kernel⟩
theorem sc_alike : FnScope ["kinds", "kind"] ["kinds"] (defScope s_alike) := ⟨rfl, rfl, rfl, by decide +kernel, rfl, by decide +kernel, by decide +kernel⟩
theorem sc_like_nums : FnScope ["kinds"] ["kinds"] (defScope s_like_nums) := ⟨rfl, rfl, rfl, by decide +kernel, rfl, by decide +kernel, by decide +kernel⟩
theorem sc_logic_kind : FnScope ["kinds", "told"] ["kinds", "told"] (defScope s_logic_kind) := ⟨rfl, rfl, rfl, by decide +kernel, rfl, by decide +kernel, by decide +kernel⟩
theorem sc_equal_kind : FnScope ["kinds", "told"] ["kinds", "told"] (defScope s_equal_kind) := ⟨rfl, rfl, rfl, by decide +kernel, rfl, by decide +kernel, by decide +kernel⟩
theorem sc_order_kind : FnScope ["kinds", "told"] ["kinds", "told"] (defScope s_order_kind) := ⟨rfl, rfl, rfl, by decide +kernel, rfl, by decide +kernel, by decide +kernel⟩
theorem sc_number_kind : FnScope ["kinds", "told"] ["kinds", "told"] (defScope s_number_kind) := ⟨rfl, rfl, rfl, by decide +kernel, rfl, by decide +kernel, by decide +kernel⟩
theorem sc_as_kind : FnScope ["kinds", "told"] ["kinds", "told"] (defScope s_as_kind) := ⟨rfl, rfl, rfl, by decide +kernel, rfl, by decide +kernel, by decide +kernel⟩
theorem sc_pick_kind : FnScope ["kinds", "told"] ["kinds", "told"] (defScope s_pick_kind) := ⟨rfl, rfl, rfl, by decide +kernel, rfl, by decide +kernel, by decide +kernel⟩
theorem sc_vote_kind : FnScope ["kinds", "told"] ["kinds", "told"] (defScope s_vote_kind) := ⟨rfl, rfl, rfl, by decide +kernel, rfl, by decide +kernel, by decide +kernel⟩
theorem sc_p_row_kind : FnScope ["kinds", "told"] ["kinds", "told"] (defScope s_p_row_kind) := ⟨rfl, rfl, rfl, by decide +kernel, rfl, by decide +kernel, by decide +kernel⟩
theorem sc_at_kind : FnScope ["kinds", "told"] ["kinds", "told"] (defScope s_at_kind) := ⟨rfl, rfl, rfl, by decide +kernel, rfl, by decide +kernel, by decide +kernel⟩
theorem sc_put_kind : FnScope ["kinds", "told", "entry"] ["kinds", "told"] (defScope s_put_kind) := ⟨rfl, rfl, rfl, by decide +kernel, rfl, by decide +kernel, by decide +kernel⟩
theorem sc_sum_kind : FnScope ["kinds", "told"] ["kinds", "told"] (defScope s_sum_kind) := ⟨rfl, rfl, rfl, by decide +kernel, rfl, by decide +kernel, by decide +kernel⟩
theorem sc_p_some_kind : FnScope ["kinds", "told"] ["kinds", "told"] (defScope s_p_some_kind) := ⟨rfl, rfl, rfl, by decide +kernel, rfl, by decide +kernel, by decide +kernel⟩
theorem sc_result_kind : FnScope ["op", "kinds", "told", "rule"] ["op", "kinds", "told"] (defScope s_result_kind) := ⟨rfl, rfl, rfl, by decide +kernel, rfl, by decide +kernel, by decide +kernel⟩
theorem sc_place : FnScope ["kind", "number"] ["kind", "number"] (defScope s_place) := ⟨rfl, rfl, rfl, by decide +kernel, rfl, by decide +kernel, by decide +kernel⟩
theorem sc_not : FnScope ["kinds", "values", "told"] ["kinds", "values", "told"] (defScope s_not) := ⟨rfl, rfl, rfl, by decide +kernel, rfl, by decide +kernel, by decide +kernel⟩
theorem sc_and : FnScope ["kinds", "values", "told"] ["kinds", "values", "told"] (defScope s_and) := ⟨rfl, rfl, rfl, by decide +kernel, rfl, by decide +kernel, by decide +kernel⟩
theorem sc_or : FnScope ["kinds", "values", "told"] ["kinds", "values", "told"] (defScope s_or) := ⟨rfl, rfl, rfl, by decide +kernel, rfl, by decide +kernel, by decide +kernel⟩
theorem sc_xor : FnScope ["kinds", "values", "told"] ["kinds", "values", "told"] (defScope s_xor) := ⟨rfl, rfl, rfl, by decide +kernel, rfl, by decide +kernel, by decide +kernel⟩
theorem sc_eq : FnScope ["kinds", "values", "told"] ["kinds", "values", "told"] (defScope s_eq) := ⟨rfl, rfl, rfl, by decide +kernel, rfl, by decide +kernel, by decide +kernel⟩
theorem sc_ne : FnScope ["kinds", "values", "told"] ["kinds", "values", "told"] (defScope s_ne) := ⟨rfl, rfl, rfl, by decide +kernel, rfl, by decide +kernel, by decide +kernel⟩
theorem sc_lt : FnScope ["kinds", "values", "told"] ["kinds", "values", "told"] (defScope s_lt) := ⟨rfl, rfl, rfl, by decide +kernel, rfl, by decide +kernel, by decide +kernel⟩
theorem sc_le : FnScope ["kinds", "values", "told"] ["kinds", "values", "told"] (defScope s_le) := ⟨rfl, rfl, rfl, by decide +kernel, rfl, by decide +kernel, by decide +kernel⟩
theorem sc_neg : FnScope ["kinds", "values", "told"] ["kinds", "values", "told"] (defScope s_neg) := ⟨rfl, rfl, rfl, by decide +kernel, rfl, by decide +kernel, by decide +kernel⟩
theorem sc_add : FnScope ["kinds", "values", "told"] ["kinds", "values", "told"] (defScope s_add) := ⟨rfl, rfl, rfl, by decide +kernel, rfl, by decide +kernel, by decide +kernel⟩
theorem sc_sub : FnScope ["kinds", "values", "told"] ["kinds", "values", "told"] (defScope s_sub) := ⟨rfl, rfl, rfl, by decide +kernel, rfl, by decide +kernel, by decide +kernel⟩
theorem sc_mul : FnScope ["kinds", "values", "told"] ["kinds", "values", "told"] (defScope s_mul) := ⟨rfl, rfl, rfl, by decide +kernel, rfl, by decide +kernel, by decide +kernel⟩
theorem sc_div : FnScope ["kinds", "values", "told", "kind", "over", "under"] ["kinds", "values", "told"] (defScope s_div) := ⟨rfl, rfl, rfl, by decide +kernel, rfl, by decide +kernel, by decide +kernel⟩
theorem sc_min : FnScope ["kinds", "values", "told"] ["kinds", "values", "told"] (defScope s_min) := ⟨rfl, rfl, rfl, by decide +kernel, rfl, by decide +kernel, by decide +kernel⟩
theorem sc_max : FnScope ["kinds", "values", "told"] ["kinds", "values", "told"] (defScope s_max) := ⟨rfl, rfl, rfl, by decide +kernel, rfl, by decide +kernel, by decide +kernel⟩
theorem sc_mid : FnScope ["kinds", "values", "told"] ["kinds", "values", "told"] (defScope s_mid) := ⟨rfl, rfl, rfl, by decide +kernel, rfl, by decide +kernel, by decide +kernel⟩
theorem sc_as : FnScope ["kinds", "values", "told"] ["kinds", "values", "told"] (defScope s_as) := ⟨rfl, rfl, rfl, by decide +kernel, rfl, by decide +kernel, by decide +kernel⟩
theorem sc_p_pick : FnScope ["kinds", "values", "told"] ["kinds", "values", "told"] (defScope s_p_pick) := ⟨rfl, rfl, rfl, by decide +kernel, rfl, by decide +kernel, by decide +kernel⟩
theorem sc_vote : FnScope ["kinds", "values", "told"] ["kinds", "values", "told"] (defScope s_vote) := ⟨rfl, rfl, rfl, by decide +kernel, rfl, by decide +kernel, by decide +kernel⟩
theorem sc_row : FnScope ["kinds", "values", "told"] ["kinds", "values", "told"] (defScope s_row) := ⟨rfl, rfl, rfl, by decide +kernel, rfl, by decide +kernel, by decide +kernel⟩
theorem sc_at : FnScope ["kinds", "values", "told", "row", "place"] ["kinds", "values", "told"] (defScope s_at) := ⟨rfl, rfl, rfl, by decide +kernel, rfl, by decide +kernel, by decide +kernel⟩
theorem sc_put : FnScope ["kinds", "values", "told", "row", "place"] ["kinds", "values", "told"] (defScope s_put) := ⟨rfl, rfl, rfl, by decide +kernel, rfl, by decide +kernel, by decide +kernel⟩
theorem sc_sum : FnScope ["kinds", "values", "told", "total", "entry"] ["kinds", "values", "told"] (defScope s_sum) := ⟨rfl, rfl, rfl, by decide +kernel, rfl, by decide +kernel, by decide +kernel⟩
theorem sc_any : FnScope ["kinds", "values", "told"] ["kinds", "values", "told"] (defScope s_any) := ⟨rfl, rfl, rfl, by decide +kernel, rfl, by decide +kernel, by decide +kernel⟩
theorem sc_all : FnScope ["kinds", "values", "told"] ["kinds", "values", "told"] (defScope s_all) := ⟨rfl, rfl, rfl, by decide +kernel, rfl, by decide +kernel, by decide +kernel⟩
theorem sc_result : FnScope ["op", "kinds", "values", "told", "rule"] ["op", "kinds", "values", "told"] (defScope s_result) := ⟨rfl, rfl, rfl, by decide +kernel, rfl, by decide +kernel, by decide +kernel⟩
theorem sc_begin : FnScope ["_law_script", "_law_cell"] ["_law_script"] (defScope s_begin) := ⟨rfl, rfl, rfl, by decide +kernel, rfl, by decide +kernel, by decide +kernel⟩
theorem sc_mixed : FnScope ["_law_d", "_law_cell"] ["_law_d", "_law_cell"] (defScope s_mixed) := ⟨rfl, rfl, rfl, by decide +kernel, rfl, by decide +kernel, by decide +kernel⟩
theorem sc_draw : FnScope ["_law_d", "_law_many", "_law_cell"] ["_law_d", "_law_many"] (defScope s_draw) := ⟨rfl, rfl, rfl, by decide +kernel, rfl, by decide +kernel, by decide +kernel⟩
theorem sc_draw_digit : FnScope ["_law_d", "_law_many", "_law_pair"] ["_law_d", "_law_many"] (defScope s_draw_digit) := ⟨rfl, rfl, rfl, by decide +kernel, rfl, by decide +kernel, by decide +kernel⟩
theorem sc_pick : FnScope ["_law_d", "_law_row"] ["_law_d", "_law_row"] (defScope s_pick) := ⟨rfl, rfl, rfl, by decide +kernel, rfl, by decide +kernel, by decide +kernel⟩
theorem sc_pop : FnScope ["_law_d", "_law_row"] ["_law_d", "_law_row"] (defScope s_pop) := ⟨rfl, rfl, rfl, by decide +kernel, rfl, by decide +kernel, by decide +kernel⟩
theorem sc_rare : FnScope ["_law_d", "_law_many", "_law_amid"] ["_law_d", "_law_many"] (defScope s_rare) := ⟨rfl, rfl, rfl, by decide +kernel, rfl, by decide +kernel, by decide +kernel⟩
theorem sc_pool : FnScope ["_law_words", "_law_more", "_law_last"] [] (defScope s_pool) := ⟨rfl, rfl, rfl, by decide +kernel, rfl, by decide +kernel, by decide +kernel⟩
theorem sc_fit : FnScope ["_law_kind", "_law_number", "_law_low", "_law_high"] ["_law_kind", "_law_number"] (defScope s_fit) := ⟨rfl, rfl, rfl, by decide +kernel, rfl, by decide +kernel, by decide +kernel⟩
theorem sc_ends : FnScope ["_law_kind"] ["_law_kind"] (defScope s_ends) := ⟨rfl, rfl, rfl, by decide +kernel, rfl, by decide +kernel, by decide +kernel⟩
theorem sc_has : FnScope ["_law_kind", "_law_value_here", "_law_ends_here", "_law_part"] ["_law_kind", "_law_value_here"] (defScope s_has) := ⟨rfl, rfl, rfl, by decide +kernel, rfl, by decide +kernel, by decide +kernel⟩
theorem sc_value : FnScope ["_law_d", "_law_kind", "_law_found", "_law_step", "_law_ends_here"] ["_law_d", "_law_kind"] (defScope s_value) := ⟨rfl, rfl, rfl, by decide +kernel, rfl, by decide +kernel, by decide +kernel⟩
theorem sc_num : FnScope ["_law_d", "_law_most", "_law_many", "_law_low", "_law_per"] ["_law_d", "_law_most"] (defScope s_num) := ⟨rfl, rfl, rfl, by decide +kernel, rfl, by decide +kernel, by decide +kernel⟩
theorem sc_plain_kind : FnScope ["_law_d", "_law_most", "_law_pool_here", "_law_way", "_law_names", "_law_step"] ["_law_d", "_law_most", "_law_pool_here"] (defScope s_plain_kind) := ⟨rfl, rfl, rfl, by decide +kernel, rfl, by decide +kernel, by decide +kernel⟩
theorem sc_op_kind : FnScope ["_law_op_here", "_law_kinds", "_law_told", "_law_many", "_law_bools", "_law_due", "_law_kind"] ["_law_op_here", "_law_kinds", "_law_told"] (defScope s_op_kind) := ⟨rfl, rfl, rfl, by decide +kernel, rfl, by decide +kernel, by decide +kernel⟩
theorem sc_row_kind : FnScope ["_law_op_here", "_law_kinds", "_law_many", "_law_due", "_law_part"] ["_law_op_here", "_law_kinds"] (defScope s_row_kind) := ⟨rfl, rfl, rfl, by decide +kernel, rfl, by decide +kernel, by decide +kernel⟩
theorem sc_op : FnScope ["_law_op_here", "_law_kinds", "_law_values", "_law_told", "_law_a", "_law_b"] ["_law_op_here", "_law_kinds", "_law_values", "_law_told"] (defScope s_op) := ⟨rfl, rfl, rfl, by decide +kernel, rfl, by decide +kernel, by decide +kernel⟩
theorem sc_num_op : FnScope ["_law_op_here", "_law_kind", "_law_values", "_law_a", "_law_b"] ["_law_op_here", "_law_kind", "_law_values"] (defScope s_num_op) := ⟨rfl, rfl, rfl, by decide +kernel, rfl, by decide +kernel, by decide +kernel⟩
theorem sc_row_op : FnScope ["_law_op_here", "_law_kinds", "_law_values", "_law_row", "_law_total", "_law_place", "_law_part"] ["_law_op_here", "_law_kinds", "_law_values"] (defScope s_row_op) := ⟨rfl, rfl, rfl, by decide +kernel, rfl, by decide +kernel, by decide +kernel⟩
theorem sc_some_kind : FnScope ["_law_d", "_law_pool_here", "_law_rows", "_law_kind"] ["_law_d", "_law_pool_here", "_law_rows"] (defScope s_some_kind) := ⟨rfl, rfl, rfl, by decide +kernel, rfl, by decide +kernel, by decide +kernel⟩
theorem sc_operand_kinds : FnScope ["_law_d", "_law_op_here", "_law_pool_here", "_law_any_kind", "_law_num_here", "_law_plain", "_law_many"] ["_law_d", "_law_op_here", "_law_pool_here"] (defScope s_operand_kinds) := ⟨rfl, rfl, rfl, by decide +kernel, rfl, by decide +kernel, by decide +kernel⟩
theorem sc_operand : FnScope ["_law_d", "_law_kind"] ["_law_d", "_law_kind"] (defScope s_operand) := ⟨rfl, rfl, rfl, by decide +kernel, rfl, by decide +kernel, by decide +kernel⟩
theorem sc_bent : FnScope ["_law_d", "_law_kinds", "_law_pool_here", "_law_way", "_law_at"] ["_law_d", "_law_kinds", "_law_pool_here"] (defScope s_bent) := ⟨rfl, rfl, rfl, by decide +kernel, rfl, by decide +kernel, by decide +kernel⟩
theorem sc_law : FnScope ["_law_script", "_law_d", "_law_pool_here", "_law_words", "_law_turn", "_law_op_here", "_law_kinds", "_law_goal", "_law_due", "_law_got", "_law_step", "_law_values", "_law_right", "_law_value_here", "_law_kind"] ["_law_script"] (defScope s_law) := ⟨rfl, rfl, rfl, by decide +kernel, rfl, by decide +kernel, by decide +kernel⟩
abbrev FnP (K : PySem.W.Frag) (x : Str) (st : Stmt) (f : Addr) (fd : FuncData) : Prop := FunD K x x (defArgs st) (defBody st) (defScope st) [] [] f fd
def tab_COUNTS : List (Str × V) := [(("not" : Str), V.int 1), (("and" : Str), V.int 2), (("or" : Str), V.int 2), (("xor" : Str), V.int 2), (("eq" : Str), V.int 2), (("ne" : Str), V.int 2), (("lt" : Str), V.int 2), (("le" : Str), V.int 2), (("neg" : Str), V.int 1), (("add" : Str), V.int 2), (("sub" : Str), V.int 2), (("mul" : Str), V.int 2), (("div" : Str), V.int 2), (("min" : Str), V.int 2), (("max" : Str), V.int 2), (("mid" : Str), V.int 3), (("as" : Str), V.int 1), (("pick" : Str), V.int 3), (("vote" : Str), V.int 3), (("row" : Str), V.non), (("at" : Str), V.int 2), (("put" : Str), V.int 3), (("sum" : Str), V.int 1), (("any" : Str), V.int 1), (("all" : Str), V.int 1)]
def not_COUNTS : List Str := []
structure Tx (K : PySem.W.Frag) (mg : Str → Option Value) (w : World) (base : Heap) where
  f_is_int : Addr
  fd_is_int : FuncData
  F_is_int : FnP K "is_int" s_is_int f_is_int fd_is_int
  m_is_int : mg "is_int" = some (.ref f_is_int)
  b_is_int : Binds K fd_is_int ["thing"] []
  f_is_within : Addr
  fd_is_within : FuncData
  F_is_within : FnP K "is_within" s_is_within f_is_within fd_is_within
  m_is_within : mg "is_within" = some (.ref f_is_within)
  b_is_within : Binds K fd_is_within ["thing", "low", "high"] []
  f_is_tuple_of : Addr
  fd_is_tuple_of : FuncData
  F_is_tuple_of : FnP K "is_tuple_of" s_is_tuple_of f_is_tuple_of fd_is_tuple_of
  m_is_tuple_of : mg "is_tuple_of" = some (.ref f_is_tuple_of)
  b_is_tuple_of : Binds K fd_is_tuple_of ["thing", "size"] []
  f_is_num : Addr
  fd_is_num : FuncData
  F_is_num : FnP K "is_num" s_is_num f_is_num fd_is_num
  m_is_num : mg "is_num" = some (.ref f_is_num)
  b_is_num : Binds K fd_is_num ["thing"] []
  f_is_row : Addr
  fd_is_row : FuncData
  F_is_row : FnP K "is_row" s_is_row f_is_row fd_is_row
  m_is_row : mg "is_row" = some (.ref f_is_row)
  b_is_row : Binds K fd_is_row ["kind"] []
  f_zero : Addr
  fd_zero : FuncData
  F_zero : FnP K "zero" s_zero f_zero fd_zero
  m_zero : mg "zero" = some (.ref f_zero)
  b_zero : Binds K fd_zero ["kind"] []
  f_p_fit : Addr
  fd_p_fit : FuncData
  F_p_fit : FnP K "fit" s_p_fit f_p_fit fd_p_fit
  m_p_fit : mg "fit" = some (.ref f_p_fit)
  b_p_fit : Binds K fd_p_fit ["kind", "number"] []
  f_alike : Addr
  fd_alike : FuncData
  F_alike : FnP K "_alike" s_alike f_alike fd_alike
  m_alike : mg "_alike" = some (.ref f_alike)
  b_alike : Binds K fd_alike ["kinds"] []
  f_like_nums : Addr
  fd_like_nums : FuncData
  F_like_nums : FnP K "_like_nums" s_like_nums f_like_nums fd_like_nums
  m_like_nums : mg "_like_nums" = some (.ref f_like_nums)
  b_like_nums : Binds K fd_like_nums ["kinds"] []
  f_logic_kind : Addr
  fd_logic_kind : FuncData
  F_logic_kind : FnP K "_logic_kind" s_logic_kind f_logic_kind fd_logic_kind
  m_logic_kind : mg "_logic_kind" = some (.ref f_logic_kind)
  b_logic_kind : Binds K fd_logic_kind ["kinds", "told"] []
  f_equal_kind : Addr
  fd_equal_kind : FuncData
  F_equal_kind : FnP K "_equal_kind" s_equal_kind f_equal_kind fd_equal_kind
  m_equal_kind : mg "_equal_kind" = some (.ref f_equal_kind)
  b_equal_kind : Binds K fd_equal_kind ["kinds", "told"] []
  f_order_kind : Addr
  fd_order_kind : FuncData
  F_order_kind : FnP K "_order_kind" s_order_kind f_order_kind fd_order_kind
  m_order_kind : mg "_order_kind" = some (.ref f_order_kind)
  b_order_kind : Binds K fd_order_kind ["kinds", "told"] []
  f_number_kind : Addr
  fd_number_kind : FuncData
  F_number_kind : FnP K "_number_kind" s_number_kind f_number_kind fd_number_kind
  m_number_kind : mg "_number_kind" = some (.ref f_number_kind)
  b_number_kind : Binds K fd_number_kind ["kinds", "told"] []
  f_as_kind : Addr
  fd_as_kind : FuncData
  F_as_kind : FnP K "_as_kind" s_as_kind f_as_kind fd_as_kind
  m_as_kind : mg "_as_kind" = some (.ref f_as_kind)
  b_as_kind : Binds K fd_as_kind ["kinds", "told"] []
  f_pick_kind : Addr
  fd_pick_kind : FuncData
  F_pick_kind : FnP K "_pick_kind" s_pick_kind f_pick_kind fd_pick_kind
  m_pick_kind : mg "_pick_kind" = some (.ref f_pick_kind)
  b_pick_kind : Binds K fd_pick_kind ["kinds", "told"] []
  f_vote_kind : Addr
  fd_vote_kind : FuncData
  F_vote_kind : FnP K "_vote_kind" s_vote_kind f_vote_kind fd_vote_kind
  m_vote_kind : mg "_vote_kind" = some (.ref f_vote_kind)
  b_vote_kind : Binds K fd_vote_kind ["kinds", "told"] []
  f_p_row_kind : Addr
  fd_p_row_kind : FuncData
  F_p_row_kind : FnP K "_row_kind" s_p_row_kind f_p_row_kind fd_p_row_kind
  m_p_row_kind : mg "_row_kind" = some (.ref f_p_row_kind)
  b_p_row_kind : Binds K fd_p_row_kind ["kinds", "told"] []
  f_at_kind : Addr
  fd_at_kind : FuncData
  F_at_kind : FnP K "_at_kind" s_at_kind f_at_kind fd_at_kind
  m_at_kind : mg "_at_kind" = some (.ref f_at_kind)
  b_at_kind : Binds K fd_at_kind ["kinds", "told"] []
  f_put_kind : Addr
  fd_put_kind : FuncData
  F_put_kind : FnP K "_put_kind" s_put_kind f_put_kind fd_put_kind
  m_put_kind : mg "_put_kind" = some (.ref f_put_kind)
  b_put_kind : Binds K fd_put_kind ["kinds", "told"] []
  f_sum_kind : Addr
  fd_sum_kind : FuncData
  F_sum_kind : FnP K "_sum_kind" s_sum_kind f_sum_kind fd_sum_kind
  m_sum_kind : mg "_sum_kind" = some (.ref f_sum_kind)
  b_sum_kind : Binds K fd_sum_kind ["kinds", "told"] []
  f_p_some_kind : Addr
  fd_p_some_kind : FuncData
  F_p_some_kind : FnP K "_some_kind" s_p_some_kind f_p_some_kind fd_p_some_kind
  m_p_some_kind : mg "_some_kind" = some (.ref f_p_some_kind)
  b_p_some_kind : Binds K fd_p_some_kind ["kinds", "told"] []
  f_result_kind : Addr
  fd_result_kind : FuncData
  F_result_kind : FunD K "result_kind" "result_kind" (defArgs s_result_kind) (defBody s_result_kind) (defScope s_result_kind) [V.non] [] f_result_kind fd_result_kind
  m_result_kind : mg "result_kind" = some (.ref f_result_kind)
  b_result_kind : Binds K fd_result_kind ["op", "kinds", "told"] []
  ds_result_kind : List Value
  v1_result_kind : Vals [V.non] ds_result_kind
  b1_result_kind : Binds K fd_result_kind ["op", "kinds", "told"] ds_result_kind
  f_place : Addr
  fd_place : FuncData
  F_place : FnP K "_place" s_place f_place fd_place
  m_place : mg "_place" = some (.ref f_place)
  b_place : Binds K fd_place ["kind", "number"] []
  f_not : Addr
  fd_not : FuncData
  F_not : FnP K "_not" s_not f_not fd_not
  m_not : mg "_not" = some (.ref f_not)
  b_not : Binds K fd_not ["kinds", "values", "told"] []
  f_and : Addr
  fd_and : FuncData
  F_and : FnP K "_and" s_and f_and fd_and
  m_and : mg "_and" = some (.ref f_and)
  b_and : Binds K fd_and ["kinds", "values", "told"] []
  f_or : Addr
  fd_or : FuncData
  F_or : FnP K "_or" s_or f_or fd_or
  m_or : mg "_or" = some (.ref f_or)
  b_or : Binds K fd_or ["kinds", "values", "told"] []
  f_xor : Addr
  fd_xor : FuncData
  F_xor : FnP K "_xor" s_xor f_xor fd_xor
  m_xor : mg "_xor" = some (.ref f_xor)
  b_xor : Binds K fd_xor ["kinds", "values", "told"] []
  f_eq : Addr
  fd_eq : FuncData
  F_eq : FnP K "_eq" s_eq f_eq fd_eq
  m_eq : mg "_eq" = some (.ref f_eq)
  b_eq : Binds K fd_eq ["kinds", "values", "told"] []
  f_ne : Addr
  fd_ne : FuncData
  F_ne : FnP K "_ne" s_ne f_ne fd_ne
  m_ne : mg "_ne" = some (.ref f_ne)
  b_ne : Binds K fd_ne ["kinds", "values", "told"] []
  f_lt : Addr
  fd_lt : FuncData
  F_lt : FnP K "_lt" s_lt f_lt fd_lt
  m_lt : mg "_lt" = some (.ref f_lt)
  b_lt : Binds K fd_lt ["kinds", "values", "told"] []
  f_le : Addr
  fd_le : FuncData
  F_le : FnP K "_le" s_le f_le fd_le
  m_le : mg "_le" = some (.ref f_le)
  b_le : Binds K fd_le ["kinds", "values", "told"] []
  f_neg : Addr
  fd_neg : FuncData
  F_neg : FnP K "_neg" s_neg f_neg fd_neg
  m_neg : mg "_neg" = some (.ref f_neg)
  b_neg : Binds K fd_neg ["kinds", "values", "told"] []
  f_add : Addr
  fd_add : FuncData
  F_add : FnP K "_add" s_add f_add fd_add
  m_add : mg "_add" = some (.ref f_add)
  b_add : Binds K fd_add ["kinds", "values", "told"] []
  f_sub : Addr
  fd_sub : FuncData
  F_sub : FnP K "_sub" s_sub f_sub fd_sub
  m_sub : mg "_sub" = some (.ref f_sub)
  b_sub : Binds K fd_sub ["kinds", "values", "told"] []
  f_mul : Addr
  fd_mul : FuncData
  F_mul : FnP K "_mul" s_mul f_mul fd_mul
  m_mul : mg "_mul" = some (.ref f_mul)
  b_mul : Binds K fd_mul ["kinds", "values", "told"] []
  f_div : Addr
  fd_div : FuncData
  F_div : FnP K "_div" s_div f_div fd_div
  m_div : mg "_div" = some (.ref f_div)
  b_div : Binds K fd_div ["kinds", "values", "told"] []
  f_min : Addr
  fd_min : FuncData
  F_min : FnP K "_min" s_min f_min fd_min
  m_min : mg "_min" = some (.ref f_min)
  b_min : Binds K fd_min ["kinds", "values", "told"] []
  f_max : Addr
  fd_max : FuncData
  F_max : FnP K "_max" s_max f_max fd_max
  m_max : mg "_max" = some (.ref f_max)
  b_max : Binds K fd_max ["kinds", "values", "told"] []
  f_mid : Addr
  fd_mid : FuncData
  F_mid : FnP K "_mid" s_mid f_mid fd_mid
  m_mid : mg "_mid" = some (.ref f_mid)
  b_mid : Binds K fd_mid ["kinds", "values", "told"] []
  f_as : Addr
  fd_as : FuncData
  F_as : FnP K "_as" s_as f_as fd_as
  m_as : mg "_as" = some (.ref f_as)
  b_as : Binds K fd_as ["kinds", "values", "told"] []
  f_p_pick : Addr
  fd_p_pick : FuncData
  F_p_pick : FnP K "_pick" s_p_pick f_p_pick fd_p_pick
  m_p_pick : mg "_pick" = some (.ref f_p_pick)
  b_p_pick : Binds K fd_p_pick ["kinds", "values", "told"] []
  f_vote : Addr
  fd_vote : FuncData
  F_vote : FnP K "_vote" s_vote f_vote fd_vote
  m_vote : mg "_vote" = some (.ref f_vote)
  b_vote : Binds K fd_vote ["kinds", "values", "told"] []
  f_row : Addr
  fd_row : FuncData
  F_row : FnP K "_row" s_row f_row fd_row
  m_row : mg "_row" = some (.ref f_row)
  b_row : Binds K fd_row ["kinds", "values", "told"] []
  f_at : Addr
  fd_at : FuncData
  F_at : FnP K "_at" s_at f_at fd_at
  m_at : mg "_at" = some (.ref f_at)
  b_at : Binds K fd_at ["kinds", "values", "told"] []
  f_put : Addr
  fd_put : FuncData
  F_put : FnP K "_put" s_put f_put fd_put
  m_put : mg "_put" = some (.ref f_put)
  b_put : Binds K fd_put ["kinds", "values", "told"] []
  f_sum : Addr
  fd_sum : FuncData
  F_sum : FnP K "_sum" s_sum f_sum fd_sum
  m_sum : mg "_sum" = some (.ref f_sum)
  b_sum : Binds K fd_sum ["kinds", "values", "told"] []
  f_any : Addr
  fd_any : FuncData
  F_any : FnP K "_any" s_any f_any fd_any
  m_any : mg "_any" = some (.ref f_any)
  b_any : Binds K fd_any ["kinds", "values", "told"] []
  f_all : Addr
  fd_all : FuncData
  F_all : FnP K "_all" s_all f_all fd_all
  m_all : mg "_all" = some (.ref f_all)
  b_all : Binds K fd_all ["kinds", "values", "told"] []
  f_result : Addr
  fd_result : FuncData
  F_result : FunD K "result" "result" (defArgs s_result) (defBody s_result) (defScope s_result) [V.non] [] f_result fd_result
  m_result : mg "result" = some (.ref f_result)
  b_result : Binds K fd_result ["op", "kinds", "values", "told"] []
  ds_result : List Value
  v1_result : Vals [V.non] ds_result
  b1_result : Binds K fd_result ["op", "kinds", "values", "told"] ds_result
  kn_result : KBn K fd_result ["op", "kinds", "values", "told"] 3 ["told"] (fun us ws => us ++ ws) (fun vs zs => vs ++ zs)
  f_begin : Addr
  fd_begin : FuncData
  F_begin : FnP K "_law_begin" s_begin f_begin fd_begin
  m_begin : mg "_law_begin" = some (.ref f_begin)
  b_begin : Binds K fd_begin ["_law_script"] []
  f_mixed : Addr
  fd_mixed : FuncData
  F_mixed : FnP K "_law_mixed" s_mixed f_mixed fd_mixed
  m_mixed : mg "_law_mixed" = some (.ref f_mixed)
  b_mixed : Binds K fd_mixed ["_law_d", "_law_cell"] []
  f_draw : Addr
  fd_draw : FuncData
  F_draw : FnP K "_law_draw" s_draw f_draw fd_draw
  m_draw : mg "_law_draw" = some (.ref f_draw)
  b_draw : Binds K fd_draw ["_law_d", "_law_many"] []
  f_draw_digit : Addr
  fd_draw_digit : FuncData
  F_draw_digit : FnP K "_law_draw_digit" s_draw_digit f_draw_digit fd_draw_digit
  m_draw_digit : mg "_law_draw_digit" = some (.ref f_draw_digit)
  b_draw_digit : Binds K fd_draw_digit ["_law_d", "_law_many"] []
  f_pick : Addr
  fd_pick : FuncData
  F_pick : FnP K "_law_pick" s_pick f_pick fd_pick
  m_pick : mg "_law_pick" = some (.ref f_pick)
  b_pick : Binds K fd_pick ["_law_d", "_law_row"] []
  f_pop : Addr
  fd_pop : FuncData
  F_pop : FnP K "_law_pop" s_pop f_pop fd_pop
  m_pop : mg "_law_pop" = some (.ref f_pop)
  b_pop : Binds K fd_pop ["_law_d", "_law_row"] []
  f_rare : Addr
  fd_rare : FuncData
  F_rare : FnP K "_law_rare" s_rare f_rare fd_rare
  m_rare : mg "_law_rare" = some (.ref f_rare)
  b_rare : Binds K fd_rare ["_law_d", "_law_many"] []
  f_pool : Addr
  fd_pool : FuncData
  F_pool : FnP K "_law_pool" s_pool f_pool fd_pool
  m_pool : mg "_law_pool" = some (.ref f_pool)
  b_pool : Binds K fd_pool [] []
  f_fit : Addr
  fd_fit : FuncData
  F_fit : FnP K "_law_fit" s_fit f_fit fd_fit
  m_fit : mg "_law_fit" = some (.ref f_fit)
  b_fit : Binds K fd_fit ["_law_kind", "_law_number"] []
  f_ends : Addr
  fd_ends : FuncData
  F_ends : FnP K "_law_ends" s_ends f_ends fd_ends
  m_ends : mg "_law_ends" = some (.ref f_ends)
  b_ends : Binds K fd_ends ["_law_kind"] []
  f_has : Addr
  fd_has : FuncData
  F_has : FnP K "_law_has" s_has f_has fd_has
  m_has : mg "_law_has" = some (.ref f_has)
  b_has : Binds K fd_has ["_law_kind", "_law_value_here"] []
  f_value : Addr
  fd_value : FuncData
  F_value : FnP K "_law_value" s_value f_value fd_value
  m_value : mg "_law_value" = some (.ref f_value)
  b_value : Binds K fd_value ["_law_d", "_law_kind"] []
  f_num : Addr
  fd_num : FuncData
  F_num : FnP K "_law_num" s_num f_num fd_num
  m_num : mg "_law_num" = some (.ref f_num)
  b_num : Binds K fd_num ["_law_d", "_law_most"] []
  f_plain_kind : Addr
  fd_plain_kind : FuncData
  F_plain_kind : FnP K "_law_plain_kind" s_plain_kind f_plain_kind fd_plain_kind
  m_plain_kind : mg "_law_plain_kind" = some (.ref f_plain_kind)
  b_plain_kind : Binds K fd_plain_kind ["_law_d", "_law_most", "_law_pool_here"] []
  f_op_kind : Addr
  fd_op_kind : FuncData
  F_op_kind : FnP K "_law_op_kind" s_op_kind f_op_kind fd_op_kind
  m_op_kind : mg "_law_op_kind" = some (.ref f_op_kind)
  b_op_kind : Binds K fd_op_kind ["_law_op_here", "_law_kinds", "_law_told"] []
  f_row_kind : Addr
  fd_row_kind : FuncData
  F_row_kind : FnP K "_law_row_kind" s_row_kind f_row_kind fd_row_kind
  m_row_kind : mg "_law_row_kind" = some (.ref f_row_kind)
  b_row_kind : Binds K fd_row_kind ["_law_op_here", "_law_kinds"] []
  f_op : Addr
  fd_op : FuncData
  F_op : FnP K "_law_op" s_op f_op fd_op
  m_op : mg "_law_op" = some (.ref f_op)
  b_op : Binds K fd_op ["_law_op_here", "_law_kinds", "_law_values", "_law_told"] []
  f_num_op : Addr
  fd_num_op : FuncData
  F_num_op : FnP K "_law_num_op" s_num_op f_num_op fd_num_op
  m_num_op : mg "_law_num_op" = some (.ref f_num_op)
  b_num_op : Binds K fd_num_op ["_law_op_here", "_law_kind", "_law_values"] []
  f_row_op : Addr
  fd_row_op : FuncData
  F_row_op : FnP K "_law_row_op" s_row_op f_row_op fd_row_op
  m_row_op : mg "_law_row_op" = some (.ref f_row_op)
  b_row_op : Binds K fd_row_op ["_law_op_here", "_law_kinds", "_law_values"] []
  f_some_kind : Addr
  fd_some_kind : FuncData
  F_some_kind : FnP K "_law_some_kind" s_some_kind f_some_kind fd_some_kind
  m_some_kind : mg "_law_some_kind" = some (.ref f_some_kind)
  b_some_kind : Binds K fd_some_kind ["_law_d", "_law_pool_here", "_law_rows"] []
  f_operand_kinds : Addr
  fd_operand_kinds : FuncData
  F_operand_kinds : FnP K "_law_operand_kinds" s_operand_kinds f_operand_kinds fd_operand_kinds
  m_operand_kinds : mg "_law_operand_kinds" = some (.ref f_operand_kinds)
  b_operand_kinds : Binds K fd_operand_kinds ["_law_d", "_law_op_here", "_law_pool_here"] []
  f_operand : Addr
  fd_operand : FuncData
  F_operand : FnP K "_law_operand" s_operand f_operand fd_operand
  m_operand : mg "_law_operand" = some (.ref f_operand)
  b_operand : Binds K fd_operand ["_law_d", "_law_kind"] []
  f_bent : Addr
  fd_bent : FuncData
  F_bent : FnP K "_law_bent" s_bent f_bent fd_bent
  m_bent : mg "_law_bent" = some (.ref f_bent)
  b_bent : Binds K fd_bent ["_law_d", "_law_kinds", "_law_pool_here"] []
  f_law : Addr
  fd_law : FuncData
  F_law : FnP K "law" s_law f_law fd_law
  m_law : mg "law" = some (.ref f_law)
  b_law : Binds K fd_law ["_law_script"] []
  z_abs : mg "abs" = none
  z_all : mg "all" = none
  z_bool : mg "bool" = none
  z_divmod : mg "divmod" = none
  z_int : mg "int" = none
  z_isinstance : mg "isinstance" = none
  z_len : mg "len" = none
  z_max : mg "max" = none
  z_min : mg "min" = none
  z_range : mg "range" = none
  z_rule : mg "rule" = none
  z_sorted : mg "sorted" = none
  z_tuple : mg "tuple" = none
  c_alike : Addr
  P_alike : Addr
  cd_alike : fd_alike.code = .ref c_alike
  TB_alike : GxR.TabB base mg c_alike P_alike
  mg_BOOL : mg "BOOL" = some (.ref (He.ga K "BOOL"))
  tp_BOOL : ∀ H : Hp, SqT K H (He.ga K "BOOL") [.str "bool"]
  tk_MOST_ENTRIES : Tok
  mg_MOST_ENTRIES : mg "MOST_ENTRIES" = some (.int 6 tk_MOST_ENTRIES)
  mg_COUNTS : mg "COUNTS" = some (.ref (He.ga K "COUNTS"))
  es_COUNTS : Array DictEntry
  n_COUNTS : Nat
  kx_COUNTS : KDict K w (He.ga K "COUNTS") es_COUNTS n_COUNTS
  kd_COUNTS : ∀ q ∈ tab_COUNTS, KDct K w (He.ga K "COUNTS") q.1 q.2
  no_COUNTS : ∀ z ∈ not_COUNTS, PySem.W.nsIn K (He.ga K "COUNTS") z = some none
  mg_KIND_RULES : mg "KIND_RULES" = some (.ref (He.ga K "KIND_RULES"))
  kd_KIND_RULES_not : KDct K w (He.ga K "KIND_RULES") "not" (.ref f_logic_kind)
  kd_KIND_RULES_and : KDct K w (He.ga K "KIND_RULES") "and" (.ref f_logic_kind)
  kd_KIND_RULES_or : KDct K w (He.ga K "KIND_RULES") "or" (.ref f_logic_kind)
  kd_KIND_RULES_xor : KDct K w (He.ga K "KIND_RULES") "xor" (.ref f_logic_kind)
  kd_KIND_RULES_eq : KDct K w (He.ga K "KIND_RULES") "eq" (.ref f_equal_kind)
  kd_KIND_RULES_ne : KDct K w (He.ga K "KIND_RULES") "ne" (.ref f_equal_kind)
  kd_KIND_RULES_lt : KDct K w (He.ga K "KIND_RULES") "lt" (.ref f_order_kind)
  kd_KIND_RULES_le : KDct K w (He.ga K "KIND_RULES") "le" (.ref f_order_kind)
  kd_KIND_RULES_neg : KDct K w (He.ga K "KIND_RULES") "neg" (.ref f_number_kind)
  kd_KIND_RULES_add : KDct K w (He.ga K "KIND_RULES") "add" (.ref f_number_kind)
  kd_KIND_RULES_sub : KDct K w (He.ga K "KIND_RULES") "sub" (.ref f_number_kind)
  kd_KIND_RULES_mul : KDct K w (He.ga K "KIND_RULES") "mul" (.ref f_number_kind)
  kd_KIND_RULES_div : KDct K w (He.ga K "KIND_RULES") "div" (.ref f_number_kind)
  kd_KIND_RULES_min : KDct K w (He.ga K "KIND_RULES") "min" (.ref f_number_kind)
  kd_KIND_RULES_max : KDct K w (He.ga K "KIND_RULES") "max" (.ref f_number_kind)
  kd_KIND_RULES_mid : KDct K w (He.ga K "KIND_RULES") "mid" (.ref f_number_kind)
  kd_KIND_RULES_as : KDct K w (He.ga K "KIND_RULES") "as" (.ref f_as_kind)
  kd_KIND_RULES_pick : KDct K w (He.ga K "KIND_RULES") "pick" (.ref f_pick_kind)
  kd_KIND_RULES_vote : KDct K w (He.ga K "KIND_RULES") "vote" (.ref f_vote_kind)
  kd_KIND_RULES_row : KDct K w (He.ga K "KIND_RULES") "row" (.ref f_p_row_kind)
  kd_KIND_RULES_at : KDct K w (He.ga K "KIND_RULES") "at" (.ref f_at_kind)
  kd_KIND_RULES_put : KDct K w (He.ga K "KIND_RULES") "put" (.ref f_put_kind)
  kd_KIND_RULES_sum : KDct K w (He.ga K "KIND_RULES") "sum" (.ref f_sum_kind)
  kd_KIND_RULES_any : KDct K w (He.ga K "KIND_RULES") "any" (.ref f_p_some_kind)
  kd_KIND_RULES_all : KDct K w (He.ga K "KIND_RULES") "all" (.ref f_p_some_kind)
  mg_VALUE_RULES : mg "VALUE_RULES" = some (.ref (He.ga K "VALUE_RULES"))
  kd_VALUE_RULES_not : KDct K w (He.ga K "VALUE_RULES") "not" (.ref f_not)
  kd_VALUE_RULES_and : KDct K w (He.ga K "VALUE_RULES") "and" (.ref f_and)
  kd_VALUE_RULES_or : KDct K w (He.ga K "VALUE_RULES") "or" (.ref f_or)
  kd_VALUE_RULES_xor : KDct K w (He.ga K "VALUE_RULES") "xor" (.ref f_xor)
  kd_VALUE_RULES_eq : KDct K w (He.ga K "VALUE_RULES") "eq" (.ref f_eq)
  kd_VALUE_RULES_ne : KDct K w (He.ga K "VALUE_RULES") "ne" (.ref f_ne)
  kd_VALUE_RULES_lt : KDct K w (He.ga K "VALUE_RULES") "lt" (.ref f_lt)
  kd_VALUE_RULES_le : KDct K w (He.ga K "VALUE_RULES") "le" (.ref f_le)
  kd_VALUE_RULES_neg : KDct K w (He.ga K "VALUE_RULES") "neg" (.ref f_neg)
  kd_VALUE_RULES_add : KDct K w (He.ga K "VALUE_RULES") "add" (.ref f_add)
  kd_VALUE_RULES_sub : KDct K w (He.ga K "VALUE_RULES") "sub" (.ref f_sub)
  kd_VALUE_RULES_mul : KDct K w (He.ga K "VALUE_RULES") "mul" (.ref f_mul)
  kd_VALUE_RULES_div : KDct K w (He.ga K "VALUE_RULES") "div" (.ref f_div)
  kd_VALUE_RULES_min : KDct K w (He.ga K "VALUE_RULES") "min" (.ref f_min)
  kd_VALUE_RULES_max : KDct K w (He.ga K "VALUE_RULES") "max" (.ref f_max)
  kd_VALUE_RULES_mid : KDct K w (He.ga K "VALUE_RULES") "mid" (.ref f_mid)
  kd_VALUE_RULES_as : KDct K w (He.ga K "VALUE_RULES") "as" (.ref f_as)
  kd_VALUE_RULES_pick : KDct K w (He.ga K "VALUE_RULES") "pick" (.ref f_p_pick)
  kd_VALUE_RULES_vote : KDct K w (He.ga K "VALUE_RULES") "vote" (.ref f_vote)
  kd_VALUE_RULES_row : KDct K w (He.ga K "VALUE_RULES") "row" (.ref f_row)
  kd_VALUE_RULES_at : KDct K w (He.ga K "VALUE_RULES") "at" (.ref f_at)
  kd_VALUE_RULES_put : KDct K w (He.ga K "VALUE_RULES") "put" (.ref f_put)
  kd_VALUE_RULES_sum : KDct K w (He.ga K "VALUE_RULES") "sum" (.ref f_sum)
  kd_VALUE_RULES_any : KDct K w (He.ga K "VALUE_RULES") "any" (.ref f_any)
  kd_VALUE_RULES_all : KDct K w (He.ga K "VALUE_RULES") "all" (.ref f_all)
def Tx.tbs {K : PySem.W.Frag} {mg : Str → Option Value} {w : World} {base : Heap} (T : Tx K mg w base) : List Addr := [T.P_alike]



/-! ### promises of defs with so many arguments -/
def sp0 (R : Hp → VK → Prop) : Sp := fun vs H Q _ => vs = [] ∧ R H Q
def sp1 (R : V → Hp → VK → Prop) : Sp := fun vs H Q _ => ∃ x, vs = [x] ∧ R x H Q
def sp2 (R : V → V → Hp → VK → Prop) : Sp := fun vs H Q _ => ∃ x y, vs = [x, y] ∧ R x y H Q
def sp3 (R : V → V → V → Hp → VK → Prop) : Sp := fun vs H Q _ => ∃ x y z, vs = [x, y, z] ∧ R x y z H Q
section
variable {P : Program} {w : World} {K : PySem.W.Frag} {mg : Str → Option Value} {base : Heap} {x : Str} {st : Stmt} {f : Addr} {fd : FuncData} {N ps : List Str} {k : Nat} {dvs : List V} {kws : List (Str × V)}
theorem okR {sp : Sp} (F : FunD K x x (defArgs st) (defBody st) (defScope st) dvs kws f fd) (S : FnScope N ps (defScope st)) (len : ∀ vs H Q E, sp vs H Q E → vs.length = ps.length)
    (body : ∀ (cdv : Value) (A : Around) (outer : List Env) (s : Shared) (H : Hp) (vs : List V) (Q : VK) (E : XK), Room k (A.deeper (envOfC x (defScope st) s.heap.objs.size f cdv)) → sp vs H Q E →
      ∃ t, PSs (cxOf CX0 P w K mg base N x (defScope st) f cdv A outer s H E).nox (defBody st) t ∧ t { nx := fun _ H' => Q .non H', rt := Q } (start N vs) H) : FnOk P w K mg base CX0 (k + 1) f fd ps sp := by
  refine F.ok S len fun cdv A outer s H vs Q E hr h => ?_
  obtain ⟨t, h1, h2⟩ := body cdv A outer s H vs Q E hr h
  exact ⟨t, h1.nox, h2⟩
theorem okR0 {R : Hp → VK → Prop} (F : FunD K x x (defArgs st) (defBody st) (defScope st) dvs kws f fd) (S : FnScope N ps (defScope st)) (hl : ps.length = 0)
    (body : ∀ (cdv : Value) (A : Around) (outer : List Env) (s : Shared) (H : Hp) (Q : VK) (E : XK), Room k (A.deeper (envOfC x (defScope st) s.heap.objs.size f cdv)) → R H Q →
      ∃ t, PSs (cxOf CX0 P w K mg base N x (defScope st) f cdv A outer s H E).nox (defBody st) t ∧ t { nx := fun _ H' => Q .non H', rt := Q } (start N []) H) : FnOk P w K mg base CX0 (k + 1) f fd ps (sp0 R) := by
  refine okR F S (fun vs H Q E h => ?_) fun cdv A outer s H vs Q E hr h => ?_
  · obtain ⟨rfl, _⟩ := h
    exact hl.symm
  · obtain ⟨rfl, h⟩ := h
    exact body cdv A outer s H Q E hr h
theorem okR1 {R : V → Hp → VK → Prop} (F : FunD K x x (defArgs st) (defBody st) (defScope st) dvs kws f fd) (S : FnScope N ps (defScope st)) (hl : ps.length = 1)
    (body : ∀ (cdv : Value) (A : Around) (outer : List Env) (s : Shared) (H : Hp) (Q : VK) (E : XK) (a : V), Room k (A.deeper (envOfC x (defScope st) s.heap.objs.size f cdv)) → R a H Q →
      ∃ t, PSs (cxOf CX0 P w K mg base N x (defScope st) f cdv A outer s H E).nox (defBody st) t ∧ t { nx := fun _ H' => Q .non H', rt := Q } (start N [a]) H) : FnOk P w K mg base CX0 (k + 1) f fd ps (sp1 R) := by
  refine okR F S (fun vs H Q E h => ?_) fun cdv A outer s H vs Q E hr h => ?_
  · obtain ⟨_, rfl, _⟩ := h
    exact hl.symm
  · obtain ⟨a, rfl, h⟩ := h
    exact body cdv A outer s H Q E a hr h
theorem okR2 {R : V → V → Hp → VK → Prop} (F : FunD K x x (defArgs st) (defBody st) (defScope st) dvs kws f fd) (S : FnScope N ps (defScope st)) (hl : ps.length = 2)
    (body : ∀ (cdv : Value) (A : Around) (outer : List Env) (s : Shared) (H : Hp) (Q : VK) (E : XK) (a b : V), Room k (A.deeper (envOfC x (defScope st) s.heap.objs.size f cdv)) → R a b H Q →
      ∃ t, PSs (cxOf CX0 P w K mg base N x (defScope st) f cdv A outer s H E).nox (defBody st) t ∧ t { nx := fun _ H' => Q .non H', rt := Q } (start N [a, b]) H) : FnOk P w K mg base CX0 (k + 1) f fd ps (sp2 R) := by
  refine okR F S (fun vs H Q E h => ?_) fun cdv A outer s H vs Q E hr h => ?_
  · obtain ⟨_, _, rfl, _⟩ := h
    exact hl.symm
  · obtain ⟨a, b, rfl, h⟩ := h
    exact body cdv A outer s H Q E a b hr h
theorem okR3 {R : V → V → V → Hp → VK → Prop} (F : FunD K x x (defArgs st) (defBody st) (defScope st) dvs kws f fd) (S : FnScope N ps (defScope st)) (hl : ps.length = 3)
    (body : ∀ (cdv : Value) (A : Around) (outer : List Env) (s : Shared) (H : Hp) (Q : VK) (E : XK) (a b c : V), Room k (A.deeper (envOfC x (defScope st) s.heap.objs.size f cdv)) → R a b c H Q →
      ∃ t, PSs (cxOf CX0 P w K mg base N x (defScope st) f cdv A outer s H E).nox (defBody st) t ∧ t { nx := fun _ H' => Q .non H', rt := Q } (start N [a, b, c]) H) : FnOk P w K mg base CX0 (k + 1) f fd ps (sp3 R) := by
  refine okR F S (fun vs H Q E h => ?_) fun cdv A outer s H vs Q E hr h => ?_
  · obtain ⟨_, _, _, rfl, _⟩ := h
    exact hl.symm
  · obtain ⟨a, b, c, rfl, h⟩ := h
    exact body cdv A outer s H Q E a b c hr h
end
/-! ### heaps: all but the object at d stays -/
def Keep (d : Addr) (H H' : Hp) : Prop := ∀ b o, H b = some o → b ≠ d → H' b = some o
theorem Keep.refl (d : Addr) (H : Hp) : Keep d H H := fun _ _ h _ => h
theorem Keep.trans {d : Addr} {H H1 H2 : Hp} (a : Keep d H H1) (b : Keep d H1 H2) : Keep d H H2 := fun c o h n => b c o (a c o h n) n
theorem Keep.of {d : Addr} {H H1 : Hp} (a : Same H H1) : Keep d H H1 := fun c o h _ => a c o h
theorem Keep.new {d p : Addr} {H : Hp} {o : HO} (h : H p = none) : Keep d H (upd H p o) := fun b u e _ => by
  rw [upd_ne (ne_of_none e h)]
  exact e
theorem Keep.at {d : Addr} {H : Hp} {o : HO} : Keep d H (upd H d o) := fun b u e n => by
  rw [upd_ne n]
  exact e
theorem same_new {H : Hp} {p : Addr} {o : HO} (h : H p = none) : Same H (upd H p o) := fun b u e => by
  rw [upd_ne (ne_of_none e h)]
  exact e
theorem upd_else {H : Hp} {a b : Addr} {o u : HO} (h : H b = some u) (n : b ≠ a) : upd H a o b = some u := by
  rw [upd_ne n]
  exact h
theorem sl (n : Nat) (h : n ≤ 1000 := by decide) : n ≤ sizeLine := Nat.le_of_lt (small1000 h)
/-- a list's item by a written place -/
theorem at_n {xs : List V} {v : V} (j : Nat) (h : xs[j]? = some v) : atI xs (j : Int) = some v := atI_nat h
theorem yes {σ : L2.St} {H : Hp} {A B : Hp → Prop} (h : A H) : tYes σ H fun b H' => if b = true then A H' else B H' := by
  show if true = true then A H else B H
  rw [if_pos rfl]
  exact h

/-! ### the law's draws: d holds the script's numbers (a list at c), a place and three numbers -/
def Dr (d c : Addr) (H : Hp) : Prop := ∃ (cells : List Int) (i : Nat) (big seed cnt : Int), H d = some (.lst [.ref c, .int i, .int big, .int seed, .int cnt]) ∧ H c = some (.lst (cells.map V.int)) ∧ c ≠ d
theorem Dr.same {d c : Addr} {H H' : Hp} (h : Dr d c H) (s : Same H H') : Dr d c H' := by
  obtain ⟨cells, i, big, seed, cnt, h1, h2, h3⟩ := h
  exact ⟨cells, i, big, seed, cnt, s _ _ h1, s _ _ h2, h3⟩
theorem Dr.new {d c p : Addr} {H : Hp} {o : HO} (h : Dr d c H) (n : H p = none) : Dr d c (upd H p o) := h.same (same_new n)
theorem Dr.there {d c : Addr} {H : Hp} (h : Dr d c H) : ∃ xs, H d = some (.lst xs) := by
  obtain ⟨cells, i, big, seed, cnt, h1, h2, h3⟩ := h
  exact ⟨_, h1⟩
theorem Dr.dne {d c p : Addr} {H : Hp} (h : Dr d c H) (n : H p = none) : p ≠ d := by
  obtain ⟨_, h1⟩ := h.there
  exact (ne_of_none h1 n).symm
theorem Dr.cne {d c p : Addr} {H : Hp} (h : Dr d c H) (n : H p = none) : p ≠ c := by
  obtain ⟨cells, i, big, seed, cnt, h1, h2, h3⟩ := h
  exact (ne_of_none h2 n).symm
/-- another object than d and c is written -/
theorem Dr.else {d c p : Addr} {H : Hp} {o : HO} (h : Dr d c H) (n1 : p ≠ d) (n2 : p ≠ c) : Dr d c (upd H p o) := by
  obtain ⟨cells, i, big, seed, cnt, h1, h2, h3⟩ := h
  exact ⟨cells, i, big, seed, cnt, upd_else h1 n1.symm, upd_else h2 n2.symm, h3⟩
def rBegin (K : PySem.W.Frag) : V → Hp → VK → Prop := fun x H Q => ∃ (a : Addr) (ns : List Int), x = .ref a ∧ SqL K H a (ns.map V.int) ∧ ns.length ≤ 63 ∧
  ∀ (d c : Addr) (H' : Hp), Dr d c H' → Same H H' → Q (.ref d) H'
def rMixed : V → V → Hp → VK → Prop := fun x y H Q => ∃ (d c : Addr) (z : Int), x = .ref d ∧ y = .int z ∧ Dr d c H ∧ ∀ (r : Int) (H' : Hp), Dr d c H' → Keep d H H' → Q (.int r) H'
def rDraw : V → V → Hp → VK → Prop := fun x y H Q => ∃ (d c : Addr) (m : Int), x = .ref d ∧ y = .int m ∧ Dr d c H ∧ 0 < m ∧ m < 1000000000 ∧ ∀ (r : Int) (H' : Hp), 0 ≤ r → r < m → Dr d c H' → Keep d H H' → Q (.int r) H'
def rRare : V → V → Hp → VK → Prop := fun x y H Q => ∃ (d c : Addr) (m : Int), x = .ref d ∧ y = .int m ∧ Dr d c H ∧ 4 < m ∧ m < 1000000000 ∧ ∀ (r : Bool) (H' : Hp), Dr d c H' → Keep d H H' → Q (.bl r) H'
section
variable {P : Program} {w : World} {K : PySem.W.Frag} {mg : Str → Option Value} {base : Heap}
theorem ok_begin (T : Tx K mg w base) : FnOk P w K mg base CX0 1 T.f_begin T.fd_begin ["_law_script"] (sp1 (rBegin K)) := by
  refine okR1 T.F_begin sc_begin rfl fun cdv A outer s H Q E x hr h => ?_
  obtain ⟨a, ns, rfl, hS, h63, q⟩ := h
  refine ⟨_, pss_one (ps_ret (pe_lst (pa_cons (pe_lc (own := [("_law_cell", 1)]) (g := gName 1) (tt := tYes) rfl sc_begin.nd (pi_list (pv 0)) (blkOk_by (N := ["_law_script", "_law_cell"]) (sc := defScope s_begin) (by decide +kernel)) (fun _ _ _ _ _ => pg_name (i := 1) sc_begin.nd rfl (Or.inl rfl)) (fun _ _ _ _ _ => pts_nil) (fun _ _ _ _ _ => (pe_callTy call_int1 (by rfl) T.z_int (by decide +kernel) (pa_cons (pv 1) pa_nil)))) (pa_cons pe_int (pa_cons pe_int (pa_cons pe_int (pa_cons pe_int pa_nil))))))), ?_⟩
  refine ⟨_, rfl, a, rfl, ⟨_, hS⟩, fun D hD => lc_list (K := K) (a := a) (xs := ns.map V.int) (fun i H' => H' = upd H D (.lst ((ns.take i).map V.int))) rfl ?_ ?_ ?_⟩
  · rintro i H' _ rfl
    exact (same_new hD).seq hS
  · rintro i x H' hi rfl
    rw [List.getElem?_map] at hi
    obtain ⟨z, hz, rfl⟩ := Option.map_eq_some_iff.mp hi
    refine ⟨rfl, yes ?_⟩
    refine ⟨_, rfl, .inl ⟨_, rfl, ?_⟩⟩
    refine ⟨_, upd_same, ?_, ?_⟩
    · rw [List.length_map, List.length_take]
      exact small1000 (by omega)
    · rw [upd_upd, List.take_add_one, hz, List.map_append] <;> rfl
  · rintro H' rfl
    rw [show (List.map V.int ns).length = ns.length from List.length_map _, List.take_length]
    refine ⟨sl 5, fun p hp => ?_⟩
    have hDp : D ≠ p := ne_of_none upd_same hp
    exact q p D _ ⟨ns, 0, 0, 1234577, 0, upd_same, upd_else upd_same hDp, hDp⟩ ((same_new hD).trans (same_new hp))
theorem ok_mixed (T : Tx K mg w base) : FnOk P w K mg base CX0 1 T.f_mixed T.fd_mixed ["_law_d", "_law_cell"] (sp2 rMixed) := by
  refine okR2 T.F_mixed sc_mixed rfl fun cdv A outer s H Q E x y hr h => ?_
  obtain ⟨d, c, z, rfl, rfl, ⟨cells, i, big, seed, cnt, h1, h2, hn⟩, q⟩ := h
  refine ⟨_, pss_cons (ps_asg (pe_op op_add (pe_ix ix_list (pv 0) pe_int (fun _ _ => rfl)) pe_int) (pg_sub (pv 0) pe_int set_list))
      (pss_cons (ps_asg (pe_op op_mod (pe_callTy call_int1 (by rfl) T.z_int (by decide +kernel) (pa_cons (pe_op op_add (pe_op op_add (pe_op op_mul (pe_ix ix_list (pv 0) pe_int (fun _ _ => rfl)) pe_int) (pe_op op_mul (pe_op op_add (pv 1) (pe_ix ix_list (pv 0) pe_int (fun _ _ => rfl))) pe_int)) pe_int) pa_nil)) pe_int) (pg_sub (pv 0) pe_int set_list))
      (pss_cons (ps_asg (pe_op op_mod (pe_callTy call_int1 (by rfl) T.z_int (by decide +kernel) (pa_cons (pe_op op_add (pe_op op_add (pe_op op_mul (pe_ix ix_list (pv 0) pe_int (fun _ _ => rfl)) pe_int) (pe_op op_mul (pe_ix ix_list (pv 0) pe_int (fun _ _ => rfl)) pe_int)) pe_int) pa_nil)) pe_int) (pg_sub (pv 0) pe_int set_list))
      (pss_one (ps_ret (pe_op op_fdiv (pe_ix ix_list (pv 0) pe_int (fun _ _ => rfl)) pe_int))))), ?_⟩
  refine ⟨_, rfl, d, _, _, _, rfl, rfl, SqL.of h1, at_n 4 rfl, _, _, rfl, rfl, _, rfl, d, _, _, 4, rfl, rfl, h1, rfl, ?_⟩
  refine ⟨_, rfl, d, _, _, _, rfl, rfl, SqL.of upd_same, at_n 3 rfl, _, _, rfl, rfl, .inr (by decide), _, rfl, _, rfl, d, _, _, _, rfl, rfl, SqL.of upd_same, at_n 4 rfl, _, _, rfl, rfl, _, _, rfl, rfl, .inr (by decide), _, _, rfl, rfl, _, _, rfl, rfl, .inl ⟨_, rfl, ?_⟩⟩
  refine ⟨_, _, rfl, rfl, (by show (0 : Int) < 2147483647; decide), _, rfl, d, _, _, 3, rfl, rfl, upd_same, rfl, ?_⟩
  rw [upd_upd]
  refine ⟨_, rfl, d, _, _, _, rfl, rfl, SqL.of upd_same, at_n 3 rfl, _, _, rfl, rfl, .inr (by decide), _, rfl, d, _, _, _, rfl, rfl, SqL.of upd_same, at_n 4 rfl, _, _, rfl, rfl, .inr (by decide), _, _, rfl, rfl, _, _, rfl, rfl, .inl ⟨_, rfl, ?_⟩⟩
  refine ⟨_, _, rfl, rfl, (by show (0 : Int) < 2147483629; decide), _, rfl, d, _, _, 3, rfl, rfl, upd_same, rfl, ?_⟩
  rw [upd_upd]
  refine ⟨_, rfl, d, _, _, _, rfl, rfl, SqL.of upd_same, at_n 3 rfl, _, _, rfl, rfl, ⟨by decide, by decide⟩, ?_⟩
  exact q _ _ ⟨cells, i, big, _, _, upd_same, upd_else h2 hn, hn⟩ Keep.at
theorem ok_draw_digit (T : Tx K mg w base) : FnOk P w K mg base CX0 1 T.f_draw_digit T.fd_draw_digit ["_law_d", "_law_many"] (sp2 rDraw) := by
  refine okR2 T.F_draw_digit sc_draw_digit rfl fun cdv A outer s H Q E x y hr h => ?_
  obtain ⟨d, c, m, rfl, rfl, ⟨cells, i, big, seed, cnt, h1, h2, hn⟩, m0, m1, q⟩ := h
  refine ⟨_, pss_cons (ps_set (i := 2) sc_draw_digit.nd rfl (Or.inl rfl) (pe_callB call_divmod (by rfl) T.z_divmod (by decide +kernel) (pa_cons (pe_ix ix_list (pv 0) pe_int (fun _ _ => rfl)) (pa_cons (pv 1) pa_nil))))
      (pss_cons (ps_asg (pe_ix ix_tup (pv 2) pe_int (fun _ _ => rfl)) (pg_sub (pv 0) pe_int set_list))
      (pss_one (ps_ret (pe_ix ix_tup (pv 2) pe_int (fun _ _ => rfl))))), ?_⟩
  refine ⟨_, rfl, d, _, _, _, rfl, rfl, SqL.of h1, at_n 2 rfl, _, rfl, _, _, rfl, ⟨m0, by omega⟩, fun p hp => ?_⟩
  have hdp : d ≠ p := ne_of_none h1 hp
  have hcp : c ≠ p := ne_of_none h2 hp
  refine ⟨_, rfl, p, _, _, _, rfl, rfl, SqT.of upd_same, at_n 0 rfl, _, rfl, d, _, _, 2, rfl, rfl, upd_else h1 hdp, rfl, ?_⟩
  refine ⟨_, rfl, p, _, _, _, rfl, rfl, SqT.of (upd_else upd_same hdp.symm), at_n 1 rfl, ?_⟩
  refine q _ _ (Int.emod_nonneg _ (by omega)) (Int.emod_lt_of_pos _ m0) ⟨cells, i, _, seed, cnt, upd_same, upd_else (upd_else h2 hcp) hn, hn⟩ ((Keep.new hp).trans Keep.at)
theorem ok_draw (T : Tx K mg w base) : FnOk P w K mg base CX0 2 T.f_draw T.fd_draw ["_law_d", "_law_many"] (sp2 rDraw) := by
  refine okR2 T.F_draw sc_draw rfl fun cdv A outer s H Q E x y hr h => ?_
  obtain ⟨d, c, m, rfl, rfl, ⟨cells, i, big, seed, cnt, h1, h2, hn⟩, m0, m1, q⟩ := h
  have dr : Dr d c H := ⟨cells, i, big, seed, cnt, h1, h2, hn⟩
  refine ⟨_, pss_cons (ps_if (pt_cmpR op_gt (pe_ix ix_list (pv 0) pe_int (fun _ _ => rfl)) pe_int (nomark _)) (pss_one (ps_ret (pe_call (ok_draw_digit T) (hr.mono (by decide)) rfl T.m_draw_digit T.F_draw_digit.kp T.b_draw_digit .nil pass0 (pa_cons (pv 0) (pa_cons (pv 1) pa_nil))))) pss_nil)
      (pss_cons (ps_if (pt_cmpR op_lt (pe_ix ix_list (pv 0) pe_int (fun _ _ => rfl)) (pe_callB call_len_seq (by rfl) T.z_len (by decide +kernel) (pa_cons (pe_ix ix_list (pv 0) pe_int (fun _ _ => rfl)) pa_nil)) (nomark _)) (pss_cons (ps_set (i := 2) sc_draw.nd rfl (Or.inl rfl) (pe_ix ix_list (pe_ix ix_list (pv 0) pe_int (fun _ _ => rfl)) (pe_ix ix_list (pv 0) pe_int (fun _ _ => rfl)) (fun _ _ => rfl)))
      (pss_cons (ps_asg (pe_op op_add (pe_ix ix_list (pv 0) pe_int (fun _ _ => rfl)) pe_int) (pg_sub (pv 0) pe_int set_list))
      (pss_cons (ps_if (pt_cmpR op_ge (pe_callB call_abs (by rfl) T.z_abs (by decide +kernel) (pa_cons (pv 2) pa_nil)) (pe_op op_pow pe_int pe_int) (nomark _)) (pss_cons (ps_asg (pe_op op_and (pe_op op_fdiv (pe_callB call_abs (by rfl) T.z_abs (by decide +kernel) (pa_cons (pv 2) pa_nil)) pe_int) (pe_op op_sub (pe_op op_shl pe_int pe_int) pe_int)) (pg_sub (pv 0) pe_int set_list))
      (pss_one (ps_ret (pe_call (ok_draw_digit T) (hr.mono (by decide)) rfl T.m_draw_digit T.F_draw_digit.kp T.b_draw_digit .nil pass0 (pa_cons (pv 0) (pa_cons (pv 1) pa_nil)))))) pss_nil)
      (pss_one (ps_ret (pe_op op_mod (pe_callTy call_int1 (by rfl) T.z_int (by decide +kernel) (pa_cons (pe_call (ok_mixed T) (hr.mono (by decide)) rfl T.m_mixed T.F_mixed.kp T.b_mixed .nil pass0 (pa_cons (pv 0) (pa_cons (pv 2) pa_nil))) pa_nil)) (pv 1))))))) pss_nil)
      (pss_one (ps_ret (pe_op op_mod (pe_callTy call_int1 (by rfl) T.z_int (by decide +kernel) (pa_cons (pe_call (ok_mixed T) (hr.mono (by decide)) rfl T.m_mixed T.F_mixed.kp T.b_mixed .nil pass0 (pa_cons (pv 0) (pa_cons pe_int pa_nil))) pa_nil)) (pv 1))))), ?_⟩
  -- if d[2] > 0
  refine ⟨_, rfl, d, _, _, _, rfl, rfl, SqL.of h1, at_n 2 rfl, _, _, rfl, rfl, _, rfl, ite2 (fun _ => ?_) (fun _ => ?_)⟩
  · exact ⟨_, rfl, _, rfl, _, _, rfl, d, c, m, rfl, rfl, dr, m0, m1, q⟩
  -- if d[1] < len(d[0])
  refine ⟨_, rfl, d, _, _, _, rfl, rfl, SqL.of h1, at_n 1 rfl, _, rfl, d, _, _, _, rfl, rfl, SqL.of h1, at_n 0 rfl, c, _, rfl, .inl (SqL.of h2), _, _, rfl, rfl, _, rfl, ite2 (fun hc => ?_) (fun _ => ?_)⟩
  · have hi : i < cells.length := by
      have e : (i : Int) < ((cells.map V.int).length : Int) := of_decide_eq_true hc
      rw [List.length_map] at e
      omega
    obtain ⟨z, hz⟩ : ∃ z, cells[i]? = some z := ⟨cells[i], List.getElem?_eq_getElem hi⟩
    have hz' : (cells.map V.int)[i]? = some (.int z) := by
      rw [List.getElem?_map, hz]
      rfl
    -- cell = d[0][d[1]]; d[1] = d[1] + 1
    refine ⟨_, rfl, d, _, _, _, rfl, rfl, SqL.of h1, at_n 0 rfl, _, rfl, d, _, _, _, rfl, rfl, SqL.of h1, at_n 1 rfl, c, _, _, _, rfl, rfl, SqL.of h2, at_n i hz', ?_⟩
    refine ⟨_, rfl, d, _, _, _, rfl, rfl, SqL.of h1, at_n 1 rfl, _, _, rfl, rfl, _, rfl, d, _, _, 1, rfl, rfl, h1, rfl, ?_⟩
    have dr1 : Dr d c (upd H d (.lst [.ref c, .int (i + 1), .int big, .int seed, .int cnt])) := ⟨cells, i + 1, big, seed, cnt, upd_same, upd_else h2 hn, hn⟩
    -- if abs(cell) >= 10 ** 18
    refine ⟨_, rfl, _, rfl, _, _, rfl, rfl, ⟨by decide, by decide, by decide⟩, _, _, rfl, rfl, _, rfl, ite2 (fun _ => ?_) (fun _ => ?_)⟩
    · refine ⟨_, rfl, _, rfl, _, _, rfl, rfl, ⟨by decide, by decide⟩, _, _, rfl, rfl, ⟨by decide, by decide, by decide⟩, _, _, rfl, rfl, _, _, rfl, rfl, _, rfl, d, _, _, 2, rfl, rfl, upd_same, rfl, ?_⟩
      rw [upd_upd]
      refine ⟨_, rfl, _, rfl, _, _, rfl, d, c, m, rfl, rfl, ⟨cells, i + 1, _, seed, cnt, upd_same, upd_else h2 hn, hn⟩, m0, m1, fun r H' r0 r1 dr' kp => ?_⟩
      exact q r H' r0 r1 dr' (Keep.at.trans kp)
    · refine ⟨_, rfl, _, rfl, _, _, rfl, d, c, z, rfl, rfl, dr1, fun r H' dr' kp => .inl ⟨_, rfl, ?_⟩⟩
      exact ⟨_, rfl, _, _, rfl, rfl, m0, q _ _ (Int.emod_nonneg _ (by omega)) (Int.emod_lt_of_pos _ m0) dr' (Keep.at.trans kp)⟩
  · refine ⟨_, rfl, _, _, rfl, d, c, 7, rfl, rfl, dr, fun r H' dr' kp => .inl ⟨_, rfl, ?_⟩⟩
    exact ⟨_, rfl, _, _, rfl, rfl, m0, q _ _ (Int.emod_nonneg _ (by omega)) (Int.emod_lt_of_pos _ m0) dr' kp⟩
end

/-! ### data of tuples, in a heap -/
mutual
def Td (H : Hp) : PyData → V → Prop
  | .none, v => v = .non
  | .bool b, v => v = .bl b
  | .int i, v => v = .int i
  | .str x, v => v = .str x
  | .tuple ds, v => ∃ a xs, v = .ref a ∧ H a = some (.tup xs) ∧ TdAll H ds xs
  | .list _, _ => False
  | .dict _, _ => False
def TdAll (H : Hp) : List PyData → List V → Prop
  | [], xs => xs = []
  | d :: ds, xs => ∃ v r, xs = v :: r ∧ Td H d v ∧ TdAll H ds r
end
/-- tuples stay -/
def TS (H H' : Hp) : Prop := ∀ b xs, H b = some (.tup xs) → H' b = some (.tup xs)
theorem TS.refl (H : Hp) : TS H H := fun _ _ e => e
theorem TS.of {H H' : Hp} (s : Same H H') : TS H H' := fun b xs e => s b _ e
theorem TS.keep {d : Addr} {H H' : Hp} (k : Keep d H H') (h : ∃ xs, H d = some (.lst xs)) : TS H H' := fun b xs e => by
  obtain ⟨ys, h⟩ := h
  refine k b _ e ?_
  rintro rfl
  rw [h] at e
  cases e
theorem TS.trans {H H1 H2 : Hp} (a : TS H H1) (b : TS H1 H2) : TS H H2 := fun c o h => b c o (a c o h)
theorem TS.wr {H : Hp} {l : Addr} {xs : List V} {o : HO} (h : H l = some (.lst xs)) : TS H (upd H l o) := fun b ys e => by
  refine upd_else e ?_
  rintro rfl
  rw [h] at e
  cases e
theorem TS.dict {H : Hp} {l : Addr} {xs : List (Key × V)} {o : HO} (h : H l = some (.dK xs)) : TS H (upd H l o) := fun b ys e => by
  refine upd_else e ?_
  rintro rfl
  rw [h] at e
  cases e
theorem TS.new {H : Hp} {p : Addr} {o : HO} (h : H p = none) : TS H (upd H p o) := TS.of (same_new h)
theorem TS.dr {d c : Addr} {H H' : Hp} (dr : Dr d c H) (k : Keep d H H') : TS H H' := TS.keep k dr.there
mutual
theorem Td.mono {H H' : Hp} (s : TS H H') : ∀ (d : PyData) (v : V), Td H d v → Td H' d v
  | .none, _, h => h
  | .bool _, _, h => h
  | .int _, _, h => h
  | .str _, _, h => h
  | .tuple ds, _, ⟨a, xs, e, h1, h2⟩ => ⟨a, xs, e, s _ _ h1, TdAll.mono s ds xs h2⟩
  | .list _, _, h => h
  | .dict _, _, h => h
theorem TdAll.mono {H H' : Hp} (s : TS H H') : ∀ (ds : List PyData) (xs : List V), TdAll H ds xs → TdAll H' ds xs
  | [], _, h => h
  | d :: ds, _, ⟨v, r, e, h1, h2⟩ => ⟨v, r, e, Td.mono s d v h1, TdAll.mono s ds r h2⟩
end
mutual
theorem Td.dp {K : PySem.W.Frag} {H : Hp} : ∀ (d : PyData) (v : V), Td H d v → Dp K H v d
  | .none, _, h => by cases h; exact .non
  | .bool b, _, h => by cases h; exact .bl b
  | .int i, _, h => by cases h; exact .int i
  | .str x, _, h => by cases h; exact .str x
  | .tuple ds, _, ⟨a, xs, e, h1, h2⟩ => by subst e; exact .tup (SqT.of h1) (TdAll.dp ds xs h2)
  | .list _, _, h => h.elim
  | .dict _, _, h => h.elim
theorem TdAll.dp {K : PySem.W.Frag} {H : Hp} : ∀ (ds : List PyData) (xs : List V), TdAll H ds xs → DpAll K H xs ds
  | [], _, h => by cases h; exact .nil
  | d :: ds, _, ⟨v, r, e, h1, h2⟩ => by subst e; exact .cons (Td.dp d v h1) (TdAll.dp ds r h2)
end
theorem TdAll.len {H : Hp} : ∀ (ds : List PyData) (xs : List V), TdAll H ds xs → xs.length = ds.length
  | [], _, h => by cases h; rfl
  | _ :: ds, _, ⟨v, r, e, _, h2⟩ => by subst e; exact congrArg Nat.succ (TdAll.len ds r h2)
theorem TdAll.app {H : Hp} : ∀ (ds es : List PyData) (xs ys : List V), TdAll H ds xs → TdAll H es ys → TdAll H (ds ++ es) (xs ++ ys)
  | [], _, _, _, h, k => by cases h; exact k
  | _ :: ds, es, _, ys, ⟨v, r, e, h1, h2⟩, k => by subst e; exact ⟨v, r ++ ys, rfl, h1, TdAll.app ds es r ys h2 k⟩
theorem TdAll.tk {H : Hp} : ∀ (n : Nat) (ds : List PyData) (xs : List V), TdAll H ds xs → TdAll H (ds.take n) (xs.take n)
  | 0, _, _, _ => by simp only [List.take_zero]; exact rfl
  | _ + 1, [], _, h => by cases h; exact rfl
  | n + 1, _ :: ds, _, ⟨v, r, e, h1, h2⟩ => by subst e; exact ⟨v, r.take n, rfl, h1, TdAll.tk n ds r h2⟩
theorem TdAll.dr {H : Hp} : ∀ (n : Nat) (ds : List PyData) (xs : List V), TdAll H ds xs → TdAll H (ds.drop n) (xs.drop n)
  | 0, _, _, h => h
  | _ + 1, [], _, h => by cases h; exact rfl
  | n + 1, _ :: ds, _, ⟨v, r, e, h1, h2⟩ => by subst e; exact TdAll.dr n ds r h2
theorem TdAll.at {H : Hp} : ∀ (i : Nat) (ds : List PyData) (xs : List V) (d : PyData), TdAll H ds xs → ds[i]? = some d → ∃ v, xs[i]? = some v ∧ Td H d v
  | _, [], _, _, _, e => by simp at e
  | 0, _ :: ds, _, d, ⟨v, r, e, h1, h2⟩, k => by
    subst e
    simp at k
    subst k
    exact ⟨v, rfl, h1⟩
  | i + 1, _ :: ds, _, d, ⟨v, r, e, h1, h2⟩, k => by
    subst e
    obtain ⟨u, e1, e2⟩ := TdAll.at i ds r d h2 (by simpa using k)
    exact ⟨u, by simpa using e1, e2⟩
mutual
def plainD : PyData → Bool
  | .none => true
  | .bool _ => false
  | .int _ => true
  | .str x => PyData.strOk x
  | .tuple ds => plainAll ds
  | .list _ => false
  | .dict _ => false
def plainAll : List PyData → Bool
  | [] => true
  | d :: ds => plainD d && plainAll ds
end
mutual
theorem plain_lay : ∀ d : PyData, plainD d = true → PyData.canLay0 d = true
  | .none, _ => rfl
  | .bool _, h => by cases h
  | .int _, _ => rfl
  | .str _, h => h
  | .tuple ds, h => plain_layAll ds h
  | .list _, h => by cases h
  | .dict _, h => by cases h
theorem plain_layAll : ∀ ds : List PyData, plainAll ds = true → PyData.canLayAll0 ds = true
  | [], _ => rfl
  | d :: ds, h => by
    have h' := Bool.and_eq_true_iff.mp h
    show (PyData.canLay0 d && PyData.canLayAll0 ds) = true
    rw [plain_lay d h'.1, plain_layAll ds h'.2]
    rfl
end
mutual
theorem eqv_eq : ∀ d e : PyData, plainD d = true → plainD e = true → PyData.eqv d e = true → d = e
  | .none, e, _, he, h => by cases e <;> first | rfl | cases h
  | .bool _, _, hd, _, _ => by cases hd
  | .int i, e, _, he, h => by
    cases e <;> first | cases h | cases he | skip
    have := beq_iff_eq.mp (show (i == _) = true from h)
    rw [this]
  | .str x, e, _, _, h => by
    cases e <;> first | cases h | skip
    have := beq_iff_eq.mp (show (x == _) = true from h)
    rw [this]
  | .tuple ds, e, hd, he, h => by
    cases e <;> first | cases h | skip
    exact congrArg PyData.tuple (eqvAll_eq ds _ hd he h)
  | .list _, _, hd, _, _ => by cases hd
  | .dict _, _, hd, _, _ => by cases hd
theorem eqvAll_eq : ∀ ds es : List PyData, plainAll ds = true → plainAll es = true → PyData.eqvAll ds es = true → ds = es
  | [], [], _, _, _ => rfl
  | [], _ :: _, _, _, h => by cases h
  | _ :: _, [], _, _, h => by cases h
  | d :: ds, e :: es, hd, he, h => by
    have h1 := Bool.and_eq_true_iff.mp hd
    have h2 := Bool.and_eq_true_iff.mp he
    have h3 := Bool.and_eq_true_iff.mp (show (PyData.eqv d e && PyData.eqvAll ds es) = true from h)
    rw [eqv_eq d e h1.1 h2.1 h3.1, eqvAll_eq ds es h1.2 h2.2 h3.2]
end
theorem eqv_iff {d e : PyData} (hd : plainD d = true) (he : plainD e = true) : PyData.eqv d e = true ↔ d = e :=
  ⟨eqv_eq d e hd he, fun h => by rw [h]; exact SeqAt.eqv_refl e (plain_lay e he)⟩
theorem eqvAll_iff {d e : List PyData} (hd : plainAll d = true) (he : plainAll e = true) : PyData.eqvAll d e = true ↔ d = e :=
  ⟨eqvAll_eq d e hd he, fun h => by
    have h2 := SeqAt.eqv_refl (.tuple e) (plain_layAll e he)
    rw [h]
    exact h2⟩

/-! ### slices and sums of tuples, as data -/
def cutD (ds : List PyData) (lo hi : Option Int) : List PyData := (ds.drop (HT.sIx ds.length 0 lo)).take (HT.sIx ds.length ds.length hi - HT.sIx ds.length 0 lo)
theorem slD {K : PySem.W.Frag} {H : Hp} {v : V} {ds : List PyData} {lo hi : Option Int} {Q : VK} (h : Td H (.tuple ds) v)
    (q : ∀ (p : V) (H' : Hp), Same H H' → Td H' (.tuple (cutD ds lo hi)) p → Q p H') : rSlA K v lo hi H Q := by
  obtain ⟨a, xs, rfl, ha, hx⟩ := h
  have hl := TdAll.len _ _ hx
  refine ⟨a, xs, rfl, SqT.of ha, fun w => ?_, fun _ p hp => ?_⟩
  · rw [hl] at w
    refine q (.ref a) H (Same.refl _) ⟨a, xs, rfl, ha, ?_⟩
    have e : cutD ds lo hi = ds := by
      unfold cutD
      rw [w.1, w.2, List.drop_zero, Nat.sub_zero, List.take_length]
    rw [e]
    exact hx
  · refine q (.ref p) _ (same_new hp) ⟨p, _, rfl, upd_same, ?_⟩
    have e : cutV xs lo hi = (xs.drop (HT.sIx ds.length 0 lo)).take (HT.sIx ds.length ds.length hi - HT.sIx ds.length 0 lo) := by
      unfold cutV
      rw [hl]
    rw [e]
    exact TdAll.mono (TS.new hp) _ _ (TdAll.tk _ _ _ (TdAll.dr _ _ _ hx))
theorem nil_of_len {α β : Type} {xs : List α} {ds : List β} (h : xs.length = ds.length) (e : xs = []) : ds = [] := by
  subst e
  cases ds with
  | nil => rfl
  | cons _ _ => cases h
theorem catD {K : PySem.W.Frag} {H : Hp} {x y : V} {ds es : List PyData} {Q : VK} (hx : Td H (.tuple ds) x) (hy : Td H (.tuple es) y) (hz : ds.length + es.length ≤ 1000)
    (q : ∀ (p : V) (H' : Hp), Same H H' → Td H' (.tuple (ds ++ es)) p → Q p H') : rCatA K x y H Q := by
  obtain ⟨a, xs, rfl, ha, h1⟩ := hx
  obtain ⟨b, ys, rfl, hb, h2⟩ := hy
  have l1 := TdAll.len _ _ h1
  have l2 := TdAll.len _ _ h2
  refine ⟨a, b, xs, ys, rfl, rfl, SqT.of ha, SqT.of hb, Nat.le_of_lt (small1000 (by omega)), fun e => ?_, fun _ e => ?_, fun _ _ p hp => ?_⟩
  · rw [nil_of_len l1 e] at q
    exact q _ H (Same.refl _) ⟨b, ys, rfl, hb, h2⟩
  · rw [nil_of_len l2 e, List.append_nil] at q
    exact q _ H (Same.refl _) ⟨a, xs, rfl, ha, h1⟩
  · exact q _ _ (same_new hp) ⟨p, _, rfl, upd_same, TdAll.mono (TS.new hp) _ _ (TdAll.app _ _ _ _ h1 h2)⟩
theorem slFD {K : PySem.W.Frag} {σ : L2.St} {H : Hp} {v : V} {ds : List PyData} {lo : Option Int} {Q : VK} (h : Td H (.tuple ds) v)
    (q : ∀ (p : V) (H' : Hp), Same H H' → Td H' (.tuple (cutD ds lo none)) p → Q p H') : tNoPart σ H fun u H' => rSlA K v lo u H' Q := slD h q
theorem cut_tail (d : PyData) (ks : List PyData) : cutD (d :: ks) (some 1) none = ks := by
  unfold cutD
  rw [show (some (1 : Int)) = some (((1 : Nat) : Int)) from rfl, HT.sIx_nat, List.length_cons, Nat.min_eq_left (by omega)]
  show ((ks.take (ks.length + 1 - 1))) = ks
  rw [Nat.add_sub_cancel, List.take_length]
theorem or_both {a : Bool} {A B T : Prop} (hA : A) (hT : A → ¬ a = true → T) : if a = true then (if true = true then A else B) else T := by
  by_cases h : a = true
  · rw [if_pos h, if_pos rfl]
    exact hA
  · rw [if_neg h]
    exact hT hA h

/-! ### texts as lists of codes -/
def tx (l : List Nat) : Str := ⟨l.toArray⟩
theorem tx_cps (l : List Nat) : (tx l).cps.toList = l := rfl
theorem tx_len (l : List Nat) : (tx l).length = l.length := by
  show l.toArray.size = l.length
  exact List.size_toArray
theorem len_cps (z : Str) : z.length = z.cps.toList.length := by
  show z.cps.size = _
  rw [Array.length_toList]
theorem tx_eta (z : Str) : tx z.cps.toList = z := by
  obtain ⟨a⟩ := z
  show (⟨a.toList.toArray⟩ : Str) = ⟨a⟩
  rw [Array.toArray_toList]
theorem tx_app (a b : List Nat) : tx a ++ tx b = tx (a ++ b) := by
  show (⟨a.toArray ++ b.toArray⟩ : Str) = ⟨(a ++ b).toArray⟩
  rw [List.append_toArray]
theorem tx_inj {a b : List Nat} (h : tx a = tx b) : a = b := by
  have e : (tx a).cps.toList = (tx b).cps.toList := by rw [h]
  exact e
theorem tx_one (c : Nat) : (⟨#[c]⟩ : Str) = tx [c] := rfl
theorem app_len (a b : Str) : (a ++ b).length = a.length + b.length := by
  show (a.cps ++ b.cps).size = _
  rw [Array.size_append]
  rfl
theorem app_cps (a b : Str) : (a ++ b).cps.toList = a.cps.toList ++ b.cps.toList := by
  show (a.cps ++ b.cps).toList = _
  rw [Array.toList_append]
theorem str_ext {a b : Str} (h : a.cps.toList = b.cps.toList) : a = b := by
  rw [← tx_eta a, ← tx_eta b, h]
theorem sgn (z : Str) (i : Nat) {c : Nat} (h : z.cps.toList[i]? = some c) : atI z.cps.toList (i : Int) = some c := atI_nat h
theorem cut_tx (z : Str) (i j : Nat) (hij : i ≤ j) (hj : i ≤ z.length) : cutS z (some (i : Int)) (some (j : Int)) = tx ((z.cps.toList.drop i).take (j - i)) := by
  unfold cutS
  rw [HT.sIx_nat, HT.sIx_nat, Nat.min_eq_left hj]
  refine congrArg (fun q => (⟨q⟩ : Str)) ?_
  refine congrArg List.toArray ?_
  by_cases h : j ≤ z.length
  · rw [Nat.min_eq_left h]
  · rw [Nat.min_eq_right (by omega), List.take_of_length_le (by rw [List.length_drop, len_cps]; exact Nat.le_refl _), List.take_of_length_le (by rw [List.length_drop, ← len_cps]; omega)]
theorem inV_str (x : Str) (xs : List Str) : inV (.str x) (xs.map V.str) = decide (x ∈ xs) := by
  induction xs with
  | nil => rfl
  | cons y r ih =>
    have e : inV (.str x) ((y :: r).map V.str) = ((y == x) || inV (.str x) (r.map V.str)) := rfl
    rw [e, ih]
    by_cases h : y = x
    · rw [h]
      simp
    · have h2 : ¬ x = y := fun q => h q.symm
      simp [h, h2]
/-- every code is one that a text may have -/
def okB (z : Str) : Bool := z.cps.toList.all fun c => decide (c < 1114112)
theorem okB_app {a b : Str} (h1 : okB a = true) (h2 : okB b = true) : okB (a ++ b) = true := by
  unfold okB at *
  rw [app_cps, List.all_append, h1, h2]
  rfl
theorem okB_mem {z : Str} (h : okB z = true) {c : Nat} (hc : c ∈ z.cps.toList) : okB ⟨#[c]⟩ = true := by
  unfold okB at h
  have h2 := List.all_eq_true.mp h c hc
  show ([c].all fun c => decide (c < 1114112)) = true
  rw [List.all_cons, h2]
  rfl

theorem at_in {xs : List V} {r : Int} (h0 : 0 ≤ r) (h1 : r < (xs.length : Int)) : ∃ v, atI xs r = some v ∧ v ∈ xs := by
  obtain ⟨j, rfl⟩ := Int.eq_ofNat_of_zero_le h0
  exact ⟨xs[j], at_n j (List.getElem?_eq_getElem (by omega)), List.getElem_mem _⟩
theorem at_int {ns : List Int} {r : Int} (h0 : 0 ≤ r) (h1 : r < (ns.length : Int)) : ∃ n, atI (ns.map V.int) r = some (.int n) ∧ n ∈ ns := by
  obtain ⟨v, h, hm⟩ := at_in (xs := ns.map V.int) h0 (by rw [List.length_map]; exact h1)
  obtain ⟨n, hn, rfl⟩ := List.mem_map.mp hm
  exact ⟨n, h, hn⟩
theorem bl_eq {a b : Int} : decide (V.int a = V.int b) = decide (a = b) := decide_eq_decide.mpr ⟨V.int.inj, fun h => by rw [h]⟩

section
variable {P : Program} {w : World} {K : PySem.W.Frag} {mg : Str → Option Value} {base : Heap}
theorem ok_rare (T : Tx K mg w base) : FnOk P w K mg base CX0 3 T.f_rare T.fd_rare ["_law_d", "_law_many"] (sp2 rRare) := by
  refine okR2 T.F_rare sc_rare rfl fun cdv A outer s H Q E x y hr h => ?_
  obtain ⟨d, c, m, rfl, rfl, dr, m0, m1, q⟩ := h
  refine ⟨_, pss_cons (ps_set (i := 2) sc_rare.nd rfl (Or.inl rfl) (pe_op op_fdiv (pv 1) pe_int))
      (pss_cons (ps_if (pt_cmpR op_eq (pe_op op_mod (pe_callTy call_int1 (by rfl) T.z_int (by decide +kernel) (pa_cons (pv 2) pa_nil)) pe_int) pe_int (nomark _)) (pss_one (ps_set (i := 2) sc_rare.nd rfl (Or.inl rfl) (pe_op op_sub (pv 2) pe_int))) pss_nil)
      (pss_one (ps_ret (pe_cmpR op_eq (pe_call (ok_draw T) (hr.mono (by decide)) rfl T.m_draw T.F_draw.kp T.b_draw .nil pass0 (pa_cons (pv 0) (pa_cons (pv 1) pa_nil))) (pv 2) (nomark _))))), ?_⟩
  refine ⟨_, rfl, _, _, rfl, rfl, ⟨by decide, by decide⟩, ?_⟩
  refine ⟨_, rfl, .inl ⟨_, rfl, _, _, rfl, rfl, (by show (0 : Int) < 2; decide), rfl, _, rfl, ite2 (fun _ => ?_) (fun _ => ?_)⟩⟩
  · refine ⟨_, rfl, _, _, rfl, rfl, ?_⟩
    refine ⟨_, rfl, _, rfl, _, _, rfl, d, c, m, rfl, rfl, dr, by omega, m1, fun r H' _ _ dr' kp => ⟨_, rfl, rfl, q _ _ dr' kp⟩⟩
  · refine ⟨_, rfl, _, rfl, _, _, rfl, d, c, m, rfl, rfl, dr, by omega, m1, fun r H' _ _ dr' kp => ⟨_, rfl, rfl, q _ _ dr' kp⟩⟩
end

/-- one of the values of a list -/
def rPickL : V → V → Hp → VK → Prop := fun x y H Q => ∃ (d c p : Addr) (items : List V), x = .ref d ∧ Dr d c H ∧ items ≠ [] ∧ items.length ≤ 1000 ∧ y = .ref p ∧ p ≠ d ∧ H p = some (.lst items) ∧ ∀ (v : V) (H' : Hp), v ∈ items → Dr d c H' → Keep d H H' → Q v H'
section
variable {P : Program} {w : World} {K : PySem.W.Frag} {mg : Str → Option Value} {base : Heap}
theorem ok_pick (T : Tx K mg w base) : FnOk P w K mg base CX0 3 T.f_pick T.fd_pick ["_law_d", "_law_row"] (sp2 rPickL) := by
  refine okR2 T.F_pick sc_pick rfl fun cdv A outer s H Q E x y hr h => ?_
  obtain ⟨d, c, p, items, rfl, dr, hne, hlen, rfl, hpd, hp, q⟩ := h
  have hpos : 0 < items.length := by
    cases items with
    | nil => exact absurd rfl hne
    | cons a r => exact Nat.succ_pos _
  refine ⟨_, pss_one (ps_ret (pe_ix ix_list (pv 1) (pe_call (ok_draw T) (hr.mono (by decide)) rfl T.m_draw T.F_draw.kp T.b_draw .nil pass0 (pa_cons (pv 0) (pa_cons (pe_callB call_len_seq (by rfl) T.z_len (by decide +kernel) (pa_cons (pv 1) pa_nil)) pa_nil))) (fun _ _ => rfl))), ?_⟩
  refine ⟨_, rfl, _, rfl, _, rfl, p, items, rfl, .inl (SqL.of hp), _, _, rfl, d, c, _, rfl, rfl, dr, by omega, by omega, fun r H' r0 r1 dr' kp => ?_⟩
  obtain ⟨j, rfl⟩ := Int.eq_ofNat_of_zero_le r0
  have hj : j < items.length := by omega
  exact ⟨p, items, _, items[j], rfl, rfl, SqL.of (kp _ _ hp hpd), at_n j (List.getElem?_eq_getElem hj), q _ _ (List.getElem_mem hj) dr' kp⟩
end

/-! ### the head -/
def d_is_int : He.DefD := ⟨("is_int", none), "is_int", "is_int", defArgs s_is_int, defBody s_is_int, defScope s_is_int, [], []⟩
def d_is_within : He.DefD := ⟨("is_within", none), "is_within", "is_within", defArgs s_is_within, defBody s_is_within, defScope s_is_within, [], []⟩
def d_is_tuple_of : He.DefD := ⟨("is_tuple_of", none), "is_tuple_of", "is_tuple_of", defArgs s_is_tuple_of, defBody s_is_tuple_of, defScope s_is_tuple_of, [], []⟩
def d_is_num : He.DefD := ⟨("is_num", none), "is_num", "is_num", defArgs s_is_num, defBody s_is_num, defScope s_is_num, [], []⟩
def d_is_row : He.DefD := ⟨("is_row", none), "is_row", "is_row", defArgs s_is_row, defBody s_is_row, defScope s_is_row, [], []⟩
def d_zero : He.DefD := ⟨("zero", none), "zero", "zero", defArgs s_zero, defBody s_zero, defScope s_zero, [], []⟩
def d_p_fit : He.DefD := ⟨("fit", none), "fit", "fit", defArgs s_p_fit, defBody s_p_fit, defScope s_p_fit, [], []⟩
def d_alike : He.DefD := ⟨("_alike", none), "_alike", "_alike", defArgs s_alike, defBody s_alike, defScope s_alike, [], []⟩
def d_like_nums : He.DefD := ⟨("_like_nums", none), "_like_nums", "_like_nums", defArgs s_like_nums, defBody s_like_nums, defScope s_like_nums, [], []⟩
def d_logic_kind : He.DefD := ⟨("_logic_kind", none), "_logic_kind", "_logic_kind", defArgs s_logic_kind, defBody s_logic_kind, defScope s_logic_kind, [], []⟩
def d_equal_kind : He.DefD := ⟨("_equal_kind", none), "_equal_kind", "_equal_kind", defArgs s_equal_kind, defBody s_equal_kind, defScope s_equal_kind, [], []⟩
def d_order_kind : He.DefD := ⟨("_order_kind", none), "_order_kind", "_order_kind", defArgs s_order_kind, defBody s_order_kind, defScope s_order_kind, [], []⟩
def d_number_kind : He.DefD := ⟨("_number_kind", none), "_number_kind", "_number_kind", defArgs s_number_kind, defBody s_number_kind, defScope s_number_kind, [], []⟩
def d_as_kind : He.DefD := ⟨("_as_kind", none), "_as_kind", "_as_kind", defArgs s_as_kind, defBody s_as_kind, defScope s_as_kind, [], []⟩
def d_pick_kind : He.DefD := ⟨("_pick_kind", none), "_pick_kind", "_pick_kind", defArgs s_pick_kind, defBody s_pick_kind, defScope s_pick_kind, [], []⟩
def d_vote_kind : He.DefD := ⟨("_vote_kind", none), "_vote_kind", "_vote_kind", defArgs s_vote_kind, defBody s_vote_kind, defScope s_vote_kind, [], []⟩
def d_p_row_kind : He.DefD := ⟨("_row_kind", none), "_row_kind", "_row_kind", defArgs s_p_row_kind, defBody s_p_row_kind, defScope s_p_row_kind, [], []⟩
def d_at_kind : He.DefD := ⟨("_at_kind", none), "_at_kind", "_at_kind", defArgs s_at_kind, defBody s_at_kind, defScope s_at_kind, [], []⟩
def d_put_kind : He.DefD := ⟨("_put_kind", none), "_put_kind", "_put_kind", defArgs s_put_kind, defBody s_put_kind, defScope s_put_kind, [], []⟩
def d_sum_kind : He.DefD := ⟨("_sum_kind", none), "_sum_kind", "_sum_kind", defArgs s_sum_kind, defBody s_sum_kind, defScope s_sum_kind, [], []⟩
def d_p_some_kind : He.DefD := ⟨("_some_kind", none), "_some_kind", "_some_kind", defArgs s_p_some_kind, defBody s_p_some_kind, defScope s_p_some_kind, [], []⟩
def d_result_kind : He.DefD := ⟨("result_kind", none), "result_kind", "result_kind", defArgs s_result_kind, defBody s_result_kind, defScope s_result_kind, [.non], []⟩
def d_place : He.DefD := ⟨("_place", none), "_place", "_place", defArgs s_place, defBody s_place, defScope s_place, [], []⟩
def d_not : He.DefD := ⟨("_not", none), "_not", "_not", defArgs s_not, defBody s_not, defScope s_not, [], []⟩
def d_and : He.DefD := ⟨("_and", none), "_and", "_and", defArgs s_and, defBody s_and, defScope s_and, [], []⟩
def d_or : He.DefD := ⟨("_or", none), "_or", "_or", defArgs s_or, defBody s_or, defScope s_or, [], []⟩
def d_xor : He.DefD := ⟨("_xor", none), "_xor", "_xor", defArgs s_xor, defBody s_xor, defScope s_xor, [], []⟩
def d_eq : He.DefD := ⟨("_eq", none), "_eq", "_eq", defArgs s_eq, defBody s_eq, defScope s_eq, [], []⟩
def d_ne : He.DefD := ⟨("_ne", none), "_ne", "_ne", defArgs s_ne, defBody s_ne, defScope s_ne, [], []⟩
def d_lt : He.DefD := ⟨("_lt", none), "_lt", "_lt", defArgs s_lt, defBody s_lt, defScope s_lt, [], []⟩
def d_le : He.DefD := ⟨("_le", none), "_le", "_le", defArgs s_le, defBody s_le, defScope s_le, [], []⟩
def d_neg : He.DefD := ⟨("_neg", none), "_neg", "_neg", defArgs s_neg, defBody s_neg, defScope s_neg, [], []⟩
def d_add : He.DefD := ⟨("_add", none), "_add", "_add", defArgs s_add, defBody s_add, defScope s_add, [], []⟩
def d_sub : He.DefD := ⟨("_sub", none), "_sub", "_sub", defArgs s_sub, defBody s_sub, defScope s_sub, [], []⟩
def d_mul : He.DefD := ⟨("_mul", none), "_mul", "_mul", defArgs s_mul, defBody s_mul, defScope s_mul, [], []⟩
def d_div : He.DefD := ⟨("_div", none), "_div", "_div", defArgs s_div, defBody s_div, defScope s_div, [], []⟩
def d_min : He.DefD := ⟨("_min", none), "_min", "_min", defArgs s_min, defBody s_min, defScope s_min, [], []⟩
def d_max : He.DefD := ⟨("_max", none), "_max", "_max", defArgs s_max, defBody s_max, defScope s_max, [], []⟩
def d_mid : He.DefD := ⟨("_mid", none), "_mid", "_mid", defArgs s_mid, defBody s_mid, defScope s_mid, [], []⟩
def d_as : He.DefD := ⟨("_as", none), "_as", "_as", defArgs s_as, defBody s_as, defScope s_as, [], []⟩
def d_p_pick : He.DefD := ⟨("_pick", none), "_pick", "_pick", defArgs s_p_pick, defBody s_p_pick, defScope s_p_pick, [], []⟩
def d_vote : He.DefD := ⟨("_vote", none), "_vote", "_vote", defArgs s_vote, defBody s_vote, defScope s_vote, [], []⟩
def d_row : He.DefD := ⟨("_row", none), "_row", "_row", defArgs s_row, defBody s_row, defScope s_row, [], []⟩
def d_at : He.DefD := ⟨("_at", none), "_at", "_at", defArgs s_at, defBody s_at, defScope s_at, [], []⟩
def d_put : He.DefD := ⟨("_put", none), "_put", "_put", defArgs s_put, defBody s_put, defScope s_put, [], []⟩
def d_sum : He.DefD := ⟨("_sum", none), "_sum", "_sum", defArgs s_sum, defBody s_sum, defScope s_sum, [], []⟩
def d_any : He.DefD := ⟨("_any", none), "_any", "_any", defArgs s_any, defBody s_any, defScope s_any, [], []⟩
def d_all : He.DefD := ⟨("_all", none), "_all", "_all", defArgs s_all, defBody s_all, defScope s_all, [], []⟩
def d_result : He.DefD := ⟨("result", none), "result", "result", defArgs s_result, defBody s_result, defScope s_result, [.non], []⟩
def d_begin : He.DefD := ⟨("_law_begin", none), "_law_begin", "_law_begin", defArgs s_begin, defBody s_begin, defScope s_begin, [], []⟩
def d_mixed : He.DefD := ⟨("_law_mixed", none), "_law_mixed", "_law_mixed", defArgs s_mixed, defBody s_mixed, defScope s_mixed, [], []⟩
def d_draw : He.DefD := ⟨("_law_draw", none), "_law_draw", "_law_draw", defArgs s_draw, defBody s_draw, defScope s_draw, [], []⟩
def d_draw_digit : He.DefD := ⟨("_law_draw_digit", none), "_law_draw_digit", "_law_draw_digit", defArgs s_draw_digit, defBody s_draw_digit, defScope s_draw_digit, [], []⟩
def d_pick : He.DefD := ⟨("_law_pick", none), "_law_pick", "_law_pick", defArgs s_pick, defBody s_pick, defScope s_pick, [], []⟩
def d_pop : He.DefD := ⟨("_law_pop", none), "_law_pop", "_law_pop", defArgs s_pop, defBody s_pop, defScope s_pop, [], []⟩
def d_rare : He.DefD := ⟨("_law_rare", none), "_law_rare", "_law_rare", defArgs s_rare, defBody s_rare, defScope s_rare, [], []⟩
def d_pool : He.DefD := ⟨("_law_pool", none), "_law_pool", "_law_pool", defArgs s_pool, defBody s_pool, defScope s_pool, [], []⟩
def d_fit : He.DefD := ⟨("_law_fit", none), "_law_fit", "_law_fit", defArgs s_fit, defBody s_fit, defScope s_fit, [], []⟩
def d_ends : He.DefD := ⟨("_law_ends", none), "_law_ends", "_law_ends", defArgs s_ends, defBody s_ends, defScope s_ends, [], []⟩
def d_has : He.DefD := ⟨("_law_has", none), "_law_has", "_law_has", defArgs s_has, defBody s_has, defScope s_has, [], []⟩
def d_value : He.DefD := ⟨("_law_value", none), "_law_value", "_law_value", defArgs s_value, defBody s_value, defScope s_value, [], []⟩
def d_num : He.DefD := ⟨("_law_num", none), "_law_num", "_law_num", defArgs s_num, defBody s_num, defScope s_num, [], []⟩
def d_plain_kind : He.DefD := ⟨("_law_plain_kind", none), "_law_plain_kind", "_law_plain_kind", defArgs s_plain_kind, defBody s_plain_kind, defScope s_plain_kind, [], []⟩
def d_op_kind : He.DefD := ⟨("_law_op_kind", none), "_law_op_kind", "_law_op_kind", defArgs s_op_kind, defBody s_op_kind, defScope s_op_kind, [], []⟩
def d_row_kind : He.DefD := ⟨("_law_row_kind", none), "_law_row_kind", "_law_row_kind", defArgs s_row_kind, defBody s_row_kind, defScope s_row_kind, [], []⟩
def d_op : He.DefD := ⟨("_law_op", none), "_law_op", "_law_op", defArgs s_op, defBody s_op, defScope s_op, [], []⟩
def d_num_op : He.DefD := ⟨("_law_num_op", none), "_law_num_op", "_law_num_op", defArgs s_num_op, defBody s_num_op, defScope s_num_op, [], []⟩
def d_row_op : He.DefD := ⟨("_law_row_op", none), "_law_row_op", "_law_row_op", defArgs s_row_op, defBody s_row_op, defScope s_row_op, [], []⟩
def d_some_kind : He.DefD := ⟨("_law_some_kind", none), "_law_some_kind", "_law_some_kind", defArgs s_some_kind, defBody s_some_kind, defScope s_some_kind, [], []⟩
def d_operand_kinds : He.DefD := ⟨("_law_operand_kinds", none), "_law_operand_kinds", "_law_operand_kinds", defArgs s_operand_kinds, defBody s_operand_kinds, defScope s_operand_kinds, [], []⟩
def d_operand : He.DefD := ⟨("_law_operand", none), "_law_operand", "_law_operand", defArgs s_operand, defBody s_operand, defScope s_operand, [], []⟩
def d_bent : He.DefD := ⟨("_law_bent", none), "_law_bent", "_law_bent", defArgs s_bent, defBody s_bent, defScope s_bent, [], []⟩
def d_law : He.DefD := ⟨("law", none), "law", "law", defArgs s_law, defBody s_law, defScope s_law, [], []⟩
def fn : List He.DefD := [d_is_int, d_is_within, d_is_tuple_of, d_is_num, d_is_row, d_zero, d_p_fit, d_alike, d_like_nums, d_logic_kind, d_equal_kind, d_order_kind, d_number_kind, d_as_kind, d_pick_kind, d_vote_kind, d_p_row_kind, d_at_kind, d_put_kind, d_sum_kind, d_p_some_kind, d_result_kind, d_place, d_not, d_and, d_or, d_xor, d_eq, d_ne, d_lt, d_le, d_neg, d_add, d_sub, d_mul, d_div, d_min, d_max, d_mid, d_as, d_p_pick, d_vote, d_row, d_at, d_put, d_sum, d_any, d_all, d_result, d_begin, d_mixed, d_draw, d_draw_digit, d_pick, d_pop, d_rare, d_pool, d_fit, d_ends, d_has, d_value, d_num, d_plain_kind, d_op_kind, d_row_kind, d_op, d_num_op, d_row_op, d_some_kind, d_operand_kinds, d_operand, d_bent, d_law]
def ers : List ErD := []
def fa : List He.Fa := [.glo "is_int", .glo "is_within", .glo "is_tuple_of", .glo "is_num", .glo "is_row", .glo "zero", .glo "fit", .glo "_alike", .glo "_like_nums", .glo "_logic_kind", .glo "_equal_kind", .glo "_order_kind", .glo "_number_kind", .glo "_as_kind", .glo "_pick_kind", .glo "_vote_kind", .glo "_row_kind", .glo "_at_kind", .glo "_put_kind", .glo "_sum_kind", .glo "_some_kind", .glo "result_kind", .glo "_place", .glo "_not", .glo "_and", .glo "_or", .glo "_xor", .glo "_eq", .glo "_ne", .glo "_lt", .glo "_le", .glo "_neg", .glo "_add", .glo "_sub", .glo "_mul", .glo "_div", .glo "_min", .glo "_max", .glo "_mid", .glo "_as", .glo "_pick", .glo "_vote", .glo "_row", .glo "_at", .glo "_put", .glo "_sum", .glo "_any", .glo "_all", .glo "result", .glo "_law_begin", .glo "_law_mixed", .glo "_law_draw", .glo "_law_draw_digit", .glo "_law_pick", .glo "_law_pop", .glo "_law_rare", .glo "_law_pool", .glo "_law_fit", .glo "_law_ends", .glo "_law_has", .glo "_law_value", .glo "_law_num", .glo "_law_plain_kind", .glo "_law_op_kind", .glo "_law_row_kind", .glo "_law_op", .glo "_law_num_op", .glo "_law_row_op", .glo "_law_some_kind", .glo "_law_operand_kinds", .glo "_law_operand", .glo "_law_bent", .glo "law", .free "abs", .free "all", .free "bool", .free "divmod", .free "int", .free "isinstance", .free "len", .free "max", .free "min", .free "range", .free "rule", .free "sorted", .free "tuple", .glo "BOOL", .int "MOST_ENTRIES" 6, .glo "COUNTS", .glo "KIND_RULES", .glo "VALUE_RULES"]
def dtab_COUNTS : List (Str × He.Dv) := [(("not" : Str), .int 1), (("and" : Str), .int 2), (("or" : Str), .int 2), (("xor" : Str), .int 2), (("eq" : Str), .int 2), (("ne" : Str), .int 2), (("lt" : Str), .int 2), (("le" : Str), .int 2), (("neg" : Str), .int 1), (("add" : Str), .int 2), (("sub" : Str), .int 2), (("mul" : Str), .int 2), (("div" : Str), .int 2), (("min" : Str), .int 2), (("max" : Str), .int 2), (("mid" : Str), .int 3), (("as" : Str), .int 1), (("pick" : Str), .int 3), (("vote" : Str), .int 3), (("row" : Str), .non), (("at" : Str), .int 2), (("put" : Str), .int 3), (("sum" : Str), .int 1), (("any" : Str), .int 1), (("all" : Str), .int 1)]
def exB (K : PySem.W.Frag) : Bool := (He.tupB K "BOOL" [.str "bool"]) && (He.valsB K (He.ga K "COUNTS") dtab_COUNTS && not_COUNTS.all (fun z => He.eqO (PySem.W.nsIn K (He.ga K "COUNTS") z) (some none))) && (He.valsB K (He.ga K "KIND_RULES") [("not", .glo "_logic_kind"), ("and", .glo "_logic_kind"), ("or", .glo "_logic_kind"), ("xor", .glo "_logic_kind"), ("eq", .glo "_equal_kind"), ("ne", .glo "_equal_kind"), ("lt", .glo "_order_kind"), ("le", .glo "_order_kind"), ("neg", .glo "_number_kind"), ("add", .glo "_number_kind"), ("sub", .glo "_number_kind"), ("mul", .glo "_number_kind"), ("div", .glo "_number_kind"), ("min", .glo "_number_kind"), ("max", .glo "_number_kind"), ("mid", .glo "_number_kind"), ("as", .glo "_as_kind"), ("pick", .glo "_pick_kind"), ("vote", .glo "_vote_kind"), ("row", .glo "_row_kind"), ("at", .glo "_at_kind"), ("put", .glo "_put_kind"), ("sum", .glo "_sum_kind"), ("any", .glo "_some_kind"), ("all", .glo "_some_kind")]) && (He.valsB K (He.ga K "VALUE_RULES") [("not", .glo "_not"), ("and", .glo "_and"), ("or", .glo "_or"), ("xor", .glo "_xor"), ("eq", .glo "_eq"), ("ne", .glo "_ne"), ("lt", .glo "_lt"), ("le", .glo "_le"), ("neg", .glo "_neg"), ("add", .glo "_add"), ("sub", .glo "_sub"), ("mul", .glo "_mul"), ("div", .glo "_div"), ("min", .glo "_min"), ("max", .glo "_max"), ("mid", .glo "_mid"), ("as", .glo "_as"), ("pick", .glo "_pick"), ("vote", .glo "_vote"), ("row", .glo "_row"), ("at", .glo "_at"), ("put", .glo "_put"), ("sum", .glo "_sum"), ("any", .glo "_any"), ("all", .glo "_all")])
def keys_COUNTS : List Str := (["not", "and", "or", "xor", "eq", "ne", "lt", "le", "neg", "add", "sub", "mul", "div", "min", "max", "mid", "as", "pick", "vote", "row"] : List Str) ++ (["at", "put", "sum", "any", "all"] : List Str)
def keys_KIND_RULES : List Str := (["not", "and", "or", "xor", "eq", "ne", "lt", "le", "neg", "add", "sub", "mul", "div", "min", "max", "mid", "as", "pick", "vote", "row"] : List Str) ++ (["at", "put", "sum", "any", "all"] : List Str)
def keys_VALUE_RULES : List Str := (["not", "and", "or", "xor", "eq", "ne", "lt", "le", "neg", "add", "sub", "mul", "div", "min", "max", "mid", "as", "pick", "vote", "row"] : List Str) ++ (["at", "put", "sum", "any", "all"] : List Str)
def tabs : List He.Tab := [(fun K => He.ga K "COUNTS", keys_COUNTS), (fun K => He.ga K "KIND_RULES", keys_KIND_RULES), (fun K => He.ga K "VALUE_RULES", keys_VALUE_RULES)]
abbrev theRow : PySem.W.OpenRow := PySem.W.OpenLaw.row PySem.Challenge.rw_keepsgoing_k01_operations
def tfs : List He.Defn := [("_alike", none)]
def hookM : PySem.W.Hook := He.hookX 4 fa fn tabs tfs exB
def obM (s : PySem.W.SharedT) : He.AlX := He.obsX 4 fa fn tabs tfs exB (HandSHeadRun.getT s)
theorem obM_eq (s : PySem.W.SharedT) : obM s = hookM.obs s.abs := He.obsX_eq (HandSHeadRun.getT_eq s)
def others : List PySem.Str := (["is_int", "is_within", "is_tuple_of", "is_num", "is_row", "zero", "fit", "_alike", "_like_nums", "_logic_kind", "_equal_kind", "_order_kind", "_number_kind", "_as_kind", "_pick_kind", "_vote_kind", "_row_kind", "_at_kind", "_put_kind", "_sum_kind"] : List PySem.Str) ++ (["_some_kind", "result_kind", "_place", "_not", "_and", "_or", "_xor", "_eq", "_ne", "_lt", "_le", "_neg", "_add", "_sub", "_mul", "_div", "_min", "_max", "_mid", "_as"] : List PySem.Str) ++ (["_pick", "_vote", "_row", "_at", "_put", "_sum", "_any", "_all", "result", "_law_begin", "_law_mixed", "_law_draw", "_law_draw_digit", "_law_pick", "_law_pop", "_law_rare", "_law_pool", "_law_fit", "_law_ends", "_law_has"] : List PySem.Str) ++ (["_law_value", "_law_num", "_law_plain_kind", "_law_op_kind", "_law_row_kind", "_law_op", "_law_num_op", "_law_row_op", "_law_some_kind", "_law_operand_kinds", "_law_operand", "_law_bent", "BOOL", "MOST_ENTRIES", "COUNTS", "KIND_RULES", "VALUE_RULES"] : List PySem.Str)
abbrev RunM (w : World) : Prop := HandSHeadRun.RunEq theRow (PySem.W.view theRow.prog [81]) hookM obM 20000 others w
theorem runF (w : World) : RunM (w.withFollow "special-get-raises" false) := by
  intro os
  kernel_rfl
theorem runT (w : World) : RunM (w.withFollow "special-get-raises" true) := by
  intro os
  kernel_rfl
theorem runM (w : World) : RunM w := PySem.W.byRow2 "special-get-raises" (P := RunM) runF runT w

/-! ### promises of defs with four and five arguments -/
def sp4 (R : V → V → V → V → Hp → VK → Prop) : Sp := fun vs H Q _ => ∃ x y z u, vs = [x, y, z, u] ∧ R x y z u H Q
def sp5 (R : V → V → V → V → V → Hp → VK → Prop) : Sp := fun vs H Q _ => ∃ x y z u v, vs = [x, y, z, u, v] ∧ R x y z u v H Q

section
variable {P : Program} {w : World} {K : PySem.W.Frag} {mg : Str → Option Value} {base : Heap}
theorem okR4 {x : Str} {st : Stmt} {f : Addr} {fd : FuncData} {N ps : List Str} {k : Nat} {R : V → V → V → V → Hp → VK → Prop} (F : FunD K x x (defArgs st) (defBody st) (defScope st) [] [] f fd) (S : FnScope N ps (defScope st)) (hl : ps.length = 4)
    (body : ∀ (cdv : Value) (A : Around) (outer : List Env) (s : Shared) (H : Hp) (Q : VK) (E : XK) (a b c d : V), Room k (A.deeper (envOfC x (defScope st) s.heap.objs.size f cdv)) → R a b c d H Q →
      ∃ t, PSs (cxOf CX0 P w K mg base N x (defScope st) f cdv A outer s H E).nox (defBody st) t ∧ t { nx := fun _ H' => Q .non H', rt := Q } (start N [a, b, c, d]) H) : FnOk P w K mg base CX0 (k + 1) f fd ps (sp4 R) := by
  refine okR F S (fun vs H Q E h => ?_) fun cdv A outer s H vs Q E hr h => ?_
  · obtain ⟨_, _, _, _, rfl, _⟩ := h
    exact hl.symm
  · obtain ⟨a, b, c, d, rfl, h⟩ := h
    exact body cdv A outer s H Q E a b c d hr h
end

/-! ### two lists, side by side -/
def All2 {α β : Type} (R : α → β → Prop) : List α → List β → Prop
  | [], [] => True
  | a :: as, b :: bs => R a b ∧ All2 R as bs
  | _, _ => False
theorem All2.imp {α β : Type} {R S : α → β → Prop} (h : ∀ a b, R a b → S a b) : ∀ {as : List α} {bs : List β}, All2 R as bs → All2 S as bs
  | [], [], _ => trivial
  | [], _ :: _, z => z.elim
  | _ :: _, [], z => z.elim
  | _ :: _, _ :: _, z => ⟨h _ _ z.1, All2.imp h z.2⟩
theorem All2.len {α β : Type} {R : α → β → Prop} : ∀ {as : List α} {bs : List β}, All2 R as bs → as.length = bs.length
  | [], [], _ => rfl
  | [], _ :: _, z => z.elim
  | _ :: _, [], z => z.elim
  | _ :: _, _ :: _, z => congrArg Nat.succ (All2.len z.2)
theorem All2.at {α β : Type} {R : α → β → Prop} : ∀ {as : List α} {bs : List β} {i : Nat} {a : α}, All2 R as bs → as[i]? = some a → ∃ b, bs[i]? = some b ∧ R a b
  | [], _, _, _, _, e => by simp at e
  | _ :: _, [], _, _, z, _ => z.elim
  | a :: _, b :: _, 0, _, z, e => by
    simp at e
    subst e
    exact ⟨b, rfl, z.1⟩
  | _ :: as, _ :: bs, i + 1, _, z, e => by
    obtain ⟨b, h1, h2⟩ := All2.at (i := i) z.2 (by simpa using e)
    exact ⟨b, by simpa using h1, h2⟩
theorem All2.at' {α β : Type} {R : α → β → Prop} : ∀ {as : List α} {bs : List β} {i : Nat} {b : β}, All2 R as bs → bs[i]? = some b → ∃ a, as[i]? = some a ∧ R a b
  | _, [], _, _, _, e => by simp at e
  | [], _ :: _, _, _, z, _ => z.elim
  | a :: _, b :: _, 0, _, z, e => by
    simp at e
    subst e
    exact ⟨a, rfl, z.1⟩
  | _ :: as, _ :: bs, i + 1, _, z, e => by
    obtain ⟨b, h1, h2⟩ := All2.at' (i := i) z.2 (by simpa using e)
    exact ⟨b, by simpa using h1, h2⟩
theorem All2.app {α β : Type} {R : α → β → Prop} : ∀ {as : List α} {bs : List β} {cs : List α} {ds : List β}, All2 R as bs → All2 R cs ds → All2 R (as ++ cs) (bs ++ ds)
  | [], [], _, _, _, h => h
  | [], _ :: _, _, _, z, _ => z.elim
  | _ :: _, [], _, _, z, _ => z.elim
  | _ :: _, _ :: _, _, _, z, h => ⟨z.1, All2.app z.2 h⟩
theorem All2.snoc {α β : Type} {R : α → β → Prop} {a : α} {b : β} {as : List α} {bs : List β} (h : R a b) (z : All2 R as bs) : All2 R (as ++ [a]) (bs ++ [b]) := All2.app z ⟨h, trivial⟩

def rTupOf (K : PySem.W.Frag) : List V → Hp → VK → Prop := fun xs H Q => ∃ p ys, xs = [.ref p] ∧ ((SqL K H p ys ∧ ∀ l, H l = none → Q (.ref l) (upd H l (.tup ys))) ∨ (SqT K H p ys ∧ Q (.ref p) H))
theorem call_tup {X : Cx} : CallR X (.type "tuple") (rTupOf X.K) := call_tuple_of

theorem td0 {H : Hp} {p : Addr} (hp : H p = none) : Td (upd H p (.tup [])) (.tuple []) (.ref p) := ⟨p, _, rfl, upd_same, rfl⟩
theorem td1 {H : Hp} {p : Addr} {a : V} {x : PyData} (hp : H p = none) (h1 : Td H x a) : Td (upd H p (.tup [a])) (.tuple [x]) (.ref p) := ⟨p, _, rfl, upd_same, a, _, rfl, Td.mono (TS.new hp) _ _ h1, rfl⟩
theorem td2 {H : Hp} {p : Addr} {a b : V} {x y : PyData} (hp : H p = none) (h1 : Td H x a) (h2 : Td H y b) : Td (upd H p (.tup [a, b])) (.tuple [x, y]) (.ref p) :=
  ⟨p, _, rfl, upd_same, a, _, rfl, Td.mono (TS.new hp) _ _ h1, b, _, rfl, Td.mono (TS.new hp) _ _ h2, rfl⟩
theorem td3 {H : Hp} {p : Addr} {a b c : V} {x y z : PyData} (hp : H p = none) (h1 : Td H x a) (h2 : Td H y b) (h3 : Td H z c) : Td (upd H p (.tup [a, b, c])) (.tuple [x, y, z]) (.ref p) :=
  ⟨p, _, rfl, upd_same, a, _, rfl, Td.mono (TS.new hp) _ _ h1, b, _, rfl, Td.mono (TS.new hp) _ _ h2, c, _, rfl, Td.mono (TS.new hp) _ _ h3, rfl⟩
theorem td4 {H : Hp} {p : Addr} {a b c d : V} {x y z u : PyData} (hp : H p = none) (h1 : Td H x a) (h2 : Td H y b) (h3 : Td H z c) (h4 : Td H u d) : Td (upd H p (.tup [a, b, c, d])) (.tuple [x, y, z, u]) (.ref p) :=
  ⟨p, _, rfl, upd_same, a, _, rfl, Td.mono (TS.new hp) _ _ h1, b, _, rfl, Td.mono (TS.new hp) _ _ h2, c, _, rfl, Td.mono (TS.new hp) _ _ h3, d, _, rfl, Td.mono (TS.new hp) _ _ h4, rfl⟩
theorem td5 {H : Hp} {p : Addr} {a b c d e : V} {x y z u v : PyData} (hp : H p = none) (h1 : Td H x a) (h2 : Td H y b) (h3 : Td H z c) (h4 : Td H u d) (h5 : Td H v e) : Td (upd H p (.tup [a, b, c, d, e])) (.tuple [x, y, z, u, v]) (.ref p) :=
  ⟨p, _, rfl, upd_same, a, _, rfl, Td.mono (TS.new hp) _ _ h1, b, _, rfl, Td.mono (TS.new hp) _ _ h2, c, _, rfl, Td.mono (TS.new hp) _ _ h3, d, _, rfl, Td.mono (TS.new hp) _ _ h4, e, _, rfl, Td.mono (TS.new hp) _ _ h5, rfl⟩

/-! ### list.extend with a tuple -/
theorem extT_meets (l : Addr) (items : Array Value) (n : Nat) (b : Addr) (ob : Obj) (items2 : Array Value) (n2 : Nat) (hc : ob.cls = .type "tuple") (hd : ob.data = .seq items2 n2) (hs0 : ¬(!items.isEmpty && Builtin.List.listTooLong (items.size + items2.size)) = true) (hs1 : items.size ≤ sizeLine) (hs2 : items.size + items2.size ≤ sizeLine + 1) :
    Meets (Builtin.«list.extend» ⟨[.ref l, .ref b], []⟩) (fun _ R s => s.heap.get? l = some { cls := .type "list", dict := none, data := .seq items n, slots := #[] } ∧ s.heap.get? b = some ob ∧ R (.ok (.ret Value.none)) { s with heap := s.heap.update l (Obj.mapSeq fun x => x ++ items2), toks := s.toks }) :=
  .of_wp fun prog w A R s h => by
    obtain ⟨cls, dict, data, slots⟩ := ob
    simp only at hc hd
    subst hc hd
    obtain ⟨hp, gs, dr, tk, os⟩ := s
    obtain ⟨hl, hb, h⟩ := h
    have k1 := PySem.AutoSeq1.sub_tuple_tuple
    have k2 := PySem.AutoSeq1.sub_list_list
    have k3 := PySem.AutoSeq1.sub_tuple_list
    have k4 := PySem.AutoSeq1.sub_list_tuple
    have k5 : (items ++ items2).size ≤ sizeLine + 1 := by rw [Array.size_append]; exact hs2
    wp_walk using (wpAny_updateSeq hl rfl (hz := hs1) (_hz' := k5)), PySem.AutoSeq1.wpAny_loadPart' hl, PySem.AutoSeq1.wpAny_loadPart' hb
    exact ⟨_, rfl, h⟩
section
variable {X : Cx}
def rExtT (K : PySem.W.Frag) : V → List V → Hp → VK → Prop := fun x vs H Q => ∃ l b xs ys, x = .ref l ∧ vs = [.ref b] ∧ H l = some (.lst xs) ∧ SqT K H b ys ∧ xs.length + ys.length ≤ sizeLine ∧ Q .non (upd H l (.lst (xs ++ ys)))
theorem mt_extT : MtM X "list.extend" (rExtT X.K) := by
  intro pins s σ H x vs v us Q I rx rv h
  obtain ⟨l, b, xs, ys, rfl, rfl, hH, hB, hz, q⟩ := h
  cases rx
  obtain ⟨u, rfl, ru⟩ := rv.one
  cases ru
  obtain ⟨z, its, n, r, hl, e⟩ := I.lstM hH
  obtain ⟨its2, r2, ⟨ob, e2, hc2, n2, hd2⟩, z2⟩ := I.tuple hB
  have hl2 := r2.length
  have hsz : its.toArray.size + its2.toArray.size ≤ sizeLine := by rw [List.size_toArray, List.size_toArray]; omega
  have hlong : ¬ (!its.toArray.isEmpty && Builtin.List.listTooLong (its.toArray.size + its2.toArray.size)) = true := by
    rw [notLongL hsz, Bool.and_false]
    exact Bool.false_ne_true
  refine call_meets PySem.F.slot_list_extend ⟨_, e, rfl⟩ PySem.F.entry_list_extend (PySem.F.args_list_extend_2 _ _)
    (extT_meets l its.toArray n b ob its2.toArray n2 hc2 hd2 hlong (by rw [List.size_toArray]; omega) (by omega)) ⟨e, e2, ?_⟩
  refine ⟨.non, _, I.lset (its' := its ++ its2) hH e (by simp) (r.append r2) ?_, rfl, q⟩
  rw [List.length_append]
  omega
end

/-! ### set(a list of ints) -/
abbrev freshSet (w : World) : Obj := { cls := .type "set", dict := none, data := .set #[] 0 (.fresh 0 0 (!w.params.followText "set-order")) }
section
variable {P : Program} {w : World} {A : Around} {E : Value → Shared → Prop} {s : Shared}
/-- what set.__init__ does with a list of ints, the empty set being at S, the last object of the heap -/
theorem init_ints {S l : Addr} {items : Array Value} (ns : List Int) (hS : s.heap.objs.size = S + 1) (hset : s.heap.get? S = some (freshSet w)) (hlS : l < S) (hh : A.handled = none) (hl : s.heap.IsList l items) (hit : IntsAre items.toList ns) (hb : ns.length + 1 < scanBound) {R : Value → Shared → Prop}
    (h : ∀ (h' : Heap) (tk c : Nat), SetR w h' S (fun j => decide (j ∈ ns)) c → c ≤ ns.length → (∀ b o, b < S → s.heap.get? b = some o → h'.get? b = some o) → R .none { s with heap := h', toks := tk }) :
    wpAny (model P w) A.in1 (Builtin.«set.__init__» ⟨[.ref S, .ref l], []⟩) (fun fin s' => ∃ v, fin = Fin.done (Flow.ret v) ∧ R v s') E s := by
  have hsz : items.size = ns.length := by
    have := IntsAre.length hit
    rwa [Array.length_toList] at this
  obtain ⟨ol, hol, hcl, nl, hdl⟩ := id hl
  obtain ⟨c0, d0, data0, sl0⟩ := ol
  simp only at hcl hdl
  subst hcl hdl
  have k1 := PySem.F.sub_list_set
  have k2 := PySem.F.sub_list_frozenset
  have k3 : (Value.type "list" == Value.type "dict") = false := by decide
  have hTS : s.TypeIs (.ref S) "set" := ⟨_, hset, rfl⟩
  unfold Builtin.«set.__init__» noKeywords Builtin.Frozenset.updateFrom
  generalize hPI : pyIter = PI
  obtain ⟨hp, gs, dr, tk0, os⟩ := s
  wp_walk
  subst hPI
  refine wpAny_pyIter_list ⟨_, hol, rfl, nl, rfl⟩ ?_
  refine wpAny_bind (wpAny_runValue ?_)
  have hIs : ({ cls := .type "list_iterator", data := .fields #[.ref l, .int 0 0] } : Obj) = { cls := .type "list_iterator", data := .fields #[.ref l, .int 0 0] } := rfl
  have hne : l ≠ hp.objs.size := Nat.ne_of_lt (Heap.lt_size hol)
  have hSne : S ≠ hp.objs.size := by
    have e : hp.objs.size = S + 1 := hS
    rw [e]
    exact Nat.ne_of_lt (Nat.lt_succ_self S)
  have hSl : S ≠ l := Nat.ne_of_gt hlS
  have val : ∀ (i : Nat) (v : Value), items[i]? = some v → ∃ k t, ns[i]? = some k ∧ v = .int k t := fun i v hv => by
    have hi : i < ns.length := by rw [← hsz]; exact (Array.getElem?_eq_some_iff.mp hv).1
    obtain ⟨t, ht⟩ := hit.get i ns[i] (List.getElem?_eq_getElem hi)
    rw [Array.getElem?_toList] at ht
    rw [ht] at hv
    exact ⟨_, t, List.getElem?_eq_getElem hi, (Option.some.inj hv).symm⟩
  refine set_update_ints ((Walks.list (by simp [hh]) hp.objs.size l hne items).toS) S (by simp [hSne, hSl]) ns hsz hb val items.size 0 _ (by omega) (Nat.zero_le _)
    ⟨⟨_, Heap.get?_push_size _ rfl, rfl, rfl⟩, ⟨_, Heap.get?_push_of_some _ hol, rfl, nl, rfl⟩⟩ ⟨0, Nat.le_refl 0, setR_new_at (Heap.get?_push_of_some _ hset)⟩ fun s' c hm hc hS' => ?_
  obtain ⟨hp', gs', dr', tk', os'⟩ := s'
  have eg : gs' = gs := hm.gens
  have ed : dr' = dr := hm.drawn
  have eo : os' = os := hm.os
  subst eg ed eo
  show wpAny _ _ _ _ _ _
  refine wpAny_pure ?_
  show wpAny _ _ (ret Value.none) _ _ _
  rw [hsz] at hc
  refine wpAny_pure ⟨_, rfl, h hp' tk' c hS' hc fun b o hb2 e => ?_⟩
  refine hm.heap b o ?_ (Heap.get?_push_of_some _ e)
  have n1 : b ≠ S := Nat.ne_of_lt hb2
  have n2 : b ≠ hp.objs.size := by
    have e : hp.objs.size = S + 1 := hS
    rw [e]
    exact Nat.ne_of_lt (Nat.lt_succ_of_lt hb2)
  simp [n1, n2]
end
section
variable {P : Program} {w : World} {A : Around} {E : Value → Shared → Prop} {s : Shared}
theorem set_of_ints {l : Addr} {items : Array Value} (ns : List Int) {Q : Value → Shared → Prop} (hh : A.handled = none) (hl : s.heap.IsList l items) (hit : IntsAre items.toList ns) (hb : ns.length + 1 < scanBound)
    (h : ∀ (h' : Heap) (tk c : Nat), SetR w h' s.heap.objs.size (fun j => decide (j ∈ ns)) c → c ≤ ns.length → (∀ b o, s.heap.get? b = some o → h'.get? b = some o) → Q (.ref s.heap.objs.size) { s with heap := h', toks := tk }) :
    wpAny (model P w) A (call (.type "set") [.ref l]) Q E s := by
  have m1 := PySem.F.called_set.mro
  obtain ⟨_, _, m1⟩ := m1
  have m2 := PySem.F.called_set.made
  have m3 := PySem.F.called_set.sub
  have m4 := PySem.F.called_set.notType
  have m5 := PySem.F.called_set.canCreate
  have m6 := PySem.F.typeCall_set_1 (.ref l)
  refine wpAny_call (codeAny_of_tree ?_)
  show wpAny _ _ (callAny (.type "set") _) _ _ _
  refine wpAny_pure ⟨Code.quiet_builtin _ (by decide +kernel), codeAny_builtin PySem.F.entry_type_call ?_⟩
  rw [Around.under_plain (weight_type_call_type "set" [.ref l] []) rfl]
  repeat (any_goals (first | assumption | wp_step))
  have s1S : (s.heap.push (freshSet w)).get? s.heap.objs.size = some (freshSet w) := Heap.get?_push_size _ rfl
  refine codeAny_mono (code_set_led1 (.ref l) (E := E) (Q₁ := fun o t => o = .ref s.heap.objs.size ∧ t = { s with heap := s.heap.push (freshSet w) }) ⟨rfl, rfl⟩) fun r t hr => ?_
  rcases r with e | fl
  · exact hr
  cases fl with
  | ret o =>
    obtain ⟨rfl, rfl⟩ := hr
    have ty : Shared.TypeIs { s with heap := s.heap.push (freshSet w) } (.ref s.heap.objs.size) "set" := ⟨_, s1S, rfl⟩
    have n1 := PySem.F.called_set.init.lookup
    have n2 := PySem.F.called_set.init.bind (.ref s.heap.objs.size)
    repeat (any_goals (first | assumption | wp_step))
    have hlS : l < s.heap.objs.size := let ⟨_, ho, _⟩ := hl; Heap.lt_size ho
    have hl1 : (s.heap.push (freshSet w)).IsList l items := let ⟨o, ho, r⟩ := hl; ⟨o, Heap.get?_push_of_some _ ho, r⟩
    refine codeAny_mono (codeAny_call_builtin (R := wants (fun v u => v = .none ∧ ∃ h' tk c, u = { s with heap := h', toks := tk } ∧ SetR w h' s.heap.objs.size (fun j => decide (j ∈ ns)) c ∧ c ≤ ns.length ∧ ∀ b o, s.heap.get? b = some o → h'.get? b = some o) E) PySem.F.called_set.init.plain PySem.F.entry_set_init (check_set_init_1 ty ?_)) fun r u hr => ?_
    · refine wpAny_mono (init_ints (A := A.in1) (s := { s with heap := s.heap.push (freshSet w) }) (S := s.heap.objs.size) (l := l) (items := items) ns (Heap.size_push ..) s1S hlS (by simp [hh]) hl1 hit hb
        (R := fun v u => v = .none ∧ ∃ h' tk c, u = { s with heap := h', toks := tk } ∧ SetR w h' s.heap.objs.size (fun j => decide (j ∈ ns)) c ∧ c ≤ ns.length ∧ ∀ b o, s.heap.get? b = some o → h'.get? b = some o)
        fun h' tk c q1 q2 q3 => ⟨rfl, h', tk, c, rfl, q1, q2, fun b o e => q3 b o (Heap.lt_size e) (Heap.get?_push_of_some _ e)⟩) (fun fin u hf => ?_) fun _ _ e => e
      obtain ⟨v, rfl, hv⟩ := hf
      exact hv
    · rcases r with e | fl
      · exact hr
      cases fl with
      | ret v =>
        obtain ⟨rfl, h', tk, c, rfl, q1, q2, q3⟩ := hr
        repeat (any_goals (first | assumption | wp_step))
        exact h _ _ _ q1 q2 q3
      | _ => exact hr.elim
  | _ => exact hr.elim
end
section
variable {X : Cx}
/-- set(xs), xs a list of ints -/
def rSetOfI (K : PySem.W.Frag) (w : World) : List V → Hp → VK → Prop := fun xs H Q => ∃ (l : Addr) (ns : List Int), xs = [V.ref l] ∧ SqL K H l (ns.map V.int) ∧ ns.length ≤ 1000 ∧ ∀ (a : Addr) (c : Nat), H a = none → c ≤ ns.length → Q (.ref a) (upd H a (SetO w a (fun j => decide (j ∈ ns)) c))
theorem cr_setOfI (hc : X.calm = true) : CallR X (.type "set") (rSetOfI X.K X.w) := by
  intro pins s σ H xs us Q I r h
  obtain ⟨l, ns, rfl, hl, hn, q⟩ := h
  rw [Vals.ref1 r]
  obtain ⟨its, rv, pl, hz⟩ := I.list hl
  have hi : IntsAre its.toArray.toList ns := ints_of_vals rv
  have hno : H s.heap.objs.size = none := I.hok.fresh (Nat.le_refl _)
  refine set_of_ints (P := X.prog) (w := X.w) ns (I.ok.hd hc) pl.isList hi (by unfold scanBound; omega) fun h' tk c R hcn k => ?_
  exact ⟨.ref s.heap.objs.size, upd H s.heap.objs.size (SetO X.w s.heap.objs.size (fun j => decide (j ∈ ns)) c), I.laid (t' := tk) k (Nat.le_refl _) (setO_new R), rfl, q _ c hno hcn⟩
end

/-! ### max, min, set of a tuple of ints; len of a set -/
section
variable {P : Program} {w : World} {A : Around} {E : Value → Shared → Prop} {s : Shared}
/-- a tuple's iterator, over ints -/
theorem tup_walk {l : Addr} {its : Array Value} {Q : Value → Shared → Prop} (hh : A.handled = none) (hl : s.heap.IsTuple l its) (h : ∀ (I : Addr) (s2 : Shared) (St : Nat → Heap → Prop), PySem.Walks P w A I [I, l] [I] its.size (fun i v => its[i]? = some v) St → St 0 s2.heap → (∀ b ∈ [I, l], b < s2.heap.objs.size) →
    (∀ h' tk, (∀ b o, b ∉ [I] → s2.heap.get? b = some o → h'.get? b = some o) → ∃ h'' tk', ({ s2 with heap := h', toks := tk } : Shared) = { s with heap := h'', toks := tk' } ∧ ∀ b o, s.heap.get? b = some o → h''.get? b = some o) → Q (.ref I) s2) : wpAny (model P w) A (pyIter (.ref l)) Q E s := by
  have ll : l < s.heap.objs.size := let ⟨_, ho, _⟩ := hl; Heap.lt_size ho
  refine wpAny_pyIter_tuple hl ?_
  refine h s.heap.objs.size _ _ (PySem.Walks.tuple hh s.heap.objs.size l (Nat.ne_of_lt ll) its) ⟨⟨_, Heap.get?_push_size _ rfl, rfl, rfl⟩, hl.push _⟩ (fun b hb => ?_) fun h' tk k => ⟨h', tk, rfl, fun b o e => k b o (fun z => ?_) (Heap.get?_push_of_some _ e)⟩
  · show b < (s.heap.push _).objs.size
    rw [Heap.size_push]
    rcases List.mem_cons.mp hb with rfl | hb
    · exact Nat.lt_succ_self _
    · rw [List.mem_singleton.mp hb]
      exact Nat.lt_succ_of_lt ll
  · rw [List.mem_singleton.mp z] at e
    exact absurd (Heap.lt_size e) (Nat.lt_irrefl _)
theorem max_tup {l : Addr} {its : List Value} {ns : List Int} {Q : Value → Shared → Prop} (hh : A.handled = none) (hl : s.heap.IsTuple l its.toArray) (hi : IntsAre its ns) (hne : 0 < ns.length)
    (h : ∀ h' tk M t', (∀ b o, s.heap.get? b = some o → h'.get? b = some o) → M ∈ ns → (∀ a, a ∈ ns → a ≤ M) → Q (.int M t') { s with heap := h', toks := tk }) : wpAny (model P w) A (call (.builtin "max") [.ref l]) Q E s := by
  obtain ⟨xs, e⟩ := hi.allInts.items
  have hn : numsOf (intItems xs).toList = ns := by
    rw [← e]
    exact hi.numsOf
  rw [nums_intItems] at hn
  subst hn
  rw [e] at hl
  have hsz : 0 < xs.size := by simpa using hne
  refine call_max_walk (tup_walk (A := A.in1) hh hl fun I s2 St W st hlt back => ?_)
  refine ⟨I, [I, l], [I], _, _, St, _, rfl, W, st, hlt, by simpa [intItems] using hsz, CmpOf.ints_gt (numAt xs) (fun _ _ => intItems_at), fun v h' tk hv k => ?_⟩
  obtain ⟨h'', tk', e2, k2⟩ := back h' tk k
  rw [e2]
  have hv : (intItems xs)[argBest (fun i j => decide (numAt xs i > numAt xs j)) (xs.size - 1)]? = some v := by simpa [intItems] using hv
  obtain ⟨t, rfl⟩ := intItems_at hv
  obtain ⟨h1, h2⟩ := argBest_gt (numAt xs) (xs.size - 1)
  refine h h'' tk' _ t k2 ?_ fun a ha => ?_
  · rw [numAt_eq]
    exact PySem.getD_mem (by rw [List.length_map, Array.length_toList]; omega)
  · obtain ⟨j, hj, rfl⟩ := PySem.mem_getD ha
    rw [List.length_map, Array.length_toList] at hj
    rw [← numAt_eq]
    exact h2 j (by omega)
end
section
variable {X : Cx}
def rMaxT (K : PySem.W.Frag) : List V → Hp → VK → Prop := fun vs H Q => ∃ (a : Addr) (ns : List Int), vs = [V.ref a] ∧ SqT K H a (ns.map V.int) ∧ 0 < ns.length ∧ ∀ m, m ∈ ns → (∀ y, y ∈ ns → y ≤ m) → Q (.int m) H
theorem cr_maxT (hc : X.calm = true) : CallR X (.builtin "max") (rMaxT X.K) := by
  intro pins s σ H vs us Q I r h
  obtain ⟨a, ns, rfl, hs, hne, q⟩ := h
  obtain ⟨its, rv, hl, _⟩ := I.tuple hs
  rw [Vals.ref1 r]
  exact max_tup (I.ok.hd hc) hl rv.ints hne fun h' tk m t' hk h1 h2 => ⟨.int _, H, I.kept hk, ⟨_, rfl⟩, q m h1 h2⟩
def rSetTup (K : PySem.W.Frag) (w : World) : List V → Hp → VK → Prop := fun xs H Q => ∃ (l : Addr) (ns : List Int), xs = [V.ref l] ∧ SqT K H l (ns.map V.int) ∧ ns.length ≤ 1000 ∧ ∀ (a : Addr) (c : Nat), H a = none → c ≤ ns.length → Q (.ref a) (upd H a (SetO w a (fun j => decide (j ∈ ns)) c))
theorem cr_setTup (hc : X.calm = true) : CallR X (.type "set") (rSetTup X.K X.w) := by
  intro pins s σ H xs us Q I r h
  obtain ⟨l, ns, rfl, hl, hn, q⟩ := h
  rw [Vals.ref1 r]
  obtain ⟨its, rv, pl, hz⟩ := I.tuple hl
  have hno : H s.heap.objs.size = none := I.hok.fresh (Nat.le_refl _)
  refine call_set_tupI (P := X.prog) (w := X.w) ns (I.ok.hd hc) pl (ints_of_vals rv) (by unfold scanBound; omega) fun h' tk c R hcn k => ?_
  exact ⟨.ref s.heap.objs.size, upd H s.heap.objs.size (SetO X.w s.heap.objs.size (fun j => decide (j ∈ ns)) c), I.laid (t' := tk) k (Nat.le_refl _) (setO_new R), rfl, q _ c hno hcn⟩
/-- set(xs), xs a list or a tuple of ints -/
def rSetAny (K : PySem.W.Frag) (w : World) : List V → Hp → VK → Prop := fun xs H Q => rSetOfI K w xs H Q ∨ rSetTup K w xs H Q
theorem cr_setAny (hc : X.calm = true) : CallR X (.type "set") (rSetAny X.K X.w) := CallR.or (cr_setOfI hc) (cr_setTup hc)
def rLenSetO (w : World) : List V → Hp → VK → Prop := fun xs H Q => ∃ (a : Addr) (S : Int → Bool) (n : Nat), xs = [V.ref a] ∧ H a = some (SetO w a S n) ∧ ∀ L : List Int, L.Nodup → L.length = n → (∀ k, S k = true ↔ k ∈ L) → Q (.int (n : Int)) H
theorem cr_lenSetO : CallR X (.builtin "len") (rLenSetO X.w) := by
  intro pins s σ H xs us Q I r h
  obtain ⟨a, S, n, rfl, ha, q⟩ := h
  rw [Vals.ref1 r]
  obtain ⟨o, es, ep, t, ho, hex, hd, g, nd, hm, hb, hf, hn, _⟩ := setO_get I ha
  refine call_len_set ho hex hd hf (by unfold scanBound at hb; omega) ⟨.int n, H, I.tok _, ⟨_, by rw [hn]⟩, q (es.toList.map keyOf) nd (by rw [List.length_map, Array.length_toList]; exact hn) hm⟩
end

/-! ### tuple(zip(xs, ys)) of two lists -/
structure ZSt (z TI TO i1 i2 l1 l2 S : Addr) (xs ys : Array Value) (i : Nat) (h : Heap) : Prop where
  pr : IsPair h TI (.ref i1) (.ref i2)
  a1 : h.IsListIter i1 l1 i
  a2 : h.IsListIter i2 l2 i
  b1 : h.IsList l1 xs
  b2 : h.IsList l2 ys
  zz : (IsZip h z TI TO .none ∧ ∃ a b, IsPair h TO a b) ∨ ∃ T f oT, IsZipHeld h z TI TO T f ∧ h.get? T = some oT ∧ T ≠ z ∧ T ≠ i1 ∧ T ≠ i2 ∧ T ≠ S
theorem ZSt.frame {z TI TO i1 i2 l1 l2 S : Addr} {xs ys : Array Value} {i : Nat} {h h' : Heap} (x : ZSt z TI TO i1 i2 l1 l2 S xs ys i h) (n : S ∉ [z, TI, TO, i1, i2, l1, l2]) (k : ∀ b o, b ≠ S → h.get? b = some o → h'.get? b = some o) : ZSt z TI TO i1 i2 l1 l2 S xs ys i h' := by
  simp only [List.mem_cons, List.not_mem_nil, or_false, not_or] at n
  obtain ⟨n1, n2, n3, n4, n5, n6, n7⟩ := n
  refine ⟨k _ _ (Ne.symm n2) x.pr, x.a1.at fun o e => k _ o (Ne.symm n4) e, x.a2.at fun o e => k _ o (Ne.symm n5) e, x.b1.at fun o e => k _ o (Ne.symm n6) e, x.b2.at fun o e => k _ o (Ne.symm n7) e, ?_⟩
  rcases x.zz with ⟨hz, a, b, hT⟩ | ⟨T, f, oT, hz, hT, r1, r2, r3, r4⟩
  · exact .inl ⟨k _ _ (Ne.symm n1) hz, a, b, k _ _ (Ne.symm n3) hT⟩
  · exact .inr ⟨T, f, oT, k _ _ (Ne.symm n1) hz, k _ _ r4 hT, r1, r2, r3, r4⟩
/-- the pairs that were made so far -/
structure Zmade (B : Nat) (xs ys : Array Value) (as : List Addr) (h : Heap) : Prop where
  got : ∀ (j : Nat) (T : Addr), as[j]? = some T → ∃ x y, xs[j]? = some x ∧ ys[j]? = some y ∧ IsPair h T x y
  lo : ∀ T ∈ as, B ≤ T ∧ T < h.objs.size
  up : as.Pairwise (· < ·)
theorem Zmade.keep {B : Nat} {xs ys : Array Value} {as : List Addr} {h h' : Heap} (m : Zmade B xs ys as h) (k : ∀ b o, B ≤ b → h.get? b = some o → h'.get? b = some o) (sz : h.objs.size ≤ h'.objs.size) : Zmade B xs ys as h' :=
  ⟨fun j T e => by
    obtain ⟨x, y, e1, e2, e3⟩ := m.got j T e
    exact ⟨x, y, e1, e2, k _ _ (m.lo T (List.mem_of_getElem? e)).1 e3⟩, fun T hT => ⟨(m.lo T hT).1, Nat.lt_of_lt_of_le (m.lo T hT).2 sz⟩, m.up⟩
theorem Zmade.keepT {B : Nat} {xs ys : Array Value} {as : List Addr} {h h' : Heap} (m : Zmade B xs ys as h) (k : ∀ b o, B ≤ b → h.get? b = some o → h'.get? b = some o) : Zmade B xs ys as h' :=
  ⟨fun j T e => by
    obtain ⟨x, y, e1, e2, e3⟩ := m.got j T e
    exact ⟨x, y, e1, e2, k _ _ (m.lo T (List.mem_of_getElem? e)).1 e3⟩, fun T hT => ⟨(m.lo T hT).1, by
      obtain ⟨j, hj⟩ := List.mem_iff_getElem?.mp hT
      obtain ⟨_, _, _, _, e3⟩ := m.got j T hj
      exact Heap.lt_size (k _ _ (m.lo T hT).1 e3)⟩, m.up⟩
theorem Zmade.push {B : Nat} {xs ys : Array Value} {as : List Addr} {h h' : Heap} {x y : Value} (m : Zmade B xs ys as h) (hB : B ≤ h.objs.size) (k : ∀ b o, B ≤ b → h.get? b = some o → h'.get? b = some o) (sz : h'.objs.size = h.objs.size + 1) (ex : xs[as.length]? = some x) (ey : ys[as.length]? = some y) (hp : IsPair h' h.objs.size x y) : Zmade B xs ys (as ++ [h.objs.size]) h' := by
  have m' := m.keep k (by omega)
  refine ⟨fun j T e => ?_, fun T hT => ?_, ?_⟩
  · rcases Nat.lt_trichotomy j as.length with hj | rfl | hj
    · rw [List.getElem?_append_left hj] at e
      exact m'.got j T e
    · rw [List.getElem?_append_right (Nat.le_refl _), Nat.sub_self] at e
      cases e
      exact ⟨x, y, ex, ey, hp⟩
    · rw [List.getElem?_eq_none (by rw [List.length_append]; exact hj)] at e
      cases e
  · rcases List.mem_append.mp hT with hT | hT
    · exact m'.lo T hT
    · rw [List.mem_singleton.mp hT]
      exact ⟨hB, by rw [sz]; exact Nat.lt_succ_self _⟩
  · refine List.pairwise_append.mpr ⟨m.up, List.pairwise_singleton _ _, fun a ha b hb => ?_⟩
    rw [List.mem_singleton.mp hb]
    exact (m.lo a ha).2
section
variable {P : Program} {w : World} {A : Around} {E : Value → Shared → Prop}
theorem zip_loop {z TI TO i1 i2 l1 l2 S : Addr} (hh : A.handled = none) (D : ZipApart z TI TO i1 i2 l1 l2) (hS : S ∉ [z, TI, TO, i1, i2, l1, l2]) (xs ys : Array Value) (hl : xs.size = ys.size) (hsz : xs.size ≤ sizeLine) (B : Nat) (fx : ∀ b ∈ [z, TO, i1, i2, S], b < B) (res : Value) {R : Result → Shared → Prop} :
    ∀ (k i : Nat) (s : Shared) (acc : Array Value) (c : Nat) (as : List Addr), xs.size - i = k → i ≤ xs.size → ZSt z TI TO i1 i2 l1 l2 S xs ys i s.heap → s.heap.get? S = some { cls := .type "list", dict := none, data := .seq acc c, slots := #[] } → acc.toList = as.map Value.ref → as.length = i → Zmade B xs ys as s.heap → B ≤ s.heap.objs.size →
      (∀ (h' : Heap) (tk : Nat) (acc' : Array Value) (c' : Nat) (as' : List Addr), h'.get? S = some { cls := .type "list", dict := none, data := .seq acc' c', slots := #[] } → acc'.toList = as'.map Value.ref → as'.length = xs.size → Zmade B xs ys as' h' → (∀ b o, b ∉ [z, TO, i1, i2, S] → s.heap.get? b = some o → h'.get? b = some o) → R (.ok (.ret res)) { s with heap := h', toks := tk }) →
      codeAny (model P w) A (.builtin "list.extend.loop" ⟨[.ref S, .ref z, res], []⟩) R s := by
  have nf : ∀ {b : Addr}, B ≤ b → b ∉ [z, TO, i1, i2, S] := fun hb hm => absurd (fx _ hm) (Nat.not_lt.mpr hb)
  intro k
  induction k with
  | zero =>
    intro i s acc c as hk hi st hSo ha hal hm hB q
    have e : i = xs.size := by omega
    subst e
    refine codeAny_builtin PySem.F.entry_extend_loop ?_
    rw [Around.under_plainId PySem.F.plain_extend_loop _]
    show wpAny _ A.in1 (pyNext (.ref z) >>= _) _ _ s
    have hend : xs[xs.size]? = none ∨ ys[xs.size]? = none := .inl (Array.getElem?_eq_none (Nat.le_refl _))
    have hS' := hS
    simp only [List.mem_cons, List.not_mem_nil, or_false, not_or] at hS'
    have fin : ∀ h' : Heap, (∀ b o, b ≠ z → b ≠ TO → b ≠ i1 → b ≠ i2 → s.heap.get? b = some o → h'.get? b = some o) → R (.ok (.ret res)) { s with heap := h' } := fun h' kp => by
      have far : ∀ b o, B ≤ b → s.heap.get? b = some o → h'.get? b = some o := fun b o hb e => by
        have := nf hb
        simp only [List.mem_cons, List.not_mem_nil, or_false, not_or] at this
        exact kp b o this.1 this.2.1 this.2.2.1 this.2.2.2.1 e
      refine q h' s.toks acc c as (kp _ _ hS'.1 hS'.2.2.1 hS'.2.2.2.1 hS'.2.2.2.2.1 hSo) ha hal (hm.keepT far) fun b o hb e => ?_
      simp only [List.mem_cons, List.not_mem_nil, or_false, not_or] at hb
      exact kp b o hb.1 hb.2.1 hb.2.2.1 hb.2.2.2.1 e
    rcases st.zz with ⟨hz, x0, y0, hT⟩ | ⟨T, f, oT, hz, hT, r1, r2, r3, r4⟩
    · exact wpAny_bind (wpAny_pyNext_zip_end hh D hz st.pr hT st.a1 st.a2 st.b1 st.b2 hend fun h' kp => wpAny_pure (fin h' kp))
    · exact wpAny_bind (wpAny_pyNext_zip_end_held hh D hz hT st.pr st.a1 st.a2 st.b1 st.b2 hend fun h' kp => wpAny_pure (fin h' fun b o n1 _ n3 n4 e => kp b o n1 n3 n4 e))
  | succ k ih =>
    intro i s acc c as hk hi st hSo ha hal hm hB q
    have hS' := hS
    simp only [List.mem_cons, List.not_mem_nil, or_false, not_or] at hS'
    have hix : i < xs.size := by omega
    have ex := Array.getElem?_eq_getElem hix
    have ey := Array.getElem?_eq_getElem (show i < ys.size by omega)
    refine codeAny_builtin PySem.F.entry_extend_loop ?_
    rw [Around.under_plainId PySem.F.plain_extend_loop _]
    show wpAny _ A.in1 (pyNext (.ref z) >>= _) _ _ s
    have nz : ∀ {b o}, s.heap.get? b = some o → s.heap.objs.size ≠ b := fun e => Nat.ne_of_gt (Heap.lt_size e)
    have nS : s.heap.objs.size ≠ S := nz hSo
    have n1 : s.heap.objs.size ≠ i1 := let ⟨_, e, _⟩ := st.a1; nz e
    have n2 : s.heap.objs.size ≠ i2 := let ⟨_, e, _⟩ := st.a2; nz e
    -- behind one item
    have go : ∀ h' : Heap, ZSt z TI TO i1 i2 l1 l2 S xs ys (i + 1) h' → IsPair h' s.heap.objs.size xs[i] ys[i] → h'.objs.size = s.heap.objs.size + 1 → (∀ b o, b ≠ z → b ≠ TO → b ≠ i1 → b ≠ i2 → s.heap.get? b = some o → h'.get? b = some o) →
        wpAny (model P w) A.in1 (updateSeq S (·.push (.ref s.heap.objs.size)) >>= fun _ => again (.builtin "list.extend.loop" ⟨[.ref S, .ref z, res], []⟩)) (fun fin t => match fin with
          | .done f => R (.ok f) t
          | .again c' => c'.quiet = true ∧ codeAny (model P w) A c' R t) (fun e t => R (.error e) t) { s with heap := h' } := fun h' st' hp hz kp => by
      have hS2 := kp _ _ hS'.1 hS'.2.2.1 hS'.2.2.2.1 hS'.2.2.2.2.1 hSo
      have la : acc.size = i := by rw [← hal, ← List.length_map (f := Value.ref) (as := as), ← ha, Array.length_toList]
      have far : ∀ b o, B ≤ b → s.heap.get? b = some o → h'.get? b = some o := fun b o hb e => by
        have := nf hb
        simp only [List.mem_cons, List.not_mem_nil, or_false, not_or] at this
        exact kp b o this.1 this.2.1 this.2.2.1 this.2.2.2.1 e
      have mm := hm.push hB far hz (by rw [hal]; exact ex) (by rw [hal]; exact ey) hp
      have SB : S < B := fx S (by simp)
      have oth : ∀ b o, b ≠ S → h'.get? b = some o → (h'.update S (Obj.mapSeq (·.push (.ref s.heap.objs.size)))).get? b = some o := fun b o n e => (Heap.get?_update_other _ _ (Ne.symm n)).trans e
      refine wpAny_bind ?_
      refine wpAny_updateSeq hS2 rfl (wpAny_pure ⟨plainId_quiet PySem.F.plain_extend_loop _, ih (i + 1) _ (acc.push (.ref s.heap.objs.size)) _ (as ++ [s.heap.objs.size]) (by omega) (by omega) (st'.frame hS oth) (Heap.get?_update_self _ hS2 rfl) ?_ (by rw [List.length_append, hal]; rfl)
        (mm.keepT fun b o hb e => oth b o (fun z => absurd SB (by rw [← z]; exact Nat.not_lt.mpr hb)) e) ?_ fun h2 tk2 acc2 c2 as2 w1 w2 w3 w4 w5 => ?_⟩) (by rw [la]; omega) (by show (acc.push _).size ≤ sizeLine + 1; rw [Array.size_push, la]; omega)
      · rw [Array.toList_push, ha, List.map_append]
        rfl
      · show B ≤ (h'.update S _).objs.size
        rw [Heap.size_update, hz]
        omega
      · refine q h2 tk2 acc2 c2 as2 w1 w2 w3 w4 fun b o hb e => w5 b o hb (oth b o (fun z => hb (by simp [z])) ?_)
        simp only [List.mem_cons, List.not_mem_nil, or_false, not_or] at hb
        exact kp b o hb.1 hb.2.1 hb.2.2.1 hb.2.2.2.1 e
    rcases st.zz with ⟨hz, x0, y0, hT⟩ | ⟨T, f, oT, hz, hT, r1, r2, r3, r4⟩
    · refine wpAny_bind (wpAny_pyNext_zip_item D hz st.pr hT st.a1 st.a2 st.b1 st.b2 ex ey fun h' q1 q2 q3 q4 q5 q6 kp => ?_)
      have st' : ZSt z TI TO i1 i2 l1 l2 S xs ys (i + 1) h' := ⟨kp _ _ D.TIz D.TITO D.TIi1 D.TIi2 st.pr, q3, q4, st.b1.at fun o e => kp _ o D.l1z D.l1TO D.l1i1 D.l1i2 e, st.b2.at fun o e => kp _ o D.l2z D.l2TO D.l2i1 D.l2i2 e, .inr ⟨_, false, _, q1, q5, nz hz, n1, n2, nS⟩⟩
      exact go h' st' q5 q6 kp
    · refine wpAny_bind (wpAny_pyNext_zip_item_held D hz hT st.pr st.a1 st.a2 st.b1 st.b2 ex ey fun h' q1 q3 q4 q5 q6 kp => ?_)
      have st' : ZSt z TI TO i1 i2 l1 l2 S xs ys (i + 1) h' := ⟨kp _ _ D.TIz D.TIi1 D.TIi2 st.pr, q3, q4, st.b1.at fun o e => kp _ o D.l1z D.l1i1 D.l1i2 e, st.b2.at fun o e => kp _ o D.l2z D.l2i1 D.l2i2 e, .inr ⟨T, true, oT, q1, kp _ _ r1 r2 r3 hT, r1, r2, r3, r4⟩⟩
      exact go h' st' q5 q6 fun b o n1 _ n3 n4 e => kp b o n1 n3 n4 e
end

section
variable {P : Program} {w : World} {A : Around} {E : Value → Shared → Prop} {s : Shared}
theorem zip_no_len : typeLookup (.type "zip") "__len__" = pure none := am_miss_of_fast (by decide +kernel)
theorem zip_no_hint : typeLookup (.type "zip") "__length_hint__" = pure none := am_miss_of_fast (by decide +kernel)
theorem collect_zip {z TI TO i1 i2 l1 l2 : Addr} {xs ys : Array Value} {Q : List Value → Shared → Prop} (hh : A.handled = none) (D : ZipApart z TI TO i1 i2 l1 l2) (fx : ∀ b ∈ [z, TI, TO, i1, i2, l1, l2], b < s.heap.objs.size) (hl : xs.size = ys.size) (hsz : xs.size ≤ sizeLine)
    (hz : IsZip s.heap z TI TO .none) (hTI : IsPair s.heap TI (.ref i1) (.ref i2)) (hTO : ∃ a b, IsPair s.heap TO a b) (h1 : s.heap.IsListIter i1 l1 0) (h2 : s.heap.IsListIter i2 l2 0) (b1 : s.heap.IsList l1 xs) (b2 : s.heap.IsList l2 ys)
    (q : ∀ (h' : Heap) (tk : Nat) (acc : Array Value) (as : List Addr), acc.toList = as.map Value.ref → as.length = xs.size → Zmade (s.heap.objs.size + 1) xs ys as h' → (∀ b o, b ∉ [z, TO, i1, i2] → s.heap.get? b = some o → h'.get? b = some o) → Q acc.toList { s with heap := h', toks := tk }) :
    wpAny (model P w) A (collect (.ref z)) Q E s := by
  have hS : s.heap.objs.size ∉ [z, TI, TO, i1, i2, l1, l2] := fun hm => Nat.lt_irrefl _ (fx _ hm)
  have hSz : s.heap.objs.size ≠ z := fun e => hS (by rw [e]; exact List.mem_cons_self)
  have st : ZSt z TI TO i1 i2 l1 l2 s.heap.objs.size xs ys 0 s.heap := ⟨hTI, h1, h2, b1, b2, .inl ⟨hz, hTO⟩⟩
  unfold collect
  refine wpAny_bind (wpAny_runValue (codeAny_builtin PySem.F.entry_proto_collect ?_))
  rw [Around.under_plainId PySem.F.plain_proto_collect _]
  show wpAny _ A.in1 (newList [] >>= fun l => again (.builtin "list.__iadd__" ⟨[l, .ref z], []⟩)) _ _ s
  refine wpAny_bind (wpAny_newObj_type ?_)
  refine wpAny_pure ⟨plainId_quiet PySem.F.plain_list_iadd _, codeAny_builtin PySem.F.entry_list_iadd ?_⟩
  rw [Around.under_plainId PySem.F.plain_list_iadd _]
  have st1 := st.frame hS (h' := s.heap.push { cls := .type "list", data := .seq ([] : List Value).toArray }) fun b o _ e => Heap.get?_push_of_some _ e
  have hz1 : IsZip (s.heap.push { cls := .type "list", data := .seq ([] : List Value).toArray }) z TI TO .none := Heap.get?_push_of_some _ hz
  have ty : ({ s with heap := s.heap.push { cls := .type "list", data := .seq ([] : List Value).toArray } } : Shared).TypeIs (.ref z) "zip" := ⟨_, hz1, rfl⟩
  show wpAny _ A.in1 (Builtin.List.listExtendWith (.ref s.heap.objs.size) (.ref z) (.ref s.heap.objs.size)) _ _ _
  unfold Builtin.List.listExtendWith
  refine wpAny_bind (wpAny_typeOf ty ?_)
  have e1 : Builtin.List.listSameRef (.ref s.heap.objs.size) (.ref z) = false := by simp [Builtin.List.listSameRef, hSz]
  have e2 : (Value.type "zip" == Value.type "list") = false := by decide
  have e3 : (Value.type "zip" == Value.type "tuple") = false := by decide
  simp only [e1, e2, e3, Bool.or_false, Bool.false_eq_true, if_false]
  refine wpAny_bind (wpAny_pyIter_zip hz1 ?_)
  refine wpAny_bind (wpAny_holding ?_)
  unfold Builtin.List.listLengthHint
  refine wpAny_bind (wpAny_specialOf ty zip_no_len ?_)
  show wpAny _ A.in1 (specialOf (Value.ref z) (Str.ofString "__length_hint__") >>= _) _ _ _
  refine wpAny_bind (wpAny_specialOf ty zip_no_hint ?_)
  refine wpAny_pure ?_
  show wpAny _ A.in1 (rule "list.extend.makes-room" >>= fun _ => Builtin.List.listTouch (.ref s.heap.objs.size) >>= fun _ =>
    again (.builtin "list.extend.loop" ⟨[.ref s.heap.objs.size, .ref z, .ref s.heap.objs.size], []⟩)) _ _ _
  refine wpAny_bind (wpAny_rule ?_)
  have g1 : (s.heap.push { cls := .type "list", data := .seq ([] : List Value).toArray }).get? s.heap.objs.size = some { cls := .type "list", data := .seq ([] : List Value).toArray } := Heap.get?_push_size _ rfl
  refine wpAny_bind ?_
  show wpAny _ A.in1 (updateSeq s.heap.objs.size (·.push .none) >>= fun _ => updateSeq s.heap.objs.size (·.pop)) _ _ _
  refine wpAny_bind (wpAny_updateSeq g1 rfl ?_)
  have g2 := Heap.get?_update_self (Obj.mapSeq (·.push Value.none)) g1 rfl
  refine wpAny_updateSeq g2 rfl ?_
  have g3 := Heap.get?_update_self (Obj.mapSeq (·.pop)) g2 rfl
  have oth : ∀ b o, b ≠ s.heap.objs.size → (s.heap.push { cls := .type "list", data := .seq ([] : List Value).toArray }).get? b = some o →
      (((s.heap.push { cls := .type "list", data := .seq ([] : List Value).toArray }).update s.heap.objs.size (Obj.mapSeq (·.push Value.none))).update s.heap.objs.size (Obj.mapSeq (·.pop))).get? b = some o :=
    fun b o n e => (Heap.get?_update_other _ _ (Ne.symm n)).trans ((Heap.get?_update_other _ _ (Ne.symm n)).trans e)
  have lt1 : ∀ b ∈ [z, TO, i1, i2, s.heap.objs.size], b < s.heap.objs.size + 1 := fun b hb => by
    simp only [List.mem_cons, List.not_mem_nil, or_false] at hb
    rcases hb with rfl | rfl | rfl | rfl | rfl
    · exact Nat.lt_succ_of_lt (fx _ (by simp))
    · exact Nat.lt_succ_of_lt (fx _ (by simp))
    · exact Nat.lt_succ_of_lt (fx _ (by simp))
    · exact Nat.lt_succ_of_lt (fx _ (by simp))
    · exact Nat.lt_succ_self _
  refine wpAny_pure ⟨plainId_quiet PySem.F.plain_extend_loop _, zip_loop (A := A) hh D hS xs ys hl hsz (s.heap.objs.size + 1) lt1 _ xs.size 0 _ _ _ [] rfl (Nat.zero_le _) (st1.frame hS oth) g3 rfl rfl ⟨(fun j T e => by cases e), (fun T hT => by cases hT), List.Pairwise.nil⟩ ?_ fun h' tk acc c as w1 w2 w3 w4 w5 => ?_⟩
  · rw [Heap.size_update, Heap.size_update, Heap.size_push]
    exact Nat.le_refl _
  · show wpAny _ A (load s.heap.objs.size >>= _) _ _ _
    refine wpAny_bind (wpAny_load w1 ?_)
    refine wpAny_pure (q h' tk acc as w2 w3 w4 fun b o hb e => ?_)
    have nb : b ≠ s.heap.objs.size := Nat.ne_of_lt (Heap.lt_size e)
    refine w5 b o (fun hm => hb ?_) (oth b o nb (Heap.get?_push_of_some _ e))
    simp only [List.mem_cons, List.not_mem_nil, or_false] at hm ⊢
    rcases hm with h | h | h | h | h
    · exact .inl h
    · exact .inr (.inl h)
    · exact .inr (.inr (.inl h))
    · exact .inr (.inr (.inr h))
    · exact absurd h nb
end

section
variable {P : Program} {w : World} {A : Around} {E : Value → Shared → Prop} {s : Shared}
theorem tuple_of_zip {z TI TO i1 i2 l1 l2 : Addr} {xs ys : Array Value} {Q : Value → Shared → Prop} (hh : A.handled = none) (D : ZipApart z TI TO i1 i2 l1 l2) (fx : ∀ b ∈ [z, TI, TO, i1, i2, l1, l2], b < s.heap.objs.size) (hl : xs.size = ys.size) (hsz : xs.size ≤ sizeLine)
    (hz : IsZip s.heap z TI TO .none) (hTI : IsPair s.heap TI (.ref i1) (.ref i2)) (hTO : ∃ a b, IsPair s.heap TO a b) (h1 : s.heap.IsListIter i1 l1 0) (h2 : s.heap.IsListIter i2 l2 0) (b1 : s.heap.IsList l1 xs) (b2 : s.heap.IsList l2 ys)
    (q : ∀ (h' : Heap) (tk : Nat) (acc : Array Value) (as : List Addr), acc.toList = as.map Value.ref → as.length = xs.size → Zmade (s.heap.objs.size + 1) xs ys as h' → (∀ b o, b ∉ [z, TO, i1, i2] → s.heap.get? b = some o → h'.get? b = some o) →
      Q (.ref h'.objs.size) { s with heap := h'.push { cls := .type "tuple", data := .seq acc }, toks := tk }) :
    wpAny (model P w) A (call (.type "tuple") [.ref z]) Q E s := by
  refine callType_codes (Q₁ := fun obj t => t.TypeIs obj "tuple" ∧ Q obj t) PySem.F.called_tuple (PySem.F.typeCall_tuple_1 _) PySem.F.entry_object_init ?_ fun obj t ht =>
    ⟨ht.1, PySem.F.args_object_init_2 obj _, object_init_meets PySem.F.called_tuple.init.lookup PySem.F.called_tuple.made (by decide) P w A.in1 _ t ⟨ht.1, rfl, ht.2⟩⟩
  refine codeAny_of_tree ?_
  show wpAny _ A.in1.in1 (do checkBuiltinCall "tuple.__new__" ⟨[.type "tuple", .ref z], []⟩; again (.builtin "tuple.__new__" ⟨[.type "tuple", .ref z], []⟩)) _ _ s
  refine wpAny_bind (wpAny_of_eq (PySem.F.newCall_tuple_1 _) (wpAny_pure ⟨plainId_quiet PySem.F.plain_tuple_new _, codeAny_builtin PySem.F.entry_tuple_new ?_⟩))
  rw [Around.under_plainId PySem.F.plain_tuple_new _]
  have k1 := sub_tuple_self
  have k2 := init_tuple_lookup
  have k3 := madeHere_tuple
  have k4 : s.TypeIs (.ref z) "zip" := ⟨_, hz, rfl⟩
  wp_walk using wpAny_typeOf k4, collect_zip (A := A.in1.in1) hh D fx hl hsz hz hTI hTO h1 h2 b1 b2
  intro h' tk acc as w1 w2 w3 w4
  show wpAny _ _ (Builtin.Tuple.tupleExact acc.toList.toArray >>= fun v => ret v) _ _ _
  unfold Builtin.Tuple.tupleExact
  have la : acc.size = xs.size := by rw [← w2, ← List.length_map (f := Value.ref) (as := as), ← w1, Array.length_toList]
  refine wpAny_bind (wpAny_newObj_type ?_ (by show acc.toList.toArray.size ≤ sizeLine; simp only [Array.toArray_toList]; omega))
  refine wpAny_pure ?_
  rw [Array.toArray_toList]
  exact ⟨⟨_, Heap.get?_push_size _ rfl, rfl⟩, q h' tk acc as w1 w2 w3 w4⟩
end
/-! ### the rule -/
def putZ : Hp → List Addr → List (V × V) → Hp
  | H, a :: as, p :: r => putZ (upd H a (.tup [p.1, p.2])) as r
  | H, _, _ => H
theorem putZ_off {b : Addr} : ∀ (as : List Addr) (r : List (V × V)) (H : Hp), b ∉ as → putZ H as r b = H b
  | [], _, _, _ => rfl
  | _ :: _, [], _, _ => rfl
  | a :: as, p :: r, H, h => (putZ_off as r _ fun z => h (List.mem_cons_of_mem _ z)).trans (upd_ne fun z => h (by rw [z]; exact List.mem_cons_self))
theorem putZ_on : ∀ (as : List Addr) (r : List (V × V)) (H : Hp), as.Nodup → ∀ (j : Nat) (t : Addr) (x y : V), as[j]? = some t → r[j]? = some (x, y) → putZ H as r t = some (.tup [x, y])
  | a :: as, p :: r, H, n, 0, t, x, y, h1, h2 => by
    cases h1
    cases h2
    exact (putZ_off as r _ (List.nodup_cons.mp n).1).trans upd_same
  | a :: as, p :: r, H, n, j + 1, t, x, y, h1, h2 => putZ_on as r _ (List.nodup_cons.mp n).2 j t x y h1 h2
  | [], _, _, _, _, _, _, _, h1, _ => by cases h1
  | _ :: _, [], _, _, _, _, _, _, _, h2 => by cases h2
def tTupZip (K : PySem.W.Frag) (ta : TA) : TE := fun σ H Q => ta σ H fun vs H1 => ∃ (a b : Addr) (xs ys : List V), vs = [.ref a, .ref b] ∧ SqL K H1 a xs ∧ SqL K H1 b ys ∧ xs.length = ys.length ∧
  ∀ (p : Addr) (ts : List Addr) (H' : Hp), H1 p = none → (∀ t ∈ ts, H1 t = none) → ts.length = xs.length → (∀ b o, H1 b = some o → H' b = some o) → H' p = some (.tup (ts.map V.ref)) →
    (∀ (j : Nat) (t : Addr), ts[j]? = some t → ∃ x y, xs[j]? = some x ∧ ys[j]? = some y ∧ H' t = some (.tup [x, y])) → Q (.ref p) H'

section
variable {X : Cx} {e e2 : Expr} {ta : TA} {p p2 pos pos2 : Pos}
theorem pe_tupZip (hc : X.calm = true) (ha : PA X [e, e2] ta) (hg : Gl X "tuple") (hm : X.mg "tuple" = none) (hv : bootBuiltins "tuple" = some (.type "tuple")) (hg2 : Gl X "zip") (hm2 : X.mg "zip" = none)
    (hs : starEach [.Call (.Name "zip" p2) [e, e2] [] pos2] X.env = (false, eval (.Call (.Name "zip" p2) [e, e2] [] pos2) X.env) :: starEach [] X.env := by rfl)
    (hs2 : starEach [e, e2] X.env = (false, eval e X.env) :: starEach [e2] X.env := by rfl) (hpl : (backTo pos2 (starEach [e2] X.env)).any (·.1) = false := by rfl) :
    PE X (.Call (.Name "tuple" p) [.Call (.Name "zip" p2) [e, e2] [] pos2] [] pos) (tTupZip X.K ta) := by
  refine ⟨fun pins s σ H Q I hq => ?_⟩
  refine wpAny_Call_Name_kw (ld_blt I hg hm hv ?_)
  refine PyProof.Rows.callWith_type1 ?_ hs rfl
  rw [hs]
  show wpAny _ _ (spliced ((false, eval (.Call (.Name "zip" p2) [e, e2] [] pos2) X.env) :: backTo pos (starEach [] X.env))) _ _ s
  refine Calls.spliced_cons ?_
  refine wpAny_Call_Name_kw (ld_blt I hg2 hm2 PyProof.Rows.boot_zip (PyProof.Rows.callWith_type1 (thn (ha.run pos2 pins s σ H _ I hq) fun us s1 ⟨vs, H1, I1, r1, q1⟩ => ?_) hs2 hpl))
  obtain ⟨a, b, xs, ys, ev, hx, hy, hxy, q⟩ := q1
  subst ev
  obtain ⟨u1, u2, rfl, c1, c2⟩ : ∃ u1 u2, us = [u1, u2] ∧ u1 = Value.ref a ∧ u2 = Value.ref b := by
    cases r1 with
    | cons r rr =>
      cases rr with
      | cons r' rr =>
        cases rr
        cases r
        cases r'
        exact ⟨_, _, rfl, rfl, rfl⟩
  subst c1 c2
  obtain ⟨its, rv, q1, z1⟩ := I1.list hx
  obtain ⟨its2, rv2, q2, z2⟩ := I1.list hy
  have l1 := rv.length
  have l2 := rv2.length
  have la : a < s1.heap.objs.size := q1.lt
  have lb : b < s1.heap.objs.size := q2.lt
  refine call_zip_2 q1.isList q2.isList fun h0 hz hTI hTO h1 h2 hsz hk => ?_
  refine Calls.spliced_nil ?_
  have D := PySem.W.ktu_apart s1.heap.objs.size a b la lb
  refine tuple_of_zip (s := { s1 with heap := h0 }) (I1.ok.hd hc) D (fun c hc => ?_) (by simp; omega) (by simp; omega) hz hTI ⟨_, _, hTO⟩ h1 h2 (q1.isList.at fun o e => hk _ o e) (q2.isList.at fun o e => hk _ o e) fun h' tk acc as w1 w2 w3 w4 => ?_
  · show c < h0.objs.size
    rw [hsz]
    simp only [List.mem_cons, List.not_mem_nil, or_false] at hc
    rcases hc with rfl | rfl | rfl | rfl | rfl | rfl | rfl <;> first | exact Nat.add_lt_add_left (by decide) _ | exact Nat.lt_add_of_pos_right (by decide) | exact Nat.lt_of_lt_of_le la (Nat.le_add_right _ _) | exact Nat.lt_of_lt_of_le lb (Nat.le_add_right _ _)
  have hs0 : s1.heap.objs.size ≤ h0.objs.size + 1 := by
    rw [hsz]
    exact Nat.le_add_right _ 6
  have old : ∀ c o, s1.heap.get? c = some o → (h'.push { cls := .type "tuple", data := .seq acc }).get? c = some o := fun c o e => by
    refine Heap.get?_push_of_some _ (w4 c o (fun hm => ?_) (hk c o e))
    have lc := Heap.lt_size e
    simp only [List.mem_cons, List.not_mem_nil, or_false] at hm
    rcases hm with h | h | h | h
    · exact absurd lc (by rw [h]; exact Nat.not_lt.mpr (Nat.le_add_right _ _))
    · exact absurd lc (by rw [h]; exact Nat.not_lt.mpr (Nat.le_add_right _ _))
    · exact absurd lc (by rw [h]; exact Nat.lt_irrefl _)
    · exact absurd lc (by rw [h]; exact Nat.not_lt.mpr (Nat.le_add_right _ _))
  have lo : ∀ t ∈ as, s1.heap.objs.size ≤ t ∧ t < h'.objs.size := fun t ht => ⟨Nat.le_trans hs0 (w3.lo t ht).1, (w3.lo t ht).2⟩
  have hps : s1.heap.objs.size ≤ h'.objs.size := by
    refine Nat.le_trans (Nat.le_add_right _ 2) (Nat.le_of_lt (Heap.lt_size (w4 _ _ (fun hm => ?_) hTI)))
    simp only [List.mem_cons, List.not_mem_nil, or_false] at hm
    rcases hm with h | h | h | h
    · exact D.TIz h
    · exact D.TITO h
    · exact D.TIi1 h
    · exact D.TIi2 h
  have pn : h'.objs.size ∉ as := fun z => Nat.lt_irrefl _ (lo _ z).2
  have nd : as.Nodup := List.Pairwise.imp (fun {a b} (h : a < b) => Nat.ne_of_lt h) w3.up
  have new : ∀ t ∈ as, H1 t = none := fun t ht => I1.hok.fresh (lo t ht).1
  have newp : H1 h'.objs.size = none := I1.hok.fresh hps
  have len : as.length = xs.length := by rw [w2, List.size_toArray, ← l1]
  have zlen : ∀ (j : Nat) (t : Addr), as[j]? = some t → ∃ x y, xs[j]? = some x ∧ ys[j]? = some y ∧ (xs.zip ys)[j]? = some (x, y) := fun j t e => by
    have hj : j < as.length := (List.getElem?_eq_some_iff.mp e).1
    refine ⟨xs[j], ys[j], List.getElem?_eq_getElem (by omega), List.getElem?_eq_getElem (by omega), ?_⟩
    rw [List.getElem?_eq_getElem (by rw [List.length_zip]; omega), List.getElem_zip]
  have off : ∀ c, c ∉ as → c ≠ h'.objs.size → putZ (upd H1 h'.objs.size (.tup (as.map V.ref))) as (xs.zip ys) c = H1 c := fun c n1 n2 => (putZ_off as _ _ n1).trans (upd_ne n2)
  have atp : putZ (upd H1 h'.objs.size (.tup (as.map V.ref))) as (xs.zip ys) h'.objs.size = some (.tup (as.map V.ref)) := (putZ_off as _ _ pn).trans upd_same
  have att : ∀ (j : Nat) (t : Addr), as[j]? = some t → ∃ x y, xs[j]? = some x ∧ ys[j]? = some y ∧ putZ (upd H1 h'.objs.size (.tup (as.map V.ref))) as (xs.zip ys) t = some (.tup [x, y]) := fun j t e => by
    obtain ⟨x, y, e1, e2, e3⟩ := zlen j t e
    exact ⟨x, y, e1, e2, putZ_on as _ _ nd j t x y e e3⟩
  have kp : ∀ c u, H1 c = some u → putZ (upd H1 h'.objs.size (.tup (as.map V.ref))) as (xs.zip ys) c = some u := fun c u e => by
    rw [off c (fun z => by rw [new c z] at e; cases e) (fun z => by rw [z, newp] at e; cases e)]
    exact e
  have low : ∀ c o, s1.heap.get? c = some o → c ∉ as ∧ c ≠ h'.objs.size := fun c o e => ⟨fun z => absurd (Heap.lt_size e) (Nat.not_lt.mpr (lo c z).1), fun z => absurd (Heap.lt_size e) (by rw [z]; exact Nat.not_lt.mpr hps)⟩
  refine ⟨.ref h'.objs.size, putZ (upd H1 h'.objs.size (.tup (as.map V.ref))) as (xs.zip ys), ?_, rfl, q _ as _ newp new len kp atp att⟩
  refine I1.call' (ch := []) rfl ⟨fun b o q _ _ _ => old b o q, fun b o q _ _ _ => ⟨o.slots, old b o q⟩, fun b o q n _ => ?_, fun b o q _ => ⟨o, old b o q⟩, fun b xs q => kp b _ q, fun b o u q => kp b _ q, fun b ps q => ⟨#[], by rw [kp b _ q]; simp⟩⟩ (fun c u e => ?_) I1.bare fun b z => by simp at z
  · obtain ⟨n1, n2⟩ := low b o q
    rw [off b n1 n2]
    exact n
  · by_cases m1 : c ∈ as
    · obtain ⟨j, hj⟩ := List.mem_iff_getElem?.mp m1
      obtain ⟨x, y, e1, e2, e3⟩ := att j c hj
      rw [e3] at e
      cases e
      obtain ⟨v1, v2, g1, g2, g3⟩ := w3.got j c hj
      obtain ⟨t1, k1, r1⟩ := rv.get e1
      obtain ⟨t2, k2, r2⟩ := rv2.get e2
      have i1 : v1 = t1 := by
        have : its[j]? = some v1 := by simpa using g1
        rw [k1] at this
        exact (Option.some.inj this).symm
      have i2 : v2 = t2 := by
        have : its2[j]? = some v2 := by simpa using g2
        rw [k2] at this
        exact (Option.some.inj this).symm
      subst i1 i2
      exact ⟨by show 2 ≤ sizeLine; decide, [v1, v2], .cons r1 (.cons r2 .nil), ⟨_, Heap.get?_push_of_some _ g3, rfl, _, rfl⟩⟩
    · by_cases m2 : c = h'.objs.size
      · subst m2
        rw [atp] at e
        cases e
        have ea : acc.toList.toArray = acc := Array.toArray_toList
        refine ⟨by rw [List.length_map]; omega, acc.toList, by rw [w1]; exact LiI.vals_refs as, ?_⟩
        rw [ea]
        exact ⟨_, Heap.get?_push_size _ rfl, rfl, _, rfl⟩
      · rw [off c m1 m2] at e
        exact (I1.hok c u e).stay (fun d v _ y => old d v y) (fun d y => kp d _ y) fun d xs y => kp d _ y
end

/-! ### enumerate(a tuple) -/
theorem enum_new1 {v : Value} {o : Obj} {G : Heap → Prop} (B : PySem.Begins v o G) :
    Meets (Builtin.«enumerate.__new__» ⟨[.type "enumerate", v], []⟩) (fun _ R s => G s.heap ∧
      R (.ok (.ret (.ref (s.heap.push o).objs.size))) { s with heap := (s.heap.push o).push { cls := .type "enumerate", data := .fields #[.none, .bool false, .ref s.heap.objs.size, rawInt 0, .none, .none] } }) :=
  .of_wp fun prog w A R s h => by
    obtain ⟨hp, gs, dr, tk, os⟩ := s
    obtain ⟨h1, h⟩ := h
    have k1 := sub_enumerate
    have k2 : ∀ {A' : Around} {E : Value → Shared → Prop} {Q : Value → Shared → Prop}, Q (.ref hp.objs.size) ⟨hp.push o, gs, dr, tk, os⟩ → wpAny (model prog w) A' (pyIter v) Q E ⟨hp, gs, dr, tk, os⟩ :=
      fun q => B.iter prog w _ _ ⟨hp, gs, dr, tk, os⟩ _ h1 q
    wp_walk using k2
    refine wpAny_stack_any fun st => wpAny_pure ?_
    split
    · rename_i c _ _ _ _ _
      cases (c == Value.type "enumerate")
      · wp_walk using k2
        exact ⟨_, rfl, h⟩
      · wp_walk using k2
        exact ⟨_, rfl, h⟩
    · wp_walk using k2
      exact ⟨_, rfl, h⟩
section
variable {P : Program} {w : World} {A : Around} {E : Value → Shared → Prop} {s : Shared}
theorem enum_of_tuple {t : Addr} {items : Array Value} {Q : Value → Shared → Prop} (ht : s.heap.IsTuple t items)
    (h : ∀ h', IsEnum h' (s.heap.objs.size + 1) s.heap.objs.size 0 .none → h'.IsTupleIter s.heap.objs.size t 0 → (∀ b o, s.heap.get? b = some o → h'.get? b = some o) → Q (.ref (s.heap.objs.size + 1)) { s with heap := h' }) :
    wpAny (model P w) A (call (.type "enumerate") [.ref t]) Q E s := by
  have B := PySem.begins_tuple t items
  refine callType_new PySem.F.called_enumerate (by decide) (PySem.F.typeCall_enumerate_1 _) (PySem.F.newCall_enumerate_1 _) (fun obj => PySem.F.args_object_init_2 obj _) PySem.F.entry_enumerate_new (enum_new1 B) ⟨ht, ?_⟩
  generalize ho : ({ cls := .type "tuple_iterator", data := .fields #[.ref t, .int 0 0] } : Obj) = o
  have hz : (s.heap.push o).objs.size = s.heap.objs.size + 1 := Heap.size_push ..
  show _ ∧ _
  rw [hz]
  have he : IsEnum ((s.heap.push o).push { cls := .type "enumerate", data := .fields #[.none, .bool false, .ref s.heap.objs.size, rawInt 0, .none, .none] }) (s.heap.objs.size + 1) s.heap.objs.size 0 .none := by
    have e := Heap.get?_push_size (s.heap.push o) (o := { cls := .type "enumerate", data := .fields #[.none, .bool false, .ref s.heap.objs.size, rawInt 0, .none, .none] }) rfl
    rwa [hz] at e
  refine ⟨⟨_, he, rfl⟩, h _ he ?_ fun b o x => Heap.get?_push_of_some _ (Heap.get?_push_of_some _ x)⟩
  subst ho
  exact ⟨_, Heap.get?_push_of_some _ (Heap.get?_push_size _ rfl), rfl, rfl⟩
end
def IteT (K : PySem.W.Frag) (a : Addr) : It :=
  ⟨fun i H => ∃ (xs : List V) (x : V), SqT K H a xs ∧ xs[i]? = some x, fun i H v H' => ∃ T x, v = .ref T ∧ H T = none ∧ H' = upd H T (.tup [.int (i : Nat), x]) ∧ ∀ xs, SqT K H a xs → xs[i]? = some x, fun i H => ∃ xs : List V, SqT K H a xs ∧ xs.length = i⟩
theorem turn_enumT {P : Program} {w : World} {K : PySem.W.Frag} {elts : List Expr} {kk : Nat} {tpos : Pos} (a e it : Addr) (hae : a ≠ e) (hai : a ≠ it) :
    Turn P w K (.Tuple elts kk tpos) (IteT K a) [e, it] e (fun i h => (∃ old, IsEnum h e it ((i : Nat) : Int) old) ∧ h.IsTupleIter it a i ∧ e ≠ it) where
  mem := by simp
  obj := fun i h st b hb => by
    obtain ⟨⟨old, he⟩, ⟨o, ho, hc, hd⟩, _⟩ := st
    rcases (show b = e ∨ b = it by simpa using hb) with rfl | rfl
    · exact ⟨_, he, fun v q => nomatch q⟩
    · exact ⟨o, ho, fun v q => by rw [hd] at q; cases q⟩
  keep := fun i h h' st k => let ⟨⟨old, he⟩, hi, hne⟩ := st; ⟨⟨old, k e (by simp) _ he⟩, hi.at fun o q => k it (by simp) o q, hne⟩
  item := by
    intro X hP hw hK hc i pins s σ H E I hf st hg
    subst hP hw hK
    obtain ⟨⟨old, he⟩, hit, hne⟩ := st
    obtain ⟨xs, x, hq, hx⟩ := hg
    obtain ⟨its, rv, p, hz⟩ := I.tuple hq
    obtain ⟨u, hu, ru⟩ := rv.get hx
    have hu' : its.toArray[i]? = some u := by simpa using hu
    have hlt : i < its.toArray.size := (Array.getElem?_eq_some_iff.mp hu').1
    have D := PySem.Draws.tuple (prog := X.prog) (w := X.w) (A := X.A.in1) (I.ok.hd hc) it a hai its.toArray
    have hel : e < s.heap.objs.size := Heap.lt_size he
    have hil : it < s.heap.objs.size := let ⟨_, q, _⟩ := hit; Heap.lt_size q
    refine wpAny_pyNext_enum_itemD D he ⟨hit, p⟩ hlt hne (by simp [hne, Ne.symm hae]) fun y h' tk hy ho hst hT hsz hk => ?_
    have ey : y = u := by rw [hu'] at hy; exact (Option.some.inj hy).symm
    subst ey
    refine ⟨_, rfl, wpAny_letOwnedTupleGo_enum (s := { s with heap := h', toks := tk + 1 }) ho fun h'' he' sb => ?_⟩
    have hT2 : h''.get? s.heap.objs.size = some { cls := .type "tuple", data := .seq #[.int i tk, y] } := (sb.2 _ (Nat.ne_of_gt hel)).trans hT
    have new : ObjOk X.prog X.w (upd H s.heap.objs.size (.tup [.int (i : Nat), x])) h'' s.heap.objs.size (.tup [.int (i : Nat), x]) :=
      ⟨by show 2 ≤ sizeLine; decide, [.int i tk, y], .cons ⟨_, rfl⟩ (.cons ru .nil), ⟨_, hT2, rfl, _, rfl⟩⟩
    have I1 : Inv X pins σ (upd H s.heap.objs.size (.tup [.int (i : Nat), x])) { s with heap := h'', toks := tk + 1 } :=
      I.turnedNew (ch := [e, it]) (fun b ob hb q => (sb.2 b (fun z => hb (by simp [z]))).trans (hk b ob (fun z => hb (by simp [z])) (fun z => hb (by simp [z])) q)) hf (Nat.le_refl _) new
    refine ⟨.ref s.heap.objs.size, _, I1, rfl, ⟨_, x, rfl, I.hok.fresh (Nat.le_refl _), rfl, fun ys hy => by rw [I.tuple_inj hy hq]; exact hx⟩, ⟨⟨y, ?_⟩, hst.1.at fun o q => (sb.2 it (Ne.symm hne)).trans q, hne⟩, fun b hb => ?_⟩
    · rw [show ((i + 1 : Nat) : Int) = (i : Int) + 1 by omega]
      exact he'
    · have hb' : b < s.heap.objs.size := by
        rcases (show b = e ∨ b = it by simpa using hb) with rfl | rfl
        · exact hel
        · exact hil
      rw [upd_ne (Nat.ne_of_lt hb')]
      exact (hf b hb).1
  done := by
    intro X hP hw hK hc i pins s σ H E I hf st hg
    subst hP hw hK
    obtain ⟨⟨old, he⟩, hit, hne⟩ := st
    obtain ⟨xs, hq, hx⟩ := hg
    obtain ⟨its, rv, p, hz⟩ := I.tuple hq
    have hl := rv.length
    have D := PySem.Draws.tuple (prog := X.prog) (w := X.w) (A := X.A.in1) (I.ok.hd hc) it a hai its.toArray
    obtain ⟨f0, f1, f2, f3, f4, f5⟩ := hf it (by simp)
    refine wpAny_pyNext_enum_endD D he ⟨?_, p⟩ fun h' eb => ⟨rfl, I.turned (t' := s.toks) (fun b o hb q => eb b o hb q) f0 f1 f3 f4 f5⟩
    rw [List.size_toArray, ← hl, hx]
    exact hit
  self := fun A i s Q E st h => let ⟨⟨_, he⟩, _⟩ := st; wpAny_pyIter_enum he h
def iEnumT (K : PySem.W.Frag) (ta : TA) : TI := fun σ H R => ta σ H fun vs H1 => ∃ a xs, vs = [.ref a] ∧ SqT K H1 a xs ∧ R (IteT K a) H1
theorem pi_enumT {X : Cx} {e : Expr} {ta : TA} {p pos tpos : Pos} {elts : List Expr} {kk : Nat} (hg : Gl X "enumerate") (hm : X.mg "enumerate" = none) (ha : PA X [e] ta) (hs : starEach [e] X.env = [(false, eval e X.env)] := by rfl) :
    PI X (.Tuple elts kk tpos) (.Call (.Name "enumerate" p) [e] [] pos) (iEnumT X.K ta) := by
  refine ⟨fun pins s σ H R I h => ?_⟩
  refine wpAny_Call_Name_kw (ld_blt I hg hm boot_enumerate (PyProof.Rows.callWith_type1 (thn (ha.run pos pins s σ H _ I h) fun us s1 ⟨vs, H1, I1, r1, q1⟩ => ?_) hs rfl))
  obtain ⟨a, xs, ex, hq, q⟩ := q1
  subst ex
  rw [Vals.ref1 r1]
  obtain ⟨its, rv, pt, hz⟩ := I1.tuple hq
  have la : a < s1.heap.objs.size := let ⟨_, ho, _⟩ := pt; Heap.lt_size ho
  refine enum_of_tuple (show s1.heap.IsTuple a its.toArray from pt) fun h' he hit hk => wpAny_pyIter_enum he ?_
  have I2 : Inv X pins σ H1 { s1 with heap := h' } := I1.kept (t' := s1.toks) hk
  refine ⟨s1.heap.objs.size + 1, [s1.heap.objs.size + 1, s1.heap.objs.size], _, _, H1, rfl, I2, turn_enumT a (s1.heap.objs.size + 1) s1.heap.objs.size (Nat.ne_of_lt (Nat.lt_succ_of_lt la)) (Nat.ne_of_lt la), ⟨⟨.none, he⟩, hit, Nat.succ_ne_self _⟩, fun b hb => ?_, q⟩
  have hle : s1.heap.objs.size ≤ b := by
    rcases (show b = s1.heap.objs.size + 1 ∨ b = s1.heap.objs.size by simpa using hb) with z | z
    · rw [z]; exact Nat.le_add_right _ _
    · rw [z]; exact Nat.le_refl _
  exact I1.fpOk hle (I1.hok.fresh hle)
theorem for_enumT {K : PySem.W.Frag} {a : Addr} {xs : List V} {g : TG} {tb : L2.TS} {D : Ends} {σ : L2.St} {H : Hp} (Pv : Nat → L2.St → Hp → Prop) (h0 : Pv 0 σ H) (hl : ∀ i σ H, i ≤ xs.length → Pv i σ H → SqT K H a xs)
    (hs : ∀ (i : Nat) (x : V) (T : Addr) (σ : L2.St) (H : Hp), xs[i]? = some x → Pv i σ H → H T = none → g (.ref T) σ (upd H T (.tup [.int (i : Nat), x])) fun σ2 H2 => tb { D with nx := Pv (i + 1), ct := Pv (i + 1), bk := D.nx } σ2 H2) (hd : ∀ σ H, Pv xs.length σ H → D.nx σ H) :
    ∃ W : Nat → Nat → L2.St → Hp → Prop, (∃ m, W 0 m σ H) ∧ ∀ i m σ H, W i m σ H →
      ((IteT K a).stop i H ∧ D.nx σ H) ∨ ((IteT K a).go i H ∧ ∃ N : L2.St → Hp → Prop, (∀ σ' H', N σ' H' → ∃ m', m' < m ∧ W (i + 1) m' σ' H') ∧ ∀ y H', (IteT K a).yld i H y H' → g y σ H' fun σ2 H2 => tb { D with nx := N, ct := N, bk := D.nx } σ2 H2) := by
  refine ⟨fun i m σ H => m = xs.length - i ∧ i ≤ xs.length ∧ Pv i σ H, ⟨xs.length, rfl, Nat.zero_le _, h0⟩, ?_⟩
  rintro i m σ H ⟨rfl, hi, p⟩
  have q := hl i σ H hi p
  by_cases hlt : i < xs.length
  · refine .inr ⟨⟨xs, xs[i], q, List.getElem?_eq_getElem hlt⟩, Pv (i + 1), fun σ' H' p' => ⟨xs.length - (i + 1), by omega, rfl, hlt, p'⟩, fun y H' hy => ?_⟩
    obtain ⟨T, x, rfl, hT, rfl, hx⟩ := hy
    exact hs i x T σ H (hx xs q) p hT
  · have e : i = xs.length := by omega
    refine .inl ⟨⟨xs, q, e.symm⟩, hd σ H ?_⟩
    rw [← e]
    exact p

/-! ### tuples whose one object is known (so that their methods can be called) -/
section
variable {X : Cx}
def Fz (H : Hp) (p : Addr) (ys : List V) : Prop := ∃ o : Obj, H p = some (.frz o (.tup ys)) ∧ o.dict = none
theorem Fz.sq {K : PySem.W.Frag} {H : Hp} {p : Addr} {ys : List V} (h : Fz H p ys) : SqT K H p ys := by
  obtain ⟨o, h, _⟩ := h
  exact .inl (.inr ⟨o, h⟩)
theorem Fz.same {H H' : Hp} {p : Addr} {ys : List V} (h : Fz H p ys) (s : Same H H') : Fz H' p ys := by
  obtain ⟨o, h, d⟩ := h
  exact ⟨o, s _ _ h, d⟩
theorem call_tuple_fz : CallR X (.type "tuple") (fun xs H Q => ∃ p ys, xs = [.ref p] ∧ SqL X.K H p ys ∧ ∀ l o, H l = none → Fz (upd H l o) l ys → Q (.ref l) (upd H l o)) := by
  intro pins s σ H xs us Q I r h
  obtain ⟨p, ys, rfl, hq, q⟩ := h
  obtain ⟨u, rfl, rx⟩ := vals1 r
  cases rx
  obtain ⟨its, r', pl, hz⟩ := I.list hq
  have hlen := r'.length
  refine call_tuple_list pl.isList (fun h' kp => ?_) (by simp only [List.size_toArray] <;> omega)
  have I1 : Inv X pins σ H { s with heap := h' } := I.kept (t' := s.toks) kp
  have I2 : Inv X pins σ (upd H h'.objs.size (.frz { cls := .type "tuple", data := .seq its.toArray } (.tup ys))) { s with heap := h'.push { cls := .type "tuple", data := .seq its.toArray } } :=
    I1.laid (t' := s.toks) (fun b o e => Heap.get?_push_of_some _ e) (Nat.le_refl _) (show ObjOk X.prog X.w _ _ _ (.frz _ (.tup ys)) from ⟨Heap.get?_push_size _ rfl, hz, its, r', IsTup.new _ _⟩)
  exact ⟨.ref h'.objs.size, _, I2, rfl, q _ _ (I1.hok.fresh (Nat.le_refl _)) ⟨_, upd_same, rfl⟩⟩
def tBMT (r : V → List V → Hp → VK → Prop) (to : TE) (t : TA) : TE := fun σ H Q => to σ H fun x H1 => ∃ p ys, x = .ref p ∧ Fz H1 p ys ∧ t σ H1 fun vs H2 => r x vs H2 Q
theorem pe_bmT {name : Str} {id : String} {r : V → List V → Hp → VK → Prop} {o e : Expr} {es : List Expr} {to : TE} {t : TA} {apos cpos : Pos} (slot : Slot "tuple" name id) (hty : typeOf (.builtin id) = pure (.type "method_descriptor")) (hm : MtR X id r) (ho : PE X o to) (ha : PA X (e :: es) t)
    (hbase : attributeBase o name X.env (eval o X.env) = eval o X.env := by rfl)
    (hfew : ((backTo cpos (starEach (e :: es) X.env)).all (fun x => !x.1) && (backToKw cpos (keywordEach [] X.env)).all (fun x => x.1.isSome)
      && decide ((e :: es).length + ([] : List Keyword).length + (if ([] : List Keyword).isEmpty then 0 else 1) < 30)) = true := by rfl)
    (hline : (apos.endLine == cpos.line) = true := by rfl) (hs : starEach (e :: es) X.env = (false, eval e X.env) :: starEach es X.env := by rfl) (hplain : (backTo cpos (starEach es X.env)).any (·.1) = false := by rfl) :
    PE X (.Call (.Attribute o name apos) (e :: es) [] cpos) (tBMT r to t) := by
  refine ⟨fun pins s σ H Q I h => ?_⟩
  refine wpAny_Call_method_late hbase hfew hline rfl (thn (ho.run pins s σ H _ I h) fun v s1 ⟨x, H1, I1, r1, p, ys, ex, fz, q1⟩ => ?_)
  subst ex
  obtain ⟨ob, hob, hdn⟩ := fz
  obtain rfl : v = Value.ref p := r1
  obtain ⟨e1, _, its, rv, o2, e2, hc, _⟩ := I1.hok p _ hob
  refine ⟨"tuple", id, PySem.F.plainAttrs_tuple, slot, hty, ⟨o2, e2, hc⟩, (fun a ea => by cases ea; exact ⟨ob, e1, hdn⟩), ?_⟩
  have hA := ha.run cpos pins s1 σ H1 _ I1 q1
  rw [hs] at hA ⊢
  refine Calls.callWith_builtin (by show (false || (backTo cpos (starEach es X.env)).any (·.1)) = false; rw [hplain] <;> rfl) (Calls.evalArgs_plain ?_)
  exact thn hA fun us s2 ⟨vs, H2, I2, r2, q2⟩ => hm pins s2 σ H2 (.ref p) vs (.ref p) us Q I2 rfl r2 q2
end

/-! ### the value layer: what names hold, without the heap -/
/-- an item of a list of lists -/
inductive Itm where
  | d (x : PyData)
  | l (ys : List PyData)
inductive Cel where
  | no
  | dat (d : PyData)
  | own (xs : List PyData)
  | arg (xs : List PyData)
  /-- a list of one's own whose items may be lists of one's own; the same while one of these is at work -/
  | box (xs : List Itm)
  | pnd (xs : List Itm)
  /-- a dict of one's own, its values data -/
  | dic (kvs : List (Key × PyData))
  /-- a dict of one's own, its keys rows of ints -/
  | dit (kvs : List (List Int × PyData))
  /-- a locked dict that is being walked -/
  | lck (o : Obj) (ws : List (List Key × V)) (kvs : List (List Int × PyData))
  /-- an error at a that is handled, its dict at d, what stands in it -/
  | exn (a d : Addr) (fs : List (Str × PyData))
  /-- two tuples that are walked together, the second one at b -/
  | two (b : Addr) (xs ys : List PyData)
  | drw
  | bor (i : Nat)
  /-- the k-th list in the list of slot i -/
  | sub (i k : Nat)
abbrev PEnv := List Cel
abbrev Stk := List (V × Cel)
def FzV (H : Hp) (v : V) : Prop := ∃ p ys, v = .ref p ∧ Fz H p ys
/-- a row of ints, as a dict's key -/
abbrev ikey (ks : List Int) : List Key := ks.map Sum.inl
mutual
/-- data in a heap; the lists in it stand at places of Z, which nobody writes; .dict [(_, t)] is a tuple t whose methods may be called -/
def Da (K : PySem.W.Frag) (Z : Addr → Prop) (H : Hp) : PyData → V → Prop
  | .none, v => v = .non
  | .bool b, v => v = .bl b
  | .int i, v => v = .int i
  | .str x, v => v = .str x
  | .tuple ds, v => ∃ a xs, v = .ref a ∧ SqT K H a xs ∧ DaAll K Z H ds xs
  | .list ds, v => ∃ a xs, v = .ref a ∧ Z a ∧ H a = some (.lst xs) ∧ DaAll K Z H ds xs
  | .dict kvs, v => DaKv K Z H kvs v
def DaAll (K : PySem.W.Frag) (Z : Addr → Prop) (H : Hp) : List PyData → List V → Prop
  | [], xs => xs = []
  | d :: ds, xs => ∃ v r, xs = v :: r ∧ Da K Z H d v ∧ DaAll K Z H ds r
def DaKv (K : PySem.W.Frag) (Z : Addr → Prop) (H : Hp) : List (PyData × PyData) → V → Prop
  | [], _ => False
  | (.bool _, _) :: r, v => ∃ (a : Addr) (o : Obj) (ws : List (List Key × V)), v = .ref a ∧ H a = some (.frz o (.dT ws)) ∧ DaEs K Z H r ws
  | (.int _, d) :: _, v => ∃ (a : Addr) (ks : List Int), v = .ref a ∧ H a = some (.tup (ks.map V.int)) ∧ d = .tuple (ks.map .int)
  | p :: _, v => DaPr K Z H p v
/-- a frozen dict's pairs -/
def DaEs (K : PySem.W.Frag) (Z : Addr → Prop) (H : Hp) : List (PyData × PyData) → List (List Key × V) → Prop
  | [], ws => ws = []
  | (k, d) :: r, ws => ∃ (v : V) (t : List (List Key × V)) (ks : List Int), ws = (ikey ks, v) :: t ∧ k = .tuple (ks.map .int) ∧ Da K Z H d v ∧ DaEs K Z H r t
def DaPr (K : PySem.W.Frag) (Z : Addr → Prop) (H : Hp) : PyData × PyData → V → Prop
  | (_, d), v => Da K Z H d v ∧ FzV H v
end
/-- a tuple whose methods may be called -/
def ftp (ds : List PyData) : PyData := .dict [(.none, .tuple ds)]
/-- a tuple of ints that may be a dict's key -/
def keyD (ks : List Int) : PyData := .dict [(.int 0, .tuple (ks.map .int))]
/-- a dict that nobody writes any more -/
def dicD (kvs : List (List Int × PyData)) : PyData := .dict ((.bool true, .none) :: kvs.map fun p => (.tuple (p.1.map .int), p.2))
/-- what may be written -/
def WrO (o : HO) : Prop := (∃ xs, o = .lst xs) ∨ (∃ kvs, o = .dK kvs) ∨ ∃ kvs, o = .dT kvs
/-- data stays -/
structure Mv (K : PySem.W.Frag) (Z : Addr → Prop) (H : Hp) (Z' : Addr → Prop) (H' : Hp) : Prop where
  tup : ∀ a xs, SqT K H a xs → SqT K H' a xs
  lst : ∀ a xs, Z a → H a = some (.lst xs) → Z' a ∧ H' a = some (.lst xs)
  fz : ∀ a xs, Fz H a xs → Fz H' a xs
  tb : ∀ a, GxR.TabG H a → GxR.TabG H' a
  ky : ∀ a xs, H a = some (.tup xs) → H' a = some (.tup xs)
  dt : ∀ a o ws, H a = some (.frz o (.dT ws)) → H' a = some (.frz o (.dT ws))
  xd : ∀ a fs, H a = some (.xd fs) → H' a = some (.xd fs)
theorem FzV.mv {K : PySem.W.Frag} {Z Z' : Addr → Prop} {H H' : Hp} (m : Mv K Z H Z' H') {v : V} : FzV H v → FzV H' v := fun ⟨p, ys, e, h⟩ => ⟨p, ys, e, m.fz p ys h⟩
mutual
theorem Da.mv {K : PySem.W.Frag} {Z Z' : Addr → Prop} {H H' : Hp} (m : Mv K Z H Z' H') : ∀ (d : PyData) (v : V), Da K Z H d v → Da K Z' H' d v
  | .none, _, h => h
  | .bool _, _, h => h
  | .int _, _, h => h
  | .str _, _, h => h
  | .tuple ds, _, ⟨a, xs, e, h1, h2⟩ => ⟨a, xs, e, m.tup _ _ h1, DaAll.mv m ds xs h2⟩
  | .list ds, _, ⟨a, xs, e, z, h1, h2⟩ => ⟨a, xs, e, (m.lst _ _ z h1).1, (m.lst _ _ z h1).2, DaAll.mv m ds xs h2⟩
  | .dict kvs, v, h => DaKv.mv m kvs v h
theorem DaAll.mv {K : PySem.W.Frag} {Z Z' : Addr → Prop} {H H' : Hp} (m : Mv K Z H Z' H') : ∀ (ds : List PyData) (xs : List V), DaAll K Z H ds xs → DaAll K Z' H' ds xs
  | [], _, h => h
  | d :: ds, _, ⟨v, r, e, h1, h2⟩ => ⟨v, r, e, Da.mv m d v h1, DaAll.mv m ds r h2⟩
theorem DaKv.mv {K : PySem.W.Frag} {Z Z' : Addr → Prop} {H H' : Hp} (m : Mv K Z H Z' H') : ∀ (kvs : List (PyData × PyData)) (v : V), DaKv K Z H kvs v → DaKv K Z' H' kvs v
  | [], _, h => h
  | (.bool _, _) :: r, _, ⟨a, o, ws, e, h1, h2⟩ => ⟨a, o, ws, e, m.dt _ _ _ h1, DaEs.mv m r ws h2⟩
  | (.int _, d) :: _, v, ⟨a, ks, e, h1, h2⟩ => ⟨a, ks, e, m.ky _ _ h1, h2⟩
  | (.none, d) :: _, v, h => DaPr.mv m (.none, d) v h
  | (.str x, d) :: _, v, h => DaPr.mv m (.str x, d) v h
  | (.tuple x, d) :: _, v, h => DaPr.mv m (.tuple x, d) v h
  | (.list x, d) :: _, v, h => DaPr.mv m (.list x, d) v h
  | (.dict x, d) :: _, v, h => DaPr.mv m (.dict x, d) v h
theorem DaEs.mv {K : PySem.W.Frag} {Z Z' : Addr → Prop} {H H' : Hp} (m : Mv K Z H Z' H') : ∀ (kvs : List (PyData × PyData)) (ws : List (List Key × V)), DaEs K Z H kvs ws → DaEs K Z' H' kvs ws
  | [], _, h => h
  | (k, d) :: r, _, ⟨v, t, ks, e, e2, h1, h2⟩ => ⟨v, t, ks, e, e2, Da.mv m d v h1, DaEs.mv m r t h2⟩
theorem DaPr.mv {K : PySem.W.Frag} {Z Z' : Addr → Prop} {H H' : Hp} (m : Mv K Z H Z' H') : ∀ (p : PyData × PyData) (v : V), DaPr K Z H p v → DaPr K Z' H' p v
  | (_, d), v, h => ⟨Da.mv m d v h.1, FzV.mv m h.2⟩
end
mutual
theorem Da.dp {K : PySem.W.Frag} {Z : Addr → Prop} {H : Hp} : ∀ (d : PyData) (v : V), PyData.canLay0 d = true → Da K Z H d v → Dp K H v d
  | .none, _, _, h => by cases h; exact .non
  | .bool b, _, _, h => by cases h; exact .bl b
  | .int i, _, _, h => by cases h; exact .int i
  | .str x, _, _, h => by cases h; exact .str x
  | .tuple ds, _, l, ⟨a, xs, e, h1, h2⟩ => by subst e; exact .tup h1 (DaAll.dp ds xs l h2)
  | .list ds, _, l, ⟨a, xs, e, _, h1, h2⟩ => by subst e; exact .lst (SqL.of h1) (DaAll.dp ds xs l h2)
  | .dict _, _, l, _ => by cases l
theorem DaAll.dp {K : PySem.W.Frag} {Z : Addr → Prop} {H : Hp} : ∀ (ds : List PyData) (xs : List V), PyData.canLayAll0 ds = true → DaAll K Z H ds xs → DpAll K H xs ds
  | [], _, _, h => by cases h; exact .nil
  | d :: ds, _, l, ⟨v, r, e, h1, h2⟩ => by
    have l' : (PyData.canLay0 d && PyData.canLayAll0 ds) = true := l
    rw [Bool.and_eq_true] at l'
    subst e
    exact .cons (Da.dp d v l'.1 h1) (DaAll.dp ds r l'.2 h2)
end
section
variable {K : PySem.W.Frag} {Z Z' : Addr → Prop} {H H' : Hp}
theorem Mv.ofT (W : Addr → Prop) (k : ∀ b o, H b = some o → (∀ ps, o ≠ .tbl ps) → ¬ W b → H' b = some o) (w : ∀ b, W b → ∃ o, H b = some o ∧ WrO o ∧ ¬ Z b) (z : ∀ a, Z a → Z' a) (tb : ∀ a, GxR.TabG H a → GxR.TabG H' a) : Mv K Z H Z' H' := by
  refine ⟨fun a xs h => ?_, fun a xs hz h => ⟨z _ hz, ?_⟩, fun a xs ⟨o, h, hd⟩ => ⟨o, k a _ h (fun _ z => by cases z) fun h' => ?_, hd⟩, tb, fun a xs h => k a _ h (fun _ z => by cases z) fun h' => ?_, fun a o ws h => k a _ h (fun _ z => by cases z) fun h' => ?_, fun a fs h => k a _ h (fun _ z => by cases z) fun h' => ?_⟩
  · have nw : ∀ o, H a = some o → ¬ WrO o → (∀ ps, o ≠ .tbl ps) → H' a = some o := fun o e n n2 => k a o e n2 fun h => by
      obtain ⟨o', e2, w', _⟩ := w a h
      rw [e] at e2
      cases e2
      exact n w'
    rcases h with (h | ⟨o, h⟩) | h
    · exact .inl (.inl (nw _ h (by rintro (⟨_, z⟩ | ⟨_, z⟩ | ⟨_, z⟩) <;> cases z) fun _ z => by cases z))
    · exact .inl (.inr ⟨o, nw _ h (by rintro (⟨_, z⟩ | ⟨_, z⟩ | ⟨_, z⟩) <;> cases z) fun _ z => by cases z⟩)
    · exact .inr h
  · have nw : ¬ W a := fun h => by
      obtain ⟨_, _, _, n⟩ := w a h
      exact n hz
    exact k _ _ h (fun _ z => by cases z) nw
  · obtain ⟨o', e2, w', _⟩ := w a h'
    rw [h] at e2
    cases e2
    rcases w' with ⟨_, z⟩ | ⟨_, z⟩ | ⟨_, z⟩ <;> cases z
  · obtain ⟨o', e2, w', _⟩ := w a h'
    rw [h] at e2
    cases e2
    rcases w' with ⟨_, z⟩ | ⟨_, z⟩ | ⟨_, z⟩ <;> cases z
  · obtain ⟨o', e2, w', _⟩ := w a h'
    rw [h] at e2
    cases e2
    rcases w' with ⟨_, z⟩ | ⟨_, z⟩ | ⟨_, z⟩ <;> cases z
  · obtain ⟨o', e2, w', _⟩ := w a h'
    rw [h] at e2
    cases e2
    rcases w' with ⟨_, z⟩ | ⟨_, z⟩ | ⟨_, z⟩ <;> cases z
theorem Mv.ofW (W : Addr → Prop) (k : ∀ b o, H b = some o → ¬ W b → H' b = some o) (w : ∀ b, W b → ∃ o, H b = some o ∧ WrO o ∧ ¬ Z b) (z : ∀ a, Z a → Z' a) : Mv K Z H Z' H' :=
  Mv.ofT W (fun b o e _ n => k b o e n) w z fun a ⟨ps, e, t⟩ => ⟨ps, k a _ e (fun h => by
    obtain ⟨o', e2, w', _⟩ := w a h
    rw [e] at e2
    cases e2
    rcases w' with ⟨_, z⟩ | ⟨_, z⟩ | ⟨_, z⟩
    · cases z
    · cases z
    · cases z), t⟩
theorem Mv.of (W : Addr → Prop) (k : ∀ b o, H b = some o → ¬ W b → H' b = some o) (w : ∀ b, W b → ∃ xs, H b = some (.lst xs) ∧ ¬ Z b) (z : ∀ a, Z a → Z' a) : Mv K Z H Z' H' :=
  Mv.ofW W k (fun b h => by
    obtain ⟨xs, e, n⟩ := w b h
    exact ⟨_, e, .inl ⟨xs, rfl⟩, n⟩) z
theorem Mv.same (s : Same H H') (z : ∀ a, Z a → Z' a) : Mv K Z H Z' H' := Mv.of (fun _ => False) (fun b o e _ => s b o e) (fun _ h => h.elim) z
theorem Mv.wr {l : Addr} {xs : List V} {o : HO} (h : H l = some (.lst xs)) (n : ¬ Z l) : Mv K Z H Z (upd H l o) :=
  Mv.of (fun b => b = l) (fun b u e n => upd_else e n) (fun b e => by subst e; exact ⟨xs, h, n⟩) fun _ z => z
theorem DaAll.len : ∀ (ds : List PyData) (xs : List V), DaAll K Z H ds xs → xs.length = ds.length
  | [], _, h => by cases h; rfl
  | _ :: ds, _, ⟨v, r, e, _, h2⟩ => by subst e; exact congrArg Nat.succ (DaAll.len ds r h2)
theorem DaAll.app : ∀ (ds es : List PyData) (xs ys : List V), DaAll K Z H ds xs → DaAll K Z H es ys → DaAll K Z H (ds ++ es) (xs ++ ys)
  | [], _, _, _, h, k => by cases h; exact k
  | _ :: ds, es, _, ys, ⟨v, r, e, h1, h2⟩, k => by subst e; exact ⟨v, r ++ ys, rfl, h1, DaAll.app ds es r ys h2 k⟩
theorem DaAll.ints : ∀ ks : List Int, DaAll K Z H (ks.map .int) (ks.map V.int)
  | [] => rfl
  | i :: ks => ⟨.int i, ks.map V.int, rfl, rfl, DaAll.ints ks⟩
theorem DaAll.one {d : PyData} {v : V} (h : Da K Z H d v) : DaAll K Z H [d] [v] := ⟨v, [], rfl, h, rfl⟩
theorem DaAll.tk : ∀ (n : Nat) (ds : List PyData) (xs : List V), DaAll K Z H ds xs → DaAll K Z H (ds.take n) (xs.take n)
  | 0, _, _, _ => by simp only [List.take_zero]; exact rfl
  | _ + 1, [], _, h => by cases h; exact rfl
  | n + 1, _ :: ds, _, ⟨v, r, e, h1, h2⟩ => by subst e; exact ⟨v, r.take n, rfl, h1, DaAll.tk n ds r h2⟩
theorem DaAll.dr : ∀ (n : Nat) (ds : List PyData) (xs : List V), DaAll K Z H ds xs → DaAll K Z H (ds.drop n) (xs.drop n)
  | 0, _, _, h => h
  | _ + 1, [], _, h => by cases h; exact rfl
  | n + 1, _ :: ds, _, ⟨v, r, e, h1, h2⟩ => by subst e; exact DaAll.dr n ds r h2
theorem DaAll.at : ∀ (i : Nat) (ds : List PyData) (xs : List V) (d : PyData), DaAll K Z H ds xs → ds[i]? = some d → ∃ v, xs[i]? = some v ∧ Da K Z H d v
  | _, [], _, _, _, e => by simp at e
  | 0, _ :: ds, _, d, ⟨v, r, e, h1, h2⟩, k => by
    subst e
    simp at k
    subst k
    exact ⟨v, rfl, h1⟩
  | i + 1, _ :: ds, _, d, ⟨v, r, e, h1, h2⟩, k => by
    subst e
    obtain ⟨u, e1, e2⟩ := DaAll.at i ds r d h2 (by simpa using k)
    exact ⟨u, by simpa using e1, e2⟩
theorem DaAll.at' : ∀ (i : Nat) (ds : List PyData) (xs : List V) (v : V), DaAll K Z H ds xs → xs[i]? = some v → ∃ d, ds[i]? = some d ∧ Da K Z H d v := fun i ds xs v h e => by
  have l := h.len
  have hi : i < ds.length := by
    have := (List.getElem?_eq_some_iff.mp e).1
    omega
  obtain ⟨u, e1, e2⟩ := DaAll.at i ds xs _ h (List.getElem?_eq_getElem hi)
  rw [e] at e1
  cases e1
  exact ⟨_, List.getElem?_eq_getElem hi, e2⟩
theorem DaAll.set : ∀ (i : Nat) (ds : List PyData) (xs : List V) (d : PyData) (v : V), DaAll K Z H ds xs → Da K Z H d v → DaAll K Z H (ds.set i d) (xs.set i v)
  | _, [], _, _, _, h, _ => by cases h; exact rfl
  | 0, _ :: ds, _, d, v, ⟨u, r, e, h1, h2⟩, k => by subst e; exact ⟨v, r, rfl, k, h2⟩
  | i + 1, _ :: ds, _, d, v, ⟨u, r, e, h1, h2⟩, k => by subst e; exact ⟨u, r.set i v, rfl, h1, DaAll.set i ds r d v h2 k⟩
theorem DaAll.ins : ∀ (ds es : List PyData) (xs ys : List V), DaAll K Z H ds xs → DaAll K Z H es ys → DaAll K Z H (ds ++ es) (xs ++ ys) := DaAll.app
end
/-- what stays the same through a def's run -/
structure Gam where
  dc : Option (Addr × Addr)
  H0 : Hp
  Z0 : Addr → Prop
  M0 : Addr → Prop
  V0 : List V
  /-- the tables of code objects, which may grow -/
  tbs : List Addr
structure Gam.Ok (G : Gam) : Prop where
  w1 : ∀ a, G.Z0 a → G.H0 a ≠ none
  w2 : ∀ a, G.M0 a → ¬ G.Z0 a ∧ ∃ o, G.H0 a = some o ∧ WrO o
  w3 : ∀ d c, G.dc = some (d, c) → ¬ G.Z0 d ∧ ¬ G.Z0 c ∧ ¬ G.M0 d ∧ ¬ G.M0 c ∧ G.H0 d ≠ none ∧ G.H0 c ≠ none
/-- the addresses of the lists in a list -/
def subs : List Itm → List V → List Addr
  | .l _ :: xs, .ref b :: vs => b :: subs xs vs
  | _ :: xs, _ :: vs => subs xs vs
  | _, _ => []
def ItAll (K : PySem.W.Frag) (Z : Addr → Prop) (H : Hp) : List Itm → List V → Prop
  | [], vs => vs = []
  | .d x :: xs, vs => ∃ v r, vs = v :: r ∧ Da K Z H x v ∧ ItAll K Z H xs r
  | .l ys :: xs, vs => ∃ b us r, vs = .ref b :: r ∧ H b = some (.lst us) ∧ DaAll K Z H ys us ∧ ItAll K Z H xs r
/-- what a cell owns -/
def celFoot (H : Hp) (p : Cel) (ov : Option V) : List Addr := match p, ov with
  | .own _, some (.ref a) => [a]
  | .arg _, some (.ref a) => [a]
  | .box xs, some (.ref a) => a :: (match H a with
    | some (.lst vs) => subs xs vs
    | _ => [])
  | .pnd xs, some (.ref a) => a :: (match H a with
    | some (.lst vs) => subs xs vs
    | _ => [])
  | .dic _, some (.ref a) => [a]
  | .dit _, some (.ref a) => [a]
  | _, _ => []
def OwnS (H : Hp) (σ : L2.St) (env : PEnv) (i : Nat) (b : Addr) : Prop := ∃ ov p, σ[i]? = some ov ∧ env[i]? = some p ∧ b ∈ celFoot H p ov
def OwnT (H : Hp) (t : V × Cel) (b : Addr) : Prop := b ∈ celFoot H t.2 (some t.1)
def BoxOk (K : PySem.W.Frag) (G : Gam) (Z : Addr → Prop) (H : Hp) (ov : Option V) (xs : List Itm) : Prop := ∃ a vs, ov = some (.ref a) ∧ H a = some (.lst vs) ∧ ItAll K Z H xs vs ∧ (∀ b ∈ a :: subs xs vs, ¬ Z b ∧ G.H0 b = none) ∧ (a :: subs xs vs).Nodup
/-- a dict's pairs -/
def KvAll (K : PySem.W.Frag) (Z : Addr → Prop) (H : Hp) : List (Key × PyData) → List (Key × V) → Prop
  | [], ws => ws = []
  | p :: kvs, ws => ∃ v r, ws = (p.1, v) :: r ∧ Da K Z H p.2 v ∧ KvAll K Z H kvs r
/-- the same, its keys rows of ints -/
def KtAll (K : PySem.W.Frag) (Z : Addr → Prop) (H : Hp) : List (List Int × PyData) → List (List Key × V) → Prop
  | [], ws => ws = []
  | p :: kvs, ws => ∃ v r, ws = (ikey p.1, v) :: r ∧ Da K Z H p.2 v ∧ KtAll K Z H kvs r
/-- an error's fields -/
def XdAll (K : PySem.W.Frag) (Z : Addr → Prop) (H : Hp) : List (Str × PyData) → List (Str × V) → Prop
  | [], ws => ws = []
  | p :: kvs, ws => ∃ v r, ws = (p.1, v) :: r ∧ Da K Z H p.2 v ∧ XdAll K Z H kvs r
def CelOk (K : PySem.W.Frag) (G : Gam) (Z : Addr → Prop) (H : Hp) : Option V → Cel → Prop
  | _, .no => True
  | ov, .dat d => ∃ v, ov = some v ∧ Da K Z H d v
  | ov, .own xs => ∃ a vs, ov = some (.ref a) ∧ H a = some (.lst vs) ∧ DaAll K Z H xs vs ∧ ¬ Z a ∧ G.H0 a = none
  | ov, .arg xs => ∃ a vs, ov = some (.ref a) ∧ H a = some (.lst vs) ∧ DaAll K Z H xs vs ∧ ¬ Z a ∧ G.M0 a
  | ov, .box xs => BoxOk K G Z H ov xs
  | ov, .pnd xs => BoxOk K G Z H ov xs
  | ov, .dic kvs => ∃ a ws, ov = some (.ref a) ∧ H a = some (.dK ws) ∧ KvAll K Z H kvs ws ∧ ¬ Z a ∧ G.H0 a = none
  | ov, .dit kvs => ∃ a ws, ov = some (.ref a) ∧ H a = some (.dT ws) ∧ KtAll K Z H kvs ws ∧ ¬ Z a ∧ G.H0 a = none
  | ov, .lck o ws kvs => ∃ a, ov = some (.ref a) ∧ H a = some (.frz o (.dT ws)) ∧ KtAll K Z H kvs ws
  | ov, .exn a d fs => ∃ ws, ov = some (.ref a) ∧ H d = some (.xd ws) ∧ XdAll K Z H fs ws
  | ov, .two b xs ys => ∃ v, ov = some v ∧ Da K Z H (.tuple xs) v ∧ Da K Z H (.tuple ys) (.ref b)
  | ov, .drw => ∃ d c, G.dc = some (d, c) ∧ ov = some (.ref d)
  | ov, .bor _ => ∃ v, ov = some v
  | ov, .sub _ _ => ∃ v, ov = some v
/-- may be borrowed -/
def Lendable : Cel → Prop
  | .own _ => True
  | .arg _ => True
  | .box _ => True
  | .pnd _ => True
  | .dic _ => True
  | .dit _ => True
  | .dat (.list _) => True
  | _ => False
structure StZ (K : PySem.W.Frag) (G : Gam) (Z : Addr → Prop) (H : Hp) (σ : L2.St) (env : PEnv) (T : Stk) : Prop where
  gok : G.Ok
  sl : ∀ (i : Nat) (p : Cel), env[i]? = some p → ∃ ov : Option V, σ[i]? = some ov ∧ CelOk K G Z H ov p
  tm : ∀ t ∈ T, CelOk K G Z H (some t.1) t.2
  bo : ∀ t ∈ T, ∀ i : Nat, t.2 = Cel.bor i → σ[i]? = some (some t.1) ∧ ∃ c, env[i]? = some c ∧ Lendable c
  pn : ∀ t ∈ T, ∀ i k : Nat, t.2 = Cel.sub i k → ∃ a vs xs, σ[i]? = some (some (.ref a)) ∧ env[i]? = some (Cel.pnd xs) ∧ H a = some (.lst vs) ∧ vs[k]? = some t.1
  pu : T.Pairwise (fun t u => ∀ i k k', t.2 = Cel.sub i k → u.2 ≠ Cel.sub i k')
  s1 : ∀ i j a, OwnS H σ env i a → OwnS H σ env j a → i = j
  s2 : T.Pairwise (fun t u => ∀ a, OwnT H t a → ¬ OwnT H u a)
  s3 : ∀ i a t, OwnS H σ env i a → t ∈ T → ¬ OwnT H t a
  ta : ∀ t ∈ T, ∀ xs, t.2 ≠ Cel.arg xs
  ar : ∀ (j : Nat) xs, env[j]? = some (Cel.arg xs) → ∃ v : V, G.V0[j]? = some v ∧ σ[j]? = some (some v)
  z1 : ∀ a, G.Z0 a → Z a
  z2 : ∀ a, Z a → G.Z0 a ∨ G.H0 a = none
  z3 : ∀ a, Z a → H a ≠ none
  fr : ∀ b o, G.H0 b = some o → (∀ ps, o ≠ .tbl ps) → ¬ G.M0 b → (∀ d c, G.dc = some (d, c) → b ≠ d) → H b = some o
  al : ∀ b, G.H0 b ≠ none → H b ≠ none
  dr : ∀ d c, G.dc = some (d, c) → Dr d c H
  tb : ∀ b, GxR.TabG G.H0 b → GxR.TabG H b
  tk : ∀ b ∈ G.tbs, GxR.TabG H b
def StE (K : PySem.W.Frag) (G : Gam) (H : Hp) (σ : L2.St) (env : PEnv) (T : Stk) : Prop := ∃ Z, StZ K G Z H σ env T

section
variable {K : PySem.W.Frag} {G : Gam} {Z Z' : Addr → Prop} {H H' : Hp} {σ : L2.St} {env : PEnv} {T : Stk}
def OwnA (H : Hp) (σ : L2.St) (env : PEnv) (T : Stk) (a : Addr) : Prop := (∃ i, OwnS H σ env i a) ∨ ∃ t ∈ T, OwnT H t a
theorem ItAll.subs_at : ∀ {xs : List Itm} {vs : List V} {b : Addr}, ItAll K Z H xs vs → b ∈ subs xs vs → ∃ us, H b = some (.lst us)
  | [], _, _, h, hb => by cases h; cases hb
  | .d x :: xs, _, b, ⟨v, r, e, h1, h2⟩, hb => by subst e; exact ItAll.subs_at h2 hb
  | .l ys :: xs, _, b, ⟨c, us, r, e, h1, h2, h3⟩, hb => by
    subst e
    rcases List.mem_cons.mp hb with rfl | hb
    · exact ⟨us, h1⟩
    · exact ItAll.subs_at h3 hb
theorem ItAll.mv (m : Mv K Z H Z' H') : ∀ {xs : List Itm} {vs : List V}, (∀ b us, b ∈ subs xs vs → H b = some (.lst us) → H' b = some (.lst us)) → ItAll K Z H xs vs → ItAll K Z' H' xs vs
  | [], _, _, h => h
  | .d x :: xs, _, k, ⟨v, r, e, h1, h2⟩ => by subst e; exact ⟨v, r, rfl, Da.mv m _ _ h1, ItAll.mv m k h2⟩
  | .l ys :: xs, _, k, ⟨c, us, r, e, h1, h2, h3⟩ => by
    subst e
    exact ⟨c, us, r, rfl, k c us List.mem_cons_self h1, DaAll.mv m _ _ h2, ItAll.mv m (fun b us hb => k b us (List.mem_cons_of_mem _ hb)) h3⟩
theorem ItAll.len : ∀ {xs : List Itm} {vs : List V}, ItAll K Z H xs vs → vs.length = xs.length
  | [], _, h => by cases h; rfl
  | .d x :: xs, _, ⟨v, r, e, h1, h2⟩ => by subst e; exact congrArg Nat.succ (ItAll.len h2)
  | .l ys :: xs, _, ⟨c, us, r, e, h1, h2, h3⟩ => by subst e; exact congrArg Nat.succ (ItAll.len h3)
theorem BoxOk.foot {ov : Option V} {xs : List Itm} (h : BoxOk K G Z H ov xs) : ∃ a vs, ov = some (.ref a) ∧ H a = some (.lst vs) ∧ celFoot H (.box xs) ov = a :: subs xs vs ∧ celFoot H (.pnd xs) ov = a :: subs xs vs := by
  obtain ⟨a, vs, rfl, h1, _⟩ := h
  have e : ∀ z : List V, H a = some (.lst z) → (a :: (match H a with | some (.lst vs) => subs xs vs | _ => [])) = a :: subs xs z := fun z h => by rw [h]
  exact ⟨a, vs, rfl, h1, e vs h1, e vs h1⟩
/-- what is owned is a list, not frozen, one's own or handed down -/
theorem CelOk.own {ov : Option V} {p : Cel} {b : Addr} (h : CelOk K G Z H ov p) (hb : b ∈ celFoot H p ov) : (∃ o, H b = some o ∧ WrO o) ∧ ¬ Z b ∧ (G.H0 b = none ∨ G.M0 b) := by
  have bx : ∀ {xs}, BoxOk K G Z H ov xs → (∃ a vs, ov = some (.ref a) ∧ H a = some (.lst vs) ∧ b ∈ a :: subs xs vs) → (∃ o, H b = some o ∧ WrO o) ∧ ¬ Z b ∧ (G.H0 b = none ∨ G.M0 b) := fun {xs} ⟨a, vs, e, h1, h2, h3, _⟩ ⟨a', vs', e', h1', hm⟩ => by
    rw [e] at e'
    cases e'
    rw [h1] at h1'
    cases h1'
    refine ⟨?_, (h3 b hm).1, .inl (h3 b hm).2⟩
    rcases List.mem_cons.mp hm with rfl | hm
    · exact ⟨_, h1, .inl ⟨vs, rfl⟩⟩
    · obtain ⟨us, e⟩ := ItAll.subs_at h2 hm
      exact ⟨_, e, .inl ⟨us, rfl⟩⟩
  cases p with
  | own xs =>
    obtain ⟨a, vs, rfl, h1, h2, h3, h4⟩ := h
    rw [List.mem_singleton.mp hb]
    exact ⟨⟨_, h1, .inl ⟨vs, rfl⟩⟩, h3, .inl h4⟩
  | arg xs =>
    obtain ⟨a, vs, rfl, h1, h2, h3, h4⟩ := h
    rw [List.mem_singleton.mp hb]
    exact ⟨⟨_, h1, .inl ⟨vs, rfl⟩⟩, h3, .inr h4⟩
  | box xs =>
    obtain ⟨a, vs, e, h1, e1, e2⟩ := BoxOk.foot h
    exact bx h ⟨a, vs, e, h1, e1 ▸ hb⟩
  | pnd xs =>
    obtain ⟨a, vs, e, h1, e1, e2⟩ := BoxOk.foot h
    exact bx h ⟨a, vs, e, h1, e2 ▸ hb⟩
  | dic kvs =>
    obtain ⟨a, ws, rfl, h1, h2, h3, h4⟩ := h
    rw [List.mem_singleton.mp hb]
    exact ⟨⟨_, h1, .inr (.inl ⟨ws, rfl⟩)⟩, h3, .inl h4⟩
  | dit kvs =>
    obtain ⟨a, ws, rfl, h1, h2, h3, h4⟩ := h
    rw [List.mem_singleton.mp hb]
    exact ⟨⟨_, h1, .inr (.inr ⟨ws, rfl⟩)⟩, h3, .inl h4⟩
  | _ => cases ov <;> cases hb
theorem KvAll.mv (m : Mv K Z H Z' H') : ∀ (kvs : List (Key × PyData)) (ws : List (Key × V)), KvAll K Z H kvs ws → KvAll K Z' H' kvs ws
  | [], _, h => h
  | _ :: kvs, _, ⟨v, r, e, h1, h2⟩ => ⟨v, r, e, Da.mv m _ _ h1, KvAll.mv m kvs r h2⟩
theorem KtAll.mv (m : Mv K Z H Z' H') : ∀ (kvs : List (List Int × PyData)) (ws : List (List Key × V)), KtAll K Z H kvs ws → KtAll K Z' H' kvs ws
  | [], _, h => h
  | _ :: kvs, _, ⟨v, r, e, h1, h2⟩ => ⟨v, r, e, Da.mv m _ _ h1, KtAll.mv m kvs r h2⟩
theorem XdAll.mv (m : Mv K Z H Z' H') : ∀ (kvs : List (Str × PyData)) (ws : List (Str × V)), XdAll K Z H kvs ws → XdAll K Z' H' kvs ws
  | [], _, h => h
  | _ :: kvs, _, ⟨v, r, e, h1, h2⟩ => ⟨v, r, e, Da.mv m _ _ h1, XdAll.mv m kvs r h2⟩
/-- a cell stays as it is -/
theorem CelOk.mv {ov : Option V} {p : Cel} (m : Mv K Z H Z' H') (kp : ∀ b o, b ∈ celFoot H p ov → H b = some o → H' b = some o) (nz : ∀ b ∈ celFoot H p ov, ¬ Z' b) (h : CelOk K G Z H ov p) : CelOk K G Z' H' ov p ∧ celFoot H' p ov = celFoot H p ov := by
  cases p with
  | no => exact ⟨trivial, by cases ov <;> rfl⟩
  | dat d => obtain ⟨v, e, h⟩ := h; exact ⟨⟨v, e, Da.mv m _ _ h⟩, by cases ov <;> rfl⟩
  | own xs =>
    obtain ⟨a, vs, rfl, h1, h2, h3, h4⟩ := h
    exact ⟨⟨a, vs, rfl, kp a _ List.mem_cons_self h1, DaAll.mv m _ _ h2, nz a List.mem_cons_self, h4⟩, rfl⟩
  | arg xs =>
    obtain ⟨a, vs, rfl, h1, h2, h3, h4⟩ := h
    exact ⟨⟨a, vs, rfl, kp a _ List.mem_cons_self h1, DaAll.mv m _ _ h2, nz a List.mem_cons_self, h4⟩, rfl⟩
  | box xs =>
    obtain ⟨a, vs, e, h1, e1, _⟩ := BoxOk.foot h
    obtain ⟨a', vs', e', h1', h2, h3, h4⟩ := h
    rw [e] at e'
    cases e'
    rw [h1] at h1'
    cases h1'
    rw [e1] at kp nz
    have k1 := kp a _ List.mem_cons_self h1
    have ok : BoxOk K G Z' H' ov xs := ⟨a, vs, e, k1, ItAll.mv m (fun b us hb => kp b _ (List.mem_cons_of_mem _ hb)) h2, fun b hb => ⟨nz b hb, (h3 b hb).2⟩, h4⟩
    refine ⟨ok, ?_⟩
    rw [e1]
    subst e
    show a :: (match H' a with | some (.lst vs) => subs xs vs | _ => []) = _
    rw [k1]
  | pnd xs =>
    obtain ⟨a, vs, e, h1, _, e1⟩ := BoxOk.foot h
    obtain ⟨a', vs', e', h1', h2, h3, h4⟩ := h
    rw [e] at e'
    cases e'
    rw [h1] at h1'
    cases h1'
    rw [e1] at kp nz
    have k1 := kp a _ List.mem_cons_self h1
    have ok : BoxOk K G Z' H' ov xs := ⟨a, vs, e, k1, ItAll.mv m (fun b us hb => kp b _ (List.mem_cons_of_mem _ hb)) h2, fun b hb => ⟨nz b hb, (h3 b hb).2⟩, h4⟩
    refine ⟨ok, ?_⟩
    rw [e1]
    subst e
    show a :: (match H' a with | some (.lst vs) => subs xs vs | _ => []) = _
    rw [k1]
  | dic kvs =>
    obtain ⟨a, ws, rfl, h1, h2, h3, h4⟩ := h
    exact ⟨⟨a, ws, rfl, kp a _ List.mem_cons_self h1, KvAll.mv m _ _ h2, nz a List.mem_cons_self, h4⟩, rfl⟩
  | dit kvs =>
    obtain ⟨a, ws, rfl, h1, h2, h3, h4⟩ := h
    exact ⟨⟨a, ws, rfl, kp a _ List.mem_cons_self h1, KtAll.mv m _ _ h2, nz a List.mem_cons_self, h4⟩, rfl⟩
  | lck o ws kvs =>
    obtain ⟨a, rfl, h1, h2⟩ := h
    exact ⟨⟨a, rfl, m.dt _ _ _ h1, KtAll.mv m _ _ h2⟩, rfl⟩
  | two b xs ys =>
    obtain ⟨v, rfl, h1, h2⟩ := h
    exact ⟨⟨v, rfl, Da.mv m _ _ h1, Da.mv m _ _ h2⟩, by cases v <;> rfl⟩
  | exn a d fs =>
    obtain ⟨ws, rfl, h1, h2⟩ := h
    exact ⟨⟨ws, rfl, m.xd _ _ h1, XdAll.mv m _ _ h2⟩, rfl⟩
  | drw => exact ⟨h, by cases ov <;> rfl⟩
  | bor i => exact ⟨h, by cases ov <;> rfl⟩
  | sub i k => exact ⟨h, by cases ov <;> rfl⟩
theorem StZ.ownS (s : StZ K G Z H σ env T) {i : Nat} {a : Addr} (o : OwnS H σ env i a) : (∃ o, H a = some o ∧ WrO o) ∧ ¬ Z a ∧ (G.H0 a = none ∨ G.M0 a) := by
  obtain ⟨ov, p, e1, e2, hb⟩ := o
  obtain ⟨ov', e3, ok⟩ := s.sl i p e2
  rw [e1] at e3
  cases e3
  exact ok.own hb
theorem StZ.own_any (s : StZ K G Z H σ env T) {a : Addr} (o : OwnA H σ env T a) : ∃ u, (G.H0 a = none ∨ G.M0 a) ∧ H a = some u ∧ ¬ Z a := by
  rcases o with ⟨i, o⟩ | ⟨t, ht, o⟩
  · obtain ⟨⟨us, h1, _⟩, h2, h3⟩ := s.ownS o
    exact ⟨us, h3, h1, h2⟩
  · obtain ⟨⟨us, h1, _⟩, h2, h3⟩ := (s.tm t ht).own o
    exact ⟨us, h3, h1, h2⟩
theorem Gam.Ok.ne (g : G.Ok) {a d c : Addr} (h : G.H0 a = none ∨ G.M0 a) (e : G.dc = some (d, c)) : a ≠ d ∧ a ≠ c := by
  obtain ⟨_, _, h1, h2, h3, h4⟩ := g.w3 d c e
  rcases h with h | h
  · exact ⟨fun e => h3 (e ▸ h), fun e => h4 (e ▸ h)⟩
  · exact ⟨fun e => h1 (e ▸ h), fun e => h2 (e ▸ h)⟩
theorem StZ.zd (s : StZ K G Z H σ env T) {d c : Addr} (e : G.dc = some (d, c)) : ¬ Z d ∧ ¬ Z c := by
  obtain ⟨h1, h2, _, _, h3, h4⟩ := s.gok.w3 d c e
  exact ⟨fun z => (s.z2 _ z).elim h1 h3, fun z => (s.z2 _ z).elim h2 h4⟩
theorem StZ.h0 (s : StZ K G Z H σ env T) {a : Addr} (h : H a = none) : G.H0 a = none := by
  cases q : G.H0 a with
  | none => rfl
  | some o => exact absurd h (s.al a (by rw [q]; exact fun z => by cases z))
theorem StZ.move (s : StZ K G Z H σ env T) (m : Mv K Z H Z' H') (ow : ∀ a o, OwnA H σ env T a → H a = some o → H' a = some o) (on : ∀ a, OwnA H σ env T a → ¬ Z' a)
    (z1 : ∀ a, Z a → Z' a) (z2 : ∀ a, Z' a → Z a ∨ G.H0 a = none) (z3 : ∀ a, Z' a → H' a ≠ none)
    (fr : ∀ b o, H b = some o → G.H0 b = some o → (∀ ps, o ≠ .tbl ps) → ¬ G.M0 b → (∀ d c, G.dc = some (d, c) → b ≠ d) → H' b = some o) (al : ∀ b, H b ≠ none → H' b ≠ none) (dr : ∀ d c, G.dc = some (d, c) → Dr d c H') : StZ K G Z' H' σ env T := by
  have S : ∀ {i p ov}, env[i]? = some p → σ[i]? = some ov → CelOk K G Z H ov p → CelOk K G Z' H' ov p ∧ celFoot H' p ov = celFoot H p ov := fun {i p ov} e e1 ok =>
    ok.mv m (fun b us hb => ow b us (.inl ⟨i, ov, p, e1, e, hb⟩)) fun b hb => on b (.inl ⟨i, ov, p, e1, e, hb⟩)
  have Tm : ∀ {t}, t ∈ T → CelOk K G Z' H' (some t.1) t.2 ∧ celFoot H' t.2 (some t.1) = celFoot H t.2 (some t.1) := fun {t} ht =>
    (s.tm t ht).mv m (fun b us hb => ow b us (.inr ⟨t, ht, hb⟩)) fun b hb => on b (.inr ⟨t, ht, hb⟩)
  have bS : ∀ {i a}, OwnS H' σ env i a → OwnS H σ env i a := fun {i a} ⟨ov, p, e1, e2, hb⟩ => by
    obtain ⟨ov', e3, ok⟩ := s.sl i p e2
    rw [e1] at e3
    cases e3
    rw [(S e2 e1 ok).2] at hb
    exact ⟨ov, p, e1, e2, hb⟩
  have bT : ∀ {t a}, t ∈ T → OwnT H' t a → OwnT H t a := fun {t a} ht hb => by
    unfold OwnT at hb ⊢
    rw [(Tm ht).2] at hb
    exact hb
  refine ⟨s.gok, fun i p e => ?_, fun t ht => (Tm ht).1, s.bo, fun t ht i k e => ?_, s.pu, fun i j a o1 o2 => s.s1 i j a (bS o1) (bS o2), ?_, fun i a t o ht o2 => s.s3 i a t (bS o) ht (bT ht o2), s.ta, s.ar, fun a h => z1 a (s.z1 a h), fun a h => (z2 a h).elim (s.z2 a) .inr, z3, fun b o e n0 n1 n2 => fr b o (s.fr b o e n0 n1 n2) e n0 n1 n2, fun b e => al b (s.al b e), dr, fun b h => m.tb b (s.tb b h), fun b h => m.tb b (s.tk b h)⟩
  · obtain ⟨ov, e1, ok⟩ := s.sl i p e
    exact ⟨ov, e1, (S e e1 ok).1⟩
  · obtain ⟨a, vs, xs, e1, e2, h1, h2⟩ := s.pn t ht i k e
    refine ⟨a, vs, xs, e1, e2, ow a _ (.inl ⟨i, some (.ref a), .pnd xs, e1, e2, List.mem_cons_self⟩) h1, h2⟩
  · exact s.s2.imp_of_mem fun {t u} ht hu h a o1 o2 => h a (bT ht o1) (bT hu o2)
theorem upd_some {H : Hp} {a b : Addr} {o : HO} (h : H b ≠ none) : upd H a o b ≠ none := by
  unfold upd
  split
  · exact fun z => by cases z
  · exact h
theorem StZ.alloc (s : StZ K G Z H σ env T) {p : Addr} (o : HO) (hp : H p = none) : StZ K G Z (upd H p o) σ env T :=
  s.move (Mv.same (same_new hp) fun _ z => z) (fun a vs _ e => same_new hp _ _ e) (fun a oa => by obtain ⟨_, _, _, n⟩ := s.own_any oa; exact n)
    (fun _ z => z) (fun _ z => .inl z) (fun a z => upd_some (s.z3 a z)) (fun b u e _ _ _ _ => same_new hp _ _ e) (fun b e => upd_some e) fun d c e => (s.dr d c e).new hp
theorem StZ.push (s : StZ K G Z H σ env T) {v : V} {p : Cel} (ok : CelOk K G Z H (some v) p) (h1 : ∀ i, p ≠ Cel.bor i) (h0 : ∀ i k, p ≠ Cel.sub i k) (h2 : ∀ xs, p ≠ Cel.arg xs) (sep : ∀ a, a ∈ celFoot H p (some v) → ¬ OwnA H σ env T a) : StZ K G Z H σ env ((v, p) :: T) where
  gok := s.gok
  sl := s.sl
  tm := fun t ht => by
    rcases List.mem_cons.mp ht with rfl | ht
    · exact ok
    · exact s.tm t ht
  bo := fun t ht i e => by
    rcases List.mem_cons.mp ht with rfl | ht
    · exact absurd e (h1 i)
    · exact s.bo t ht i e
  pn := fun t ht i k e => by
    rcases List.mem_cons.mp ht with rfl | ht
    · exact absurd e (h0 i k)
    · exact s.pn t ht i k e
  pu := List.pairwise_cons.mpr ⟨fun u hu i k k' e => absurd e (h0 i k), s.pu⟩
  s1 := s.s1
  s2 := List.pairwise_cons.mpr ⟨fun u hu a o1 o2 => sep a o1 (.inr ⟨u, hu, o2⟩), s.s2⟩
  s3 := fun i a t o ht o2 => by
    rcases List.mem_cons.mp ht with rfl | ht
    · exact sep a o2 (.inl ⟨i, o⟩)
    · exact s.s3 i a t o ht o2
  ta := fun t ht xs => by
    rcases List.mem_cons.mp ht with rfl | ht
    · exact h2 xs
    · exact s.ta t ht xs
  ar := s.ar
  z1 := s.z1
  z2 := s.z2
  z3 := s.z3
  fr := s.fr
  al := s.al
  dr := s.dr
  tb := s.tb
  tk := s.tk
theorem StZ.dat (s : StZ K G Z H σ env T) {v : V} {d : PyData} (h : Da K Z H d v) : StZ K G Z H σ env ((v, .dat d) :: T) :=
  s.push ⟨v, rfl, h⟩ (fun _ e => by cases e) (fun _ _ e => by cases e) (fun _ e => by cases e) fun a o => by cases o
theorem StZ.drw (s : StZ K G Z H σ env T) {d c : Addr} (h : G.dc = some (d, c)) : StZ K G Z H σ env ((.ref d, .drw) :: T) :=
  s.push ⟨d, c, h, rfl⟩ (fun _ e => by cases e) (fun _ _ e => by cases e) (fun _ e => by cases e) fun a o => by cases o
/-- a new tuple -/
theorem StZ.newTup (s : StZ K G Z H σ env T) {p : Addr} {ds : List PyData} {vs : List V} (hp : H p = none) (h : DaAll K Z H ds vs) : StZ K G Z (upd H p (.tup vs)) σ env ((.ref p, .dat (.tuple ds)) :: T) :=
  (s.alloc _ hp).dat ⟨p, vs, rfl, SqT.of upd_same, DaAll.mv (Mv.same (same_new hp) fun _ z => z) _ _ h⟩
theorem StZ.fresh (s : StZ K G Z H σ env T) {p : Addr} (hp : H p = none) : ¬ OwnA H σ env T p := fun oa => by
  obtain ⟨vs, _, e2, _⟩ := s.own_any oa
  rw [hp] at e2
  cases e2
/-- a new list -/
theorem StZ.newLst (s : StZ K G Z H σ env T) {p : Addr} {ds : List PyData} {vs : List V} (hp : H p = none) (h : DaAll K Z H ds vs) : StZ K G Z (upd H p (.lst vs)) σ env ((.ref p, .own ds) :: T) := by
  have s2 := s.alloc (.lst vs) hp
  refine s2.push ⟨p, vs, rfl, upd_same, DaAll.mv (Mv.same (same_new hp) fun _ z => z) _ _ h, fun z => s.z3 p z hp, s.h0 hp⟩ (fun _ e => by cases e) (fun _ _ e => by cases e) (fun _ e => by cases e) fun a o oa => ?_
  rw [List.mem_singleton.mp o] at oa
  refine s.fresh hp ?_
  rcases oa with ⟨i, ov, q, e1, e2, hb⟩ | ⟨t, ht, hb⟩
  · obtain ⟨ov', e3, ok⟩ := s.sl i q e2
    rw [e1] at e3
    cases e3
    have kp := (ok.mv (Mv.same (same_new (o := .lst vs) hp) fun _ z => z) (fun b us _ e => same_new hp _ _ e) fun b hb => (ok.own hb).2.1).2
    rw [kp] at hb
    exact .inl ⟨i, ov, q, e1, e2, hb⟩
  · have ok := s.tm t ht
    have kp := (ok.mv (Mv.same (same_new (o := .lst vs) hp) fun _ z => z) (fun b us _ e => same_new hp _ _ e) fun b hb => (ok.own hb).2.1).2
    unfold OwnT at hb
    rw [kp] at hb
    exact .inr ⟨t, ht, hb⟩
theorem StZ.sub {T' : Stk} (s : StZ K G Z H σ env T) (h : T'.Sublist T) : StZ K G Z H σ env T' :=
  ⟨s.gok, s.sl, fun t ht => s.tm t (h.subset ht), fun t ht => s.bo t (h.subset ht), fun t ht => s.pn t (h.subset ht), s.pu.sublist h, s.s1, s.s2.sublist h, fun i a t o ht => s.s3 i a t o (h.subset ht), fun t ht => s.ta t (h.subset ht), s.ar, s.z1, s.z2, s.z3, s.fr, s.al, s.dr, s.tb, s.tk⟩
theorem StZ.pop {t : V × Cel} (s : StZ K G Z H σ env (t :: T)) : StZ K G Z H σ env T := s.sub (List.sublist_cons_self _ _)
theorem StZ.topDat {v : V} {d : PyData} (s : StZ K G Z H σ env ((v, .dat d) :: T)) : Da K Z H d v := by
  obtain ⟨w, e, h⟩ := s.tm _ (List.mem_cons_self)
  cases e
  exact h
theorem StZ.topSep {t : V × Cel} (s : StZ K G Z H σ env (t :: T)) {a : Addr} (o : OwnT H t a) : ¬ OwnA H σ env T a := by
  rintro (⟨i, o2⟩ | ⟨u, hu, o2⟩)
  · exact s.s3 i a _ o2 List.mem_cons_self o
  · exact (List.pairwise_cons.mp s.s2).1 u hu a o o2
theorem StZ.topOwn {v : V} {xs : List PyData} (s : StZ K G Z H σ env ((v, .own xs) :: T)) : ∃ a vs, v = .ref a ∧ H a = some (.lst vs) ∧ DaAll K Z H xs vs ∧ ¬ Z a ∧ G.H0 a = none ∧ ¬ OwnA H σ env T a := by
  obtain ⟨a, vs, e, h1, h2, h3, h4⟩ := s.tm _ (List.mem_cons_self)
  cases e
  exact ⟨a, vs, rfl, h1, h2, h3, h4, s.topSep (t := (.ref a, .own xs)) List.mem_cons_self⟩
theorem StZ.topDrw {v : V} (s : StZ K G Z H σ env ((v, .drw) :: T)) : ∃ d c, v = .ref d ∧ G.dc = some (d, c) := by
  obtain ⟨d, c, h, e⟩ := s.tm _ (List.mem_cons_self)
  cases e
  exact ⟨d, c, rfl, h⟩
/-- lists that nobody will write any more -/
theorem StZ.frzL {F : List Addr} (s : StZ K G Z H σ env T) (h1 : ∀ a ∈ F, H a ≠ none ∧ G.H0 a = none ∧ ¬ OwnA H σ env T a) : StZ K G (fun b => Z b ∨ b ∈ F) H σ env T := by
  refine s.move (Mv.same (Same.refl _) fun _ z => .inl z) (fun _ _ _ e => e) (fun b ob z => ?_) (fun _ z => .inl z) (fun b z => ?_) (fun b z => ?_) (fun b o e _ _ _ _ => e) (fun _ e => e) s.dr
  · obtain ⟨_, _, _, n⟩ := s.own_any ob
    rcases z with z | z
    · exact n z
    · exact (h1 b z).2.2 ob
  · exact z.elim .inl fun z => .inr (h1 b z).2.1
  · exact z.elim (s.z3 b) fun z => (h1 b z).1
theorem StZ.frzT {v : V} {xs : List PyData} (s : StZ K G Z H σ env ((v, .own xs) :: T)) : StE K G H σ env ((v, .dat (.list xs)) :: T) := by
  obtain ⟨a, vs, rfl, h1, h2, h3, h4, no⟩ := s.topOwn
  have s2 := s.pop.frzL (F := [a]) fun b hb => by rw [List.mem_singleton.mp hb]; exact ⟨by rw [h1]; exact fun z => (by cases z), h4, no⟩
  exact ⟨_, s2.dat ⟨a, vs, rfl, .inr List.mem_cons_self, h1, DaAll.mv (Mv.same (Same.refl _) fun _ z => .inl z) _ _ h2⟩⟩
/-- a slot's content is changed: by a value of its own -/
theorem StZ.put (s : StZ K G Z H σ env T) {i : Nat} {v : V} {p : Cel} (hi : i < env.length) (ok : CelOk K G Z H (some v) p) (h2 : ∀ xs, p ≠ Cel.arg xs) (nb : ∀ t ∈ T, t.2 ≠ Cel.bor i ∧ ∀ k, t.2 ≠ Cel.sub i k)
    (sep : ∀ a, a ∈ celFoot H p (some v) → ¬ (∃ j, j ≠ i ∧ OwnS H σ env j a) ∧ ∀ t ∈ T, ¬ OwnT H t a) : StZ K G Z H (σ.set i (some v)) (env.set i p) T := by
  have hs : i < σ.length := by
    obtain ⟨ov, e, _⟩ := s.sl i _ (List.getElem?_eq_getElem hi)
    exact (List.getElem?_eq_some_iff.mp e).1
  have back : ∀ j a, j ≠ i → OwnS H (σ.set i (some v)) (env.set i p) j a → OwnS H σ env j a := fun j a n o => by
    unfold OwnS at o
    rw [List.getElem?_set_ne n.symm, List.getElem?_set_ne n.symm] at o
    exact o
  have at_i : ∀ a, OwnS H (σ.set i (some v)) (env.set i p) i a → a ∈ celFoot H p (some v) := fun a o => by
    unfold OwnS at o
    rw [List.getElem?_set_self hs, List.getElem?_set_self hi] at o
    obtain ⟨ov, q, e1, e2, hb⟩ := o
    cases e1
    cases e2
    exact hb
  refine ⟨s.gok, fun j q e => ?_, s.tm, fun t ht j e => ?_, fun t ht j k e => ?_, s.pu, fun j k a o1 o2 => ?_, s.s2, fun j a t o ht o2 => ?_, s.ta, fun j xs e => ?_, s.z1, s.z2, s.z3, s.fr, s.al, s.dr, s.tb, s.tk⟩
  · by_cases n : j = i
    · subst n
      rw [List.getElem?_set_self hi] at e
      cases e
      exact ⟨_, List.getElem?_set_self hs, ok⟩
    · rw [List.getElem?_set_ne (Ne.symm n)] at e ⊢
      exact s.sl j q e
  · obtain ⟨o1, o2⟩ := s.bo t ht j e
    have n : j ≠ i := fun z => (nb t ht).1 (z ▸ e)
    exact ⟨by rw [List.getElem?_set_ne n.symm]; exact o1, by rw [List.getElem?_set_ne n.symm]; exact o2⟩
  · obtain ⟨a, vs, xs, e1, e2, h⟩ := s.pn t ht j k e
    have n : j ≠ i := fun z => (nb t ht).2 k (z ▸ e)
    exact ⟨a, vs, xs, by rw [List.getElem?_set_ne n.symm]; exact e1, by rw [List.getElem?_set_ne n.symm]; exact e2, h⟩
  · by_cases n1 : j = i
    · by_cases n2 : k = i
      · rw [n1, n2]
      · subst n1
        exact absurd ⟨k, n2, back k a n2 o2⟩ (sep a (at_i a o1)).1
    · by_cases n2 : k = i
      · subst n2
        exact absurd ⟨j, n1, back j a n1 o1⟩ (sep a (at_i a o2)).1
      · exact s.s1 j k a (back j a n1 o1) (back k a n2 o2)
  · by_cases n : j = i
    · subst n
      exact (sep a (at_i a o)).2 t ht o2
    · exact s.s3 j a t (back j a n o) ht o2
  · by_cases n : j = i
    · subst n
      rw [List.getElem?_set_self hi] at e
      exact absurd (Option.some.inj e) (h2 xs)
    · rw [List.getElem?_set_ne (Ne.symm n)] at e ⊢
      exact s.ar j xs e
/-- name = the last value -/
theorem StZ.setTop {v : V} {p : Cel} (s : StZ K G Z H σ env ((v, p) :: T)) {i : Nat} (hi : i < env.length) (nb : ∀ t ∈ T, t.2 ≠ Cel.bor i ∧ ∀ k, t.2 ≠ Cel.sub i k) : StZ K G Z H (σ.set i (some v)) (env.set i p) T :=
  s.pop.put hi (s.tm _ List.mem_cons_self) (fun xs => s.ta _ List.mem_cons_self xs) nb fun a o => ⟨fun ⟨j, _, oj⟩ => s.topSep (t := (v, p)) o (.inl ⟨j, oj⟩), fun t ht ot => s.topSep (t := (v, p)) o (.inr ⟨t, ht, ot⟩)⟩
theorem StZ.setD {v : V} {d : PyData} (s : StZ K G Z H σ env ((v, .dat d) :: T)) {i : Nat} (hi : i < env.length) (nb : ∀ t ∈ T, t.2 ≠ Cel.bor i ∧ ∀ k, t.2 ≠ Cel.sub i k) : StZ K G Z H (σ.set i (some v)) (env.set i (.dat d)) T := s.setTop hi nb
/-- slot i is changed in place, with what the value on the stack brings -/
theorem StZ.chg {v : V} {q : Cel} (s : StZ K G Z H σ env ((v, q) :: T)) {i : Nat} {ov : Option V} {p p' : Cel} (e1 : σ[i]? = some ov) (e2 : env[i]? = some p) (ok : CelOk K G Z H' ov p')
    (ft : ∀ b, b ∈ celFoot H' p' ov → b ∈ celFoot H p ov ∨ b ∈ celFoot H q (some v)) (kp : ∀ b o, b ∉ celFoot H p ov → H b = some o → H' b = some o) (al : ∀ b, H b ≠ none → H' b ≠ none)
    (lend : (∃ t ∈ T, t.2 = Cel.bor i) → Lendable p') (nsub : ∀ t ∈ T, ∀ k, t.2 ≠ Cel.sub i k) (ar : ∀ xs, p' = .arg xs → ∃ ys, p = .arg ys) : StZ K G Z H' σ (env.set i p') T := by
  have hi := (List.getElem?_eq_some_iff.mp e2).1
  obtain ⟨ov0, e3, ok0⟩ := s.sl i p e2
  rw [e1] at e3
  cases e3
  have oi : ∀ {b}, b ∈ celFoot H p ov → OwnS H σ env i b := fun {b} hb => ⟨ov, p, e1, e2, hb⟩
  have m : Mv K Z H Z H' := Mv.ofW (fun b => b ∈ celFoot H p ov) (fun b o e n => kp b o n e) (fun b hb => by
    obtain ⟨⟨us, h1, w⟩, h2, _⟩ := ok0.own hb
    exact ⟨us, h1, w, h2⟩) fun _ z => z
  have S : ∀ {j r ow}, j ≠ i → env[j]? = some r → σ[j]? = some ow → CelOk K G Z H ow r → CelOk K G Z H' ow r ∧ celFoot H' r ow = celFoot H r ow := fun {j r ow} n e e' ok =>
    ok.mv m (fun b us hb h => kp b _ (fun z => n (s.s1 j i b ⟨ow, r, e', e, hb⟩ (oi z))) h) fun b hb => (ok.own hb).2.1
  have Tm : ∀ {t}, t ∈ T → CelOk K G Z H' (some t.1) t.2 ∧ celFoot H' t.2 (some t.1) = celFoot H t.2 (some t.1) := fun {t} ht =>
    (s.tm t (List.mem_cons_of_mem _ ht)).mv m (fun b us hb h => kp b _ (fun z => s.s3 i b t (oi z) (List.mem_cons_of_mem _ ht) hb) h) fun b hb => ((s.tm t (List.mem_cons_of_mem _ ht)).own hb).2.1
  have bS : ∀ {j a}, OwnS H' σ (env.set i p') j a → OwnS H σ env j a ∨ (j = i ∧ a ∈ celFoot H q (some v)) := fun {j a} ⟨ow, r, e, e', hb⟩ => by
    by_cases n : j = i
    · subst n
      rw [List.getElem?_set_self hi] at e'
      cases e'
      rw [e1] at e
      cases e
      exact (ft a hb).elim (fun h => .inl (oi h)) fun h => .inr ⟨rfl, h⟩
    · rw [List.getElem?_set_ne (Ne.symm n)] at e'
      obtain ⟨ow', e3, okj⟩ := s.sl j r e'
      rw [e] at e3
      cases e3
      rw [(S n e' e okj).2] at hb
      exact .inl ⟨ow, r, e, e', hb⟩
  have bT : ∀ {t a}, t ∈ T → OwnT H' t a → OwnT H t a := fun {t a} ht hb => by
    unfold OwnT at hb ⊢
    rw [(Tm ht).2] at hb
    exact hb
  have hM : ∀ {b}, b ∈ celFoot H p ov → G.H0 b = none ∨ G.M0 b := fun {b} hb => (ok0.own hb).2.2
  refine ⟨s.gok, fun j r e => ?_, fun t ht => (Tm ht).1, fun t ht j e => ?_, fun t ht j k e => ?_, (List.pairwise_cons.mp s.pu).2, fun j k a o1 o2 => ?_, (List.pairwise_cons.mp s.s2).2.imp_of_mem fun {t u} ht hu h a o1 o2 => h a (bT ht o1) (bT hu o2), fun j a t o ht o2 => ?_, fun t ht => s.ta t (List.mem_cons_of_mem _ ht), fun j xs e => ?_, s.z1, s.z2, fun b z => al b (s.z3 b z), fun b o e n0 n1 n2 => kp b o (fun z => ?_) (s.fr b o e n0 n1 n2), fun b e => al b (s.al b e), fun d c e => ?_, fun b h => m.tb b (s.tb b h), fun b h => m.tb b (s.tk b h)⟩
  · by_cases n : j = i
    · subst n
      rw [List.getElem?_set_self hi] at e
      cases e
      exact ⟨ov, e1, ok⟩
    · rw [List.getElem?_set_ne (Ne.symm n)] at e
      obtain ⟨ow, e3, okj⟩ := s.sl j r e
      exact ⟨ow, e3, (S n e e3 okj).1⟩
  · obtain ⟨o1, c, o2, o3⟩ := s.bo t (List.mem_cons_of_mem _ ht) j e
    refine ⟨o1, ?_⟩
    by_cases n : j = i
    · subst n
      exact ⟨p', List.getElem?_set_self hi, lend ⟨t, ht, e⟩⟩
    · exact ⟨c, by rw [List.getElem?_set_ne (Ne.symm n)]; exact o2, o3⟩
  · obtain ⟨a, vs, xs, o1, o2, o3, o4⟩ := s.pn t (List.mem_cons_of_mem _ ht) j k e
    have n : j ≠ i := fun z => nsub t ht k (z ▸ e)
    refine ⟨a, vs, xs, o1, by rw [List.getElem?_set_ne n.symm]; exact o2, kp a _ (fun z => n (s.s1 j i a ⟨_, _, o1, o2, List.mem_cons_self⟩ (oi z))) o3, o4⟩
  · rcases bS o1 with h1 | ⟨rfl, h1⟩
    · rcases bS o2 with h2 | ⟨rfl, h2⟩
      · exact s.s1 j k a h1 h2
      · exact absurd (Or.inl ⟨j, h1⟩) (s.topSep (t := (v, q)) h2)
    · rcases bS o2 with h2 | ⟨rfl, h2⟩
      · exact absurd (Or.inl ⟨k, h2⟩) (s.topSep (t := (v, q)) h1)
      · rfl
  · rcases bS o with h1 | ⟨rfl, h1⟩
    · exact s.s3 j a t h1 (List.mem_cons_of_mem _ ht) (bT ht o2)
    · exact s.topSep (t := (v, q)) h1 (.inr ⟨t, ht, bT ht o2⟩)
  · by_cases n : j = i
    · subst n
      rw [List.getElem?_set_self hi] at e
      obtain ⟨ys, rfl⟩ := ar xs (Option.some.inj e)
      exact s.ar j ys e2
    · rw [List.getElem?_set_ne (Ne.symm n)] at e
      exact s.ar j xs e
  · rcases hM z with z | z
    · rw [z] at e
      cases e
    · exact n1 z
  · obtain ⟨cells, k, big, seed, cnt, h1, h2, h3⟩ := s.dr d c e
    exact ⟨cells, k, big, seed, cnt, kp d _ (fun z => (s.gok.ne (hM z) e).1 rfl) h1, kp c _ (fun z => (s.gok.ne (hM z) e).2 rfl) h2, h3⟩
/-- what a slot holds is said otherwise: the heap stays -/
theorem StZ.say {i : Nat} {ov : Option V} {p p' : Cel} (s : StZ K G Z H σ env T) (e1 : σ[i]? = some ov) (e2 : env[i]? = some p) (ok : CelOk K G Z H ov p') (ft : ∀ b, b ∈ celFoot H p' ov → b ∈ celFoot H p ov)
    (lend : (∃ t ∈ T, t.2 = Cel.bor i) → Lendable p') (nsub : ∀ t ∈ T, ∀ k, t.2 ≠ Cel.sub i k) (ar : ∀ xs, p' = .arg xs → ∃ ys, p = .arg ys) : StZ K G Z H σ (env.set i p') T :=
  (s.dat (v := .non) (d := .none) rfl).chg e1 e2 ok (fun b h => .inl (ft b h)) (fun b o _ e => e) (fun _ e => e) lend nsub ar
theorem StZ.nosub (s : StZ K G Z H σ env T) {i : Nat} {p : Cel} (e : env[i]? = some p) (h : ∀ xs, p ≠ .pnd xs) : ∀ t ∈ T, ∀ k, t.2 ≠ Cel.sub i k := fun t ht k z => by
  obtain ⟨_, _, xs, _, e2, _⟩ := s.pn t ht i k z
  rw [e] at e2
  exact h xs (Option.some.inj e2)
/-- a slot is forgotten -/
theorem StZ.fgt (s : StZ K G Z H σ env T) {i : Nat} (hi : i < env.length) (nb : ∀ t ∈ T, t.2 ≠ Cel.bor i ∧ ∀ k, t.2 ≠ Cel.sub i k) : StZ K G Z H σ (env.set i .no) T := by
  have e := List.getElem?_eq_getElem hi
  obtain ⟨ov, e1, _⟩ := s.sl i _ e
  exact s.say e1 e trivial (fun b h => by cases ov <;> cases h) (fun ⟨t, ht, z⟩ => absurd z (nb t ht).1) (fun t ht => (nb t ht).2) fun xs z => by cases z
/-- the slots that nobody knows may hold anything -/
theorem StZ.sig {σ' : L2.St} (s : StZ K G Z H σ env T) (h : ∀ (i : Nat) (p : Cel), env[i]? = some p → p ≠ Cel.no → σ'[i]? = σ[i]?) (h2 : ∀ (i : Nat) (p : Cel), env[i]? = some p → ∃ ov : Option V, σ'[i]? = some ov) : StZ K G Z H σ' env T := by
  have back : ∀ j a, OwnS H σ' env j a → OwnS H σ env j a := fun j a ⟨ov, p, e1, e2, hb⟩ => by
    have n : p ≠ .no := fun z => by subst z; cases ov <;> cases hb
    exact ⟨ov, p, by rw [← h j p e2 n]; exact e1, e2, hb⟩
  refine ⟨s.gok, fun j q e => ?_, s.tm, fun t ht j e => ?_, fun t ht j k e => ?_, s.pu, fun j k a o1 o2 => s.s1 j k a (back j a o1) (back k a o2), s.s2, fun j a t o ht o2 => s.s3 j a t (back j a o) ht o2, s.ta, fun j xs e => ?_, s.z1, s.z2, s.z3, s.fr, s.al, s.dr, s.tb, s.tk⟩
  · by_cases n : q = .no
    · subst n
      obtain ⟨ov, e2⟩ := h2 j _ e
      exact ⟨ov, e2, trivial⟩
    · rw [h j q e n]
      exact s.sl j q e
  · obtain ⟨e1, c, o2, o3⟩ := s.bo t ht j e
    exact ⟨by rw [h j c o2 (fun z => by subst z; exact o3)]; exact e1, c, o2, o3⟩
  · obtain ⟨a, vs, xs, e1, e2, o⟩ := s.pn t ht j k e
    exact ⟨a, vs, xs, by rw [h j _ e2 (fun z => by cases z)]; exact e1, e2, o⟩
  · obtain ⟨v, e1, e2⟩ := s.ar j xs e
    exact ⟨v, e1, by rw [h j _ e (fun z => by cases z)]; exact e2⟩
/-- a borrowed list on the stack -/
theorem StZ.pushB (s : StZ K G Z H σ env T) {i : Nat} {v : V} {c : Cel} (e : σ[i]? = some (some v)) (h : env[i]? = some c) (l : Lendable c) : StZ K G Z H σ env ((v, .bor i) :: T) where
  gok := s.gok
  sl := s.sl
  tm := fun t ht => by
    rcases List.mem_cons.mp ht with rfl | ht
    · exact ⟨_, rfl⟩
    · exact s.tm t ht
  bo := fun t ht j e2 => by
    rcases List.mem_cons.mp ht with rfl | ht
    · cases e2
      exact ⟨e, c, h, l⟩
    · exact s.bo t ht j e2
  pn := fun t ht j k e2 => by
    rcases List.mem_cons.mp ht with rfl | ht
    · cases e2
    · exact s.pn t ht j k e2
  pu := List.pairwise_cons.mpr ⟨fun u hu j k k' e2 => (by cases e2), s.pu⟩
  s1 := s.s1
  s2 := List.pairwise_cons.mpr ⟨fun u hu b o1 => (by cases o1), s.s2⟩
  s3 := fun j b t o1 ht o2 => by
    rcases List.mem_cons.mp ht with rfl | ht
    · cases o2
    · exact s.s3 j b t o1 ht o2
  ta := fun t ht ys => by
    rcases List.mem_cons.mp ht with rfl | ht
    · exact fun z => by cases z
    · exact s.ta t ht ys
  ar := s.ar
  z1 := s.z1
  z2 := s.z2
  z3 := s.z3
  fr := s.fr
  al := s.al
  dr := s.dr
  tb := s.tb
  tk := s.tk
/-- a list on top of the stack is written -/
theorem StZ.wrT {a : Addr} {xs ys : List PyData} {us : List V} (s : StZ K G Z H σ env ((.ref a, .own xs) :: T)) (h : DaAll K Z H ys us) : StZ K G Z (upd H a (.lst us)) σ env ((.ref a, .own ys) :: T) := by
  obtain ⟨a', vs, e, h1, h2, h3, h4, no⟩ := s.topOwn
  cases e
  have m : Mv K Z H Z (upd H a (.lst us)) := Mv.wr h1 h3
  have s2 : StZ K G Z (upd H a (.lst us)) σ env T := s.pop.move m (fun b ws ob e => upd_else e fun z => no (z ▸ ob)) (fun b ob => by obtain ⟨_, _, _, n⟩ := s.pop.own_any ob; exact n) (fun _ z => z) (fun _ z => .inl z) (fun b z => upd_some (s.z3 b z))
    (fun b u e e0 _ _ _ => upd_else e fun z => by rw [z, h4] at e0; cases e0) (fun b e => upd_some e) fun d c e => by
      obtain ⟨n1, n2⟩ := s.gok.ne (.inl h4) e
      exact (s.dr d c e).else n1 n2
  refine s2.push ⟨a, us, rfl, upd_same, DaAll.mv m _ _ h, h3, h4⟩ (fun _ e => by cases e) (fun _ _ e => by cases e) (fun _ e => by cases e) fun b o ob => ?_
  rw [List.mem_singleton.mp o] at ob
  refine no ?_
  rcases ob with ⟨i, ov, q, e1, e2, hb⟩ | ⟨t, ht, hb⟩
  · obtain ⟨ov', e3, ok⟩ := s.sl i q e2
    rw [e1] at e3
    cases e3
    have kp := (ok.mv m (fun b us' hb e => upd_else e fun z => no (.inl ⟨i, ov, q, e1, e2, z ▸ hb⟩)) fun b hb => (ok.own hb).2.1).2
    rw [kp] at hb
    exact .inl ⟨i, ov, q, e1, e2, hb⟩
  · have ok := s.pop.tm t ht
    have kp := (ok.mv m (fun b us' hb e => upd_else e fun z => no (.inr ⟨t, ht, z ▸ hb⟩)) fun b hb => (ok.own hb).2.1).2
    unfold OwnT at hb
    rw [kp] at hb
    exact .inr ⟨t, ht, hb⟩
end

/-! ### readings over the value layer -/
/-- one of two ways, by an answer -/
inductive IfP (b : Bool) (A B : Prop) : Prop where
  | t (h : b = true) (x : A)
  | f (h : b = false) (x : B)
theorem IfP.both {b : Bool} {A B : Prop} (h1 : b = true → A) (h2 : b = false → B) : IfP b A B := by
  cases b with
  | true => exact .t rfl (h1 rfl)
  | false => exact .f rfl (h2 rfl)
theorem IfP.tt {A B : Prop} (h : IfP true A B) : A := by
  cases h with
  | t _ x => exact x
  | f h _ => cases h
theorem IfP.ff {A B : Prop} (h : IfP false A B) : B := by
  cases h with
  | t h _ => cases h
  | f _ x => exact x
abbrev PK := Cel → PEnv → Prop
abbrev PEx := PEnv → PK → Prop
abbrev PAs := PEnv → (List Cel → PEnv → Prop) → Prop
abbrev PTst := PEnv → (Bool → PEnv → Prop) → Prop
def psh (T : Stk) : List V → List Cel → Stk
  | v :: vs, p :: ps => psh ((v, p) :: T) vs ps
  | _, _ => T
def tE (K : PySem.W.Frag) (G : Gam) (f : PEx) : TE := fun σ H Q => ∃ env T C, StE K G H σ env T ∧ f env C ∧ ∀ p env' v H', C p env' → StE K G H' σ env' ((v, p) :: T) → Q v H'
def tA (K : PySem.W.Frag) (G : Gam) (f : PAs) : TA := fun σ H Q => ∃ env T C, StE K G H σ env T ∧ f env C ∧ ∀ ps env' vs H', C ps env' → vs.length = ps.length → StE K G H' σ env' (psh T vs ps) → Q vs H'
def tQ (K : PySem.W.Frag) (G : Gam) (f : PTst) : TT := fun σ H Q => ∃ env T C, StE K G H σ env T ∧ f env C ∧ ∀ b env' H', C b env' → StE K G H' σ env' T → Q b H'
theorem _root_.L2.PE.le {X : Cx} {e : Expr} {t t' : TE} (h : PE X e t) (k : ∀ σ H Q, t' σ H Q → t σ H Q) : PE X e t' := ⟨fun pins s σ H Q I q => h.run pins s σ H Q I (k _ _ _ q)⟩
theorem _root_.L2.PT.le {X : Cx} {e : Expr} {t t' : TT} (h : PT X e t) (k : ∀ σ H Q, t' σ H Q → t σ H Q) : PT X e t' := ⟨fun pins s σ H Q I q => h.run pins s σ H Q I (k _ _ _ q)⟩
theorem _root_.L2.PW.le {X : Cx} {e : Expr} {t t' : TT} (h : PW X e t) (k : ∀ σ H Q, t' σ H Q → t σ H Q) : PW X e t' := ⟨fun wh pins s σ H Q I q => h.run wh pins s σ H Q I (k _ _ _ q)⟩
theorem _root_.L2.PA.le {X : Cx} {es : List Expr} {t t' : TA} (h : PA X es t) (k : ∀ σ H Q, t' σ H Q → t σ H Q) : PA X es t' := ⟨fun pos pins s σ H Q I q => h.run pos pins s σ H Q I (k _ _ _ q)⟩
theorem _root_.L2.PS.le {X : Cx} {st : Stmt} {t t' : L2.TS} (h : PS X st t) (k : ∀ D σ H, t' D σ H → t D σ H) : PS X st t' := ⟨fun pins s σ H D I q => h.run pins s σ H D I (k _ _ _ q)⟩
theorem _root_.L2.PSs.le {X : Cx} {st : List Stmt} {t t' : L2.TS} (h : PSs X st t) (k : ∀ D σ H, t' D σ H → t D σ H) : PSs X st t' := ⟨fun pins s σ H D I q => h.run pins s σ H D I (k _ _ _ q)⟩
theorem _root_.L2.PG.le {X : Cx} {e : Expr} {t t' : TG} (h : PG X e t) (k : ∀ v σ H Q, t' v σ H Q → t v σ H Q) : PG X e t' := ⟨fun pins s σ H v u Q I r q => h.run pins s σ H v u Q I r (k _ _ _ _ q)⟩
theorem _root_.L2.PI.le {X : Cx} {tg iter : Expr} {t t' : TI} (h : PI X tg iter t) (k : ∀ σ H R, t' σ H R → t σ H R) : PI X tg iter t' := ⟨fun pins s σ H R I q => h.run pins s σ H R I (k _ _ _ q)⟩
/-- the items of a list; of a list or a tuple; data -/
def lstAt : Option Cel → Option (List PyData)
  | some (.own xs) => some xs
  | some (.arg xs) => some xs
  | some (.dat (.list xs)) => some xs
  | _ => none
def subAt (k : Nat) : Option Cel → Option (List PyData)
  | some (.pnd xs) => (match xs[k]? with
    | some (.l ys) => some ys
    | _ => none)
  | _ => none
def lstOf (env : PEnv) : Cel → Option (List PyData)
  | .dat (.list ds) => some ds
  | .own xs => some xs
  | .bor i => lstAt env[i]?
  | .sub i k => subAt k env[i]?
  | _ => none
def Itm.dat : Itm → PyData
  | .d x => x
  | .l ys => .list ys
def itemsOf (env : PEnv) : Cel → Option (List PyData)
  | .dat (.tuple ds) => some ds
  | .dat (.dict [(.none, .tuple ds)]) => some ds
  | .dat (.dict [(.int _, .tuple ds)]) => some ds
  | p => lstOf env p
def datOf (env : PEnv) : Cel → Option PyData
  | .dat d => some d
  | p => (lstOf env p).map .list
section
variable {K : PySem.W.Frag} {G : Gam} {Z : Addr → Prop} {H : Hp} {σ : L2.St} {env : PEnv} {T : Stk} {v : V} {p : Cel} {ds : List PyData} {d : PyData}
theorem ItAll.at : ∀ {xs : List Itm} {vs : List V} {k : Nat} {ys : List PyData}, ItAll K Z H xs vs → xs[k]? = some (.l ys) → ∃ b us, vs[k]? = some (.ref b) ∧ H b = some (.lst us) ∧ DaAll K Z H ys us ∧ b ∈ subs xs vs
  | [], _, _, _, _, e => by cases e
  | .d x :: xs, _, 0, ys, _, e => by cases e
  | .d x :: xs, _, k + 1, ys, ⟨v, r, e1, h1, h2⟩, e => by
    subst e1
    obtain ⟨b, us, e1, e2, e3, e4⟩ := ItAll.at h2 (by simpa using e)
    exact ⟨b, us, by simpa using e1, e2, e3, e4⟩
  | .l y :: xs, _, 0, ys, ⟨b, us, r, e1, h1, h2, h3⟩, e => by
    subst e1
    cases e
    exact ⟨b, us, rfl, h1, h2, List.mem_cons_self⟩
  | .l y :: xs, _, k + 1, ys, ⟨c, us, r, e1, h1, h2, h3⟩, e => by
    subst e1
    obtain ⟨b, us, e1, e2, e3, e4⟩ := ItAll.at h3 (by simpa using e)
    exact ⟨b, us, by simpa using e1, e2, e3, List.mem_cons_of_mem _ e4⟩
theorem ItAll.frz : ∀ {xs : List Itm} {vs : List V}, ItAll K Z H xs vs → (∀ b ∈ subs xs vs, Z b) → DaAll K Z H (xs.map Itm.dat) vs
  | [], _, h, _ => h
  | .d x :: xs, _, ⟨v, r, e1, h1, h2⟩, z => by subst e1; exact ⟨v, r, rfl, h1, ItAll.frz h2 z⟩
  | .l y :: xs, _, ⟨b, us, r, e1, h1, h2, h3⟩, z => by
    subst e1
    exact ⟨.ref b, r, rfl, ⟨b, us, rfl, z b List.mem_cons_self, h1, h2⟩, ItAll.frz h3 fun c hc => z c (List.mem_cons_of_mem _ hc)⟩
/-- the lists of a slot are frozen -/
theorem StZ.frzS (s : StZ K G Z H σ env T) {i : Nat} {ov : Option V} {p p' : Cel} {F : List Addr} (e1 : σ[i]? = some ov) (e2 : env[i]? = some p) (hF : ∀ a ∈ F, a ∈ celFoot H p ov ∧ G.H0 a = none)
    (ok : CelOk K G (fun b => Z b ∨ b ∈ F) H ov p') (ft : ∀ b, b ∈ celFoot H p' ov → b ∈ celFoot H p ov) (lend : Lendable p') (nsub : ∀ t ∈ T, ∀ k, t.2 ≠ Cel.sub i k) (ar : ∀ xs, p' ≠ .arg xs) :
    StZ K G (fun b => Z b ∨ b ∈ F) H σ (env.set i p') T := by
  have hi := (List.getElem?_eq_some_iff.mp e2).1
  have m : Mv K Z H (fun b => Z b ∨ b ∈ F) H := Mv.same (Same.refl _) fun _ z => .inl z
  have oi : ∀ {b}, b ∈ celFoot H p ov → OwnS H σ env i b := fun {b} hb => ⟨ov, p, e1, e2, hb⟩
  have bS : ∀ {j a}, OwnS H σ (env.set i p') j a → OwnS H σ env j a := fun {j a} ⟨ow, r, e, e', hb⟩ => by
    by_cases n : j = i
    · subst n
      rw [List.getElem?_set_self hi] at e'
      cases e'
      rw [e1] at e
      cases e
      exact oi (ft a hb)
    · rw [List.getElem?_set_ne (Ne.symm n)] at e'
      exact ⟨ow, r, e, e', hb⟩
  refine ⟨s.gok, fun j q e => ?_, fun t ht => ?_, fun t ht j e => ?_, fun t ht j k e => ?_, s.pu, fun j l b o1 o2 => s.s1 j l b (bS o1) (bS o2), s.s2, fun j b t ob ht => s.s3 j b t (bS ob) ht, s.ta, fun j ys e => ?_, fun b z => .inl (s.z1 b z), fun b z => ?_, fun b z => ?_, s.fr, s.al, s.dr, s.tb, s.tk⟩
  · by_cases n : j = i
    · subst n
      rw [List.getElem?_set_self hi] at e
      cases e
      exact ⟨ov, e1, ok⟩
    · rw [List.getElem?_set_ne (Ne.symm n)] at e
      obtain ⟨ow, e3, okj⟩ := s.sl j q e
      exact ⟨ow, e3, (okj.mv m (fun _ _ _ h => h) fun b hb z => z.elim (okj.own hb).2.1 fun z => n (s.s1 j i b ⟨ow, q, e3, e, hb⟩ (oi (hF b z).1))).1⟩
  · exact ((s.tm t ht).mv m (fun _ _ _ h => h) fun b hb z => z.elim ((s.tm t ht).own hb).2.1 fun z => s.s3 i b t (oi (hF b z).1) ht hb).1
  · obtain ⟨o1, c, o2, o3⟩ := s.bo t ht j e
    refine ⟨o1, ?_⟩
    by_cases n : j = i
    · subst n
      exact ⟨p', List.getElem?_set_self hi, lend⟩
    · exact ⟨c, by rw [List.getElem?_set_ne (Ne.symm n)]; exact o2, o3⟩
  · obtain ⟨a, vs, xs, o1, o2, o3⟩ := s.pn t ht j k e
    have n : j ≠ i := fun z => nsub t ht k (z ▸ e)
    exact ⟨a, vs, xs, o1, by rw [List.getElem?_set_ne (Ne.symm n)]; exact o2, o3⟩
  · by_cases n : j = i
    · subst n
      rw [List.getElem?_set_self hi] at e
      exact absurd (Option.some.inj e) (ar ys)
    · rw [List.getElem?_set_ne (Ne.symm n)] at e
      exact s.ar j ys e
  · exact z.elim (s.z2 b) fun z => .inr (hF b z).2
  · exact z.elim (s.z3 b) fun z => by
      obtain ⟨⟨us, h, _⟩, _⟩ := s.ownS (oi (hF b z).1)
      rw [h]
      exact fun z => by cases z
theorem StZ.lst (s : StZ K G Z H σ env T) (ht : (v, p) ∈ T) (e : lstOf env p = some ds) : ∃ a vs, v = .ref a ∧ H a = some (.lst vs) ∧ DaAll K Z H ds vs := by
  have ok := s.tm _ ht
  cases p with
  | no => cases e
  | dat d =>
    cases d <;> first | cases e | skip
    obtain ⟨w, e2, a, xs, e3, _, h1, h2⟩ := ok
    cases e2
    exact ⟨a, xs, e3, h1, h2⟩
  | own xs =>
    cases e
    obtain ⟨a, vs, e2, h1, h2, _⟩ := ok
    cases e2
    exact ⟨a, vs, rfl, h1, h2⟩
  | arg xs => cases e
  | box xs => cases e
  | pnd xs => cases e
  | dic kvs => cases e
  | dit kvs => cases e
  | lck o ws kvs => cases e
  | exn a d fs => cases e
  | two b xs ys => cases e
  | drw => cases e
  | bor i =>
    obtain ⟨e1, c, h, _⟩ := s.bo _ ht i rfl
    have e : lstAt env[i]? = some ds := e
    rw [h] at e
    obtain ⟨ov, e2, ok⟩ := s.sl i _ h
    rw [e1] at e2
    cases e2
    unfold lstAt at e
    split at e
    · next q =>
      cases q
      cases e
      obtain ⟨a, vs, e3, h1, h2, _⟩ := ok
      cases e3
      exact ⟨a, vs, rfl, h1, h2⟩
    · next q =>
      cases q
      cases e
      obtain ⟨a, vs, e3, h1, h2, _⟩ := ok
      cases e3
      exact ⟨a, vs, rfl, h1, h2⟩
    · next q =>
      cases q
      cases e
      obtain ⟨w, e3, a, vs, e4, _, h1, h2⟩ := ok
      cases e3
      exact ⟨a, vs, e4, h1, h2⟩
    · cases e
  | sub i k =>
    obtain ⟨a, vs, xs, e1, h, h1, h2⟩ := s.pn _ ht i k rfl
    have e : subAt k env[i]? = some ds := e
    rw [h] at e
    obtain ⟨ov, e2, a', vs', e3, k1, k2, _⟩ := s.sl i _ h
    rw [e1] at e2
    cases e2
    cases e3
    rw [h1] at k1
    cases k1
    have e : (match xs[k]? with | some (.l ys) => some ys | _ => none) = some ds := e
    split at e
    · next ys q =>
      cases e
      obtain ⟨b, us, k3, k4, k5, _⟩ := ItAll.at k2 q
      rw [h2] at k3
      cases k3
      exact ⟨b, us, rfl, k4, k5⟩
    · cases e
theorem StZ.its (s : StZ K G Z H σ env T) (ht : (v, p) ∈ T) (e : itemsOf env p = some ds) : ∃ a vs, v = .ref a ∧ (H a = some (.lst vs) ∨ SqT K H a vs) ∧ DaAll K Z H ds vs := by
  have go : lstOf env p = some ds → ∃ a vs, v = .ref a ∧ (H a = some (.lst vs) ∨ SqT K H a vs) ∧ DaAll K Z H ds vs := fun e => by
    obtain ⟨a, vs, e1, h1, h2⟩ := s.lst ht e
    exact ⟨a, vs, e1, .inl h1, h2⟩
  unfold itemsOf at e
  split at e
  · cases e
    obtain ⟨w, e2, a, xs, e3, h1, h2⟩ := s.tm _ ht
    cases e2
    exact ⟨a, xs, e3, .inr h1, h2⟩
  · cases e
    obtain ⟨w, e2, ⟨a, xs, e3, h1, h2⟩, _⟩ := s.tm _ ht
    cases e2
    exact ⟨a, xs, e3, .inr h1, h2⟩
  · cases e
    obtain ⟨w, e2, a, ks, e3, h1, h2⟩ := s.tm _ ht
    cases e2
    cases h2
    exact ⟨a, _, e3, .inr (SqT.of h1), DaAll.ints ks⟩
  · exact go e
theorem StZ.seq (s : StZ K G Z H σ env T) (ht : (v, p) ∈ T) (e : itemsOf env p = some ds) : ∃ a vs, v = .ref a ∧ (SqL K H a vs ∨ SqT K H a vs) ∧ DaAll K Z H ds vs := by
  obtain ⟨a, vs, e1, h | h, h2⟩ := s.its ht e
  · exact ⟨a, vs, e1, .inl (SqL.of h), h2⟩
  · exact ⟨a, vs, e1, .inr h, h2⟩
theorem StZ.datT (s : StZ K G Z H σ env T) (ht : (v, .dat d) ∈ T) : Da K Z H d v := by
  obtain ⟨w, e, h⟩ := s.tm _ ht
  cases e
  exact h
/-- data, its lists anywhere -/
abbrev Db (K : PySem.W.Frag) (H : Hp) (v : V) (d : PyData) : Prop := Da K (fun _ => True) H d v
theorem Da.db {d : PyData} {v : V} (h : Da K Z H d v) : Db K H v d := Da.mv ⟨fun _ _ h => h, fun _ _ _ h => ⟨trivial, h⟩, fun _ _ h => h, fun _ h => h, fun _ _ h => h, fun _ _ _ h => h, fun _ _ h => h⟩ d v h
theorem DaAll.db {ds : List PyData} {vs : List V} (h : DaAll K Z H ds vs) : DaAll K (fun _ => True) H ds vs := DaAll.mv ⟨fun _ _ h => h, fun _ _ _ h => ⟨trivial, h⟩, fun _ _ h => h, fun _ h => h, fun _ _ h => h, fun _ _ _ h => h, fun _ _ h => h⟩ ds vs h
theorem StZ.db (s : StZ K G Z H σ env T) (ht : (v, p) ∈ T) (e : datOf env p = some d) : Db K H v d := by
  have go : (lstOf env p).map .list = some d → Db K H v d := fun e => by
    obtain ⟨ds, e1, rfl⟩ := Option.map_eq_some_iff.mp e
    obtain ⟨a, vs, rfl, h1, h2⟩ := s.lst ht e1
    exact ⟨a, vs, rfl, trivial, h1, h2.db⟩
  cases p with
  | dat d' =>
    cases e
    exact (s.datT ht).db
  | _ => exact go e
end
/-! ### names, constants, displays -/
def pVar (i : Nat) : PEx := fun env C => match env[i]? with
  | some (.dat d) => C (.dat d) env
  | some .drw => C .drw env
  | some (.own xs) => C (.dat (.list xs)) (env.set i (.dat (.list xs)))
  | some (.box xs) => C (.dat (.list (xs.map Itm.dat))) (env.set i (.dat (.list (xs.map Itm.dat))))
  | _ => False
def pBor (i : Nat) : PEx := fun env C => match env[i]? with
  | some (.dat d) => C (.dat d) env
  | some .drw => C .drw env
  | some (.own _) => C (.bor i) env
  | some (.arg _) => C (.bor i) env
  | some (.box _) => C (.bor i) env
  | some (.dic _) => C (.bor i) env
  | some (.dit _) => C (.bor i) env
  | _ => False
def pC (d : PyData) : PEx := fun env C => C (.dat d) env
def pFrz (f : PEx) : PEx := fun env C => f env fun p e => match p with
  | .dat d => C (.dat d) e
  | .own xs => C (.dat (.list xs)) e
  | _ => False
def pNil : PAs := fun env C => C [] env
def pCons (f : PEx) (g : PAs) : PAs := fun env C => f env fun p e => g e fun ps e' => C (p :: ps) e'
def datsOf : List Cel → Option (List PyData)
  | [] => some []
  | .dat d :: ps => (datsOf ps).map (d :: ·)
  | _ => none
def pTup (g : PAs) : PEx := fun env C => g env fun ps e => match datsOf ps with
  | some ds => ds.length ≤ sizeLine ∧ C (.dat (.tuple ds)) e
  | none => False
def pLst (g : PAs) : PEx := fun env C => g env fun ps e => match datsOf ps with
  | some ds => ds.length ≤ sizeLine ∧ C (.own ds) e
  | none => False
section
variable {X : Cx} {G : Gam} {e a b c : Expr} {es : List Expr} {pos : Pos}
theorem pe_varP {i : Nat} {x : Str} (h : PE X (.Name x pos) (tVar i)) : PE X (.Name x pos) (tE X.K G (pVar i)) := h.le fun σ H Q ⟨env, T, C, ⟨Z, s⟩, h, k⟩ => by
  unfold pVar at h
  split at h
  · next d he =>
    obtain ⟨ov, e1, v, rfl, hd⟩ := s.sl i _ he
    exact ⟨v, e1, k _ _ _ _ h ⟨Z, s.dat hd⟩⟩
  · next he =>
    obtain ⟨ov, e1, d, c, hd, rfl⟩ := s.sl i _ he
    exact ⟨_, e1, k _ _ _ _ h ⟨Z, s.drw hd⟩⟩
  · next xs he =>
    obtain ⟨ov, e1, a, vs, rfl, h1, h2, h3, h4⟩ := s.sl i _ he
    have da : Da X.K (fun b => Z b ∨ b ∈ [a]) H (.list xs) (.ref a) := ⟨a, vs, rfl, .inr List.mem_cons_self, h1, DaAll.mv (Mv.same (Same.refl _) fun _ z => .inl z) _ _ h2⟩
    have s2 := s.frzS (F := [a]) (p' := .dat (.list xs)) e1 he (fun b hb => ⟨hb, by rw [List.mem_singleton.mp hb]; exact h4⟩) ⟨_, rfl, da⟩ (fun b hb => by cases hb) trivial (s.nosub he fun _ z => by cases z) fun _ z => by cases z
    exact ⟨_, e1, k _ _ _ _ h ⟨_, s2.dat da⟩⟩
  · next xs he =>
    obtain ⟨ov, e1, ok⟩ := s.sl i _ he
    obtain ⟨a, vs, e, h1, h2, h3, h4⟩ := id ok
    obtain ⟨a', vs', e', h1', ef, _⟩ := BoxOk.foot ok
    rw [e] at e'
    cases e'
    rw [h1] at h1'
    cases h1'
    subst e
    have it : ItAll X.K (fun b => Z b ∨ b ∈ a :: subs xs vs) H xs vs := ItAll.mv (Mv.same (Same.refl _) fun _ z => .inl z) (fun _ _ _ h => h) h2
    have da : Da X.K (fun b => Z b ∨ b ∈ a :: subs xs vs) H (.list (xs.map Itm.dat)) (.ref a) := ⟨a, vs, rfl, .inr List.mem_cons_self, h1, ItAll.frz it fun b hb => .inr (List.mem_cons_of_mem _ hb)⟩
    have s2 := s.frzS (F := a :: subs xs vs) (p' := .dat (.list (xs.map Itm.dat))) e1 he (fun b hb => ⟨ef ▸ hb, (h3 b hb).2⟩) ⟨_, rfl, da⟩ (fun b hb => by cases hb) trivial (s.nosub he fun _ z => by cases z) fun _ z => by cases z
    exact ⟨_, e1, k _ _ _ _ h ⟨_, s2.dat da⟩⟩
  · exact h.elim
theorem pe_borP {i : Nat} {x : Str} (h : PE X (.Name x pos) (tVar i)) : PE X (.Name x pos) (tE X.K G (pBor i)) := h.le fun σ H Q ⟨env, T, C, ⟨Z, s⟩, h, k⟩ => by
  unfold pBor at h
  split at h
  · next d he =>
    obtain ⟨ov, e1, v, rfl, hd⟩ := s.sl i _ he
    exact ⟨v, e1, k _ _ _ _ h ⟨Z, s.dat hd⟩⟩
  · next he =>
    obtain ⟨ov, e1, d, c, hd, rfl⟩ := s.sl i _ he
    exact ⟨_, e1, k _ _ _ _ h ⟨Z, s.drw hd⟩⟩
  · next xs he =>
    obtain ⟨ov, e1, a, vs, rfl, _⟩ := s.sl i _ he
    exact ⟨_, e1, k _ _ _ _ h ⟨Z, s.pushB e1 he trivial⟩⟩
  · next xs he =>
    obtain ⟨ov, e1, a, vs, rfl, _⟩ := s.sl i _ he
    exact ⟨_, e1, k _ _ _ _ h ⟨Z, s.pushB e1 he trivial⟩⟩
  · next xs he =>
    obtain ⟨ov, e1, a, vs, rfl, _⟩ := s.sl i _ he
    exact ⟨_, e1, k _ _ _ _ h ⟨Z, s.pushB e1 he trivial⟩⟩
  · next xs he =>
    obtain ⟨ov, e1, a, vs, rfl, _⟩ := s.sl i _ he
    exact ⟨_, e1, k _ _ _ _ h ⟨Z, s.pushB e1 he trivial⟩⟩
  · next xs he =>
    obtain ⟨ov, e1, a, vs, rfl, _⟩ := s.sl i _ he
    exact ⟨_, e1, k _ _ _ _ h ⟨Z, s.pushB e1 he trivial⟩⟩
  · exact h.elim
theorem pe_cP {d : PyData} {v : V} (h : PE X e (tC v)) (hd : ∀ K Z H, Da K Z H d v := by intro _ _ _; exact rfl) : PE X e (tE X.K G (pC d)) := h.le fun σ H Q ⟨env, T, C, ⟨Z, s⟩, h, k⟩ => k _ _ _ _ h ⟨Z, s.dat (hd _ _ _)⟩
theorem pe_frzP {f : PEx} (h : PE X e (tE X.K G f)) : PE X e (tE X.K G (pFrz f)) := h.le fun σ H Q ⟨env, T, C, s, h, k⟩ => ⟨env, T, _, s, h, fun p env' v H' hc s' => by
  cases p with
  | dat d => exact k _ _ _ _ hc s'
  | own xs =>
    obtain ⟨Z, s'⟩ := s'
    exact k _ _ _ _ hc s'.frzT
  | _ => exact hc.elim⟩
theorem pa_nilP : PA X [] (tA X.K G pNil) := pa_nil.le fun σ H Q ⟨env, T, C, s, h, k⟩ => k [] env [] H h rfl s
theorem pa_consP {f : PEx} {g : PAs} (ha : PE X e (tE X.K G f)) (hr : PA X es (tA X.K G g)) (hs : starEach (e :: es) X.env = (false, eval e X.env) :: starEach es X.env := by rfl) : PA X (e :: es) (tA X.K G (pCons f g)) :=
  (pa_cons ha hr hs).le fun σ H Q ⟨env, T, C, s, h, k⟩ => ⟨env, T, _, s, h, fun p e1 v H1 h1 s1 => ⟨e1, (v, p) :: T, _, s1, h1, fun ps e2 vs H2 h2 l2 s2 => k (p :: ps) e2 (v :: vs) H2 h2 (congrArg Nat.succ l2) s2⟩⟩
theorem StZ.dats {K : PySem.W.Frag} {Z : Addr → Prop} {H : Hp} {σ : L2.St} {env : PEnv} : ∀ (ps : List Cel) (vs : List V) (T : Stk) (ds : List PyData), vs.length = ps.length → datsOf ps = some ds → StZ K G Z H σ env (psh T vs ps) → DaAll K Z H ds vs ∧ StZ K G Z H σ env T
  | [], [], T, ds, _, e, s => by
    cases e
    exact ⟨rfl, s⟩
  | [], _ :: _, _, _, l, _, _ => by cases l
  | _ :: _, [], _, _, l, _, _ => by cases l
  | .dat d :: ps, v :: vs, T, ds, l, e, s => by
    obtain ⟨ds', e2, rfl⟩ := Option.map_eq_some_iff.mp (show (datsOf ps).map (d :: ·) = some ds from e)
    obtain ⟨h1, h2⟩ := StZ.dats ps vs ((v, .dat d) :: T) ds' (Nat.succ.inj l) e2 s
    exact ⟨⟨v, vs, rfl, h2.topDat, h1⟩, h2.pop⟩
  | .no :: _, _, _, _, _, e, _ => by cases e
  | .own _ :: _, _, _, _, _, e, _ => by cases e
  | .arg _ :: _, _, _, _, _, e, _ => by cases e
  | .drw :: _, _, _, _, _, e, _ => by cases e
  | .bor _ :: _, _, _, _, _, e, _ => by cases e
  | .box _ :: _, _, _, _, _, e, _ => by cases e
  | .pnd _ :: _, _, _, _, _, e, _ => by cases e
  | .sub _ _ :: _, _, _, _, _, e, _ => by cases e
  | .dic _ :: _, _, _, _, _, e, _ => by cases e
  | .dit _ :: _, _, _, _, _, e, _ => by cases e
  | .lck _ _ _ :: _, _, _, _, _, e, _ => by cases e
  | .exn _ _ _ :: _, _, _, _, _, e, _ => by cases e
  | .two _ _ _ :: _, _, _, _, _, e, _ => by cases e
theorem pe_tupP {g : PAs} {x1} (h : PA X es (tA X.K G g)) : PE X (.Tuple es x1 pos) (tE X.K G (pTup g)) := (pe_tup h).le fun σ H Q ⟨env, T, C, s, h, k⟩ => ⟨env, T, _, s, h, fun ps e1 vs H1 h1 l1 ⟨Z, s1⟩ => by
  split at h1
  · next ds e =>
    obtain ⟨ha, s2⟩ := StZ.dats ps vs T ds l1 e s1
    refine ⟨by rw [ha.len]; exact h1.1, fun p hp => k _ _ _ _ h1.2 ⟨Z, s2.newTup hp ha⟩⟩
  · exact h1.elim⟩
theorem pe_lstP {g : PAs} (h : PA X es (tA X.K G g)) : PE X (.List es pos) (tE X.K G (pLst g)) := (pe_lst h).le fun σ H Q ⟨env, T, C, s, h, k⟩ => ⟨env, T, _, s, h, fun ps e1 vs H1 h1 l1 ⟨Z, s1⟩ => by
  split at h1
  · next ds e =>
    obtain ⟨ha, s2⟩ := StZ.dats ps vs T ds l1 e s1
    refine ⟨by rw [ha.len]; exact h1.1, fun p hp => k _ _ _ _ h1.2 ⟨Z, s2.newLst hp ha⟩⟩
  · exact h1.elim⟩
end

/-! ### operators -/
theorem opr_or {X : Cx} {f : Value → Value → Sem Value} {r r' : R2} (h : OpR X f r) (h' : OpR X f r') : OpR X f (fun x y H Q => r x y H Q ∨ r' x y H Q) := by
  intro pins s σ H x y v u Q I rx ry q
  rcases q with q | q
  · exact h pins s σ H x y v u Q I rx ry q
  · exact h' pins s σ H x y v u Q I rx ry q
abbrev POp := PEnv → Cel → Cel → PK → Prop
def LiftO (K : PySem.W.Frag) (G : Gam) (r : R2) (rp : POp) : Prop := ∀ (Z : Addr → Prop) (H : Hp) (σ : L2.St) (env : PEnv) (T : Stk) (x y : V) (pa pb : Cel) (C : PK) (Q : VK), StZ K G Z H σ env ((y, pb) :: (x, pa) :: T) → rp env pa pb C →
  (∀ p env' v H', C p env' → StE K G H' σ env' ((v, p) :: T) → Q v H') → r x y H Q
def pBin (rp : POp) (fa fb : PEx) : PEx := fun env C => fa env fun pa e1 => fb e1 fun pb e2 => rp e2 pa pb C
def pInt (g : Int → Int → PyData) (c : Int → Int → Prop) : POp := fun env pa pb C => match pa, pb with
  | .dat (.int i), .dat (.int j) => c i j ∧ C (.dat (g i j)) env
  | _, _ => False
def pInt0 (g : Int → Int → PyData) : POp := fun env pa pb C => match pa, pb with
  | .dat (.int i), .dat (.int j) => C (.dat (g i j)) env
  | _, _ => False
def pAdd : POp := fun env pa pb C => match pa, pb with
  | .dat (.int i), .dat (.int j) => C (.dat (.int (i + j))) env
  | .dat (.str a), .dat (.str b) => a.length + b.length ≤ sizeLine ∧ C (.dat (.str (a ++ b))) env
  | .dat (.tuple ds), .dat (.tuple es) => ds.length + es.length ≤ sizeLine ∧ C (.dat (.tuple (ds ++ es))) env
  | pa, pb => match lstOf env pa, lstOf env pb with
    | some xs, some ys => xs.length + ys.length ≤ sizeLine ∧ C (.own (xs ++ ys)) env
    | _, _ => False
def pMul : POp := fun env pa pb C => match pa, pb with
  | .dat (.int i), .dat (.int j) => CMul i j ∧ C (.dat (.int (i * j))) env
  | pa, .dat (.int k) => match lstOf env pa with
    | some xs => -(2 ^ 63) ≤ k ∧ k < 2 ^ 63 ∧ xs.length * k.toNat ≤ sizeLine ∧ C (.own (List.replicate k.toNat xs).flatten) env
    | _ => False
  | _, _ => False
/-- == of scalars -/
def eqS : PyData → PyData → Option Bool
  | .none, .none => some true
  | .int i, .int j => some (decide (i = j))
  | .bool i, .bool j => some (decide (i = j))
  | .str i, .str j => some (decide (i = j))
  | .none, .int _ => some false
  | .int _, .none => some false
  | .none, .str _ => some false
  | .str _, .none => some false
  | .none, .bool _ => some false
  | .bool _, .none => some false
  | _, _ => none
def pEq : POp := fun env pa pb C => match datOf env pa, datOf env pb with
  | some d, some e => match eqS d e with
    | some b => C (.dat (.bool b)) env
    | none => SeqAt.shaped d = true ∧ SeqAt.shaped e = true ∧ C (.dat (.bool (PyData.eqv d e))) env
  | _, _ => False
def pNe : POp := fun env pa pb C => match datOf env pa, datOf env pb with
  | some d, some e => match eqS d e with
    | some b => C (.dat (.bool (!b))) env
    | none => SeqAt.shaped d = true ∧ SeqAt.shaped e = true ∧ C (.dat (.bool (!PyData.eqv d e))) env
  | _, _ => False
def flatD : PyData → Bool
  | .none => true
  | .bool _ => true
  | .int _ => true
  | .str _ => true
  | _ => false
def pIn (neg : Bool) : POp := fun env pa pb C => match datOf env pa, itemsOf env pb with
  | some d, some ds => ((flatD d = true ∧ ∀ z ∈ ds, flatD z = true) ∨ (SeqAt.shaped d = true ∧ PyData.canLayAll0 ds = true)) ∧ C (.dat (.bool (neg ^^ (ds.any fun z => PyData.eqv z d)))) env
  | _, _ => False
def isNone : PyData → Bool
  | .none => true
  | _ => false
def pIs (neg : Bool) : POp := fun env pa pb C => match datOf env pa, pb with
  | some d, .dat .none => C (.dat (.bool (neg ^^ isNone d))) env
  | _, _ => False
def pIx : POp := fun env pa pb C => match itemsOf env pa, pb with
  | some ds, .dat (.int i) => ∃ d, atI ds i = some d ∧ C (.dat d) env
  | _, _ => False
section
variable {X : Cx} {G : Gam} {e a b c : Expr} {es : List Expr} {pos : Pos} {fa fb : PEx} {rp : POp} {r : R2}
theorem binP (l : LiftO X.K G r rp) : ∀ σ H Q, tE X.K G (pBin rp fa fb) σ H Q → tOp r (tE X.K G fa) (tE X.K G fb) σ H Q := fun σ H Q ⟨env, T, C, s, h, k⟩ =>
  ⟨env, T, _, s, h, fun pa e1 x H1 h1 s1 => ⟨e1, _, _, s1, h1, fun pb e2 y H2 h2 ⟨Z, s2⟩ => l Z H2 σ e2 T x y pa pb C Q s2 h2 k⟩⟩
theorem pe_opP {op : Operator} (ho : OpR X (binaryOp op) r) (l : LiftO X.K G r rp) (ha : PE X a (tE X.K G fa)) (hb : PE X b (tE X.K G fb)) : PE X (.BinOp a op b pos) (tE X.K G (pBin rp fa fb)) := (pe_op ho ha hb).le (binP l)
theorem pe_cmpP {op : CmpOp} (ho : OpR X (compareOp op) r) (l : LiftO X.K G r rp) (ha : PE X a (tE X.K G fa)) (hb : PE X b (tE X.K G fb)) (hm : behindInMarks op b = false) : PE X (.Compare a [op] [b] pos) (tE X.K G (pBin rp fa fb)) := (pe_cmpR ho ha hb hm).le (binP l)
theorem pe_ixP (ha : PE X a (tE X.K G fa)) (hb : PE X b (tE X.K G fb)) (hs : PlainIx b) (l : LiftO X.K G (rIx X.K) pIx) : PE X (.Subscript a b pos) (tE X.K G (pBin pIx fa fb)) := (pe_ix ix_seq ha hb hs).le (binP l)
variable {K : PySem.W.Frag}
theorem li_int {g : Int → Int → PyData} {gv : Int → Int → V} {c : Int → Int → Prop} (hg : ∀ K Z H i j, Da K Z H (g i j) (gv i j) := by intro _ _ _ _ _; exact rfl) : LiftO K G (rI c gv) (pInt g c) := by
  intro Z H σ env T x y pa pb C Q s h k
  unfold pInt at h
  split at h
  · have h1 := s.topDat
    have h2 := s.pop.topDat
    cases h1
    cases h2
    exact ⟨_, _, rfl, rfl, h.1, k _ _ _ _ h.2 ⟨Z, s.pop.pop.dat (hg _ _ _ _ _)⟩⟩
  · exact h.elim
theorem li_int0 {g : Int → Int → PyData} {gv : Int → Int → V} (hg : ∀ K Z H i j, Da K Z H (g i j) (gv i j) := by intro _ _ _ _ _; exact rfl) : LiftO K G (rI0 gv) (pInt0 g) := by
  intro Z H σ env T x y pa pb C Q s h k
  unfold pInt0 at h
  split at h
  · have h1 := s.topDat
    have h2 := s.pop.topDat
    cases h1
    cases h2
    exact ⟨_, _, rfl, rfl, k _ _ _ _ h ⟨Z, s.pop.pop.dat (hg _ _ _ _ _)⟩⟩
  · exact h.elim
/-- ints, texts, tuples, lists -/
def rAddP (K : PySem.W.Frag) : R2 := fun x y H Q => (rI0 (fun i j => .int (i + j)) x y H Q ∨ (∃ i j, x = .str i ∧ y = .str j ∧ i.length + j.length ≤ sizeLine ∧ Q (.str (i ++ j)) H)) ∨ (rCatA K x y H Q ∨ rCat x y H Q)
theorem op_addP : OpR X (binaryOp .Add) (rAddP X.K) := opr_or (opr_or op_add op_add_str) (opr_or op_catA op_cat)
theorem nil_of_lenP {α β : Type} {xs : List α} {ds : List β} (h : xs.length = ds.length) (e : xs = []) : ds = [] := by
  subst e
  cases ds with
  | nil => rfl
  | cons _ _ => cases h
theorem li_add : LiftO K G (rAddP K) pAdd := by
  intro Z H σ env T x y pa pb C Q s h k
  unfold pAdd at h
  split at h
  · have h1 := s.topDat
    have h2 := s.pop.topDat
    cases h1
    cases h2
    exact .inl (.inl ⟨_, _, rfl, rfl, k _ _ _ _ h ⟨Z, s.pop.pop.dat rfl⟩⟩)
  · have h1 := s.topDat
    have h2 := s.pop.topDat
    cases h1
    cases h2
    exact .inl (.inr ⟨_, _, rfl, rfl, h.1, k _ _ _ _ h.2 ⟨Z, s.pop.pop.dat rfl⟩⟩)
  · next ds es =>
    obtain ⟨b, ys, rfl, hb, hy⟩ := s.topDat
    obtain ⟨a, xs, rfl, ha, hx⟩ := s.pop.topDat
    have l1 := hx.len
    have l2 := hy.len
    refine .inr (.inl ⟨a, b, xs, ys, rfl, rfl, ha, hb, by rw [l1, l2]; exact h.1, fun e => k _ _ _ _ h.2 ⟨Z, s.pop.pop.dat ?_⟩, fun _ e => k _ _ _ _ h.2 ⟨Z, s.pop.pop.dat ?_⟩, fun _ _ p hp => k _ _ _ _ h.2 ⟨Z, s.pop.pop.newTup hp (DaAll.app _ _ _ _ hx hy)⟩⟩)
    · rw [nil_of_lenP l1 e]
      exact ⟨b, ys, rfl, hb, hy⟩
    · rw [nil_of_lenP l2 e, List.append_nil]
      exact ⟨a, xs, rfl, ha, hx⟩
  · split at h
    · next xs ys e1 e2 =>
      obtain ⟨b, us, rfl, hb, hy⟩ := s.lst List.mem_cons_self e2
      obtain ⟨a, vs, rfl, ha, hx⟩ := s.lst (List.mem_cons_of_mem _ List.mem_cons_self) e1
      exact .inr (.inr ⟨a, b, vs, us, rfl, rfl, ha, hb, by rw [hx.len, hy.len]; exact h.1, fun p hp => k _ _ _ _ h.2 ⟨Z, s.pop.pop.newLst hp (DaAll.app _ _ _ _ hx hy)⟩⟩)
    · exact h.elim
def rMulP : R2 := fun x y H Q => rI CMul (fun i j => .int (i * j)) x y H Q ∨ rRep x y H Q
theorem op_mulP : OpR X (binaryOp .Mult) rMulP := opr_or op_mul op_rep
theorem rep_da {Z : Addr → Prop} {H : Hp} {ds : List PyData} {vs : List V} (h : DaAll K Z H ds vs) : ∀ n : Nat, DaAll K Z H (List.replicate n ds).flatten (List.replicate n vs).flatten
  | 0 => rfl
  | n + 1 => by
    rw [List.replicate_succ, List.replicate_succ, List.flatten_cons, List.flatten_cons]
    exact DaAll.app _ _ _ _ h (rep_da h n)
theorem li_mul : LiftO K G rMulP pMul := by
  intro Z H σ env T x y pa pb C Q s h k
  unfold pMul at h
  split at h
  · have h1 := s.topDat
    have h2 := s.pop.topDat
    cases h1
    cases h2
    exact .inl ⟨_, _, rfl, rfl, h.1, k _ _ _ _ h.2 ⟨Z, s.pop.pop.dat rfl⟩⟩
  · split at h
    · next xs e1 =>
      have h1 := s.topDat
      cases h1
      obtain ⟨a, vs, rfl, ha, hx⟩ := s.lst (List.mem_cons_of_mem _ List.mem_cons_self) e1
      exact .inr ⟨a, _, vs, rfl, rfl, ha, h.1, h.2.1, by rw [hx.len]; exact h.2.2.1, fun p hp => k _ _ _ _ h.2.2.2 ⟨Z, s.pop.pop.newLst hp (rep_da hx _)⟩⟩
    · exact h.elim
  · exact h.elim
theorem eqS_ok {H : Hp} {d e : PyData} {x y : V} {b : Bool} (h : eqS d e = some b) (hd : Db K H x d) (he : Db K H y e) : scal x y = true ∧ b = decide (x = y) := by
  unfold eqS at h
  split at h <;> first
    | cases h
      done
    | (cases h; cases hd; cases he; exact ⟨rfl, by first | rfl | simp⟩)
def rEqP (K : PySem.W.Frag) : R2 := fun x y H Q => rEq x y H Q ∨ rEqD K x y H Q
theorem op_eqP (hu : X.A.units + 64 < cLine) : OpR X (compareOp .Eq) (rEqP X.K) := opr_or op_eq (op_eqD hu)
theorem li_eq : LiftO K G (rEqP K) pEq := by
  intro Z H σ env T x y pa pb C Q s h k
  unfold pEq at h
  split at h
  · next d e e1 e2 =>
    have hy := s.db List.mem_cons_self e2
    have hx := s.db (List.mem_cons_of_mem _ List.mem_cons_self) e1
    split at h
    · next b eb =>
      obtain ⟨h1, h2⟩ := eqS_ok eb hx hy
      refine .inl ⟨h1, ?_⟩
      rw [← h2]
      exact k _ _ _ _ h ⟨Z, s.pop.pop.dat rfl⟩
    · exact .inr ⟨d, e, Da.dp _ _ (SeqAt.canLay_of_shaped h.1) hx, Da.dp _ _ (SeqAt.canLay_of_shaped h.2.1) hy, h.1, h.2.1, k _ _ _ _ h.2.2 ⟨Z, s.pop.pop.dat rfl⟩⟩
  · exact h.elim
def rNeP (K : PySem.W.Frag) : R2 := fun x y H Q => rNe x y H Q ∨ rNeD K x y H Q
theorem op_neP (hu : X.A.units + 64 < cLine) : OpR X (compareOp .NotEq) (rNeP X.K) := opr_or op_ne (op_neD hu)
theorem li_ne : LiftO K G (rNeP K) pNe := by
  intro Z H σ env T x y pa pb C Q s h k
  unfold pNe at h
  split at h
  · next d e e1 e2 =>
    have hy := s.db List.mem_cons_self e2
    have hx := s.db (List.mem_cons_of_mem _ List.mem_cons_self) e1
    split at h
    · next b eb =>
      obtain ⟨h1, h2⟩ := eqS_ok eb hx hy
      refine .inl ⟨h1, ?_⟩
      rw [← h2]
      exact k _ _ _ _ h ⟨Z, s.pop.pop.dat rfl⟩
    · exact .inr ⟨d, e, Da.dp _ _ (SeqAt.canLay_of_shaped h.1) hx, Da.dp _ _ (SeqAt.canLay_of_shaped h.2.1) hy, h.1, h.2.1, k _ _ _ _ h.2.2 ⟨Z, s.pop.pop.dat rfl⟩⟩
  · exact h.elim
/-- in, not in: lists and tuples of flat items, or of any data -/
def rInD (K : PySem.W.Frag) (neg : Bool) : R2 := fun x y H Q => ∃ d ds, Dp K H x d ∧ (Dp K H y (.list ds) ∨ Dp K H y (.tuple ds)) ∧ SeqAt.shaped d = true ∧ PyData.canLayAll0 ds = true ∧ Q (.bl (neg ^^ (ds.any fun z => PyData.eqv z d))) H
theorem room_inP {d : PyData} {n u : Nat} (sd : SeqAt.shaped d = true) (hu : u + 65 < cLine) : u + 1 + min n d.depth < cLine := by
  unfold SeqAt.shaped at sd
  have h := (Bool.and_eq_true_iff.mp sd).2
  have h := of_decide_eq_true h
  omega
theorem op_inD (hu : X.A.units + 65 < cLine) : OpR X (compareOp .In) (rInD X.K false) := by
  intro pins s σ H x y v u Q I rx ry h
  obtain ⟨d, ds, hd, he, sd, se, q⟩ := h
  obtain ⟨as, r1⟩ := Dp.reads I d x v hd rx
  rw [Bool.false_xor] at q
  rcases he with he | he
  · obtain ⟨bs, r2⟩ := Dp.reads I (.list ds) y u he ry
    exact SeqAt.in_list_reads r2 r1 se (SeqAt.canLay_of_shaped sd) (room_inP sd hu) ⟨.bl _, H, I, rfl, q⟩
  · obtain ⟨bs, r2⟩ := Dp.reads I (.tuple ds) y u he ry
    exact SeqAt.in_tuple_reads r2 r1 se (SeqAt.canLay_of_shaped sd) (room_inP sd hu) ⟨.bl _, H, I, rfl, q⟩
theorem op_ninD (hu : X.A.units + 65 < cLine) : OpR X (compareOp .NotIn) (rInD X.K true) := by
  intro pins s σ H x y v u Q I rx ry h
  obtain ⟨d, ds, hd, he, sd, se, q⟩ := h
  obtain ⟨as, r1⟩ := Dp.reads I d x v hd rx
  rw [Bool.true_xor] at q
  rcases he with he | he
  · obtain ⟨bs, r2⟩ := Dp.reads I (.list ds) y u he ry
    exact SeqAt.notIn_list_reads r2 r1 se (SeqAt.canLay_of_shaped sd) (room_inP sd hu) ⟨.bl _, H, I, rfl, q⟩
  · obtain ⟨bs, r2⟩ := Dp.reads I (.tuple ds) y u he ry
    exact SeqAt.notIn_tuple_reads r2 r1 se (SeqAt.canLay_of_shaped sd) (room_inP sd hu) ⟨.bl _, H, I, rfl, q⟩
def rInP (K : PySem.W.Frag) (neg : Bool) : R2 := fun x y H Q => rIn K neg x y H Q ∨ rInD K neg x y H Q
theorem op_inP (hu : X.A.units + 65 < cLine) : OpR X (compareOp .In) (rInP X.K false) := opr_or op_in_seq (op_inD hu)
theorem op_ninP (hu : X.A.units + 65 < cLine) : OpR X (compareOp .NotIn) (rInP X.K true) := opr_or op_notIn_seq (op_ninD hu)
theorem flat_ok {H : Hp} {d : PyData} {x : V} (hd : Db K H x d) (f : flatD d = true) : flatV x = true := by
  cases d <;> first | (cases hd; rfl) | cases f
theorem flat_eq {H : Hp} {d e : PyData} {x y : V} (hd : Db K H x d) (he : Db K H y e) (fd : flatD d = true) (fe : flatD e = true) : eqV y x = PyData.eqv e d := by
  cases d <;> first | cases fd; done | (cases e <;> first | cases fe; done | (cases hd; cases he; rfl))
theorem flat_any {H : Hp} {d : PyData} {x : V} (hd : Db K H x d) (fd : flatD d = true) : ∀ (ds : List PyData) (vs : List V), DaAll K (fun _ => True) H ds vs → (∀ z ∈ ds, flatD z = true) → vs.all flatV = true ∧ inV x vs = ds.any fun z => PyData.eqv z d
  | [], _, h, _ => by
    cases h
    exact ⟨rfl, rfl⟩
  | z :: ds, _, ⟨v, r, e, h1, h2⟩, f => by
    subst e
    obtain ⟨a1, a2⟩ := flat_any hd fd ds _ h2 fun z hz => f z (List.mem_cons_of_mem _ hz)
    refine ⟨?_, ?_⟩
    · rw [List.all_cons, a1, flat_ok h1 (f z List.mem_cons_self)]
      rfl
    · unfold inV at a2 ⊢
      rw [List.any_cons, List.any_cons, a2, flat_eq hd h1 fd (f z List.mem_cons_self)]
theorem li_in {neg : Bool} : LiftO K G (rInP K neg) (pIn neg) := by
  intro Z H σ env T x y pa pb C Q s h k
  unfold pIn at h
  split at h
  · next d ds e1 e2 =>
    have hx := s.db (List.mem_cons_of_mem _ List.mem_cons_self) e1
    obtain ⟨a, vs, rfl, ha, hy⟩ := s.seq List.mem_cons_self e2
    obtain ⟨h | h, hc⟩ := h
    · obtain ⟨f1, f2⟩ := flat_any hx h.1 ds vs hy.db h.2
      refine .inl ⟨a, vs, rfl, ha, flat_ok hx h.1, f1, ?_⟩
      have := k _ _ _ _ hc ⟨Z, s.pop.pop.dat (v := .bl (neg ^^ (ds.any fun z => PyData.eqv z d))) rfl⟩
      rw [← f2] at this
      cases neg with
      | false => rw [Bool.false_xor] at this; exact this
      | true => rw [Bool.true_xor] at this; exact this
    · refine .inr ⟨d, ds, Da.dp _ _ (SeqAt.canLay_of_shaped h.1) hx, ?_, h.1, h.2, k _ _ _ _ hc ⟨Z, s.pop.pop.dat rfl⟩⟩
      rcases ha with ha | ha
      · exact .inl (.lst ha (DaAll.dp _ _ h.2 hy))
      · exact .inr (.tup ha (DaAll.dp _ _ h.2 hy))
  · exact h.elim
theorem none_dp {H : Hp} {d : PyData} {x : V} (h : Db K H x d) : decide (x = V.non) = isNone d := by
  cases d with
  | none => cases h; rfl
  | bool b => cases h; simp [isNone]
  | int b => cases h; simp [isNone]
  | str b => cases h; simp [isNone]
  | tuple ds => obtain ⟨a, _, rfl, _⟩ := h; simp [isNone]
  | list ds => obtain ⟨a, _, rfl, _⟩ := h; simp [isNone]
  | dict kvs =>
    cases kvs with
    | nil => exact h.elim
    | cons p r =>
      obtain ⟨k, d⟩ := p
      have : ∃ a, x = V.ref a := by
        cases k <;> first | (obtain ⟨a, ws, e, _⟩ := h; exact ⟨a, e⟩) | (obtain ⟨a, o, ws, e, _⟩ := h; exact ⟨a, e⟩) | (obtain ⟨_, p, _, e, _⟩ := h; exact ⟨p, e⟩)
      obtain ⟨a, rfl⟩ := this
      simp [isNone]
def rIsP (neg : Bool) : R2 := fun x y H Q => y = .non ∧ Q (.bl (neg ^^ decide (x = .non))) H
theorem op_isP : OpR X (compareOp .Is) (rIsP false) := fun pins s σ H x y v u Q I rx ry h => op_isN pins s σ H x y v u Q I rx ry ⟨h.1, by have := h.2; rw [Bool.false_xor] at this; exact this⟩
theorem op_nisP : OpR X (compareOp .IsNot) (rIsP true) := fun pins s σ H x y v u Q I rx ry h => op_notN pins s σ H x y v u Q I rx ry ⟨h.1, by have := h.2; rw [Bool.true_xor] at this; exact this⟩
theorem li_is {neg : Bool} : LiftO K G (rIsP neg) (pIs neg) := by
  intro Z H σ env T x y pa pb C Q s h k
  unfold pIs at h
  split at h
  · next d e1 =>
    have hx := s.db (List.mem_cons_of_mem _ List.mem_cons_self) e1
    have hy := s.topDat
    cases hy
    refine ⟨rfl, ?_⟩
    rw [none_dp hx]
    exact k _ _ _ _ h ⟨Z, s.pop.pop.dat rfl⟩
  · exact h.elim
theorem atI_da {Z : Addr → Prop} {H : Hp} {ds : List PyData} {vs : List V} {i : Int} {d : PyData} (h : DaAll K Z H ds vs) (e : atI ds i = some d) : ∃ v, atI vs i = some v ∧ Da K Z H d v := by
  unfold atI at e ⊢
  rw [h.len]
  cases q : ixN ds.length i with
  | none => rw [q] at e; cases e
  | some j =>
    rw [q] at e
    exact DaAll.at j ds vs d h e
theorem li_ix : LiftO K G (rIx K) pIx := by
  intro Z H σ env T x y pa pb C Q s h k
  unfold pIx at h
  split at h
  · next ds i e1 =>
    obtain ⟨d, e2, hc⟩ := h
    obtain ⟨a, vs, rfl, ha, hx⟩ := s.seq (List.mem_cons_of_mem _ List.mem_cons_self) e1
    have h1 := s.topDat
    cases h1
    obtain ⟨v, e3, hv⟩ := atI_da hx e2
    have fin := k _ _ _ _ hc ⟨Z, s.pop.pop.dat hv⟩
    rcases ha with ha | ha
    · exact .inl ⟨a, vs, _, v, rfl, rfl, ha, e3, fin⟩
    · exact .inr (.inl ⟨a, vs, _, v, rfl, rfl, ha, e3, fin⟩)
  · exact h.elim
/-! ### slices -/
def pNoPart : PEnv → (Option Int → PEnv → Prop) → Prop := fun env C => C none env
def pPart (f : PEx) : PEnv → (Option Int → PEnv → Prop) → Prop := fun env C => f env fun p e => match p with
  | .dat (.int i) => C (some i) e
  | _ => False
def tPo (K : PySem.W.Frag) (G : Gam) (f : PEnv → (Option Int → PEnv → Prop) → Prop) : TO := fun σ H Q => ∃ env T C, StE K G H σ env T ∧ f env C ∧ ∀ o env' H', C o env' → StE K G H' σ env' T → Q o H'
theorem _root_.L2.PO.le {X : Cx} {e : Option Expr} {t t' : TO} (h : PO X e t) (k : ∀ σ H Q, t' σ H Q → t σ H Q) : PO X e t' := ⟨fun pins s σ H Q I q => h.run pins s σ H Q I (k _ _ _ q)⟩
theorem po_noneP : PO X none (tPo X.K G pNoPart) := po_none.le fun σ H Q ⟨env, T, C, s, h, k⟩ => k _ _ _ h s
theorem po_someP (h : PE X e (tE X.K G fa)) : PO X (some e) (tPo X.K G (pPart fa)) := (po_some h).le fun σ H Q ⟨env, T, C, s, h, k⟩ => ⟨env, T, _, s, h, fun p e1 v H1 h1 ⟨Z, s1⟩ => by
  split at h1
  · have := s1.topDat
    cases this
    exact ⟨_, rfl, k _ _ _ h1 ⟨Z, s1.pop⟩⟩
  · exact h1.elim⟩
def cutP (ds : List PyData) (lo hi : Option Int) : List PyData := (ds.drop (HT.sIx ds.length 0 lo)).take (HT.sIx ds.length ds.length hi - HT.sIx ds.length 0 lo)
def pSl (f : PEx) (l u : PEnv → (Option Int → PEnv → Prop) → Prop) : PEx := fun env C => f env fun p e1 => l e1 fun lo e2 => u e2 fun hi e3 => match p with
  | .dat (.tuple ds) => C (.dat (.tuple (cutP ds lo hi))) e3
  | p => match lstOf e3 p with
    | some xs => C (.own (cutP xs lo hi)) e3
    | none => False
theorem cut_da {Z : Addr → Prop} {H : Hp} {ds : List PyData} {vs : List V} (lo hi : Option Int) (h : DaAll K Z H ds vs) : DaAll K Z H (cutP ds lo hi) (cutV vs lo hi) := by
  unfold cutP cutV
  rw [h.len]
  exact DaAll.tk _ _ _ (DaAll.dr _ _ _ h)
theorem pe_sliceP {lo hi : Option Expr} {fl fu : PEnv → (Option Int → PEnv → Prop) → Prop} {p2 : Pos} (he : PE X e (tE X.K G fa)) (hl : PO X lo (tPo X.K G fl)) (hu : PO X hi (tPo X.K G fu)) : PE X (.Subscript e (.Slice lo hi none p2) pos) (tE X.K G (pSl fa fl fu)) :=
  (pe_slice (SlR.or sl_tupA sl_list) he hl hu).le fun σ H Q ⟨env, T, C, s, h, k⟩ => ⟨env, T, _, s, h, fun p e1 v H1 h1 s1 => ⟨e1, _, _, s1, h1, fun lo e2 H2 h2 s2 => ⟨e2, _, _, s2, h2, fun hi e3 H3 h3 ⟨Z, s3⟩ => by
    split at h3
    · next ds _ =>
      obtain ⟨a, vs, rfl, ha, hx⟩ := s3.topDat
      have lx := hx.len
      refine .inl ⟨a, vs, rfl, ha, fun w => k _ _ _ _ h3 ⟨Z, s3.pop.dat ⟨a, vs, rfl, ha, ?_⟩⟩, fun _ p hp => k _ _ _ _ h3 ⟨Z, s3.pop.newTup hp (cut_da lo hi hx)⟩⟩
      rw [lx] at w
      have e : cutP ds lo hi = ds := by
        unfold cutP
        rw [w.1, w.2, List.drop_zero, Nat.sub_zero, List.take_length]
      rw [e]
      exact hx
    · split at h3
      · next xs e4 =>
        obtain ⟨a, vs, rfl, ha, hx⟩ := s3.lst List.mem_cons_self e4
        exact .inr ⟨a, vs, rfl, SqL.of ha, fun p hp => k _ _ _ _ h3 ⟨Z, s3.pop.newLst hp (cut_da lo hi hx)⟩⟩
      · exact h3.elim⟩⟩⟩
/-! ### and, or, not, if -/
def pAnd (fa fb : PEx) : PEx := fun env C => fa env fun p e => match p with
  | .dat (.bool b) => IfP b (fb e C) (C (.dat (.bool false)) e)
  | _ => False
def pOr (fa fb : PEx) : PEx := fun env C => fa env fun p e => match p with
  | .dat (.bool b) => IfP b (C (.dat (.bool true)) e) (fb e C)
  | _ => False
def pNot (fa : PEx) : PEx := fun env C => fa env fun p e => match p with
  | .dat (.bool b) => C (.dat (.bool (!b))) e
  | _ => False
def pNeg (fa : PEx) : PEx := fun env C => fa env fun p e => match p with
  | .dat (.int i) => C (.dat (.int (-i))) e
  | _ => False
def pIfE (t : PTst) (fa fb : PEx) : PEx := fun env C => t env fun b e => IfP b (fa e C) (fb e C)
theorem pe_oneP {op : BoolOp} (ha : PE X a (tE X.K G fa)) : PE X (.BoolOp op [a] pos) (tE X.K G fa) := pe_one ha
theorem pe_andP {rest : List Expr} (ha : PE X a (tE X.K G fa)) (hb : PE X (.BoolOp .And (b :: rest) pos) (tE X.K G fb)) : PE X (.BoolOp .And (a :: b :: rest) pos) (tE X.K G (pAnd fa fb)) := (pe_and ha hb).le fun σ H Q ⟨env, T, C, s, h, k⟩ => ⟨env, T, _, s, h, fun p e1 v H1 h1 ⟨Z, s1⟩ => by
  split at h1
  · have := s1.topDat
    cases this
    refine ⟨_, rfl, ?_⟩
    rcases h1 with ⟨rfl, h1⟩ | ⟨rfl, h1⟩
    · exact ⟨e1, T, C, ⟨Z, s1.pop⟩, h1, k⟩
    · exact k _ _ _ _ h1 ⟨Z, s1.pop.dat rfl⟩
  · exact h1.elim⟩
theorem pe_orP {rest : List Expr} (ha : PE X a (tE X.K G fa)) (hb : PE X (.BoolOp .Or (b :: rest) pos) (tE X.K G fb)) : PE X (.BoolOp .Or (a :: b :: rest) pos) (tE X.K G (pOr fa fb)) := (pe_or ha hb).le fun σ H Q ⟨env, T, C, s, h, k⟩ => ⟨env, T, _, s, h, fun p e1 v H1 h1 ⟨Z, s1⟩ => by
  split at h1
  · have := s1.topDat
    cases this
    refine ⟨_, rfl, ?_⟩
    rcases h1 with ⟨rfl, h1⟩ | ⟨rfl, h1⟩
    · exact k _ _ _ _ h1 ⟨Z, s1.pop.dat rfl⟩
    · exact ⟨e1, T, C, ⟨Z, s1.pop⟩, h1, k⟩
  · exact h1.elim⟩
theorem pe_notP (ha : PE X a (tE X.K G fa)) : PE X (.UnaryOp .Not a pos) (tE X.K G (pNot fa)) := (pe_not ha).le fun σ H Q ⟨env, T, C, s, h, k⟩ => ⟨env, T, _, s, h, fun p e1 v H1 h1 ⟨Z, s1⟩ => by
  split at h1
  · have := s1.topDat
    cases this
    exact ⟨_, rfl, k _ _ _ _ h1 ⟨Z, s1.pop.dat rfl⟩⟩
  · exact h1.elim⟩
theorem pe_negP (ha : PE X a (tE X.K G fa)) : PE X (.UnaryOp .USub a pos) (tE X.K G (pNeg fa)) := (pe_un un_neg ha).le fun σ H Q ⟨env, T, C, s, h, k⟩ => ⟨env, T, _, s, h, fun p e1 v H1 h1 ⟨Z, s1⟩ => by
  split at h1
  · have := s1.topDat
    cases this
    exact ⟨_, rfl, k _ _ _ _ h1 ⟨Z, s1.pop.dat rfl⟩⟩
  · exact h1.elim⟩
theorem pe_ifP {t : PTst} (hc : PT X c (tQ X.K G t)) (ha : PE X a (tE X.K G fa)) (hb : PE X b (tE X.K G fb)) : PE X (.IfExp c a b pos) (tE X.K G (pIfE t fa fb)) := (pe_ifExp hc ha hb).le fun σ H Q ⟨env, T, C, s, h, k⟩ => ⟨env, T, _, s, h, fun b e1 H1 h1 s1 => by
  cases b with
  | true => exact ⟨e1, T, C, s1, h1.tt, k⟩
  | false => exact ⟨e1, T, C, s1, h1.ff, k⟩⟩
/-! ### tests -/
def pTst (fa : PEx) : PTst := fun env C => fa env fun p e => match p with
  | .dat (.bool b) => C b e
  | _ => False
/-- by truth -/
def truth (env : PEnv) : Cel → Option Bool
  | .dat .none => some false
  | .dat (.bool b) => some b
  | .dat (.int i) => some (i != 0)
  | p => (itemsOf env p).map fun ds => !ds.isEmpty
def pTru (fa : PEx) : PTst := fun env C => fa env fun p e => match truth e p with
  | some b => C b e
  | none => False
def pTnot (t : PTst) : PTst := fun env C => t env fun b e => C (!b) e
def pTand (t u : PTst) : PTst := fun env C => t env fun b e => IfP b (u e C) (C false e)
def pTor (t u : PTst) : PTst := fun env C => t env fun b e => IfP b (C true e) (u e C)
theorem pt_valP (h : PE X e (tE X.K G fa)) (he : ∀ whole, isTrue e X.env whole = (do let v ← whole; standAt e.pos; holding [v] (truthy v)) := by intro _; rfl) : PT X e (tQ X.K G (pTst fa)) := (pt_val h he).le fun σ H Q ⟨env, T, C, s, h, k⟩ => ⟨env, T, _, s, h, fun p e1 v H1 h1 ⟨Z, s1⟩ => by
  split at h1
  · have := s1.topDat
    cases this
    exact ⟨_, rfl, k _ _ _ h1 ⟨Z, s1.pop⟩⟩
  · exact h1.elim⟩
theorem pt_truP (h : PE X e (tE X.K G fa)) (he : ∀ whole, isTrue e X.env whole = (do let v ← whole; standAt e.pos; holding [v] (truthy v)) := by intro _; rfl) : PT X e (tQ X.K G (pTru fa)) := (pt_truth h he).le fun σ H Q ⟨env, T, C, s, h, k⟩ => ⟨env, T, _, s, h, fun p e1 v H1 h1 ⟨Z, s1⟩ => by
  split at h1
  · next b eb =>
    refine ⟨b, ?_, k _ _ _ h1 ⟨Z, s1.pop⟩⟩
    have go : (itemsOf e1 p).map (fun ds => !ds.isEmpty) = some b → TruV X.K v H1 b := fun eb => by
      obtain ⟨ds, e2, rfl⟩ := Option.map_eq_some_iff.mp eb
      obtain ⟨a, vs, rfl, ha, hx⟩ := s1.seq List.mem_cons_self e2
      have : vs.isEmpty = ds.isEmpty := by
        have := hx.len
        cases vs <;> cases ds <;> first | rfl | cases this
      rcases ha with ha | ha
      · exact .inl ⟨vs, ha, by rw [this]⟩
      · exact .inr (.inl ⟨vs, ha, by rw [this]⟩)
    unfold truth at eb
    split at eb
    · have := s1.topDat
      cases this
      cases eb
      exact rfl
    · have := s1.topDat
      cases this
      cases eb
      exact rfl
    · have := s1.topDat
      cases this
      cases eb
      exact rfl
    · exact go eb
  · exact h1.elim⟩
theorem pt_cmpP {op : CmpOp} (ho : OpR X (compareOp op) r) (l : LiftO X.K G r rp) (ha : PE X a (tE X.K G fa)) (hb : PE X b (tE X.K G fb)) (hm : behindInMarks op b = false) : PT X (.Compare a [op] [b] pos) (tQ X.K G (pTst (pBin rp fa fb))) :=
  (pt_cmpR ho ha hb hm).le fun σ H Q ⟨env, T, C, s, h, k⟩ => binP l _ _ _ ⟨env, T, _, s, h, fun p e1 v H1 h1 ⟨Z, s1⟩ => by
    split at h1
    · have := s1.topDat
      cases this
      exact ⟨_, rfl, k _ _ _ h1 ⟨Z, s1.pop⟩⟩
    · exact h1.elim⟩
theorem pt_notP {t : PTst} (h : PT X e (tQ X.K G t)) : PT X (.UnaryOp .Not e pos) (tQ X.K G (pTnot t)) := (pt_not h).le fun σ H Q ⟨env, T, C, s, h, k⟩ => ⟨env, T, _, s, h, fun b e1 H1 h1 s1 => k _ _ _ h1 s1⟩
theorem pw_and1P {t : PTst} (h : PT X a (tQ X.K G t)) : PW X (.BoolOp .And [a] pos) (tQ X.K G t) := pw_and1 h
theorem pw_or1P {t : PTst} (h : PT X a (tQ X.K G t)) : PW X (.BoolOp .Or [a] pos) (tQ X.K G t) := pw_or1 h
theorem pw_andP {t u : PTst} {rest : List Expr} (h : PT X a (tQ X.K G t)) (h2 : PW X (.BoolOp .And (b :: rest) pos) (tQ X.K G u)) : PW X (.BoolOp .And (a :: b :: rest) pos) (tQ X.K G (pTand t u)) := (pw_and h h2).le fun σ H Q ⟨env, T, C, s, h, k⟩ => ⟨env, T, _, s, h, fun b e1 H1 h1 s1 => by
  cases b with
  | true => exact ⟨e1, T, C, s1, h1.tt, k⟩
  | false => exact k _ _ _ h1.ff s1⟩
theorem pw_orP {t u : PTst} {rest : List Expr} (h : PT X a (tQ X.K G t)) (h2 : PW X (.BoolOp .Or (b :: rest) pos) (tQ X.K G u)) : PW X (.BoolOp .Or (a :: b :: rest) pos) (tQ X.K G (pTor t u)) := (pw_or h h2).le fun σ H Q ⟨env, T, C, s, h, k⟩ => ⟨env, T, _, s, h, fun b e1 H1 h1 s1 => by
  cases b with
  | false => exact ⟨e1, T, C, s1, h1.ff, k⟩
  | true => exact k _ _ _ h1.tt s1⟩
end

/-! ### statements over the value layer -/
structure PEnds where
  nx : PEnv → Prop
  rt : Cel → PEnv → Prop
  bk : PEnv → Prop := fun _ => False
  ct : PEnv → Prop := fun _ => False
abbrev PSt := PEnds → PEnv → Prop
def NoBor (T : Stk) : Prop := ∀ t ∈ T, ∀ i, t.2 ≠ Cel.bor i ∧ ∀ k, t.2 ≠ Cel.sub i k
structure EndsOk (K : PySem.W.Frag) (G : Gam) (T : Stk) (E : PEnds) (D : Ends) : Prop where
  nx : ∀ env σ H, E.nx env → StE K G H σ env T → D.nx σ H
  rt : ∀ p env σ v H, E.rt p env → StE K G H σ env ((v, p) :: T) → D.rt v H
  bk : ∀ env σ H, E.bk env → StE K G H σ env T → D.bk σ H
  ct : ∀ env σ H, E.ct env → StE K G H σ env T → D.ct σ H
def tS (K : PySem.W.Frag) (G : Gam) (g : PSt) : L2.TS := fun D σ H => ∃ env T E, NoBor T ∧ StE K G H σ env T ∧ g E env ∧ EndsOk K G T E D
def pNext : PSt := fun E env => E.nx env
def pSeq (g h : PSt) : PSt := fun E env => g { E with nx := h E } env
/-- a join with a word of one's own -/
def pCut (g h : PSt) : PSt := fun E env => ∃ W : PEnv → Prop, g { E with nx := W } env ∧ ∀ env', W env' → h E env'
/-- x = the value -/
def setE (e : PEnv) (i : Nat) (p : Cel) (C : PEnv → Prop) : Prop := match e[i]? with
  | some _ => (match p with
    | .dat d => C (e.set i (.dat d))
    | .own xs => C (e.set i (.own xs))
    | .drw => C (e.set i .drw)
    | .box xs => C (e.set i (.box xs))
    | .dic kvs => C (e.set i (.dic kvs))
    | _ => False)
  | none => False
def pSet (i : Nat) (f : PEx) : PSt := fun E env => f env fun p e => setE e i p E.nx
def pMv (i j : Nat) : PSt := fun E env => match env[j]?, env[i]? with
  | some (.own xs), some _ => E.nx ((env.set j .no).set i (.own xs))
  | some (.dat d), some _ => E.nx (env.set i (.dat d))
  | some (.box xs), some _ => E.nx ((env.set j .no).set i (.box xs))
  | _, _ => False
def pRet (f : PEx) : PSt := fun E env => f env fun p e => E.rt p e
def pRetMv (j : Nat) : PSt := fun E env => match env[j]? with
  | some (.own xs) => E.rt (.own xs) (env.set j .no)
  | some (.dat d) => E.rt (.dat d) env
  | some (.box xs) => E.rt (.box xs) (env.set j .no)
  | _ => False
def pRetN : PSt := fun E env => E.rt (.dat .none) env
def pDrop (f : PEx) : PSt := fun E env => f env fun _ e => E.nx e
def pIf (t : PTst) (a b : PSt) : PSt := fun E env => t env fun c e => IfP c (a E e) (b E e)
def pBreak : PSt := fun E env => E.bk env
def pCont : PSt := fun E env => E.ct env
def pWhile (t : PTst) (b : PSt) : PSt := fun E env => ∃ W : Nat → PEnv → Prop, (∃ m, W m env) ∧ ∀ m env, W m env → t env fun c e => IfP c (b { E with nx := fun e' => ∃ m', m' < m ∧ W m' e', ct := fun e' => ∃ m', m' < m ∧ W m' e', bk := E.nx } e) (E.nx e)
section
variable {K : PySem.W.Frag} {G : Gam} {Z : Addr → Prop} {H : Hp} {σ : L2.St} {env : PEnv} {T : Stk}
theorem StZ.setP {v : V} {p : Cel} (s : StZ K G Z H σ env ((v, p) :: T)) {i : Nat} {C : PEnv → Prop} (h : setE env i p C) (nb : NoBor T) : ∃ env', C env' ∧ StZ K G Z H (σ.set i (some v)) env' T := by
  unfold setE at h
  split at h
  · next hi =>
    have hi := (List.getElem?_eq_some_iff.mp hi).1
    have n : ∀ t ∈ T, t.2 ≠ Cel.bor i ∧ ∀ k, t.2 ≠ Cel.sub i k := fun t ht => nb t ht i
    split at h
    · exact ⟨_, h, s.setTop hi n⟩
    · exact ⟨_, h, s.setTop hi n⟩
    · exact ⟨_, h, s.setTop hi n⟩
    · exact ⟨_, h, s.setTop hi n⟩
    · exact ⟨_, h, s.setTop hi n⟩
    · exact h.elim
  · exact h.elim
/-- the list of slot j comes to the stack -/
theorem StZ.take {j : Nat} {p : Cel} {ov : Option V} (s : StZ K G Z H σ env T) (e : env[j]? = some p) (e1 : σ[j]? = some ov) (pp : (∃ xs, p = .own xs) ∨ ∃ xs, p = .box xs) (nb : NoBor T) : ∃ a, ov = some (.ref a) ∧ StZ K G Z H σ (env.set j .no) ((.ref a, p) :: T) := by
  obtain ⟨ov', e2, ok⟩ := s.sl j _ e
  rw [e1] at e2
  cases e2
  have hj := (List.getElem?_eq_some_iff.mp e).1
  have ⟨a, ea⟩ : ∃ a, ov = some (.ref a) := by
    rcases pp with ⟨xs, rfl⟩ | ⟨xs, rfl⟩
    · obtain ⟨a, vs, e, _⟩ := ok
      exact ⟨a, e⟩
    · obtain ⟨a, vs, e, _⟩ := ok
      exact ⟨a, e⟩
  subst ea
  refine ⟨a, rfl, (s.fgt hj fun t ht => nb t ht j).push ok ?_ ?_ ?_ fun b ob => ?_⟩
  · rcases pp with ⟨xs, rfl⟩ | ⟨xs, rfl⟩ <;> exact fun _ z => by cases z
  · rcases pp with ⟨xs, rfl⟩ | ⟨xs, rfl⟩ <;> exact fun _ _ z => by cases z
  · rcases pp with ⟨xs, rfl⟩ | ⟨xs, rfl⟩ <;> exact fun _ z => by cases z
  rintro (⟨i, ow, q, f1, f2, hb⟩ | ⟨t, ht, ot⟩)
  · by_cases n : i = j
    · subst n
      rw [List.getElem?_set_self hj] at f2
      cases f2
      cases ow <;> cases hb
    · rw [List.getElem?_set_ne (Ne.symm n)] at f2
      exact n (s.s1 i j b ⟨ow, q, f1, f2, hb⟩ ⟨_, p, e1, e, ob⟩)
  · exact s.s3 j b t ⟨_, p, e1, e, ob⟩ ht ot
end
section
variable {X : Cx} {G : Gam} {st : Stmt} {rest : List Stmt} {e c : Expr} {pos : Pos} {g h : PSt} {f : PEx}
theorem pss_nilP : PSs X [] (tS X.K G pNext) := pss_nil.le fun D σ H ⟨env, T, E, nb, s, h, k⟩ => k.nx _ _ _ h s
theorem pss_consP (h1 : PS X st (tS X.K G g)) (h2 : PSs X rest (tS X.K G h)) : PSs X (st :: rest) (tS X.K G (pSeq g h)) := (pss_cons h1 h2).le fun D σ H ⟨env, T, E, nb, s, w, k⟩ =>
  ⟨env, T, _, nb, s, w, fun e1 σ1 H1 h1 s1 => ⟨e1, T, E, nb, s1, h1, k⟩, k.rt, k.bk, k.ct⟩
theorem pss_cutP (h1 : PS X st (tS X.K G g)) (h2 : PSs X rest (tS X.K G h)) : PSs X (st :: rest) (tS X.K G (pCut g h)) := (pss_cons h1 h2).le fun D σ H ⟨env, T, E, nb, s, ⟨W, w1, w2⟩, k⟩ =>
  ⟨env, T, { E with nx := W }, nb, s, w1, fun e1 σ1 H1 h1 s1 => ⟨e1, T, E, nb, s1, w2 _ h1, k⟩, k.rt, k.bk, k.ct⟩
theorem pss_oneP (h1 : PS X st (tS X.K G g)) : PSs X [st] (tS X.K G g) := pss_one h1
theorem ps_passP : PS X (.Pass pos) (tS X.K G pNext) := ps_pass.le fun D σ H ⟨env, T, E, nb, s, h, k⟩ => k.nx _ _ _ h s
theorem ps_breakP : PS X (.Break pos) (tS X.K G pBreak) := ps_break.le fun D σ H ⟨env, T, E, nb, s, h, k⟩ => k.bk _ _ _ h s
theorem ps_contP : PS X (.Continue pos) (tS X.K G pCont) := ps_continue.le fun D σ H ⟨env, T, E, nb, s, h, k⟩ => k.ct _ _ _ h s
/-- any statement that is an assignment to a slot -/
theorem ps_setP {i : Nat} (h : PS X st (tAsg (tE X.K G f) (gName i))) : PS X st (tS X.K G (pSet i f)) := h.le fun D σ H ⟨env, T, E, nb, s, h, k⟩ => ⟨env, T, _, s, h, fun p e1 v H1 h1 ⟨Z, s1⟩ => by
  obtain ⟨e2, h2, s2⟩ := s1.setP h1 nb
  exact k.nx _ _ _ h2 ⟨Z, s2⟩⟩
theorem ps_mvP {i j : Nat} (h : PS X st (tAsg (tVar j) (gName i))) : PS X st (tS X.K G (pMv i j)) := h.le fun D σ H ⟨env, T, E, nb, ⟨Z, s⟩, h, k⟩ => by
  unfold pMv at h
  split at h
  · next xs _ e1 e2 =>
    obtain ⟨ov, e3, _⟩ := s.sl j _ e1
    obtain ⟨a, rfl, s2⟩ := s.take e1 e3 (.inl ⟨_, rfl⟩) nb
    have hi := (List.getElem?_eq_some_iff.mp e2).1
    exact ⟨_, e3, k.nx _ _ _ h ⟨Z, s2.setTop (by rw [List.length_set]; exact hi) fun t ht => nb t ht i⟩⟩
  · next d _ e1 e2 =>
    obtain ⟨ov, e3, v, rfl, hd⟩ := s.sl j _ e1
    have hi := (List.getElem?_eq_some_iff.mp e2).1
    exact ⟨_, e3, k.nx _ _ _ h ⟨Z, (s.dat hd).setD hi fun t ht => nb t ht i⟩⟩
  · next xs _ e1 e2 =>
    obtain ⟨ov, e3, _⟩ := s.sl j _ e1
    obtain ⟨a, rfl, s2⟩ := s.take e1 e3 (.inr ⟨_, rfl⟩) nb
    have hi := (List.getElem?_eq_some_iff.mp e2).1
    exact ⟨_, e3, k.nx _ _ _ h ⟨Z, s2.setTop (by rw [List.length_set]; exact hi) fun t ht => nb t ht i⟩⟩
  · exact h.elim
theorem ps_retP (he : PE X e (tE X.K G f)) : PS X (.Return (some e) pos) (tS X.K G (pRet f)) := (ps_ret he).le fun D σ H ⟨env, T, E, nb, s, h, k⟩ => ⟨env, T, _, s, h, fun p e1 v H1 h1 s1 => k.rt _ _ _ _ _ h1 s1⟩
theorem ps_retMvP {j : Nat} (he : PE X e (tVar j)) : PS X (.Return (some e) pos) (tS X.K G (pRetMv j)) := (ps_ret he).le fun D σ H ⟨env, T, E, nb, ⟨Z, s⟩, h, k⟩ => by
  unfold pRetMv at h
  split at h
  · next xs e1 =>
    obtain ⟨ov, e3, _⟩ := s.sl j _ e1
    obtain ⟨a, rfl, s2⟩ := s.take e1 e3 (.inl ⟨_, rfl⟩) nb
    exact ⟨_, e3, k.rt _ _ _ _ _ h ⟨Z, s2⟩⟩
  · next d e1 =>
    obtain ⟨ov, e3, v, rfl, hd⟩ := s.sl j _ e1
    exact ⟨_, e3, k.rt _ _ _ _ _ h ⟨Z, s.dat hd⟩⟩
  · next xs e1 =>
    obtain ⟨ov, e3, _⟩ := s.sl j _ e1
    obtain ⟨a, rfl, s2⟩ := s.take e1 e3 (.inr ⟨_, rfl⟩) nb
    exact ⟨_, e3, k.rt _ _ _ _ _ h ⟨Z, s2⟩⟩
  · exact h.elim
theorem ps_retNP : PS X (.Return none pos) (tS X.K G pRetN) := ps_retN.le fun D σ H ⟨env, T, E, nb, ⟨Z, s⟩, h, k⟩ => k.rt _ _ _ _ _ h ⟨Z, s.dat rfl⟩
theorem ps_dropP (he : PE X e (tE X.K G f)) (hs : swapsWith e none pos.line X.env = pure false := by rfl) : PS X (.Expr e pos) (tS X.K G (pDrop f)) := (ps_expr he hs).le fun D σ H ⟨env, T, E, nb, s, h, k⟩ => ⟨env, T, _, s, h, fun p e1 v H1 h1 ⟨Z, s1⟩ => k.nx _ _ _ h1 ⟨Z, s1.pop⟩⟩
theorem ps_docP {x j pos'} : PS X (.Expr (.Constant (.str x) j pos) pos') (tS X.K G pNext) := ps_doc.le fun D σ H ⟨env, T, E, nb, s, h, k⟩ => k.nx _ _ _ h s
theorem ps_ifP {t : PTst} {a b : List Stmt} (hc : PT X c (tQ X.K G t)) (ha : PSs X a (tS X.K G g)) (hb : PSs X b (tS X.K G h)) : PS X (.If c a b pos) (tS X.K G (pIf t g h)) := (ps_if hc ha hb).le fun D σ H ⟨env, T, E, nb, s, w, k⟩ => ⟨env, T, _, s, w, fun b e1 H1 h1 s1 => by
  cases b with
  | true => exact ⟨e1, T, E, nb, s1, h1.tt, k⟩
  | false => exact ⟨e1, T, E, nb, s1, h1.ff, k⟩⟩
theorem ps_whileP {t : PTst} {body : List Stmt} (hp : PassesOwn (model X.prog X.w) X.A X.env X.xe) (hc : PT X c (tQ X.K G t)) (hb : PSs X body (tS X.K G g)) : PS X (.While c body [] pos) (tS X.K G (pWhile t g)) :=
  (ps_while hp hc hb).le fun D σ H ⟨env, T, E, nb, s, ⟨W, ⟨m0, w0⟩, turn⟩, k⟩ => ⟨fun m σ H => ∃ env, W m env ∧ StE X.K G H σ env T, ⟨m0, env, w0, s⟩, fun m σ1 H1 ⟨e1, w1, s1⟩ => ⟨e1, T, _, s1, turn m e1 w1, fun b e2 H2 h2 s2 => by
    cases b with
    | true => exact ⟨fun σ H => ∃ m', m' < m ∧ ∃ env, W m' env ∧ StE X.K G H σ env T, fun σ' H' ⟨m', l, x⟩ => ⟨m', l, x⟩, e2, T, _, nb, s2, h2.tt, fun e3 σ3 H3 ⟨m', l, x⟩ s3 => ⟨m', l, e3, x, s3⟩, k.rt, k.nx, fun e3 σ3 H3 ⟨m', l, x⟩ s3 => ⟨m', l, e3, x, s3⟩⟩
    | false => exact k.nx _ _ _ h2.ff s2⟩⟩
/-- x op= e of ints -/
def pAug (i : Nat) (o : Int → Int → Int) (f : PEx) : PSt := fun E env => match env[i]? with
  | some (.dat (.int a)) => f env fun p e => match p, e[i]? with
    | .dat (.int b), some _ => E.nx (e.set i (.dat (.int (o a b))))
    | _, _ => False
  | _ => False
theorem ps_augP {i : Nat} {o : Int → Int → Int} (h : PS X st (tAug i (tE X.K G f) (ipI o))) : PS X st (tS X.K G (pAug i o f)) := h.le fun D σ H ⟨env, T, E, nb, ⟨Z, s⟩, h, k⟩ => by
  unfold pAug at h
  split at h
  · next a e1 =>
    obtain ⟨ov, e3, v, rfl, hd⟩ := s.sl i _ e1
    cases hd
    refine ⟨_, e3, env, T, _, ⟨Z, s⟩, h, fun p e2 v H2 h2 ⟨Z2, s2⟩ => ?_⟩
    split at h2
    · next e4 _ =>
      have := s2.topDat
      cases this
      have hi := (List.getElem?_eq_some_iff.mp e4).1
      exact ⟨_, _, rfl, rfl, k.nx _ _ _ h2 ⟨Z2, (s2.pop.dat (v := .int _) (d := .int _) rfl).setD hi fun t ht => nb t ht i⟩⟩
    · exact h2.elim
  · exact h.elim
end
/-! ### lists that are written -/
def mutE (e : PEnv) (s : Nat) (P : List PyData → (List PyData → Prop) → Prop) (C : PEnv → Prop) : Prop := match e[s]? with
  | some (.own xs) => P xs fun ys => C (e.set s (.own ys))
  | some (.arg xs) => P xs fun ys => C (e.set s (.arg ys))
  | _ => False
section
variable {K : PySem.W.Frag} {G : Gam} {Z : Addr → Prop} {H : Hp} {σ : L2.St} {env : PEnv} {T : Stk}
theorem StZ.mut {s : Nat} {v : V} {P : List PyData → (List PyData → Prop) → Prop} {C : PEnv → Prop} (S : StZ K G Z H σ env T) (e : σ[s]? = some (some v)) (h : mutE env s P C) :
    ∃ (a : Addr) (vs : List V) (xs : List PyData) (c : List PyData → Cel), v = .ref a ∧ H a = some (.lst vs) ∧ DaAll K Z H xs vs ∧ lstAt env[s]? = some xs ∧ P xs (fun ys => C (env.set s (c ys))) ∧ ∀ ys us, DaAll K Z H ys us → StZ K G Z (upd H a (.lst us)) σ (env.set s (c ys)) T := by
  unfold mutE at h
  split at h
  · next xs e1 =>
    obtain ⟨ov, e2, a, vs, rfl, h1, h2, h3, h4⟩ := S.sl s _ e1
    rw [e] at e2
    cases e2
    refine ⟨a, vs, xs, .own, rfl, h1, h2, by rw [e1]; rfl, h, fun ys us hy => ?_⟩
    exact (S.dat (v := .non) (d := .none) rfl).chg (p' := .own ys) e e1 ⟨a, us, rfl, upd_same, DaAll.mv (Mv.wr h1 h3) _ _ hy, h3, h4⟩ (fun b hb => .inl hb) (fun b o n e => upd_else e fun z => n (by rw [z]; exact List.mem_cons_self)) (fun b e => upd_some e) (fun _ => trivial) (S.nosub e1 fun _ z => by cases z) fun ys z => by cases z
  · next xs e1 =>
    obtain ⟨ov, e2, a, vs, rfl, h1, h2, h3, h4⟩ := S.sl s _ e1
    rw [e] at e2
    cases e2
    refine ⟨a, vs, xs, .arg, rfl, h1, h2, by rw [e1]; rfl, h, fun ys us hy => ?_⟩
    exact (S.dat (v := .non) (d := .none) rfl).chg (p' := .arg ys) e e1 ⟨a, us, rfl, upd_same, DaAll.mv (Mv.wr h1 h3) _ _ hy, h3, h4⟩ (fun b hb => .inl hb) (fun b o n e => upd_else e fun z => n (by rw [z]; exact List.mem_cons_self)) (fun b e => upd_some e) (fun _ => trivial) (S.nosub e1 fun _ z => by cases z) fun ys z => ⟨_, rfl⟩
  · exact h.elim
end
/-- the slot holds no dict -/
def notDic (e : PEnv) (s : Nat) (P : Prop) : Prop := match e[s]? with
  | some (.dic _) => False
  | some (.dit _) => False
  | _ => P
/-- o.m(..), o a list of a slot -/
def pMeth (fo : PEx) (ga : PAs) (M : Nat → List Cel → PEnv → PK → Prop) : PEx := fun env C => fo env fun po e1 => match po with
  | .bor s => notDic e1 s (ga e1 fun ps e2 => M s ps e2 C)
  | _ => False
def pMeth0 (fo : PEx) (M : Nat → List Cel → PEnv → PK → Prop) : PEx := fun env C => fo env fun po e1 => match po with
  | .bor s => notDic e1 s (M s [] e1 C)
  | _ => False
def LiftM (K : PySem.W.Frag) (G : Gam) (r : V → List V → Hp → VK → Prop) (M : Nat → List Cel → PEnv → PK → Prop) : Prop := ∀ (Z : Addr → Prop) (H : Hp) (σ : L2.St) (env : PEnv) (T : Stk) (s : Nat) (v : V) (vs : List V) (ps : List Cel) (C : PK) (Q : VK),
  StZ K G Z H σ env (psh ((v, .bor s) :: T) vs ps) → vs.length = ps.length → M s ps env C → (∀ p env' v H', C p env' → StE K G H' σ env' ((v, p) :: T) → Q v H') → r v vs H Q
def mApp (s : Nat) (ps : List Cel) (env : PEnv) (C : PK) : Prop := match ps with
  | [.dat d] => mutE env s (fun xs k => xs.length < sizeLine ∧ k (xs ++ [d])) (C (.dat .none))
  | _ => False
def mIns (s : Nat) (ps : List Cel) (env : PEnv) (C : PK) : Prop := match ps with
  | [.dat (.int i), .dat d] => mutE env s (fun xs k => xs.length < sizeLine ∧ 0 ≤ i ∧ i < 2 ^ 63 ∧ k (xs.take i.toNat ++ [d] ++ xs.drop i.toNat)) (C (.dat .none))
  | _ => False
def mExt (s : Nat) (ps : List Cel) (env : PEnv) (C : PK) : Prop := match ps with
  | [p] => match itemsOf env p with
    | some ds => mutE env s (fun xs k => xs.length + ds.length ≤ sizeLine ∧ k (xs ++ ds)) (C (.dat .none))
    | none => False
  | _ => False
def mPop (s : Nat) (ps : List Cel) (env : PEnv) (C : PK) : Prop := match ps with
  | [] => ∃ d, (∃ xs, lstAt env[s]? = some xs ∧ xs[xs.length - 1]? = some d) ∧ mutE env s (fun xs k => k xs.dropLast) (C (.dat d))
  | _ => False
def mPopAt (s : Nat) (ps : List Cel) (env : PEnv) (C : PK) : Prop := match ps with
  | [.dat (.int i)] => ∃ d k, (∃ xs, lstAt env[s]? = some xs ∧ seqIndex? i xs.length = some k ∧ xs[k]? = some d) ∧ -(2 ^ 63) ≤ i ∧ i < 2 ^ 63 ∧ mutE env s (fun xs c => c (xs.eraseIdx k)) (C (.dat d))
  | _ => False
def mRev (s : Nat) (ps : List Cel) (env : PEnv) (C : PK) : Prop := match ps with
  | [] => mutE env s (fun xs k => k xs.reverse) (C (.dat .none))
  | _ => False
/-- xs[i] = e -/
def pSetIx (fv fo fi : PEx) : PSt := fun E env => fv env fun pv e1 => fo e1 fun po e2 => fi e2 fun pi e3 => match po, pi, pv with
  | .bor s, .dat (.int i), .dat d => mutE e3 s (fun xs k => ∃ j, ixN xs.length i = some j ∧ k (xs.set j d)) E.nx
  | _, _, _ => False
section
variable {X : Cx} {G : Gam} {e : Expr} {pos : Pos} {fo fe fi fv : PEx} {st : Stmt} {K : PySem.W.Frag}
theorem ty_lst {K : PySem.W.Frag} {p : Addr} {xs : List V} {H : Hp} (h : H p = some (.lst xs)) : tyV K "list" (.ref p) H := .inl ⟨rfl, xs, SqL.of h⟩
theorem StZ.borL {Z : Addr → Prop} {H : Hp} {σ : L2.St} {env : PEnv} {T : Stk} {v : V} {s : Nat} (S : StZ K G Z H σ env T) (ht : (v, .bor s) ∈ T) {P : Prop} (nd : notDic env s P) : P ∧ ∃ a vs, v = .ref a ∧ H a = some (.lst vs) := by
  obtain ⟨e1, c, h, l⟩ := S.bo _ ht s rfl
  have pp : (∀ kvs, c ≠ .dic kvs) ∧ (∀ kvs, c ≠ .dit kvs) ∧ P := by
    unfold notDic at nd
    rw [h] at nd
    split at nd
    · exact nd.elim
    · exact nd.elim
    · next n1 n2 => exact ⟨fun kvs z => n1 kvs (by rw [z]), fun kvs z => n2 kvs (by rw [z]), nd⟩
  refine ⟨pp.2.2, ?_⟩
  obtain ⟨ov, e2, ok⟩ := S.sl s _ h
  rw [e1] at e2
  cases e2
  cases c with
  | own xs => obtain ⟨a, vs, e, h1, _⟩ := ok; cases e; exact ⟨a, vs, rfl, h1⟩
  | arg xs => obtain ⟨a, vs, e, h1, _⟩ := ok; cases e; exact ⟨a, vs, rfl, h1⟩
  | box xs => obtain ⟨a, vs, e, h1, _⟩ := ok; cases e; exact ⟨a, vs, rfl, h1⟩
  | pnd xs => obtain ⟨a, vs, e, h1, _⟩ := ok; cases e; exact ⟨a, vs, rfl, h1⟩
  | dat d =>
    cases d with
    | list ds => obtain ⟨w, e, a, vs, e2, _, h1, _⟩ := ok; cases e; exact ⟨a, vs, e2, h1⟩
    | _ => exact l.elim
  | dic kvs => exact absurd rfl (pp.1 kvs)
  | dit kvs => exact absurd rfl (pp.2.1 kvs)
  | _ => exact l.elim
theorem pe_methP {ga : PAs} {r : V → List V → Hp → VK → Prop} {M : Nat → List Cel → PEnv → PK → Prop} (l : LiftM X.K G r M) (h : PE X e (tBM X.K "list" r (tE X.K G fo) (tA X.K G ga))) : PE X e (tE X.K G (pMeth fo ga M)) :=
  h.le fun σ H Q ⟨env, T, C, s, h, k⟩ => ⟨env, T, _, s, h, fun po e1 v H1 h1 ⟨Z1, s1⟩ => by
    split at h1
    · obtain ⟨h1, a, vs, e2, h2⟩ := s1.borL List.mem_cons_self h1
      subst e2
      exact ⟨ty_lst h2, e1, _, _, ⟨Z1, s1⟩, h1, fun ps e2 vs H2 h2 l2 ⟨Z2, s2⟩ => l Z2 H2 σ e2 T _ _ vs ps C Q s2 l2 h2 k⟩
    · exact h1.elim⟩
theorem pe_meth0P {r : V → List V → Hp → VK → Prop} {M : Nat → List Cel → PEnv → PK → Prop} (l : LiftM X.K G r M) (h : PE X e (tBM0 X.K "list" r (tE X.K G fo))) : PE X e (tE X.K G (pMeth0 fo M)) :=
  h.le fun σ H Q ⟨env, T, C, s, h, k⟩ => ⟨env, T, _, s, h, fun po e1 v H1 h1 ⟨Z1, s1⟩ => by
    split at h1
    · obtain ⟨h1, a, vs, e2, h2⟩ := s1.borL List.mem_cons_self h1
      subst e2
      exact ⟨ty_lst h2, l Z1 H1 σ e1 T _ _ [] [] C Q s1 rfl h1 k⟩
    · exact h1.elim⟩
theorem StZ.mutT {Z : Addr → Prop} {H : Hp} {σ : L2.St} {env : PEnv} {T : Stk} {s : Nat} {v : V} {P : List PyData → (List PyData → Prop) → Prop} {C : PEnv → Prop} (S : StZ K G Z H σ env ((v, .bor s) :: T)) (h : mutE env s P C) :
    ∃ (a : Addr) (vs : List V) (xs : List PyData) (c : List PyData → Cel), v = .ref a ∧ H a = some (.lst vs) ∧ DaAll K Z H xs vs ∧ lstAt env[s]? = some xs ∧ P xs (fun ys => C (env.set s (c ys))) ∧ ∀ ys us, DaAll K Z H ys us → StZ K G Z (upd H a (.lst us)) σ (env.set s (c ys)) T :=
  S.pop.mut (S.bo _ List.mem_cons_self s rfl).1 h
theorem lm_app : LiftM K G rAppend mApp := by
  intro Z H σ env T s v vs ps C Q S l h k
  unfold mApp at h
  split at h
  · match vs, l with
    | [u], _ =>
      have S : StZ K G Z H σ env ((u, .dat _) :: (v, .bor s) :: T) := S
      obtain ⟨a, ws, xs, c, rfl, h1, h2, _, ⟨h3, h4⟩, h5⟩ := S.pop.mutT h
      exact ⟨a, ws, u, rfl, rfl, h1, by rw [h2.len]; exact h3, k _ _ _ _ h4 ⟨Z, (h5 _ _ (DaAll.app _ _ _ _ h2 (DaAll.one S.topDat))).dat rfl⟩⟩
  · exact h.elim
theorem lm_ins : LiftM K G (fun x vs H Q => ∃ (l : Addr) (xs : List V) (i : Int) (y : V), x = .ref l ∧ vs = [.int i, y] ∧ H l = some (.lst xs) ∧ xs.length < sizeLine ∧ 0 ≤ i ∧ i < 2 ^ 63 ∧ Q .non (upd H l (.lst (xs.take i.toNat ++ [y] ++ xs.drop i.toNat)))) mIns := by
  intro Z H σ env T s v vs ps C Q S l h k
  unfold mIns at h
  split at h
  · match vs, l with
    | [u, w], _ =>
      have S : StZ K G Z H σ env ((w, .dat _) :: (u, .dat _) :: (v, .bor s) :: T) := S
      have hu := S.pop.topDat
      cases hu
      obtain ⟨a, ws, xs, c, rfl, h1, h2, _, ⟨h3, h4, h5, h6⟩, h7⟩ := S.pop.pop.mutT h
      exact ⟨a, ws, _, w, rfl, rfl, h1, by rw [h2.len]; exact h3, h4, h5, k _ _ _ _ h6 ⟨Z, (h7 _ _ (DaAll.app _ _ _ _ (DaAll.app _ _ _ _ (DaAll.tk _ _ _ h2) (DaAll.one S.topDat)) (DaAll.dr _ _ _ h2))).dat rfl⟩⟩
  · exact h.elim
def rExtP (K : PySem.W.Frag) : V → List V → Hp → VK → Prop := fun x vs H Q => rExtend x vs H Q ∨ rExtT K x vs H Q
theorem mt_extP : MtR X "list.extend" (rExtP X.K) := MtR.or mt_extend mt_extT
theorem lm_ext : LiftM K G (rExtP K) mExt := by
  intro Z H σ env T s v vs ps C Q S l h k
  unfold mExt at h
  split at h
  · next p =>
    match vs, l with
    | [u], _ =>
      have S : StZ K G Z H σ env ((u, p) :: (v, .bor s) :: T) := S
      split at h
      · next ds e =>
        obtain ⟨b, us, rfl, hb, hd⟩ := S.its List.mem_cons_self e
        obtain ⟨a, ws, xs, c, rfl, h1, h2, _, ⟨h3, h4⟩, h5⟩ := S.pop.mutT h
        have fin := k _ _ _ _ h4 ⟨Z, (h5 _ _ (DaAll.app _ _ _ _ h2 hd)).dat rfl⟩
        rcases hb with hb | hb
        · exact .inl ⟨a, b, ws, us, rfl, rfl, h1, hb, by rw [h2.len, hd.len]; exact h3, fin⟩
        · exact .inr ⟨a, b, ws, us, rfl, rfl, h1, hb, by rw [h2.len, hd.len]; exact h3, fin⟩
      · exact h.elim
  · exact h.elim
theorem drop_da {Z : Addr → Prop} {H : Hp} {ds : List PyData} {vs : List V} (h : DaAll K Z H ds vs) : DaAll K Z H ds.dropLast vs.dropLast := by
  rw [List.dropLast_eq_take, List.dropLast_eq_take, h.len]
  exact DaAll.tk _ _ _ h
theorem erase_da {Z : Addr → Prop} {H : Hp} {ds : List PyData} {vs : List V} (k : Nat) (h : DaAll K Z H ds vs) : DaAll K Z H (ds.eraseIdx k) (vs.eraseIdx k) := by
  rw [List.eraseIdx_eq_take_drop_succ, List.eraseIdx_eq_take_drop_succ]
  exact DaAll.app _ _ _ _ (DaAll.tk _ _ _ h) (DaAll.dr _ _ _ h)
theorem rev_da {Z : Addr → Prop} {H : Hp} : ∀ {ds : List PyData} {vs : List V} (h : DaAll K Z H ds vs), DaAll K Z H ds.reverse vs.reverse
  | [], _, h => by cases h; exact rfl
  | d :: ds, _, ⟨v, r, e, h1, h2⟩ => by
    subst e
    rw [List.reverse_cons, List.reverse_cons]
    exact DaAll.app _ _ _ _ (rev_da h2) (DaAll.one h1)
theorem lm_pop : LiftM K G rPop mPop := by
  intro Z H σ env T s v vs ps C Q S l h k
  unfold mPop at h
  split at h
  · match vs, l with
    | [], _ =>
      have S : StZ K G Z H σ env ((v, .bor s) :: T) := S
      obtain ⟨d, ⟨xs, e1, e2⟩, h⟩ := h
      obtain ⟨a, ws, xs', c, rfl, h1, h2, e3, h4, h5⟩ := S.mutT h
      rw [e1] at e3
      cases e3
      obtain ⟨u, e4, hu⟩ := DaAll.at _ _ _ _ h2 e2
      have m : Mv K Z H Z (upd H a (.lst ws.dropLast)) := Mv.wr h1 fun z => by
        obtain ⟨e0, _⟩ := S.bo _ List.mem_cons_self s rfl
        unfold mutE at h
        split at h
        · next ys q =>
          obtain ⟨ov, e2, a', us, e3, k1, k2, k3, _⟩ := S.sl s _ q
          rw [e0] at e2
          cases e2
          cases e3
          exact k3 z
        · next ys q =>
          obtain ⟨ov, e2, a', us, e3, k1, k2, k3, _⟩ := S.sl s _ q
          rw [e0] at e2
          cases e2
          cases e3
          exact k3 z
        · exact h.elim
      exact ⟨a, ws, u, rfl, rfl, h1, by rw [h2.len]; exact e4, k _ _ _ _ h4 ⟨Z, (h5 _ _ (drop_da h2)).dat (Da.mv m _ _ hu)⟩⟩
  · exact h.elim
theorem lm_popAt : LiftM K G rPopAt mPopAt := by
  intro Z H σ env T s v vs ps C Q S l h k
  unfold mPopAt at h
  split at h
  · match vs, l with
    | [w], _ =>
      have S : StZ K G Z H σ env ((w, .dat _) :: (v, .bor s) :: T) := S
      have hw := S.topDat
      cases hw
      have S := S.pop
      obtain ⟨d, n, ⟨xs, e1, e5, e2⟩, b1, b2, h⟩ := h
      obtain ⟨a, ws, xs', c, rfl, h1, h2, e3, h4, h5⟩ := S.mutT h
      rw [e1] at e3
      cases e3
      obtain ⟨u, e4, hu⟩ := DaAll.at _ _ _ _ h2 e2
      have m : Mv K Z H Z (upd H a (.lst (ws.eraseIdx n))) := Mv.wr h1 fun z => by
        obtain ⟨e0, _⟩ := S.bo _ List.mem_cons_self s rfl
        unfold mutE at h
        split at h
        · next ys q =>
          obtain ⟨ov, e2, a', us, e3, k1, k2, k3, _⟩ := S.sl s _ q
          rw [e0] at e2
          cases e2
          cases e3
          exact k3 z
        · next ys q =>
          obtain ⟨ov, e2, a', us, e3, k1, k2, k3, _⟩ := S.sl s _ q
          rw [e0] at e2
          cases e2
          cases e3
          exact k3 z
        · exact h.elim
      exact ⟨a, ws, _, n, u, rfl, rfl, h1, b1, b2, by rw [h2.len]; exact e5, e4, k _ _ _ _ h4 ⟨Z, (h5 _ _ (erase_da n h2)).dat (Da.mv m _ _ hu)⟩⟩
  · exact h.elim
theorem lm_rev : LiftM K G rReverse mRev := by
  intro Z H σ env T s v vs ps C Q S l h k
  unfold mRev at h
  split at h
  · match vs, l with
    | [], _ =>
      have S : StZ K G Z H σ env ((v, .bor s) :: T) := S
      obtain ⟨a, ws, xs, c, rfl, h1, h2, _, h4, h5⟩ := S.mutT h
      exact ⟨a, ws, rfl, rfl, h1, k _ _ _ _ h4 ⟨Z, (h5 _ _ (rev_da h2)).dat rfl⟩⟩
  · exact h.elim
theorem ps_setIxP (h : PS X st (tAsg (tE X.K G fv) (gSub (tE X.K G fo) (tE X.K G fi) rSetL))) : PS X st (tS X.K G (pSetIx fv fo fi)) := h.le fun D σ H ⟨env, T, E, nb, s, h, k⟩ => ⟨env, T, _, s, h, fun pv e1 v H1 h1 s1 => ⟨e1, _, _, s1, h1, fun po e2 o H2 h2 s2 => ⟨e2, _, _, s2, h2, fun pi e3 i H3 h3 ⟨Z, s3⟩ => by
  split at h3
  · have hi := s3.topDat
    cases hi
    obtain ⟨a, ws, xs, c, rfl, k1, k2, _, ⟨j, k3, k4⟩, k5⟩ := s3.pop.mutT h3
    exact ⟨a, ws, _, j, rfl, rfl, k1, by rw [k2.len]; exact k3, k.nx _ _ _ k4 ⟨Z, (k5 _ _ (DaAll.set _ _ _ _ _ k2 s3.pop.pop.topDat)).pop⟩⟩
  · exact h3.elim⟩⟩⟩
end

/-! ### targets, loops, comprehensions -/
abbrev PTg := PyData → PEnv → (PEnv → Prop) → Prop
abbrev PTgs := List PyData → PEnv → (PEnv → Prop) → Prop
abbrev PIt := PEnv → (List PyData → PEnv → Prop) → Prop
def zipS : List V → List PyData → Stk → Stk
  | v :: vs, d :: ds, T => (v, .dat d) :: zipS vs ds T
  | _, _, T => T
/-- vs: the slots that may change -/
def tG (K : PySem.W.Frag) (G : Gam) (ws : Option (List Nat)) (g : PTg) : TG := fun v σ H Q => ∃ env T d C, (ws = none → NoBor T) ∧ StE K G H σ env ((v, .dat d) :: T) ∧ g d env C ∧ ∀ env' σ' H', C env' → StE K G H' σ' env' T → (∀ vs, ws = some vs → wipe σ' vs = wipe σ vs) → Q σ' H'
def tGs (K : PySem.W.Frag) (G : Gam) (ws : Option (List Nat)) (g : PTgs) : TGs := fun vs σ H Q => ∃ env T ds C, (ws = none → NoBor T) ∧ vs.length = ds.length ∧ StE K G H σ env (zipS vs ds T) ∧ g ds env C ∧ ∀ env' σ' H', C env' → StE K G H' σ' env' T → (∀ vs, ws = some vs → wipe σ' vs = wipe σ vs) → Q σ' H'
def pGn (i : Nat) : PTg := fun d env C => match env[i]? with
  | some _ => C (env.set i (.dat d))
  | none => False
/-- a comprehension's own name -/
def pGc (i : Nat) : PTg := fun d env C => match env[i]? with
  | some .no => C (env.set i (.dat d))
  | _ => False
def pGnil : PTgs := fun ds env C => match ds with
  | [] => C env
  | _ => False
def pGcons (g : PTg) (h : PTgs) : PTgs := fun ds env C => match ds with
  | d :: ds => g d env fun e => h ds e C
  | [] => False
def pGtup (n : Nat) (h : PTgs) : PTg := fun d env C => match d with
  | .tuple ds => ds.length = n ∧ h ds env C
  | _ => False
theorem wipe_set {σ : L2.St} {i : Nat} {x : Option V} : ∀ {vs : List Nat}, i ∈ vs → wipe (σ.set i x) vs = wipe σ vs
  | [], h => by cases h
  | v :: vs, h => by
    have comm : ∀ (us : List Nat), wipe (σ.set i x) us = (wipe σ us).set i (if i ∈ us then none else x) := by
      intro us
      induction us with
      | nil => rfl
      | cons u us ih =>
        show (wipe (σ.set i x) us).set u none = ((wipe σ us).set u none).set i _
        rw [ih]
        by_cases e : i = u
        · subst e
          rw [List.set_set, List.set_set, if_pos List.mem_cons_self]
        · rw [List.set_comm _ _ e]
          have : (i ∈ u :: us) ↔ i ∈ us := by rw [List.mem_cons]; exact ⟨fun h => h.elim (fun z => absurd z e) id, .inr⟩
          simp only [this]
    rw [comm, if_pos h]
    have nn : ∀ (us : List Nat), i ∈ us → (wipe σ us)[i]? = none ∨ (wipe σ us)[i]? = some none := by
      intro us hu
      induction us with
      | nil => cases hu
      | cons u us ih =>
        show ((wipe σ us).set u none)[i]? = none ∨ ((wipe σ us).set u none)[i]? = some none
        by_cases e : i = u
        · subst e
          rw [List.getElem?_set]
          split
          · split
            · exact .inr rfl
            · exact .inl rfl
          · next z => exact absurd rfl z
        · rw [List.getElem?_set_ne (Ne.symm e)]
          exact ih (by
            rcases List.mem_cons.mp hu with z | z
            · exact absurd z e
            · exact z)
    refine List.ext_getElem? fun j => ?_
    by_cases e : i = j
    · subst e
      rw [List.getElem?_set]
      rw [if_pos rfl]
      rcases nn _ h with z | z
      · have hl := List.getElem?_eq_none_iff.mp z
        rw [if_neg (by omega), z]
      · have hl := (List.getElem?_eq_some_iff.mp z).1
        rw [if_pos hl, z]
    · rw [List.getElem?_set_ne e]
theorem wipe_wipe {σ : L2.St} {vs : List Nat} : ∀ us : List Nat, (∀ u ∈ us, u ∈ vs) → wipe (wipe σ us) vs = wipe σ vs
  | [], _ => rfl
  | u :: us, h => by
    show wipe ((wipe σ us).set u none) vs = _
    rw [wipe_set (h u List.mem_cons_self)]
    exact wipe_wipe us fun w hw => h w (List.mem_cons_of_mem _ hw)
section
variable {K : PySem.W.Frag} {G : Gam} {Z : Addr → Prop} {H : Hp} {σ : L2.St} {env : PEnv} {T : Stk}
theorem StZ.zip : ∀ {ds : List PyData} {vs : List V}, StZ K G Z H σ env T → DaAll K Z H ds vs → StZ K G Z H σ env (zipS vs ds T)
  | [], _, s, h => by cases h; exact s
  | d :: ds, _, s, ⟨v, r, e, h1, h2⟩ => by subst e; exact (StZ.zip s h2).dat h1
theorem nb_no {p : Cel} (h : ∀ i, p ≠ Cel.bor i) (h2 : ∀ i k, p ≠ Cel.sub i k) (i : Nat) : p ≠ Cel.bor i ∧ ∀ k, p ≠ Cel.sub i k := ⟨h i, h2 i⟩
theorem zipS_bor : ∀ (vs : List V) (ds : List PyData), NoBor T → NoBor (zipS vs ds T)
  | [], _, h => h
  | _ :: _, [], h => h
  | v :: vs, d :: ds, h => fun t ht i => by
    rcases List.mem_cons.mp ht with rfl | ht
    · exact nb_no (by intro i z; cases z) (by intro i k z; cases z) i
    · exact zipS_bor vs ds h t ht i
end
section
variable {X : Cx} {G : Gam} {e tg : Expr} {es : List Expr} {pos : Pos} {ws : Option (List Nat)}
theorem pg_nameP {i : Nat} (h : PG X e (gName i)) : PG X e (tG X.K G none (pGn i)) := h.le fun v σ H Q ⟨env, T, d, C, nb, ⟨Z, s⟩, h, k⟩ => by
  unfold pGn at h
  split at h
  · next hi => exact k _ _ _ h ⟨Z, s.setD (List.getElem?_eq_some_iff.mp hi).1 fun t ht => nb rfl t ht i⟩ fun _ z => by cases z
  · exact h.elim
theorem pg_compP {i : Nat} {vs : List Nat} (h : PG X e (gName i)) (hi : i ∈ vs := by simp) : PG X e (tG X.K G (some vs) (pGc i)) := h.le fun v σ H Q ⟨env, T, d, C, nb, ⟨Z, s⟩, h, k⟩ => by
  unfold pGc at h
  split at h
  · next e1 =>
    refine k _ _ _ h ⟨Z, s.setD (List.getElem?_eq_some_iff.mp e1).1 fun t ht => ⟨fun e2 => ?_, s.pop.nosub e1 (fun _ z => by cases z) t ht⟩⟩ fun us z => by cases z; exact wipe_set hi
    obtain ⟨_, c, k1, k2⟩ := s.pop.bo t ht i e2
    rw [e1] at k1
    cases k1
    exact k2
  · exact h.elim
theorem pgs_nilP : PGs X [] (tGs X.K G ws pGnil) := ⟨fun pins s σ H vs us Q I r ⟨env, T, ds, C, nb, l, st, h, k⟩ => pgs_nil.run pins s σ H vs us Q I r (by
  unfold pGnil at h
  split at h
  · cases vs with
    | nil => exact ⟨rfl, k _ _ _ h st fun _ _ => rfl⟩
    | cons _ _ => cases l
  · exact h.elim)⟩
theorem pgs_consP {g : PTg} {h : PTgs} (h1 : PG X e (tG X.K G ws g)) (h2 : PGs X es (tGs X.K G ws h)) (hs : (assignEach (e :: es) X.env).map (·.2) = assign e X.env :: (assignEach es X.env).map (·.2) := by rfl) : PGs X (e :: es) (tGs X.K G ws (pGcons g h)) :=
  ⟨fun pins s σ H vs us Q I r ⟨env, T, ds, C, nb, l, st, w, k⟩ => (pgs_cons h1 h2 hs).run pins s σ H vs us Q I r (by
    unfold pGcons at w
    split at w
    · next d ds =>
      cases vs with
      | nil => cases l
      | cons v vs =>
        refine ⟨v, vs, rfl, env, zipS vs ds T, d, _, fun z => zipS_bor _ _ (nb z), st, w, fun e1 σ1 H1 w1 s1 hw => ⟨e1, T, ds, C, nb, Nat.succ.inj l, s1, w1, fun e2 σ2 H2 w2 s2 hw2 => k _ _ _ w2 s2 fun us z => (hw2 us z).trans (hw us z)⟩⟩
    · exact w.elim)⟩
theorem pg_tupP {n : Nat} {t : PTgs} {k0 : Nat} (hc : X.calm = true) (h : PGs X es (tGs X.K G ws t)) (hn : (assignEach es X.env).length = n := by rfl) (hst : (assignEach es X.env).findIdx? (·.1) = none := by rfl) : PG X (.Tuple es k0 pos) (tG X.K G ws (pGtup n t)) :=
  (pg_tup hc h hn hst).le fun v σ H Q ⟨env, T, d, C, nb, ⟨Z, s⟩, h, k⟩ => by
    unfold pGtup at h
    split at h
    · next ds =>
      obtain ⟨a, vs, rfl, ha, hx⟩ := s.topDat
      exact ⟨a, vs, rfl, ha, by rw [hx.len]; exact h.1, env, T, ds, C, nb, hx.len, ⟨Z, s.pop.zip hx⟩, h.2, k⟩
    · exact h.elim
end
/-! ### what is walked -/
def Walks (K : PySem.W.Frag) (G : Gam) (J : It) (t : V × Cel) (items : List PyData) : Prop := ∀ (Z : Addr → Prop) (H : Hp) (σ : L2.St) (env : PEnv) (T : Stk), StZ K G Z H σ env T → t ∈ T →
  (∀ i x, items[i]? = some x → J.go i H ∧ ∀ xv H', J.yld i H xv H' → StZ K G Z H' σ env ((xv, .dat x) :: T)) ∧ J.stop items.length H
def tI (K : PySem.W.Frag) (G : Gam) (it : PIt) : TI := fun σ H R => ∃ env T C, StE K G H σ env T ∧ it env C ∧ ∀ items env' t H' J, C items env' → (∀ i, t.2 ≠ Cel.bor i ∧ ∀ k, t.2 ≠ Cel.sub i k) → StE K G H' σ env' (t :: T) → Walks K G J t items → R J H'
def pItems (f : PEx) : PIt := fun env C => f env fun p e => match p with
  | .dat (.tuple ds) => C ds e
  | .dat (.dict [(.none, .tuple ds)]) => C ds e
  | .dat (.list ds) => C ds e
  | .own ds => C ds e
  | _ => False
def rangeP (lo hi : Int) : List PyData := (List.range (hi - lo).toNat).map fun k : Nat => .int (lo + (k : Int))
def pRange1 (g : PAs) : PIt := fun env C => g env fun ps e => match ps with
  | [.dat (.int j)] => -(2 ^ 62) ≤ j ∧ j < 2 ^ 62 ∧ C (rangeP 0 j) e
  | _ => False
def pRange2 (g : PAs) : PIt := fun env C => g env fun ps e => match ps with
  | [.dat (.int i), .dat (.int j)] => (-(2 ^ 62) ≤ i ∧ i < 2 ^ 62 ∧ -(2 ^ 62) ≤ j ∧ j < 2 ^ 62) ∧ C (rangeP i j) e
  | _ => False
section
variable {K : PySem.W.Frag} {G : Gam}
theorem walks_list {a : Addr} {ds : List PyData} {p : Cel} (h : p = .dat (.list ds) ∨ p = .own ds) : Walks K G (Itl K a) (.ref a, p) ds := by
  intro Z H σ env T s ht
  have hl : ∃ vs, H a = some (.lst vs) ∧ DaAll K Z H ds vs := by
    rcases h with rfl | rfl
    · obtain ⟨b, vs, e, h1, h2⟩ := s.lst ht (show lstOf env (.dat (.list ds)) = some ds from rfl)
      cases e
      exact ⟨vs, h1, h2⟩
    · obtain ⟨b, vs, e, h1, h2⟩ := s.lst ht (show lstOf env (.own ds) = some ds from rfl)
      cases e
      exact ⟨vs, h1, h2⟩
  obtain ⟨vs, h1, h2⟩ := hl
  refine ⟨fun i x e => ?_, ⟨vs, SqL.of h1, by rw [h2.len]; exact Nat.le_refl _⟩⟩
  obtain ⟨v, e1, hv⟩ := DaAll.at i ds vs x h2 e
  refine ⟨⟨vs, v, SqL.of h1, e1⟩, fun xv H' y => ?_⟩
  obtain ⟨rfl, y⟩ := y
  have := y vs (SqL.of h1)
  rw [e1] at this
  cases this
  exact s.dat hv
theorem walks_tup {a : Addr} {ds : List PyData} : Walks K G (Itt K a) (.ref a, .dat (.tuple ds)) ds := by
  intro Z H σ env T s ht
  obtain ⟨b, vs, e, h1, h2⟩ := s.datT ht
  cases e
  refine ⟨fun i x e => ?_, ⟨vs, h1, by rw [h2.len]; exact Nat.le_refl _⟩⟩
  obtain ⟨v, e1, hv⟩ := DaAll.at i ds vs x h2 e
  refine ⟨⟨vs, v, h1, e1⟩, fun xv H' y => ?_⟩
  obtain ⟨rfl, y⟩ := y
  have := y vs h1
  rw [e1] at this
  cases this
  exact s.dat hv
theorem walks_range {lo : Int} {n : Nat} {t : V × Cel} {ds : List PyData} (h : ds = (List.range n).map fun k : Nat => .int (lo + (k : Int))) : Walks K G (Itr lo n) t ds := by
  intro Z H σ env T s ht
  subst h
  refine ⟨fun i x e => ?_, by rw [List.length_map, List.length_range]; exact Nat.le_refl _⟩
  rw [List.getElem?_map] at e
  obtain ⟨k, e1, rfl⟩ := Option.map_eq_some_iff.mp e
  have hi := (List.getElem?_eq_some_iff.mp e1).1
  rw [List.length_range] at hi
  rw [List.getElem?_range hi] at e1
  cases e1
  refine ⟨hi, fun xv H' y => ?_⟩
  obtain ⟨rfl, rfl⟩ := y
  exact s.dat rfl
end
section
variable {X : Cx} {G : Gam} {tg l : Expr} {f : PEx} {pos : Pos}
/-- a list or a tuple is walked, as it comes -/
def iSeqP (K : PySem.W.Frag) (tl : TE) : TI := fun σ H R => tl σ H fun x H1 => ∃ a, x = .ref a ∧ ((∃ xs, SqL K H1 a xs ∧ R (Itl K a) H1) ∨ ∃ xs, SqT K H1 a xs ∧ R (Itt K a) H1)
theorem pi_seqP {tl : TE} (hl : PE X l tl) : PI X tg l (iSeqP X.K tl) := by
  constructor
  intro pins s σ H R I h
  refine thn (hl.run pins s σ H _ I h) ?_
  rintro v s1 ⟨x, H1, I1, r1, a, rfl, q | q⟩
  · obtain ⟨xs, hq, q⟩ := q
    cases r1
    obtain ⟨its, rv, pl, hz⟩ := I1.list hq
    refine wpAny_pyIter_list pl.isList ⟨s1.heap.objs.size, [s1.heap.objs.size], _, _, H1, rfl, ?_, turn_list a _, ⟨_, Heap.get?_push_size _ rfl, rfl, rfl⟩, ?_, q⟩
    · exact I1.kept (t' := s1.toks) fun b o => Heap.get?_push_of_some _
    · intro b hb
      rw [List.mem_singleton] at hb
      rw [hb]
      exact I1.fpOk (Nat.le_refl _) (I1.hok.fresh (Nat.le_refl _))
  · obtain ⟨xs, hq, q⟩ := q
    cases r1
    obtain ⟨its, rv, pl, hz⟩ := I1.tuple hq
    refine wpAny_pyIter_tuple (show s1.heap.IsTuple a its.toArray from pl) ⟨s1.heap.objs.size, [s1.heap.objs.size], _, _, H1, rfl, ?_, turn_tuple a _, ⟨_, Heap.get?_push_size _ rfl, rfl, rfl⟩, ?_, q⟩
    · exact I1.kept (t' := s1.toks) fun b o => Heap.get?_push_of_some _
    · intro b hb
      rw [List.mem_singleton] at hb
      rw [hb]
      exact I1.fpOk (Nat.le_refl _) (I1.hok.fresh (Nat.le_refl _))
theorem pi_itemsP (hl : PE X l (tE X.K G f)) : PI X tg l (tI X.K G (pItems f)) := (pi_seqP hl).le fun σ H R ⟨env, T, C, s, h, k⟩ => ⟨env, T, _, s, h, fun p e1 v H1 h1 ⟨Z, s1⟩ => by
  split at h1
  · obtain ⟨a, vs, rfl, ha, hx⟩ := s1.topDat
    exact ⟨a, rfl, .inr ⟨vs, ha, k _ _ _ _ _ h1 (nb_no (fun _ z => by cases z) (fun _ _ z => by cases z)) ⟨Z, s1⟩ walks_tup⟩⟩
  · obtain ⟨⟨a, vs, rfl, ha, hx⟩, _⟩ := s1.topDat
    exact ⟨a, rfl, .inr ⟨vs, ha, k _ _ (_, .dat (.tuple _)) _ _ h1 (nb_no (fun _ z => by cases z) (fun _ _ z => by cases z)) ⟨Z, s1.pop.dat ⟨a, vs, rfl, ha, hx⟩⟩ walks_tup⟩⟩
  · next ds _ =>
    obtain ⟨a, vs, rfl, ha, hx⟩ := s1.lst List.mem_cons_self (show lstOf e1 (.dat (.list ds)) = some ds from rfl)
    exact ⟨a, rfl, .inl ⟨vs, SqL.of ha, k _ _ _ _ _ h1 (nb_no (fun _ z => by cases z) (fun _ _ z => by cases z)) ⟨Z, s1⟩ (walks_list (.inl rfl))⟩⟩
  · next ds _ =>
    obtain ⟨a, vs, rfl, ha, hx⟩ := s1.lst List.mem_cons_self (show lstOf e1 (.own ds) = some ds from rfl)
    exact ⟨a, rfl, .inl ⟨vs, SqL.of ha, k _ _ _ _ _ h1 (nb_no (fun _ z => by cases z) (fun _ _ z => by cases z)) ⟨Z, s1⟩ (walks_list (.inr rfl))⟩⟩
  · exact h1.elim⟩
theorem pi_range1P {g : PAs} (h : PI X tg l (iRng1 (tA X.K G g))) : PI X tg l (tI X.K G (pRange1 g)) := h.le fun σ H R ⟨env, T, C, s, h, k⟩ => ⟨env, T, _, s, h, fun ps e1 vs H1 h1 l1 ⟨Z, s1⟩ => by
  split at h1
  · match vs, l1 with
    | [u], _ =>
      have S : StZ X.K G Z H1 σ e1 ((u, .dat _) :: T) := s1
      have := S.topDat
      cases this
      refine ⟨_, rfl, h1.1, h1.2.1, k _ _ (.non, .dat .none) _ _ h1.2.2 (nb_no (fun _ z => by cases z) (fun _ _ z => by cases z)) ⟨Z, S.pop.dat rfl⟩ (walks_range ?_)⟩
      unfold rangeP
      rw [Int.sub_zero]
  · exact h1.elim⟩
theorem pi_range2P {g : PAs} (h : PI X tg l (iRng2 (tA X.K G g))) : PI X tg l (tI X.K G (pRange2 g)) := h.le fun σ H R ⟨env, T, C, s, h, k⟩ => ⟨env, T, _, s, h, fun ps e1 vs H1 h1 l1 ⟨Z, s1⟩ => by
  split at h1
  · match vs, l1 with
    | [u, w], _ =>
      have S : StZ X.K G Z H1 σ e1 ((w, .dat _) :: (u, .dat _) :: T) := s1
      have h3 := S.topDat
      have h4 := S.pop.topDat
      cases h3
      cases h4
      exact ⟨_, _, rfl, h1.1, k _ _ (.non, .dat .none) _ _ h1.2 (nb_no (fun _ z => by cases z) (fun _ _ z => by cases z)) ⟨Z, S.pop.pop.dat rfl⟩ (walks_range rfl)⟩
  · exact h1.elim⟩
/-! ### for -/
def ForOk (items : List PyData) (e : PEnv) (tgt : PTg) (b : PSt) (E : PEnds) : Prop := ∃ W : Nat → PEnv → Prop, W 0 e ∧ (∀ j x e, items[j]? = some x → W j e → tgt x e fun e2 => b { E with nx := W (j + 1), ct := W (j + 1), bk := E.nx } e2) ∧ ∀ e, W items.length e → E.nx e
def pFor (it : PIt) (tgt : PTg) (b : PSt) : PSt := fun E env => it env fun items e => ForOk items e tgt b E
theorem ps_forP {st : Stmt} {it : PIt} {tgt : PTg} {b : PSt} (h : PS X st (tFor (tI X.K G it) (tG X.K G none tgt) (tS X.K G b))) : PS X st (tS X.K G (pFor it tgt b)) := h.le fun D σ H ⟨env, T, E, nb, s, h, k⟩ => ⟨env, T, _, s, h, fun items e1 t H1 J ⟨W, w0, turn, fin⟩ nbt s1 wk => by
  have nb2 : NoBor (t :: T) := fun u hu i => by
    rcases List.mem_cons.mp hu with rfl | hu
    · exact nbt i
    · exact nb u hu i
  have drop : ∀ {H σ env}, StE X.K G H σ env (t :: T) → StE X.K G H σ env T := fun ⟨Z, s⟩ => ⟨Z, s.pop⟩
  refine ⟨fun i m σ H => m = items.length - i ∧ i ≤ items.length ∧ ∃ env, W i env ∧ StE X.K G H σ env (t :: T), ⟨_, rfl, Nat.zero_le _, e1, w0, s1⟩, ?_⟩
  rintro i m σ2 H2 ⟨rfl, hi, e2, w2, Z2, s2⟩
  obtain ⟨go, stop⟩ := wk Z2 H2 σ2 e2 _ s2 List.mem_cons_self
  by_cases hlt : i < items.length
  · obtain ⟨g1, g2⟩ := go i _ (List.getElem?_eq_getElem hlt)
    refine .inr ⟨g1, fun σ H => ∃ env, W (i + 1) env ∧ StE X.K G H σ env (t :: T), fun σ' H' x => ⟨items.length - (i + 1), by omega, rfl, hlt, x⟩, fun x H3 y => ?_⟩
    refine ⟨e2, t :: T, _, _, fun _ => nb2, ⟨Z2, g2 x H3 y⟩, turn i _ e2 (List.getElem?_eq_getElem hlt) w2, fun e3 σ3 H3 h3 s3 _ => ⟨e3, t :: T, _, nb2, s3, h3, ?_, ?_, ?_, ?_⟩⟩
    · exact fun e4 σ4 H4 h4 s4 => ⟨e4, h4, s4⟩
    · exact fun p e4 σ4 v H4 h4 ⟨Z4, s4⟩ => k.rt p e4 σ4 v H4 h4 ⟨Z4, s4.sub (List.Sublist.cons_cons _ (List.sublist_cons_self _ _))⟩
    · exact fun e4 σ4 H4 h4 s4 => k.nx e4 σ4 H4 h4 (drop s4)
    · exact fun e4 σ4 H4 h4 s4 => ⟨e4, h4, s4⟩
  · have e : i = items.length := by omega
    subst e
    exact .inl ⟨stop, k.nx _ _ _ (fin e2 w2) ⟨Z2, s2.pop⟩⟩⟩
/-! ### [e for x in xs if t] -/
def wipeP (e : PEnv) : List Nat → PEnv
  | [] => e
  | v :: vs => (wipeP e vs).set v .no
/-- names that may be hidden: no lists -/
def fgtB (e : PEnv) : List Nat → Bool
  | [] => true
  | v :: vs => (match e[v]? with
    | some .no => true
    | some (.dat (.list _)) => false
    | some (.dat _) => true
    | some .drw => true
    | _ => false) && fgtB e vs
inductive LcOk (items : List PyData) (e : PEnv) (g : PTg) (t : PTst) (f : PEx) (vs : List Nat) (C : PK) : Prop where
  | mk (hf : fgtB e vs = true) (W : Nat → PEnv → List PyData → Prop) (w0 : W 0 (wipeP e vs) []) (turn : ∀ j x e2 acc, items[j]? = some x → W j e2 acc → g x (wipeP e2 vs) fun e3 => t e3 fun b e4 => IfP b (f e4 (fun p e5 => match p with
      | .dat d => acc.length < sizeLine ∧ W (j + 1) (wipeP e5 vs) (acc ++ [d])
      | _ => False)) (W (j + 1) (wipeP e4 vs) acc)) (fin : ∀ e2 acc, W items.length e2 acc → C (.own acc) (wipeP e2 vs))
def pLc (it : PIt) (g : PTg) (t : PTst) (f : PEx) (vs : List Nat) : PEx := fun env C => it env fun items e => LcOk items e g t f vs C
def pYes : PTst := fun env C => C true env
theorem pts_nilP : PTs X [] (tQ X.K G pYes) := ⟨fun pins s σ H Q I ⟨env, T, C, st, h, k⟩ => pts_nil.run pins s σ H Q I (k _ _ _ h st)⟩
end
section
variable {K : PySem.W.Frag} {G : Gam} {Z : Addr → Prop} {H : Hp} {σ : L2.St} {env : PEnv} {T : Stk}
theorem wipeP_at : ∀ {vs : List Nat} {i : Nat} {p : Cel}, (wipeP env vs)[i]? = some p → p = .no ∨ (env[i]? = some p ∧ i ∉ vs)
  | [], i, p, h => .inr ⟨h, by simp⟩
  | v :: vs, i, p, h => by
    unfold wipeP at h
    by_cases e : v = i
    · subst e
      have hl := (List.getElem?_eq_some_iff.mp h).1
      rw [List.length_set] at hl
      rw [List.getElem?_set_self hl] at h
      cases h
      exact .inl rfl
    · rw [List.getElem?_set_ne e] at h
      rcases wipeP_at h with h | ⟨h1, h2⟩
      · exact .inl h
      · exact .inr ⟨h1, by simp only [List.mem_cons, not_or]; exact ⟨fun z => e z.symm, h2⟩⟩
theorem wipeP_len (vs : List Nat) : (wipeP env vs).length = env.length := by
  induction vs with
  | nil => rfl
  | cons v vs ih => unfold wipeP; rw [List.length_set, ih]
theorem wipeP_no : ∀ {vs : List Nat} {i : Nat}, i ∈ vs → i < env.length → (wipeP env vs)[i]? = some .no
  | [], _, h, _ => by cases h
  | v :: vs, i, h, hl => by
    unfold wipeP
    by_cases e : v = i
    · subst e
      exact List.getElem?_set_self (by rw [wipeP_len]; exact hl)
    · rw [List.getElem?_set_ne e]
      exact wipeP_no ((List.mem_cons.mp h).elim (fun z => absurd z.symm e) id) hl
theorem StZ.wipeS (nb : ∀ v ∈ vs, ∀ t ∈ T, t.2 ≠ Cel.bor v ∧ ∀ k, t.2 ≠ Cel.sub v k) (s : StZ K G Z H σ env T) : StZ K G Z H σ (wipeP env vs) T := by
  induction vs with
  | nil => exact s
  | cons v vs ih =>
    have s2 := ih fun u hu => nb u (List.mem_cons_of_mem _ hu)
    unfold wipeP
    by_cases hv : v < env.length
    · exact s2.fgt (by rw [wipeP_len]; exact hv) (nb v List.mem_cons_self)
    · rw [List.set_eq_of_length_le (by rw [wipeP_len]; omega)]
      exact s2
theorem StZ.wipeA {vs : List Nat} (s : StZ K G Z H σ (wipeP env vs) T) : StZ K G Z H (wipe σ vs) (wipeP env vs) T := by
  refine s.sig (fun i p e n => ?_) fun i p e => ?_
  · rcases wipeP_at e with h | ⟨_, h⟩
    · exact absurd h n
    · exact wipe_out h
  · obtain ⟨ov, e1, _⟩ := s.sl i p e
    have := (List.getElem?_eq_some_iff.mp e1).1
    exact ⟨_, List.getElem?_eq_getElem (by rw [wipe_length]; exact this)⟩
theorem StZ.wipeB {vs : List Nat} (s : StZ K G Z H (wipe σ vs) (wipeP env vs) T) : StZ K G Z H σ (wipeP env vs) T := by
  refine s.sig (fun i p e n => ?_) fun i p e => ?_
  · rcases wipeP_at e with h | ⟨_, h⟩
    · exact absurd h n
    · exact (wipe_out h).symm
  · obtain ⟨ov, e1, _⟩ := s.sl i p e
    have := (List.getElem?_eq_some_iff.mp e1).1
    rw [wipe_length] at this
    exact ⟨_, List.getElem?_eq_getElem this⟩
theorem StZ.fgtB (s : StZ K G Z H σ env T) : ∀ {vs : List Nat}, fgtB env vs = true → ∀ v ∈ vs, ∀ t ∈ T, t.2 ≠ Cel.bor v ∧ ∀ k, t.2 ≠ Cel.sub v k
  | [], _ => fun v hv => by cases hv
  | u :: us, h => fun v hv t ht => by
    unfold My.fgtB at h
    rw [Bool.and_eq_true] at h
    rcases List.mem_cons.mp hv with rfl | hv
    · refine ⟨fun e => ?_, fun k e => ?_⟩
      · obtain ⟨_, c, k1, k2⟩ := s.bo t ht v e
        have h1 := h.1
        rw [k1] at h1
        cases c with
        | dat d => cases d with
          | list ds => cases h1
          | _ => exact k2
        | no => exact k2
        | drw => exact k2
        | _ => cases h1
      · obtain ⟨_, _, xs, _, k1, _⟩ := s.pn t ht v k e
        have h1 := h.1
        rw [k1] at h1
        cases h1
    · exact StZ.fgtB s h.2 v hv t ht
end
section
variable {X : Cx} {G : Gam} {e : Expr} {it : PIt} {g : PTg} {t : PTst} {f : PEx} {vs : List Nat}
/-- a comprehension, from its rule's reading -/
theorem lcP (σ : L2.St) (H : Hp) (Q : VK) (h : tE X.K G (pLc it g t f vs) σ H Q) : tLc (tI X.K G it) (tG X.K G (some vs) g) (tQ X.K G t) (tE X.K G f) vs σ H Q := by
  obtain ⟨env, T, C, s, h, k⟩ := h
  refine ⟨env, T, _, s, h, fun items e1 u H1 J h1 nbt ⟨Z1, s1⟩ wk => ?_⟩
  obtain ⟨hf, W, w0, turn, fin⟩ := h1
  intro D hD
  have nbv := s1.fgtB hf
  have sD := (s1.newLst (ds := []) (vs := []) hD rfl)
  have nbD : ∀ v ∈ vs, ∀ t ∈ ((V.ref D, Cel.own []) :: u :: T), t.2 ≠ Cel.bor v ∧ ∀ k, t.2 ≠ Cel.sub v k := fun v hv t ht => by
    rcases List.mem_cons.mp ht with rfl | ht
    · exact ⟨(fun z => by cases z), fun k z => by cases z⟩
    · exact nbv v hv t ht
  have nbA : ∀ acc, ∀ v ∈ vs, ∀ t ∈ ((V.ref D, Cel.own acc) :: u :: T), t.2 ≠ Cel.bor v ∧ ∀ k, t.2 ≠ Cel.sub v k := fun acc v hv t ht => by
    rcases List.mem_cons.mp ht with rfl | ht
    · exact ⟨(fun z => by cases z), fun k z => by cases z⟩
    · exact nbv v hv t ht
  have ww : wipe (wipe σ vs) vs = wipe σ vs := wipe_wipe vs fun _ h => h
  refine ⟨fun i m H => m = items.length - i ∧ i ≤ items.length ∧ ∃ env acc, W i env acc ∧ StE X.K G H (wipe σ vs) (wipeP env vs) ((.ref D, .own acc) :: u :: T), ⟨_, rfl, Nat.zero_le _, wipeP e1 vs, [], w0, Z1, ?_⟩, ?_⟩
  · exact StZ.wipeA (StZ.wipeS (nbA []) (StZ.wipeS (nbA []) sD))
  · rintro i m H2 ⟨rfl, hi, e2, acc, w2, Z2, s2⟩
    obtain ⟨go, stop⟩ := wk Z2 H2 _ _ _ s2 (List.mem_cons_of_mem _ List.mem_cons_self)
    by_cases hlt : i < items.length
    · obtain ⟨g1, g2⟩ := go i _ (List.getElem?_eq_getElem hlt)
      refine .inr ⟨g1, fun H => ∃ env acc, W (i + 1) env acc ∧ StE X.K G H (wipe σ vs) (wipeP env vs) ((.ref D, .own acc) :: u :: T), fun H' x => ⟨items.length - (i + 1), by omega, rfl, hlt, x⟩, fun x H3 y => ?_⟩
      refine ⟨wipeP e2 vs, (.ref D, .own acc) :: u :: T, _, _, (fun z => by cases z), ⟨Z2, g2 x H3 y⟩, turn i _ e2 acc (List.getElem?_eq_getElem hlt) w2, fun e3 σ3 H3 h3 s3 hw => ?_⟩
      have hw3 : wipe σ3 vs = wipe σ vs := (hw vs rfl).trans ww
      refine ⟨hw3, e3, _, _, s3, h3, fun b e4 H4 h4 s4 => ?_⟩
      have back : ∀ {Z H5 e5 acc'}, StZ X.K G Z H5 σ3 e5 ((.ref D, .own acc') :: u :: T) → StE X.K G H5 (wipe σ vs) (wipeP (wipeP e5 vs) vs) ((.ref D, .own acc') :: u :: T) := fun {Z H5 e5 acc'} s5 => by
        have s6 := (StZ.wipeS (nbA acc') (StZ.wipeS (nbA acc') s5)).wipeA
        rw [hw3] at s6
        exact ⟨Z, s6⟩
      cases b with
      | true =>
        refine ⟨e4, _, _, s4, h4.tt, fun p e5 v H5 h5 ⟨Z5, s5⟩ => ?_⟩
        cases p with
        | dat d =>
          obtain ⟨a, us, e6, k1, k2, _⟩ := s5.pop.topOwn
          cases e6
          exact ⟨us, k1, by rw [k2.len]; exact h5.1, wipeP e5 vs, acc ++ [d], h5.2, back (s5.pop.wrT (DaAll.app _ _ _ _ k2 (DaAll.one s5.topDat)))⟩
        | _ => exact h5.elim
      | false =>
        obtain ⟨Z4, s4⟩ := s4
        exact ⟨_, _, h4.ff, back s4⟩
    · have e : i = items.length := by omega
      subst e
      exact .inl ⟨stop, k _ _ _ _ (fin e2 acc w2) ⟨Z2, s2.wipeB.sub (List.Sublist.cons_cons _ (List.sublist_cons_self _ _))⟩⟩
theorem pe_lcP (h : PE X e (tLc (tI X.K G it) (tG X.K G (some vs) g) (tQ X.K G t) (tE X.K G f) vs)) : PE X e (tE X.K G (pLc it g t f vs)) := h.le lcP
/-- x = [..] -/
theorem ps_setLcP {st : Stmt} {i : Nat} (h : PS X st (tAsg (tLc (tI X.K G it) (tG X.K G (some vs) g) (tQ X.K G t) (tE X.K G f) vs) (gName i))) : PS X st (tS X.K G (pSet i (pLc it g t f vs))) :=
  ps_setP (h.le fun D σ H q => lcP σ H _ q)
end

/-! ### promises over the value layer -/
def ArgA (vs : List V) (as : List Cel) (a : Addr) : Prop := ∃ (j : Nat) (xs : List PyData), vs[j]? = some (V.ref a) ∧ as[j]? = some (Cel.arg xs)
def ArgOk (K : PySem.W.Frag) (dc : Option (Addr × Addr)) (Z : Addr → Prop) (H : Hp) (v : V) : Cel → Prop
  | .dat d => Da K Z H d v
  | .drw => ∃ d c, dc = some (d, c) ∧ v = .ref d
  | .arg xs => ∃ a us, v = .ref a ∧ H a = some (.lst us) ∧ DaAll K Z H xs us ∧ ¬ Z a ∧ ∀ d c, dc = some (d, c) → a ≠ d ∧ a ≠ c
  | _ => False
structure ArgsOk (K : PySem.W.Frag) (tbs : List Addr) (dc : Option (Addr × Addr)) (Z : Addr → Prop) (H : Hp) (vs : List V) (as : List Cel) : Prop where
  len : vs.length = as.length
  ok : ∀ (j : Nat) (v : V) (p : Cel), vs[j]? = some v → as[j]? = some p → ArgOk K dc Z H v p
  sep : ∀ (i j : Nat) (a : Addr) (xs ys : List PyData), vs[i]? = some (V.ref a) → vs[j]? = some (V.ref a) → as[i]? = some (Cel.arg xs) → as[j]? = some (Cel.arg ys) → i = j
  z3 : ∀ a, Z a → H a ≠ none
  dr : ∀ d c, dc = some (d, c) → Dr d c H ∧ ¬ Z d ∧ ¬ Z c
  tk : ∀ b ∈ tbs, GxR.TabG H b
def RetOk (K : PySem.W.Frag) (Z' : Addr → Prop) (H H' : Hp) (v : V) : Cel → Prop
  | .dat d => Da K Z' H' d v
  | .own xs => ∃ a us, v = .ref a ∧ H' a = some (.lst us) ∧ DaAll K Z' H' xs us ∧ ¬ Z' a ∧ H a = none
  | _ => False
structure PostOk (K : PySem.W.Frag) (dc : Option (Addr × Addr)) (Z : Addr → Prop) (H : Hp) (vs : List V) (as : List Cel) (r : Cel) (as' : List Cel) (v : V) (H' : Hp) (Z' : Addr → Prop) : Prop where
  z1 : ∀ a, Z a → Z' a
  z2 : ∀ a, Z' a → Z a ∨ H a = none
  z3 : ∀ a, Z' a → H' a ≠ none
  ret : RetOk K Z' H H' v r
  args : ∀ (j : Nat) xs', as'[j]? = some (Cel.arg xs') → ∃ a us, vs[j]? = some (V.ref a) ∧ H' a = some (.lst us) ∧ DaAll K Z' H' xs' us ∧ ¬ Z' a
  shape : ∀ (j : Nat) xs, as[j]? = some (Cel.arg xs) → ∃ xs', as'[j]? = some (Cel.arg xs')
  fr : ∀ b o, H b = some o → (∀ ps, o ≠ .tbl ps) → ¬ ArgA vs as b → (∀ d c, dc = some (d, c) → b ≠ d) → H' b = some o
  al : ∀ b, H b ≠ none → H' b ≠ none
  dr : ∀ d c, dc = some (d, c) → Dr d c H'
  tb : ∀ b, GxR.TabG H b → GxR.TabG H' b
abbrev PR := List Cel → (Cel → List Cel → Prop) → Prop
def spP (K : PySem.W.Frag) (tbs : List Addr) (n : Nat) (R : PR) : Sp := fun vs H Q _ => ∃ dc Z as C, as.length = n ∧ ArgsOk K tbs dc Z H vs as ∧ R as C ∧ ∀ r as' v H' Z', C r as' → PostOk K dc Z H vs as r as' v H' Z' → Q v H'
def startE (as : List Cel) (n : Nat) : PEnv := as ++ List.replicate (n - as.length) .no
def back : List Cel → PEnv → Option (List Cel)
  | [], _ => some []
  | .arg _ :: as, .arg xs :: e => (back as e).map (.arg xs :: ·)
  | .arg _ :: _, _ => none
  | p :: as, _ :: e => (back as e).map (p :: ·)
  | _ :: _, [] => none
def endsP (as : List Cel) (C : Cel → List Cel → Prop) : PEnds where
  nx := fun env => match back as env with
    | some as' => C (.dat .none) as'
    | none => False
  rt := fun p env => match p, back as env with
    | .dat d, some as' => C (.dat d) as'
    | .own xs, some as' => C (.own xs) as'
    | _, _ => False
theorem back_at : ∀ (as : List Cel) (e : PEnv) (as' : List Cel), back as e = some as' → (∀ (j : Nat) xs', as'[j]? = some (Cel.arg xs') → e[j]? = some (.arg xs') ∧ ∃ xs, as[j]? = some (.arg xs)) ∧ ∀ (j : Nat) xs, as[j]? = some (Cel.arg xs) → ∃ xs', as'[j]? = some (Cel.arg xs')
  | [], _, _, h => by
    cases h
    exact ⟨fun j xs' e => by simp at e, fun j xs e => by simp at e⟩
  | p :: as, e, as', h => by
    have step : ∀ (q : Cel) (c : Cel) (e' : PEnv), e = c :: e' → (back as e').map (q :: ·) = some as' → ((∀ xs', q = .arg xs' → c = .arg xs' ∧ ∃ xs, p = .arg xs) ∧ ∀ xs, p = .arg xs → ∃ xs', q = .arg xs') → (∀ (j : Nat) xs', as'[j]? = some (Cel.arg xs') → e[j]? = some (.arg xs') ∧ ∃ xs, (p :: as)[j]? = some (.arg xs)) ∧ ∀ (j : Nat) xs, (p :: as)[j]? = some (Cel.arg xs) → ∃ xs', as'[j]? = some (Cel.arg xs') := by
      intro q c e' he hm ⟨k1, k2⟩
      obtain ⟨bs, h1, rfl⟩ := Option.map_eq_some_iff.mp hm
      subst he
      obtain ⟨i1, i2⟩ := back_at as e' bs h1
      refine ⟨fun j xs' ej => ?_, fun j xs ej => ?_⟩
      · cases j with
        | zero =>
          obtain ⟨a1, xs, a2⟩ := k1 xs' (Option.some.inj ej)
          exact ⟨congrArg some a1, xs, congrArg some a2⟩
        | succ j => exact i1 j xs' ej
      · cases j with
        | zero =>
          obtain ⟨xs', a⟩ := k2 xs (Option.some.inj ej)
          exact ⟨xs', congrArg some a⟩
        | succ j => exact i2 j xs ej
    cases p with
    | arg ys =>
      cases e with
      | nil => cases h
      | cons c e' =>
        cases c with
        | arg zs => exact step _ _ e' rfl h ⟨(fun xs' z => by cases z; exact ⟨rfl, ys, rfl⟩), fun xs _ => ⟨zs, rfl⟩⟩
        | _ => cases h
    | _ =>
      cases e with
      | nil => cases h
      | cons c e' => exact step _ c e' rfl h ⟨(fun xs' z => by cases z), (fun xs z => by cases z)⟩
theorem start_at {N : List Str} {vs : List V} {i : Nat} {v : V} (h : vs[i]? = some v) : (start N vs)[i]? = some (some v) := by
  unfold L2.start
  rw [List.getElem?_append_left (by rw [List.length_map]; exact (List.getElem?_eq_some_iff.mp h).1), List.getElem?_map, h]
  rfl
theorem startE_at {as : List Cel} {n i : Nat} {p : Cel} (h : (startE as n)[i]? = some p) : as[i]? = some p ∨ (as.length ≤ i ∧ p = .no ∧ i < n) := by
  unfold startE at h
  by_cases hi : i < as.length
  · rw [List.getElem?_append_left hi] at h
    exact .inl h
  · rw [List.getElem?_append_right (by omega), List.getElem?_replicate] at h
    split at h
    · cases h
      exact .inr ⟨by omega, rfl, by omega⟩
    · cases h
section
variable {P : Program} {w : World} {K : PySem.W.Frag} {mg : Str → Option Value} {base : Heap} {x : Str} {st : Stmt} {f : Addr} {fd : FuncData} {N ps : List Str} {k : Nat} {dvs : List V} {kws : List (Str × V)}
theorem start_st {tbs : List Addr} {dc : Option (Addr × Addr)} {Z : Addr → Prop} {H : Hp} {vs : List V} {as : List Cel} (h : ArgsOk K tbs dc Z H vs as) (hN : as.length ≤ N.length) : StZ K ⟨dc, H, Z, ArgA vs as, vs, tbs⟩ Z H (start N vs) (startE as N.length) [] := by
  have atv : ∀ {i p}, as[i]? = some p → ∃ v, vs[i]? = some v := fun {i p} e => ⟨_, List.getElem?_eq_getElem (by rw [h.len]; exact (List.getElem?_eq_some_iff.mp e).1)⟩
  have own : ∀ {i a}, OwnS H (start N vs) (startE as N.length) i a → vs[i]? = some (.ref a) ∧ ∃ xs, as[i]? = some (.arg xs) := fun {i a} o => by
    obtain ⟨ov, p, e, h1, hb⟩ := o
    rcases startE_at h1 with h2 | ⟨_, z, _⟩
    · obtain ⟨v, hv⟩ := atv h2
      rw [start_at hv] at e
      cases e
      have ok := h.ok i v _ hv h2
      cases p with
      | arg xs =>
        obtain ⟨b, us, rfl, _⟩ := ok
        rw [List.mem_singleton.mp hb]
        exact ⟨hv, xs, h2⟩
      | dat d => cases hb
      | drw => cases hb
      | _ => exact ok.elim
    · subst z
      cases ov <;> cases hb
  refine ⟨⟨fun a z => h.z3 a z, fun a ⟨j, xs, h1, h2⟩ => ?_, fun d c e => ?_⟩, fun i p e => ?_, fun t ht => by simp at ht, fun t ht => by simp at ht, fun t ht => by simp at ht, List.Pairwise.nil, fun i j a o1 o2 => ?_, List.Pairwise.nil, fun i a t _ ht => by simp at ht, fun t ht => by simp at ht, fun j xs e => ?_, fun a z => z, fun a z => .inl z, h.z3, fun b o e _ _ _ => e, fun b e => e, fun d c e => (h.dr d c e).1, fun b e => e, h.tk⟩
  · obtain ⟨a', us, e1, h3, _, h4, _⟩ := h.ok j _ _ h1 h2
    cases e1
    exact ⟨h4, _, h3, .inl ⟨us, rfl⟩⟩
  · obtain ⟨⟨cells, i, big, seed, cnt, h1, h2, _⟩, z1, z2⟩ := h.dr d c e
    refine ⟨z1, z2, fun ⟨j, xs, k1, k2⟩ => ?_, fun ⟨j, xs, k1, k2⟩ => ?_, (fun z => by rw [show H d = none from z] at h1; cases h1), fun z => by rw [show H c = none from z] at h2; cases h2⟩
    · obtain ⟨a', us, e1, _, _, _, n⟩ := h.ok j _ _ k1 k2
      cases e1
      exact (n d c e).1 rfl
    · obtain ⟨a', us, e1, _, _, _, n⟩ := h.ok j _ _ k1 k2
      cases e1
      exact (n d c e).2 rfl
  · rcases startE_at e with h1 | ⟨h1, rfl, h2⟩
    · obtain ⟨v, hv⟩ := atv h1
      refine ⟨_, start_at hv, ?_⟩
      have ok := h.ok i v p hv h1
      cases p with
      | no => trivial
      | dat d => exact ⟨v, rfl, ok⟩
      | own xs => exact ok.elim
      | arg xs =>
        obtain ⟨a, us, rfl, k1, k2, k3, _⟩ := ok
        exact ⟨a, us, rfl, k1, k2, k3, i, xs, hv, h1⟩
      | drw =>
        obtain ⟨d, c, k1, rfl⟩ := ok
        exact ⟨d, c, k1, rfl⟩
      | _ => exact ok.elim
    · refine ⟨none, ?_, trivial⟩
      have l := h.len
      unfold L2.start
      rw [List.getElem?_append_right (by rw [List.length_map]; omega), List.getElem?_replicate, List.length_map, if_pos (by omega)]
  · obtain ⟨h1, xs, h2⟩ := own o1
    obtain ⟨h3, ys, h4⟩ := own o2
    exact h.sep i j a xs ys h1 h3 h2 h4
  · rcases startE_at e with h1 | ⟨_, z, _⟩
    · obtain ⟨v, hv⟩ := atv h1
      exact ⟨v, hv, start_at hv⟩
    · cases z
theorem okRc {sp : Sp} (F : FunD K x x (defArgs st) (defBody st) (defScope st) dvs kws f fd) (S : FnScope N ps (defScope st)) (len : ∀ vs H Q E, sp vs H Q E → vs.length = ps.length)
    (body : ∀ (cdv : Value) (A : Around) (outer : List Env) (s : Shared) (H : Hp) (vs : List V) (Q : VK) (E : XK), fd.code = cdv → Room k (A.deeper (envOfC x (defScope st) s.heap.objs.size f cdv)) → sp vs H Q E →
      ∃ t, PSs (cxOf CX0 P w K mg base N x (defScope st) f cdv A outer s H E).nox (defBody st) t ∧ t { nx := fun _ H' => Q .non H', rt := Q } (start N vs) H) : FnOk P w K mg base CX0 (k + 1) f fd ps sp := by
  obtain ⟨oc, od, dV, kV, doc, pm, an, cdv, ct, osl, rfl, lk, hcd, _, _⟩ := F.ex
  refine fn_of lk hcd S len fun A outer s H vs Q E hr h => ?_
  obtain ⟨t, h1, h2⟩ := body cdv A outer s H vs Q E rfl hr h
  exact ⟨t, h1.nox, h2⟩
theorem okP {tbs : List Addr} {n : Nat} {R : PR} (F : FunD K x x (defArgs st) (defBody st) (defScope st) dvs kws f fd) (S : FnScope N ps (defScope st)) (hl : ps.length = n)
    (body : ∀ (cdv : Value) (A : Around) (outer : List Env) (s : Shared) (H : Hp) (E : XK) (G : Gam), G.tbs = tbs → fd.code = cdv → Room k (A.deeper (envOfC x (defScope st) s.heap.objs.size f cdv)) →
      ∃ g, PSs (cxOf CX0 P w K mg base N x (defScope st) f cdv A outer s H E).nox (defBody st) (tS K G g) ∧ ∀ as C, as.length = n → R as C → g (endsP as C) (startE as N.length)) : FnOk P w K mg base CX0 (k + 1) f fd ps (spP K tbs n R) := by
  refine okRc F S (fun vs H Q E h => ?_) fun cdv A outer s H vs Q E hcd hr h => ?_
  · obtain ⟨dc, Z, as, C, h1, h2, _⟩ := h
    rw [h2.len, h1, hl]
  · obtain ⟨dc, Z, as, C, h1, h2, h3, q⟩ := h
    have hN : as.length ≤ N.length := by
      have := congrArg List.length S.pre
      rw [List.length_take] at this
      omega
    obtain ⟨g, hg, w1⟩ := body cdv A outer s H E ⟨dc, H, Z, ArgA vs as, vs, tbs⟩ rfl hcd hr
    refine ⟨_, hg, startE as N.length, [], endsP as C, fun t ht => by simp at ht, ⟨Z, start_st h2 hN⟩, w1 as C h1 h3, ?_⟩
    have fin : ∀ p env σ v H', (endsP as C).rt p env → StE K ⟨dc, H, Z, ArgA vs as, vs, tbs⟩ H' σ env [(v, p)] → Q v H' := by
      intro p env σ v H' hc ⟨Z', s'⟩
      have go : ∀ as', back as env = some as' → RetOk K Z' H H' v p → C p as' → Q v H' := fun as' e hr hc => by
        obtain ⟨b1, b2⟩ := back_at as env as' e
        refine q p as' v H' Z' hc ⟨s'.z1, s'.z2, s'.z3, hr, fun j xs' ej => ?_, b2, s'.fr, s'.al, s'.dr, s'.tb⟩
        obtain ⟨k1, _⟩ := b1 j xs' ej
        obtain ⟨u, k2, k3⟩ := s'.ar j xs' k1
        obtain ⟨ov, k4, a, us, k5, k6, k7, k8, _⟩ := s'.sl j _ k1
        rw [k3] at k4
        cases k4
        cases k5
        exact ⟨a, us, k2, k6, k7, k8⟩
      unfold endsP at hc
      dsimp only at hc
      split at hc
      · next as' e => exact go as' e s'.topDat hc
      · next as' e =>
        obtain ⟨a, us, e1, k1, k2, k3, k4, _⟩ := s'.topOwn
        exact go as' e ⟨a, us, e1, k1, k2, k3, k4⟩ hc
      · exact hc.elim
    exact ⟨fun env σ H' h' ⟨Z', s'⟩ => fin (.dat .none) env σ .non H' (by
      unfold endsP at h' ⊢
      dsimp only at h' ⊢
      split at h'
      · next e => rw [e]; exact h'
      · exact h'.elim) ⟨Z', s'.dat rfl⟩, fin, fun _ _ _ z => z.elim, fun _ _ _ z => z.elim⟩
end
/-! ### calls -/
def asOf1 (e : PEnv) : Cel → Option Cel
  | .dat d => some (.dat d)
  | .drw => some .drw
  | .own xs => some (.arg xs)
  | .bor i => match e[i]? with
    | some (.own xs) => some (.arg xs)
    | some (.arg xs) => some (.arg xs)
    | some (.dat (.list xs)) => some (.dat (.list xs))
    | _ => none
  | _ => none
def asOf (e : PEnv) : List Cel → Option (List Cel)
  | [] => some []
  | p :: ps => match asOf1 e p, asOf e ps with
    | some a, some as => some (a :: as)
    | _, _ => none
def borOk : List Cel → Bool
  | [] => true
  | .bor i :: ps => ps.all (fun p => match p with | .bor j => i != j | _ => true) && borOk ps
  | _ :: ps => borOk ps
def setB (e : PEnv) (i : Nat) (xs : List PyData) : PEnv := match e[i]? with
  | some (.own _) => e.set i (.own xs)
  | some (.arg _) => e.set i (.arg xs)
  | _ => e
def putB : PEnv → List Cel → List Cel → PEnv
  | e, .bor i :: ps, .arg xs :: as => putB (setB e i xs) ps as
  | e, _ :: ps, _ :: as => putB e ps as
  | e, _, _ => e
def pCall (n : Nat) (R : PR) (g : PAs) : PEx := fun env C => g env fun ps e => match asOf e ps, (borOk ps && ps.length == n) with
  | some as, true => R as fun r as' => C r (putB e ps as')
  | _, _ => False
def pCall0 (R : PR) : PEx := fun env C => R [] fun r as' => C r env
/-- what putB leaves at a place -/
def PutAt (ps as : List Cel) (e : PEnv) (i : Nat) (q : Cel) : Prop := (e[i]? = some q ∧ ∀ (j : Nat) (xs' : List PyData), ps[j]? = some (Cel.bor i) → as[j]? = some (Cel.arg xs') → ∀ ys, q ≠ .own ys ∧ q ≠ .arg ys) ∨
  ∃ (j : Nat) (xs' : List PyData), ps[j]? = some (Cel.bor i) ∧ as[j]? = some (Cel.arg xs') ∧ ((q = .own xs' ∧ ∃ xs, e[i]? = some (.own xs)) ∨ (q = .arg xs' ∧ ∃ xs, e[i]? = some (.arg xs)))
theorem putB_at : ∀ (ps as : List Cel) (e : PEnv) (i : Nat) (q : Cel), borOk ps = true → (putB e ps as)[i]? = some q → PutAt ps as e i q
  | [], as, e, i, q, _, h => .inl ⟨by unfold putB at h; exact h, fun j xs' z => by simp at z⟩
  | p :: ps, [], e, i, q, _, h => .inl ⟨by
      have : putB e (p :: ps) [] = e := by cases p <;> rfl
      rw [this] at h
      exact h, fun j xs' _ z => by simp at z⟩
  | p :: ps, a :: as, e, i, q, hb, h => by
    have skip : borOk ps = true → (putB e ps as)[i]? = some q → (p = .bor i → ∀ xs', a ≠ .arg xs') → PutAt (p :: ps) (a :: as) e i q := fun hb h hn => by
      rcases putB_at ps as e i q hb h with ⟨h1, h2⟩ | ⟨j, xs', h1, h2, h3⟩
      · refine Or.inl ⟨h1, fun j xs' e1 e2 => ?_⟩
        cases j with
        | zero => exact absurd (Option.some.inj e2) (hn (Option.some.inj e1) xs')
        | succ j => exact h2 j xs' e1 e2
      · exact Or.inr ⟨j + 1, xs', h1, h2, h3⟩
    cases p with
    | bor k =>
      have hb' : (ps.all (fun p => match p with | .bor j => k != j | _ => true) && borOk ps) = true := hb
      rw [Bool.and_eq_true] at hb'
      cases a with
      | arg xs =>
        have h : (putB (setB e k xs) ps as)[i]? = some q := h
        by_cases ek : k = i
        · subst ek
          have no : ∀ j, ps[j]? ≠ some (Cel.bor k) := fun j z => by
            have := List.all_eq_true.mp hb'.1 _ (List.mem_of_getElem? z)
            simp at this
          rcases putB_at ps as (setB e k xs) k q hb'.2 h with ⟨h1, h2⟩ | ⟨j, xs', h1, _⟩
          · unfold setB at h1
            split at h1
            · next ys e1 =>
              rw [List.getElem?_set_self (List.getElem?_eq_some_iff.mp e1).1] at h1
              cases h1
              exact .inr ⟨0, xs, rfl, rfl, .inl ⟨rfl, ys, e1⟩⟩
            · next ys e1 =>
              rw [List.getElem?_set_self (List.getElem?_eq_some_iff.mp e1).1] at h1
              cases h1
              exact .inr ⟨0, xs, rfl, rfl, .inr ⟨rfl, ys, e1⟩⟩
            · next n1 n2 =>
              refine .inl ⟨h1, fun j xs' _ _ ys => ⟨fun z => n1 ys (by rw [h1, z]), fun z => n2 ys (by rw [h1, z])⟩⟩
          · exact absurd h1 (no j)
        · have se : (setB e k xs)[i]? = e[i]? := by
            unfold setB
            split
            · rw [List.getElem?_set_ne ek]
            · rw [List.getElem?_set_ne ek]
            · rfl
          rcases putB_at ps as (setB e k xs) i q hb'.2 h with ⟨h1, h2⟩ | ⟨j, xs', h1, h2, h3⟩
          · refine .inl ⟨by rw [← se]; exact h1, fun j xs' e1 e2 => ?_⟩
            cases j with
            | zero => exact absurd (Cel.bor.inj (Option.some.inj e1)) ek
            | succ j => exact h2 j xs' e1 e2
          · rw [se] at h3
            exact .inr ⟨j + 1, xs', h1, h2, h3⟩
      | _ => exact skip hb'.2 h fun _ xs' z => by cases z
    | _ => exact skip hb h fun z => by cases z
theorem putB_len : ∀ (ps as : List Cel) (e : PEnv), (putB e ps as).length = e.length
  | [], _, e => rfl
  | p :: ps, [], e => by cases p <;> rfl
  | p :: ps, a :: as, e => by
    have sl : ∀ i xs, (setB e i xs).length = e.length := fun i xs => by
      unfold setB
      split
      · exact List.length_set
      · exact List.length_set
      · rfl
    cases p with
    | bor k =>
      cases a with
      | arg xs =>
        show (putB (setB e k xs) ps as).length = _
        rw [putB_len ps as, sl]
      | _ => exact putB_len ps as e
    | _ => exact putB_len ps as e
theorem asOf_at : ∀ (ps : List Cel) (e : PEnv) (as : List Cel), asOf e ps = some as → as.length = ps.length ∧ ∀ (j : Nat) p, ps[j]? = some p → ∃ a, as[j]? = some a ∧ asOf1 e p = some a
  | [], e, as, h => by
    cases h
    exact ⟨rfl, fun j p e => by simp at e⟩
  | p :: ps, e, as, h => by
    unfold asOf at h
    split at h
    · next a as' h1 h2 =>
      cases h
      obtain ⟨l, k⟩ := asOf_at ps e as' h2
      refine ⟨congrArg Nat.succ l, fun j q ej => ?_⟩
      cases j with
      | zero =>
        cases ej
        exact ⟨a, rfl, h1⟩
      | succ j => exact k j q ej
    · cases h
theorem psh_mem : ∀ (ps : List Cel) (vs : List V) (T : Stk), (∀ t ∈ T, t ∈ psh T vs ps) ∧ ∀ (j : Nat) v p, vs[j]? = some v → ps[j]? = some p → (v, p) ∈ psh T vs ps
  | [], [], T => ⟨fun t h => h, fun j v p e => by simp at e⟩
  | [], _ :: _, T => ⟨fun t h => h, fun j v p _ e => by simp at e⟩
  | _ :: _, [], T => ⟨fun t h => h, fun j v p e => by simp at e⟩
  | p :: ps, v :: vs, T => by
    obtain ⟨h1, h2⟩ := psh_mem ps vs ((v, p) :: T)
    refine ⟨fun t h => h1 t (List.mem_cons_of_mem _ h), fun j u q e1 e2 => ?_⟩
    cases j with
    | zero =>
      cases e1
      cases e2
      exact h1 _ List.mem_cons_self
    | succ j => exact h2 j u q e1 e2
theorem psh_sub : ∀ (ps : List Cel) (vs : List V) (T : Stk), T.Sublist (psh T vs ps)
  | [], [], T => List.Sublist.refl _
  | [], _ :: _, T => List.Sublist.refl _
  | _ :: _, [], T => List.Sublist.refl _
  | p :: ps, v :: vs, T => (List.sublist_cons_self _ _).trans (psh_sub ps vs ((v, p) :: T))
/-- own values on the stack stand apart: in the arguments, and from what lies below -/
theorem psh_sep {H : Hp} : ∀ (ps : List Cel) (vs : List V) (T : Stk), (psh T vs ps).Pairwise (fun t u => ∀ a, OwnT H t a → ¬ OwnT H u a) → (∀ (j : Nat) v p, vs[j]? = some v → ps[j]? = some p → ∀ t ∈ T, ∀ a, OwnT H (v, p) a → ¬ OwnT H t a) ∧ ∀ (i j : Nat) v u p q a, vs[i]? = some v → ps[i]? = some p → vs[j]? = some u → ps[j]? = some q → OwnT H (v, p) a → OwnT H (u, q) a → i = j
  | [], [], T, _ => ⟨fun j v p e => by simp at e, fun i j v u p q a e => by simp at e⟩
  | [], _ :: _, T, _ => ⟨fun j v p _ e => by simp at e, fun i j v u p q a _ e => by simp at e⟩
  | _ :: _, [], T, _ => ⟨fun j v p e => by simp at e, fun i j v u p q a e => by simp at e⟩
  | p :: ps, v :: vs, T, h => by
    obtain ⟨h1, h2⟩ := psh_sep ps vs ((v, p) :: T) h
    have h0 := (List.pairwise_cons.mp (h.sublist (psh_sub ps vs ((v, p) :: T)))).1
    refine ⟨fun j u q e1 e2 t ht a o1 o2 => ?_, fun i j u1 u2 q1 q2 a e1 e2 e3 e4 o1 o2 => ?_⟩
    · cases j with
      | zero =>
        cases e1
        cases e2
        exact h0 t ht a o1 o2
      | succ j => exact h1 j u q e1 e2 t (List.mem_cons_of_mem _ ht) a o1 o2
    · cases i with
      | zero =>
        cases j with
        | zero => rfl
        | succ j =>
          cases e1
          cases e2
          exact absurd o1 (h1 j u2 q2 e3 e4 _ List.mem_cons_self a o2)
      | succ i =>
        cases j with
        | zero =>
          cases e3
          cases e4
          exact absurd o2 (h1 i u1 q1 e1 e2 _ List.mem_cons_self a o1)
        | succ j => exact congrArg Nat.succ (h2 i j u1 u2 q1 q2 a e1 e2 e3 e4 o1 o2)
theorem borOk_inj : ∀ {ps : List Cel} {i j k : Nat}, borOk ps = true → ps[i]? = some (Cel.bor k) → ps[j]? = some (Cel.bor k) → i = j
  | [], i, j, k, _, e, _ => by simp at e
  | p :: ps, i, j, k, h, e1, e2 => by
    have tl : borOk ps = true := by
      cases p with
      | bor n =>
        have h' : (ps.all (fun p => match p with | .bor j => n != j | _ => true) && borOk ps) = true := h
        rw [Bool.and_eq_true] at h'
        exact h'.2
      | _ => exact h
    have hd : ∀ m, p = .bor k → ps[m]? ≠ some (Cel.bor k) := fun m z z2 => by
      subst z
      have h' : (ps.all (fun p => match p with | .bor j => k != j | _ => true) && borOk ps) = true := h
      rw [Bool.and_eq_true] at h'
      have := List.all_eq_true.mp h'.1 _ (List.mem_of_getElem? z2)
      simp at this
    cases i with
    | zero =>
      cases j with
      | zero => rfl
      | succ j => exact absurd e2 (hd j (Option.some.inj e1))
    | succ i =>
      cases j with
      | zero => exact absurd e1 (hd i (Option.some.inj e2))
      | succ j => exact congrArg Nat.succ (borOk_inj tl e1 e2)

section
variable {K : PySem.W.Frag} {G : Gam} {Z : Addr → Prop} {H : Hp} {σ : L2.St} {e : PEnv} {T : Stk} {vs : List V} {ps as : List Cel}
/-- what an argument list is -/
theorem arg_cls (s : StZ K G Z H σ e (psh T vs ps)) (l : vs.length = ps.length) (ha : asOf e ps = some as) {j : Nat} {a : Addr} {xs : List PyData} (h1 : vs[j]? = some (.ref a)) (h2 : as[j]? = some (.arg xs)) :
    (∃ us, H a = some (.lst us) ∧ DaAll K Z H xs us) ∧ ¬ Z a ∧ (G.H0 a = none ∨ G.M0 a) ∧ ((ps[j]? = some (.own xs) ∧ OwnT H (V.ref a, Cel.own xs) a) ∨ ∃ i, ps[j]? = some (.bor i) ∧ OwnS H σ e i a ∧ (e[i]? = some (.own xs) ∨ e[i]? = some (.arg xs))) := by
  obtain ⟨la, ka⟩ := asOf_at ps e as ha
  have hj : j < ps.length := by
    have := (List.getElem?_eq_some_iff.mp h2).1
    omega
  have hp := List.getElem?_eq_getElem hj
  generalize ps[j] = p at hp
  obtain ⟨q, e1, e2⟩ := ka j p hp
  rw [h2] at e1
  cases e1
  have mem := (psh_mem ps vs T).2 j _ p h1 hp
  cases p with
  | no => cases e2
  | dat d => cases e2
  | drw => cases e2
  | arg ys => cases e2
  | box ys => cases e2
  | pnd ys => cases e2
  | dic ys => cases e2
  | dit ys => cases e2
  | lck o ws ys => cases e2
  | exn a d fs => cases e2
  | two b xs ys => cases e2
  | sub i k => cases e2
  | own ys =>
    cases e2
    obtain ⟨b, us, e3, k1, k2, k3, k4⟩ := s.tm _ mem
    cases e3
    exact ⟨⟨us, k1, k2⟩, k3, .inl k4, .inl ⟨hp, List.mem_cons_self⟩⟩
  | bor i =>
    obtain ⟨e3, _⟩ := s.bo _ mem i rfl
    have e2 : (match e[i]? with
      | some (.own xs) => some (Cel.arg xs)
      | some (.arg xs) => some (Cel.arg xs)
      | some (.dat (.list xs)) => some (Cel.dat (.list xs))
      | _ => none) = some (Cel.arg xs) := e2
    split at e2
    · next ys q =>
      cases e2
      have o : OwnS H σ e i a := ⟨_, .own xs, e3, q, List.mem_cons_self⟩
      obtain ⟨ov, e5, b, us, e6, k1, k2, k3, k4⟩ := s.sl i _ q
      rw [e3] at e5
      cases e5
      cases e6
      exact ⟨⟨us, k1, k2⟩, k3, .inl k4, .inr ⟨i, hp, o, .inl q⟩⟩
    · next ys q =>
      cases e2
      have o : OwnS H σ e i a := ⟨_, .arg xs, e3, q, List.mem_cons_self⟩
      obtain ⟨ov, e5, b, us, e6, k1, k2, k3, k4⟩ := s.sl i _ q
      rw [e3] at e5
      cases e5
      cases e6
      exact ⟨⟨us, k1, k2⟩, k3, .inr k4, .inr ⟨i, hp, o, .inr q⟩⟩
    · cases e2
    · cases e2
theorem args_ok (s : StZ K G Z H σ e (psh T vs ps)) (l : vs.length = ps.length) (ha : asOf e ps = some as) (hb : borOk ps = true) : ArgsOk K G.tbs G.dc Z H vs as := by
  obtain ⟨la, ka⟩ := asOf_at ps e as ha
  refine ⟨l.trans la.symm, fun j v q h1 h2 => ?_, fun i j a xs ys h1 h2 h3 h4 => ?_, s.z3, fun d c e => ⟨s.dr d c e, s.zd e⟩, s.tk⟩
  · have hj : j < ps.length := by
      have := (List.getElem?_eq_some_iff.mp h2).1
      omega
    have hp := List.getElem?_eq_getElem hj
    generalize ps[j] = p at hp
    obtain ⟨q', e1, e2⟩ := ka j p hp
    rw [h2] at e1
    cases e1
    have mem := (psh_mem ps vs T).2 j _ p h1 hp
    cases p with
    | no => cases e2
    | dat d =>
      cases e2
      exact s.datT mem
    | drw =>
      cases e2
      obtain ⟨d, c, k1, k2⟩ := s.tm _ mem
      exact ⟨d, c, k1, Option.some.inj k2⟩
    | arg ys => cases e2
    | box ys => cases e2
    | pnd ys => cases e2
    | dic ys => cases e2
    | dit ys => cases e2
    | lck o ws ys => cases e2
    | exn a d fs => cases e2
    | two b xs ys => cases e2
    | sub i k => cases e2
    | own ys =>
      cases e2
      obtain ⟨b, us, e3, k1, k2, k3, k4⟩ := s.tm _ mem
      cases e3
      exact ⟨b, us, rfl, k1, k2, k3, fun d c e => s.gok.ne (.inl k4) e⟩
    | bor i =>
      obtain ⟨e3, _⟩ := s.bo _ mem i rfl
      have e4 : (match e[i]? with
        | some (.own xs) => some (Cel.arg xs)
        | some (.arg xs) => some (Cel.arg xs)
        | some (.dat (.list xs)) => some (Cel.dat (.list xs))
        | _ => none) = some q := e2
      split at e4
      · next ys q1 =>
        cases e4
        obtain ⟨ov, e5, b, us, e6, k1, k2, k3, k4⟩ := s.sl i _ q1
        rw [e3] at e5
        cases e5
        cases e6
        exact ⟨b, us, rfl, k1, k2, k3, fun d c e => s.gok.ne (.inl k4) e⟩
      · next ys q1 =>
        cases e4
        obtain ⟨ov, e5, b, us, e6, k1, k2, k3, k4⟩ := s.sl i _ q1
        rw [e3] at e5
        cases e5
        cases e6
        exact ⟨b, us, rfl, k1, k2, k3, fun d c e => s.gok.ne (.inr k4) e⟩
      · next ys q1 =>
        cases e4
        obtain ⟨ov, e5, u, e6, k1⟩ := s.sl i _ q1
        rw [e3] at e5
        cases e5
        cases e6
        exact k1
      · cases e4
  · obtain ⟨_, _, _, c1⟩ := arg_cls s l ha h1 h3
    obtain ⟨_, _, _, c2⟩ := arg_cls s l ha h2 h4
    rcases c1 with ⟨p1, o1⟩ | ⟨k1, p1, o1, _⟩
    · rcases c2 with ⟨p2, o2⟩ | ⟨k2, p2, o2, _⟩
      · exact (psh_sep ps vs T s.s2).2 i j _ _ _ _ a h1 p1 h2 p2 o1 o2
      · exact absurd o1 (s.s3 k2 a _ o2 ((psh_mem ps vs T).2 i _ _ h1 p1))
    · rcases c2 with ⟨p2, o2⟩ | ⟨k2, p2, o2, _⟩
      · exact absurd o2 (s.s3 k1 a _ o1 ((psh_mem ps vs T).2 j _ _ h2 p2))
      · have := s.s1 k1 k2 a o1 o2
        subst this
        exact borOk_inj hb p1 p2
theorem call_back (s : StZ K G Z H σ e (psh T vs ps)) (l : vs.length = ps.length) (ha : asOf e ps = some as) (hb : borOk ps = true) {r : Cel} {as' : List Cel} {v : V} {H' : Hp} {Z' : Addr → Prop} (po : PostOk K G.dc Z H vs as r as' v H' Z') :
    StZ K G Z' H' σ (putB e ps as') ((v, r) :: T) := by
  have sT : StZ K G Z H σ e T := s.sub (psh_sub ps vs T)
  have cls : ∀ {a}, ArgA vs as a → (∃ us, H a = some (.lst us)) ∧ ¬ Z a ∧ (G.H0 a = none ∨ G.M0 a) := fun {a} ⟨j, xs, h1, h2⟩ => by
    obtain ⟨⟨us, k1, _⟩, k2, k3, _⟩ := arg_cls s l ha h1 h2
    exact ⟨⟨us, k1⟩, k2, k3⟩
  have nT : ∀ {a t}, t ∈ T → OwnT H t a → ¬ ArgA vs as a := fun {a t} ht o ⟨j, xs, h1, h2⟩ => by
    obtain ⟨_, _, _, ⟨p1, o1⟩ | ⟨k, p1, o1, _⟩⟩ := arg_cls s l ha h1 h2
    · exact (psh_sep ps vs T s.s2).1 j _ _ h1 p1 t ht a o1 o
    · exact sT.s3 k a t o1 ht o
  have nS : ∀ {a i}, OwnS H σ e i a → ArgA vs as a → ∃ j xs' xs, ps[j]? = some (Cel.bor i) ∧ as'[j]? = some (Cel.arg xs') ∧ (e[i]? = some (.own xs) ∨ e[i]? = some (.arg xs)) := fun {a i} o ⟨j, xs, h1, h2⟩ => by
    obtain ⟨_, _, _, ⟨p1, o1⟩ | ⟨k, p1, o1, c⟩⟩ := arg_cls s l ha h1 h2
    · exact absurd o1 (s.s3 i a _ o ((psh_mem ps vs T).2 j _ _ h1 p1))
    · have := s.s1 k i a o1 o
      subst this
      obtain ⟨xs', e1⟩ := po.shape j xs h2
      exact ⟨j, xs', xs, p1, e1, c⟩
  have m : Mv K Z H Z' H' := Mv.ofT (fun b => ArgA vs as b ∨ ∃ d c, G.dc = some (d, c) ∧ b = d) (fun b o e n0 n => po.fr b o e n0 (fun z => n (.inl z)) fun d c e1 e2 => n (.inr ⟨d, c, e1, e2⟩)) (fun b h => by
    rcases h with h | ⟨d, c, e1, rfl⟩
    · obtain ⟨⟨us, k1⟩, k2, _⟩ := cls h
      exact ⟨_, k1, .inl ⟨us, rfl⟩, k2⟩
    · obtain ⟨us, k1⟩ := (s.dr _ _ e1).there
      exact ⟨_, k1, .inl ⟨us, rfl⟩, (s.zd e1).1⟩) po.z1 po.tb
  have keep : ∀ {a o}, (∃ o, H a = some o ∧ WrO o) → (G.H0 a = none ∨ G.M0 a) → ¬ ArgA vs as a → H a = some o → H' a = some o := fun {a o} ⟨o', e', w'⟩ h n e => po.fr a _ e (fun ps z => by
    rw [e] at e'
    cases e'
    rcases w' with ⟨_, z'⟩ | ⟨_, z'⟩ | ⟨_, z'⟩ <;> rw [z] at z' <;> cases z') n fun d c e1 => (s.gok.ne h e1).1
  have nz : ∀ {a us}, H a = some us → ¬ Z a → ¬ Z' a := fun {a us} e n z => by
    rcases po.z2 a z with z | z
    · exact n z
    · rw [e] at z
      cases z
  have keepS : ∀ {i q ov}, e[i]? = some q → σ[i]? = some ov → CelOk K G Z H ov q → (∀ (j : Nat) (xs' : List PyData), ps[j]? = some (Cel.bor i) → as'[j]? = some (Cel.arg xs') → ∀ ys, q ≠ .own ys ∧ q ≠ .arg ys) → CelOk K G Z' H' ov q ∧ celFoot H' q ov = celFoot H q ov := fun {i q ov} h1 e1 ok h2 => by
    refine ok.mv m (fun b us hb hh => ?_) fun b hb => ?_
    · refine keep (ok.own hb).1 (ok.own hb).2.2 (fun z => ?_) hh
      obtain ⟨j, xs', xs, p1, p2, p3⟩ := nS ⟨ov, q, e1, h1, hb⟩ z
      rw [h1] at p3
      rcases p3 with p3 | p3
      · exact (h2 j xs' p1 p2 xs).1 (Option.some.inj p3)
      · exact (h2 j xs' p1 p2 xs).2 (Option.some.inj p3)
    · obtain ⟨⟨us, k1, _⟩, k2, _⟩ := ok.own hb
      exact nz k1 k2
  have keepT : ∀ {t}, t ∈ T → CelOk K G Z' H' (some t.1) t.2 ∧ celFoot H' t.2 (some t.1) = celFoot H t.2 (some t.1) := fun {t} ht =>
    (sT.tm t ht).mv m (fun b us hb hh => keep ((sT.tm t ht).own hb).1 ((sT.tm t ht).own hb).2.2 (nT ht hb) hh) fun b hb => by
      obtain ⟨⟨us, k1, _⟩, k2, _⟩ := (sT.tm t ht).own hb
      exact nz k1 k2
  have back : ∀ {i a}, OwnS H' σ (putB e ps as') i a → OwnS H σ e i a := fun {i a} ⟨ov, q, e1, hq, hb'⟩ => by
    rcases putB_at ps as' e i q hb hq with ⟨h1, h2⟩ | ⟨_, xs', _, _, ⟨rfl, xs, h1⟩ | ⟨rfl, xs, h1⟩⟩
    · obtain ⟨ov', e2, ok⟩ := s.sl i q h1
      rw [e1] at e2
      cases e2
      rw [(keepS h1 e1 ok h2).2] at hb'
      exact ⟨ov, q, e1, h1, hb'⟩
    · obtain ⟨ov', e2, b, us, e3, _⟩ := s.sl i _ h1
      rw [e1] at e2
      cases e2
      subst e3
      exact ⟨_, _, e1, h1, hb'⟩
    · obtain ⟨ov', e2, b, us, e3, _⟩ := s.sl i _ h1
      rw [e1] at e2
      cases e2
      subst e3
      exact ⟨_, _, e1, h1, hb'⟩
  have backT : ∀ {t a}, t ∈ T → OwnT H' t a → OwnT H t a := fun {t a} ht o => by
    unfold OwnT at o ⊢
    rw [(keepT ht).2] at o
    exact o
  have base : StZ K G Z' H' σ (putB e ps as') T := by
    refine ⟨s.gok, fun i q hq => ?_, fun t ht => (keepT ht).1, fun t ht i e1 => ?_, fun t ht i k e1 => ?_, sT.pu, fun i j a o1 o2 => s.s1 i j a (back o1) (back o2), sT.s2.imp_of_mem fun {t u} ht hu h a o1 o2 => h a (backT ht o1) (backT hu o2), fun i a t o ht o2 => sT.s3 i a t (back o) ht (backT ht o2), sT.ta, fun j xs hq => ?_, fun a z => po.z1 a (s.z1 a z), fun a z => ?_, po.z3, fun b o e1 n0 n1 n2 => ?_, fun b h => po.al b (s.al b h), po.dr, fun b h => po.tb b (s.tb b h), fun b h => po.tb b (s.tk b h)⟩
    · rcases putB_at ps as' e i q hb hq with ⟨h1, h2⟩ | ⟨j, xs', h1, h2, h3⟩
      · obtain ⟨ov, e1, ok⟩ := s.sl i q h1
        exact ⟨ov, e1, (keepS h1 e1 ok h2).1⟩
      · obtain ⟨a, us, e1, k1, k2, k3⟩ := po.args j xs' h2
        have e2 := (s.bo _ ((psh_mem ps vs T).2 j _ _ e1 h1) i rfl).1
        refine ⟨_, e2, ?_⟩
        rcases h3 with ⟨rfl, xs, h3⟩ | ⟨rfl, xs, h3⟩
        · obtain ⟨ov, e3, b, ws, e4, _, _, _, k4⟩ := s.sl i _ h3
          rw [e2] at e3
          cases e3
          cases e4
          exact ⟨a, us, rfl, k1, k2, k3, k4⟩
        · obtain ⟨ov, e3, b, ws, e4, _, _, _, k4⟩ := s.sl i _ h3
          rw [e2] at e3
          cases e3
          cases e4
          exact ⟨a, us, rfl, k1, k2, k3, k4⟩
    · obtain ⟨e2, c, h, lc⟩ := sT.bo t ht i e1
      refine ⟨e2, ?_⟩
      have hi : i < (putB e ps as').length := by
        rw [putB_len]
        exact (List.getElem?_eq_some_iff.mp h).1
      have hq := List.getElem?_eq_getElem hi
      generalize (putB e ps as')[i] = q at hq
      rcases putB_at ps as' e i q hb hq with ⟨h1, _⟩ | ⟨j, xs', _, _, ⟨rfl, _⟩ | ⟨rfl, _⟩⟩
      · rw [h] at h1
        cases h1
        exact ⟨c, hq, lc⟩
      · exact ⟨_, hq, trivial⟩
      · exact ⟨_, hq, trivial⟩
    · obtain ⟨a, ws, xs, e2, h, k1, k2⟩ := sT.pn t ht i k e1
      have oa : OwnS H σ e i a := ⟨_, _, e2, h, List.mem_cons_self⟩
      have hi : i < (putB e ps as').length := by
        rw [putB_len]
        exact (List.getElem?_eq_some_iff.mp h).1
      have hq := List.getElem?_eq_getElem hi
      generalize (putB e ps as')[i] = q at hq
      rcases putB_at ps as' e i q hb hq with ⟨h1, _⟩ | ⟨j, xs', _, _, ⟨_, _, h1⟩ | ⟨_, _, h1⟩⟩
      · rw [h] at h1
        cases h1
        refine ⟨a, ws, xs, e2, hq, keep (s.ownS oa).1 (s.ownS oa).2.2 (fun z => ?_) k1, k2⟩
        obtain ⟨_, _, _, _, _, p3⟩ := nS oa z
        rw [h] at p3
        rcases p3 with p3 | p3 <;> cases p3
      · rw [h] at h1
        cases h1
      · rw [h] at h1
        cases h1
    · rcases putB_at ps as' e j _ hb hq with ⟨h1, _⟩ | ⟨_, _, _, _, ⟨z, _⟩ | ⟨_, xs2, h1⟩⟩
      · exact s.ar j _ h1
      · cases z
      · exact s.ar j _ h1
    · rcases po.z2 a z with z | z
      · exact s.z2 a z
      · exact .inr (s.h0 z)
    · refine po.fr b o (s.fr b o e1 n0 n1 n2) n0 (fun z => ?_) n2
      obtain ⟨_, _, z | z⟩ := cls z
      · rw [z] at e1
        cases e1
      · exact n1 z
  have rt := po.ret
  cases r with
  | dat d => exact base.dat rt
  | own xs =>
    obtain ⟨a, us, rfl, k1, k2, k3, k4⟩ := rt
    refine base.push ⟨a, us, rfl, k1, k2, k3, s.h0 k4⟩ (fun _ z => by cases z) (fun _ _ z => by cases z) (fun _ z => by cases z) fun b o oa => ?_
    rw [List.mem_singleton.mp o] at oa
    rcases oa with ⟨i, o⟩ | ⟨t, ht, o⟩
    · obtain ⟨⟨us, e1, _⟩, _⟩ := s.ownS (back o)
      rw [k4] at e1
      cases e1
    · obtain ⟨us, _, e1, _⟩ := sT.own_any (.inr ⟨t, ht, backT ht o⟩)
      rw [k4] at e1
      cases e1
  | _ => exact rt.elim
end
section
variable {X : Cx} {G : Gam} {e : Expr} {n : Nat} {R : PR} {g : PAs} {E : XK}
theorem pe_callP {tbs : List Addr} (hG : G.tbs = tbs) (h : PE X e (tCall (spP X.K tbs n R) [] E (tA X.K G g))) : PE X e (tE X.K G (pCall n R g)) := h.le fun σ H Q ⟨env, T, C, s, h, k⟩ => ⟨env, T, _, s, h, fun ps e1 vs H1 h1 l1 ⟨Z, s1⟩ => by
  split at h1
  · next as ha hb =>
    rw [Bool.and_eq_true] at hb
    have hl : as.length = n := by rw [(asOf_at ps e1 as ha).1]; exact beq_iff_eq.mp hb.2
    rw [List.append_nil]
    exact ⟨G.dc, Z, as, _, hl, hG ▸ args_ok s1 l1 ha hb.1, h1, fun r as' v H' Z' hc po => k _ _ _ _ hc ⟨Z', call_back s1 l1 ha hb.1 po⟩⟩
  · exact h1.elim⟩
theorem pe_call0P {tbs : List Addr} (hG : G.tbs = tbs) (h : PE X e (tCall (spP X.K tbs 0 R) [] E tNil)) : PE X e (tE X.K G (pCall0 R)) := h.le fun σ H Q ⟨env, T, C, ⟨Z, s⟩, h, k⟩ =>
  ⟨G.dc, Z, [], _, rfl, hG ▸ args_ok (vs := []) (ps := []) s rfl rfl rfl, h, fun r as' v H' Z' hc po => k _ _ _ _ hc ⟨Z', call_back (vs := []) (ps := []) s rfl rfl rfl po⟩⟩
end

/-! ### tuple.index -/
section
variable {X : Cx}
theorem room_in_shaped {d : PyData} {n u : Nat} (sd : SeqAt.shaped d = true) (hu : u + 65 < cLine) : u + 1 + min n d.depth < cLine := by
  unfold SeqAt.shaped at sd
  have h := (Bool.and_eq_true_iff.mp sd).2
  have h := of_decide_eq_true h
  omega
def rIndexT (K : PySem.W.Frag) : V → List V → Hp → VK → Prop := fun x xs H Q => ∃ (a : Addr) (y : V) (d : PyData) (ds : List PyData) (j : Nat) (z : PyData), x = V.ref a ∧ xs = [y] ∧ Dp K H (V.ref a) (.tuple ds) ∧ Dp K H y d ∧
  SeqAt.shaped (.tuple ds) = true ∧ SeqAt.shaped d = true ∧ ds[j]? = some z ∧ PyData.eqv z d = true ∧ (∀ (m : Nat) (z' : PyData), m < j → ds[m]? = some z' → PyData.eqv z' d = false) ∧ Q (.int (j : Nat)) H
theorem mt_indexT (hu : X.A.units + 65 < cLine) : MtR X "tuple.index" (rIndexT X.K) := by
  intro pins s σ H x xs v us Q I rx rxs h
  obtain ⟨a, y, d, ds, j, z, rfl, rfl, hl, hy, sl, sd, hz, hzj, hno, q⟩ := h
  cases rx
  cases rxs with
  | cons ry rt =>
    rename_i uy ut
    cases rt
    obtain ⟨bs, r1⟩ := Dp.reads I d y uy hy ry
    have hxs : PyData.canLayAll0 ds = true := SeqAt.canLay_of_shaped sl
    have hroom : X.A.units + 1 + min (PyData.depthAll ds) d.depth < cLine := room_in_shaped sd hu
    cases hl with
    | tup hs ha =>
      obtain ⟨its, rv, ⟨⟨cls, dd, data, sls⟩, ho, hc, n, hdt⟩, hlen⟩ := I.tuple hs
      simp only at hc hdt
      subst hc hdt
      obtain ⟨as, h4⟩ := Dp.readsAll I ds _ its ha rv
      have hn : its.length = ds.length := SeqAt.ReadsAll.length ds its as h4
      have hmap : its.map (SeqAt.readOf s.heap) = ds := SeqAt.readsAll_map ds its as hxs h4
      obtain ⟨hjd, _⟩ := List.getElem?_eq_some_iff.mp hz
      have hjl : j < its.length := by omega
      have hj : j < its.toArray.size := by simpa using hjl
      have at_ : ∀ (m : Nat) (hm : m < its.toArray.size) (z' : PyData), ds[m]? = some z' → SeqAt.readOf s.heap its.toArray[m] = z' := by
        intro m hm z' hz'
        have hml : m < its.length := by simpa using hm
        rw [← hmap, List.getElem?_map, List.getElem?_eq_getElem hml] at hz'
        have e1 : SeqAt.readOf s.heap its[m] = z' := Option.some.inj (show some (SeqAt.readOf s.heap its[m]) = some z' from hz')
        simpa using e1
      refine call_meets PySem.F.slot_tuple_index ⟨_, ho, rfl⟩ PySem.F.entry_tuple_index (PySem.F.args_tuple_index_2 _ _)
        (TI.tuple_indexAt a its.toArray n dd sls uy (fun u => PyData.eqv (SeqAt.readOf s.heap u) d) j hj ?_ ?_) ⟨ho, SeqAt.items_eqAt (vs := its.toArray) (show ReadsAll s.heap its.toArray.toList ds as from h4) r1 hxs (SeqAt.canLay_of_shaped sd) hroom, ?_⟩
      · show PyData.eqv (SeqAt.readOf s.heap its.toArray[j]) d = true
        rw [at_ j hj z hz]
        exact hzj
      · intro m hm hmj
        have hmd : m < ds.length := by omega
        have hz' : ds[m]? = some ds[m] := List.getElem?_eq_getElem hmd
        show PyData.eqv (SeqAt.readOf s.heap its.toArray[m]) d = false
        rw [at_ m hm _ hz']
        exact hno m _ hmj hz'
      · exact ⟨.int (j : Nat), H, I.tok _, ⟨_, rfl⟩, q⟩
end

/-! ### built-in functions -/
def LiftC (K : PySem.W.Frag) (G : Gam) (r : List V → Hp → VK → Prop) (M : List Cel → PEnv → PK → Prop) : Prop := ∀ (Z : Addr → Prop) (H : Hp) (σ : L2.St) (env : PEnv) (T : Stk) (vs : List V) (ps : List Cel) (C : PK) (Q : VK),
  StZ K G Z H σ env (psh T vs ps) → vs.length = ps.length → M ps env C → (∀ p env' v H', C p env' → StE K G H' σ env' ((v, p) :: T) → Q v H') → r vs H Q
def pCB (M : List Cel → PEnv → PK → Prop) (g : PAs) : PEx := fun env C => g env fun ps e => M ps e C
def mLen (ps : List Cel) (env : PEnv) (C : PK) : Prop := match ps with
  | [.dat (.str z)] => z.length ≤ sizeLine ∧ C (.dat (.int z.length)) env
  | [p] => match itemsOf env p with
    | some ds => C (.dat (.int ds.length)) env
    | none => False
  | _ => False
def mMin (ps : List Cel) (env : PEnv) (C : PK) : Prop := match ps with
  | [.dat (.int i), .dat (.int j)] => C (.dat (.int (if j < i then j else i))) env
  | [p] => match lstOf env p with
    | some ds => ∃ ns : List Int, ds = ns.map .int ∧ 0 < ns.length ∧ ∀ m, m ∈ ns → (∀ y, y ∈ ns → m ≤ y) → C (.dat (.int m)) env
    | none => False
  | _ => False
def mMax (ps : List Cel) (env : PEnv) (C : PK) : Prop := match ps with
  | [.dat (.int i), .dat (.int j)] => C (.dat (.int (if j > i then j else i))) env
  | [p] => match itemsOf env p with
    | some ds => ∃ ns : List Int, ds = ns.map .int ∧ 0 < ns.length ∧ ∀ m, m ∈ ns → (∀ y, y ∈ ns → y ≤ m) → C (.dat (.int m)) env
    | none => False
  | _ => False
def mAbs (ps : List Cel) (env : PEnv) (C : PK) : Prop := match ps with
  | [.dat (.int i)] => C (.dat (.int (if i < 0 then -i else i))) env
  | _ => False
def mDivmod (ps : List Cel) (env : PEnv) (C : PK) : Prop := match ps with
  | [.dat (.int i), .dat (.int j)] => CDiv i j ∧ C (.dat (.tuple [.int (i / j), .int (i % j)])) env
  | _ => False
def mTup (ps : List Cel) (env : PEnv) (C : PK) : Prop := match ps with
  | [p] => match itemsOf env p with
    | some ds => C (.dat (.tuple ds)) env
    | none => False
  | _ => False
def mLst (ps : List Cel) (env : PEnv) (C : PK) : Prop := match ps with
  | [p] => match itemsOf env p with
    | some ds => C (.own ds) env
    | none => False
  | _ => False
def mSum (ps : List Cel) (env : PEnv) (C : PK) : Prop := match ps with
  | [p] => match lstOf env p with
    | some ds => ∃ ns : List Int, ds = ns.map .int ∧ C (.dat (.int ns.sum)) env
    | none => False
  | _ => False
def mSorted (ps : List Cel) (env : PEnv) (C : PK) : Prop := match ps with
  | [p] => match lstOf env p with
    | some ds => ∃ ns : List Int, ds = ns.map .int ∧ ns.length < 64 ∧ ∀ ns' : List Int, ns'.Perm ns → ns'.Pairwise (· ≤ ·) → C (.own (ns'.map .int)) env
    | none => False
  | _ => False
def mStr (ps : List Cel) (env : PEnv) (C : PK) : Prop := match ps with
  | [.dat (.int i)] => i.natAbs.log2 < 1920 ∧ C (.dat (.str (toString i))) env
  | _ => False
def mInt (ps : List Cel) (env : PEnv) (C : PK) : Prop := match ps with
  | [.dat (.int i)] => C (.dat (.int i)) env
  | [.dat (.bool b)] => C (.dat (.int (if b then 1 else 0))) env
  | _ => False
section
variable {X : Cx} {G : Gam} {e : Expr} {g : PAs} {K : PySem.W.Frag}
theorem pe_cbP {r : List V → Hp → VK → Prop} {M : List Cel → PEnv → PK → Prop} (l : LiftC X.K G r M) (h : PE X e (tCB r (tA X.K G g))) : PE X e (tE X.K G (pCB M g)) := h.le fun σ H Q ⟨env, T, C, s, h, k⟩ => ⟨env, T, _, s, h, fun ps e1 vs H1 h1 l1 ⟨Z, s1⟩ => l Z H1 σ e1 T vs ps C Q s1 l1 h1 k⟩
theorem one_arg {Z : Addr → Prop} {H : Hp} {σ : L2.St} {env : PEnv} {T : Stk} {vs : List V} {p : Cel} (s : StZ K G Z H σ env (psh T vs [p])) (l : vs.length = [p].length) : ∃ v, vs = [v] ∧ StZ K G Z H σ env ((v, p) :: T) := by
  match vs, l with
  | [v], _ => exact ⟨v, rfl, s⟩
theorem two_arg {Z : Addr → Prop} {H : Hp} {σ : L2.St} {env : PEnv} {T : Stk} {vs : List V} {p q : Cel} (s : StZ K G Z H σ env (psh T vs [p, q])) (l : vs.length = [p, q].length) : ∃ v u, vs = [v, u] ∧ StZ K G Z H σ env ((u, q) :: (v, p) :: T) := by
  match vs, l with
  | [v, u], _ => exact ⟨v, u, rfl, s⟩
def rLenP (K : PySem.W.Frag) : List V → Hp → VK → Prop := fun xs H Q => (∃ p ys, xs = [.ref p] ∧ (SqL K H p ys ∨ SqT K H p ys) ∧ Q (.int ys.length) H) ∨ (∃ z, xs = [.str z] ∧ z.length ≤ sizeLine ∧ Q (.int z.length) H)
theorem call_lenP : CallR X (.builtin "len") (rLenP X.K) := CallR.or call_len_seq call_len_str
theorem lc_len : LiftC K G (rLenP K) mLen := by
  intro Z H σ env T vs ps C Q s l h k
  unfold mLen at h
  split at h
  · obtain ⟨v, rfl, S⟩ := one_arg s l
    have := S.topDat
    cases this
    exact .inr ⟨_, rfl, h.1, k _ _ _ _ h.2 ⟨Z, S.pop.dat rfl⟩⟩
  · obtain ⟨v, rfl, S⟩ := one_arg s l
    split at h
    · next ds e =>
      obtain ⟨a, us, rfl, ha, hx⟩ := S.seq List.mem_cons_self e
      exact .inl ⟨a, us, rfl, ha, by rw [hx.len]; exact k _ _ _ _ h ⟨Z, S.pop.dat rfl⟩⟩
    · exact h.elim
  · exact h.elim
theorem ints_da {Z : Addr → Prop} {H : Hp} : ∀ {ns : List Int} {vs : List V}, DaAll K Z H (ns.map .int) vs → vs = ns.map V.int
  | [], _, h => h
  | n :: ns, _, ⟨v, r, e, h1, h2⟩ => by
    subst e
    rw [ints_da h2]
    cases h1
    rfl
theorem da_ints {Z : Addr → Prop} {H : Hp} : ∀ ns : List Int, DaAll K Z H (ns.map .int) (ns.map V.int)
  | [] => rfl
  | n :: ns => ⟨.int n, _, rfl, rfl, da_ints ns⟩
def rMinP (K : PySem.W.Frag) : List V → Hp → VK → Prop := fun xs H Q => (∃ i j, xs = [.int i, .int j] ∧ Q (.int (if j < i then j else i)) H) ∨ rMin K xs H Q
theorem call_minP (hc : X.calm = true) : CallR X (.builtin "min") (rMinP X.K) := CallR.or (call_min2 hc) (cr_min hc)
theorem lc_min : LiftC K G (rMinP K) mMin := by
  intro Z H σ env T vs ps C Q s l h k
  unfold mMin at h
  split at h
  · obtain ⟨v, u, rfl, S⟩ := two_arg s l
    have h1 := S.topDat
    have h2 := S.pop.topDat
    cases h1
    cases h2
    exact .inl ⟨_, _, rfl, k _ _ _ _ h ⟨Z, S.pop.pop.dat rfl⟩⟩
  · obtain ⟨v, rfl, S⟩ := one_arg s l
    split at h
    · next ds e =>
      obtain ⟨ns, rfl, hn, h⟩ := h
      obtain ⟨a, us, rfl, ha, hx⟩ := S.lst List.mem_cons_self e
      have := ints_da hx
      subst this
      exact .inr ⟨a, ns, rfl, SqL.of ha, hn, fun m h1 h2 => k _ _ _ _ (h m h1 h2) ⟨Z, S.pop.dat rfl⟩⟩
    · exact h.elim
  · exact h.elim
def rMaxP (K : PySem.W.Frag) : List V → Hp → VK → Prop := fun xs H Q => (∃ i j, xs = [.int i, .int j] ∧ Q (.int (if j > i then j else i)) H) ∨ rMax K xs H Q ∨ rMaxT K xs H Q
theorem call_maxP (hc : X.calm = true) : CallR X (.builtin "max") (rMaxP X.K) := CallR.or (call_max2 hc) (CallR.or (cr_max hc) (cr_maxT hc))
theorem lc_max : LiftC K G (rMaxP K) mMax := by
  intro Z H σ env T vs ps C Q s l h k
  unfold mMax at h
  split at h
  · obtain ⟨v, u, rfl, S⟩ := two_arg s l
    have h1 := S.topDat
    have h2 := S.pop.topDat
    cases h1
    cases h2
    exact .inl ⟨_, _, rfl, k _ _ _ _ h ⟨Z, S.pop.pop.dat rfl⟩⟩
  · obtain ⟨v, rfl, S⟩ := one_arg s l
    split at h
    · next ds e =>
      obtain ⟨ns, rfl, hn, h⟩ := h
      obtain ⟨a, us, rfl, ha, hx⟩ := S.seq List.mem_cons_self e
      have := ints_da hx
      subst this
      rcases ha with ha | ha
      · exact .inr (.inl ⟨a, ns, rfl, ha, hn, fun m h1 h2 => k _ _ _ _ (h m h1 h2) ⟨Z, S.pop.dat rfl⟩⟩)
      · exact .inr (.inr ⟨a, ns, rfl, ha, hn, fun m h1 h2 => k _ _ _ _ (h m h1 h2) ⟨Z, S.pop.dat rfl⟩⟩)
    · exact h.elim
  · exact h.elim
theorem lc_sum : LiftC K G (rSum K) mSum := by
  intro Z H σ env T vs ps C Q s l h k
  unfold mSum at h
  split at h
  · obtain ⟨v, rfl, S⟩ := one_arg s l
    split at h
    · next ds e =>
      obtain ⟨ns, rfl, h⟩ := h
      obtain ⟨a, us, rfl, ha, hx⟩ := S.lst List.mem_cons_self e
      have := ints_da hx
      subst this
      exact ⟨a, ns, rfl, SqL.of ha, k _ _ _ _ h ⟨Z, S.pop.dat rfl⟩⟩
    · exact h.elim
  · exact h.elim
theorem lc_sorted : LiftC K G (rSorted K) mSorted := by
  intro Z H σ env T vs ps C Q s l h k
  unfold mSorted at h
  split at h
  · obtain ⟨v, rfl, S⟩ := one_arg s l
    split at h
    · next ds e =>
      obtain ⟨ns, rfl, hn, h⟩ := h
      obtain ⟨a, us, rfl, ha, hx⟩ := S.lst List.mem_cons_self e
      have := ints_da hx
      subst this
      exact ⟨a, ns, rfl, SqL.of ha, hn, fun ns' p h1 h2 hp => k _ _ _ _ (h ns' h1 h2) ⟨Z, S.pop.newLst hp (da_ints ns')⟩⟩
    · exact h.elim
  · exact h.elim
theorem lc_abs : LiftC K G (fun xs H Q => ∃ i, xs = [.int i] ∧ Q (.int (if i < 0 then -i else i)) H) mAbs := by
  intro Z H σ env T vs ps C Q s l h k
  unfold mAbs at h
  split at h
  · obtain ⟨v, rfl, S⟩ := one_arg s l
    have := S.topDat
    cases this
    exact ⟨_, rfl, k _ _ _ _ h ⟨Z, S.pop.dat rfl⟩⟩
  · exact h.elim
theorem lc_divmod : LiftC K G (fun xs H Q => ∃ i j, xs = [.int i, .int j] ∧ CDiv i j ∧ ∀ p, H p = none → Q (.ref p) (upd H p (.tup [.int (i / j), .int (i % j)]))) mDivmod := by
  intro Z H σ env T vs ps C Q s l h k
  unfold mDivmod at h
  split at h
  · obtain ⟨v, u, rfl, S⟩ := two_arg s l
    have h1 := S.topDat
    have h2 := S.pop.topDat
    cases h1
    cases h2
    exact ⟨_, _, rfl, h.1, fun p hp => k _ _ _ _ h.2 ⟨Z, S.pop.pop.newTup hp ⟨_, _, rfl, rfl, _, _, rfl, rfl, rfl⟩⟩⟩
  · exact h.elim
theorem lc_tup : LiftC K G (rTupOf K) mTup := by
  intro Z H σ env T vs ps C Q s l h k
  unfold mTup at h
  split at h
  · obtain ⟨v, rfl, S⟩ := one_arg s l
    split at h
    · next ds e =>
      obtain ⟨a, us, rfl, ha | ha, hx⟩ := S.its List.mem_cons_self e
      · exact ⟨a, us, rfl, .inl ⟨SqL.of ha, fun p hp => k _ _ _ _ h ⟨Z, S.pop.newTup hp hx⟩⟩⟩
      · exact ⟨a, us, rfl, .inr ⟨ha, k _ _ _ _ h ⟨Z, S.pop.dat ⟨a, us, rfl, ha, hx⟩⟩⟩⟩
    · exact h.elim
  · exact h.elim
def rLstP (K : PySem.W.Frag) : List V → Hp → VK → Prop := fun xs H Q => ∃ p ys, xs = [.ref p] ∧ (SqL K H p ys ∨ SqT K H p ys) ∧ ∀ l, H l = none → Q (.ref l) (upd H l (.lst ys))
theorem call_lstP : CallR X (.type "list") (rLstP X.K) := call_list_of
theorem lc_lst : LiftC K G (rLstP K) mLst := by
  intro Z H σ env T vs ps C Q s l h k
  unfold mLst at h
  split at h
  · obtain ⟨v, rfl, S⟩ := one_arg s l
    split at h
    · next ds e =>
      obtain ⟨a, us, rfl, ha, hx⟩ := S.seq List.mem_cons_self e
      exact ⟨a, us, rfl, ha, fun p hp => k _ _ _ _ h ⟨Z, S.pop.newLst hp hx⟩⟩
    · exact h.elim
  · exact h.elim
theorem lc_str : LiftC K G (fun xs H Q => ∃ i, xs = [.int i] ∧ i.natAbs.log2 < 1920 ∧ Q (.str (toString i)) H) mStr := by
  intro Z H σ env T vs ps C Q s l h k
  unfold mStr at h
  split at h
  · obtain ⟨v, rfl, S⟩ := one_arg s l
    have := S.topDat
    cases this
    exact ⟨_, rfl, h.1, k _ _ _ _ h.2 ⟨Z, S.pop.dat rfl⟩⟩
  · exact h.elim
theorem lc_int : LiftC K G (fun xs H Q => (∃ i, xs = [.int i] ∧ Q (.int i) H) ∨ ∃ k, xs = [.bl k] ∧ Q (.int (if k then 1 else 0)) H) mInt := by
  intro Z H σ env T vs ps C Q s l h k
  unfold mInt at h
  split at h
  · obtain ⟨v, rfl, S⟩ := one_arg s l
    have := S.topDat
    cases this
    exact .inl ⟨_, rfl, k _ _ _ _ h ⟨Z, S.pop.dat rfl⟩⟩
  · obtain ⟨v, rfl, S⟩ := one_arg s l
    have := S.topDat
    cases this
    exact .inr ⟨_, rfl, k _ _ _ _ h ⟨Z, S.pop.dat rfl⟩⟩
  · exact h.elim
/-! ### list(range(..)), tuple(range(..)) -/
def pLstR1 (f : PEx) : PEx := fun env C => f env fun p e => match p with
  | .dat (.int n) => RgOk 0 n ∧ C (.own (rangeP 0 n)) e
  | _ => False
def pLstR2 (f h : PEx) : PEx := fun env C => f env fun p e => h e fun q e2 => match p, q with
  | .dat (.int m), .dat (.int n) => RgOk m n ∧ C (.own (rangeP m n)) e2
  | _, _ => False
def pTupR1 (f : PEx) : PEx := fun env C => f env fun p e => match p with
  | .dat (.int n) => RgOk 0 n ∧ C (.dat (.tuple (rangeP 0 n))) e
  | _ => False
theorem da_rg {Z : Addr → Prop} {H : Hp} (a b : Int) : DaAll K Z H (rangeP a b) (rgV a b) := by
  unfold rangeP rgV
  generalize (List.range (b - a).toNat) = l
  induction l with
  | nil => exact rfl
  | cons n l ih => exact ⟨_, _, rfl, rfl, ih⟩
theorem pe_lstR1P {f : PEx} (h : PE X e (tLstRg (tRg1 (tE X.K G f)))) : PE X e (tE X.K G (pLstR1 f)) := h.le fun σ H Q ⟨env, T, C, s, h, k⟩ => ⟨env, T, _, s, h, fun p e1 v H1 h1 ⟨Z, s1⟩ => by
  split at h1
  · have := s1.topDat
    cases this
    exact ⟨_, rfl, h1.1, fun q hq => k _ _ _ _ h1.2 ⟨Z, s1.pop.newLst hq (da_rg _ _)⟩⟩
  · exact h1.elim⟩
theorem pe_lstR2P {f f2 : PEx} (h : PE X e (tLstRg (tRg2 (tE X.K G f) (tE X.K G f2)))) : PE X e (tE X.K G (pLstR2 f f2)) := h.le fun σ H Q ⟨env, T, C, s, h, k⟩ => ⟨env, T, _, s, h, fun p e1 v H1 h1 s1 => ⟨e1, _, _, s1, h1, fun p2 e2 v2 H2 h2 ⟨Z, s2⟩ => by
  split at h2
  · have h3 := s2.topDat
    have h4 := s2.pop.topDat
    cases h3
    cases h4
    exact ⟨_, _, rfl, rfl, h2.1, fun q hq => k _ _ _ _ h2.2 ⟨Z, s2.pop.pop.newLst hq (da_rg _ _)⟩⟩
  · exact h2.elim⟩⟩
theorem pe_tupR1P {f : PEx} (h : PE X e (tTupRg (tRg1 (tE X.K G f)))) : PE X e (tE X.K G (pTupR1 f)) := h.le fun σ H Q ⟨env, T, C, s, h, k⟩ => ⟨env, T, _, s, h, fun p e1 v H1 h1 ⟨Z, s1⟩ => by
  split at h1
  · have := s1.topDat
    cases this
    exact ⟨_, rfl, h1.1, fun q hq => k _ _ _ _ h1.2 ⟨Z, s1.pop.newTup hq (da_rg _ _)⟩⟩
  · exact h1.elim⟩
/-! ### isinstance -/
def isI (T : String) : PyData → Option Bool
  | .none => some false
  | .bool _ => some (T == "bool" || T == "int")
  | .int _ => some (T == "int")
  | .str _ => some (T == "str")
  | .tuple _ => some (T == "tuple")
  | .list _ => some (T == "list")
  | .dict ((.bool _, _) :: _) => none
  | .dict _ => some (T == "tuple")
def pIsI (T : String) (f : PEx) : PEx := fun env C => f env fun p e => match datOf e p with
  | some d => (match isI T d with
    | some b => C (.dat (.bool b)) e
    | none => False)
  | none => False
theorem isI_ok {H : Hp} {T : String} {d : PyData} {v : V} {b : Bool} (hT : T = "int" ∨ T = "bool" ∨ T = "tuple" ∨ T = "str" ∨ T = "list") (h : Db K H v d) (e : isI T d = some b) : ∃ t, TyX K H v t ∧ PySem.W.kitOne K t (.type T) = some b := by
  have seqT : ∀ {a xs}, SqT K H a xs → TyX K H (.ref a) (.type "tuple") := fun {a xs} q => by
    rcases q with (q | ⟨o, q⟩) | ⟨o, its, n, q1, q2, _⟩
    · exact .base (.tup q)
    · exact .fTuple q
    · exact .kTuple q1 q2
  cases d with
  | none => cases h; cases e; exact ⟨_, .base .non, by rcases hT with rfl | rfl | rfl | rfl | rfl <;> rfl⟩
  | bool x => cases h; cases e; exact ⟨_, .base (.bl x), by rcases hT with rfl | rfl | rfl | rfl | rfl <;> rfl⟩
  | int x => cases h; cases e; exact ⟨_, .base (.int x), by rcases hT with rfl | rfl | rfl | rfl | rfl <;> rfl⟩
  | str x => cases h; cases e; exact ⟨_, .base (.str x), by rcases hT with rfl | rfl | rfl | rfl | rfl <;> rfl⟩
  | list ds => obtain ⟨a, xs, rfl, _, q, _⟩ := h; cases e; exact ⟨_, .base (.lst q), by rcases hT with rfl | rfl | rfl | rfl | rfl <;> rfl⟩
  | tuple ds => obtain ⟨a, xs, rfl, q, _⟩ := h; cases e; exact ⟨_, seqT q, by rcases hT with rfl | rfl | rfl | rfl | rfl <;> rfl⟩
  | dict kvs =>
    cases kvs with
    | nil => exact h.elim
    | cons p r =>
      obtain ⟨k, d⟩ := p
      have go : ∀ {a xs}, v = .ref a → SqT K H a xs → some (T == "tuple") = some b → ∃ t, TyX K H v t ∧ PySem.W.kitOne K t (.type T) = some b := fun {a xs} e1 q e => by
        subst e1
        cases e
        exact ⟨_, seqT q, by rcases hT with rfl | rfl | rfl | rfl | rfl <;> rfl⟩
      cases k with
      | bool _ => cases e
      | int _ =>
        obtain ⟨a, ks, e1, q, _⟩ := h
        exact go e1 (SqT.of q) e
      | none =>
        obtain ⟨_, a, ys, e1, q⟩ := h
        exact go e1 q.sq e
      | str _ =>
        obtain ⟨_, a, ys, e1, q⟩ := h
        exact go e1 q.sq e
      | tuple _ =>
        obtain ⟨_, a, ys, e1, q⟩ := h
        exact go e1 q.sq e
      | list _ =>
        obtain ⟨_, a, ys, e1, q⟩ := h
        exact go e1 q.sq e
      | dict _ =>
        obtain ⟨_, a, ys, e1, q⟩ := h
        exact go e1 q.sq e
theorem pe_isiP {f : PEx} {T : String} (hT : T = "int" ∨ T = "bool" ∨ T = "tuple" ∨ T = "str" ∨ T = "list") (h : PE X e (tCB (rIsi X.K) (tCons (tE X.K G f) (tCons (tC (.ty T)) tNil)))) : PE X e (tE X.K G (pIsI T f)) := h.le fun σ H Q ⟨env, T0, C, s, h, k⟩ => ⟨env, T0, _, s, h, fun p e1 v H1 h1 ⟨Z, s1⟩ => by
  split at h1
  · next d ed =>
    split at h1
    · next b eb =>
      obtain ⟨t, h2, h3⟩ := isI_ok hT (s1.db List.mem_cons_self ed) eb
      exact ⟨v, .ty T, t, .type T, b, rfl, .ty _, h2, h3, k _ _ _ _ h1 ⟨Z, s1.pop.dat rfl⟩⟩
    · exact h1.elim
  · exact h1.elim⟩
/-! ### tuple(xs) whose methods may be called -/
def mTupF (ps : List Cel) (env : PEnv) (C : PK) : Prop := match ps with
  | [p] => match lstOf env p with
    | some ds => C (.dat (ftp ds)) env
    | none => False
  | _ => False
def rTupF (K : PySem.W.Frag) : List V → Hp → VK → Prop := fun xs H Q => ∃ p ys, xs = [.ref p] ∧ SqL K H p ys ∧ ∀ l o, H l = none → Fz (upd H l o) l ys → Q (.ref l) (upd H l o)
theorem call_tupF : CallR X (.type "tuple") (rTupF X.K) := call_tuple_fz
theorem lc_tupF : LiftC K G (rTupF K) mTupF := by
  intro Z H σ env T vs ps C Q s l h k
  unfold mTupF at h
  split at h
  · obtain ⟨v, rfl, S⟩ := one_arg s l
    split at h
    · next ds e =>
      obtain ⟨a, us, rfl, ha, hx⟩ := S.lst List.mem_cons_self e
      refine ⟨a, us, rfl, SqL.of ha, fun p o hp fz => k _ _ _ _ h ⟨Z, (S.pop.alloc o hp).dat ⟨⟨p, us, rfl, fz.sq, DaAll.mv (Mv.same (same_new hp) fun _ z => z) _ _ hx⟩, p, us, rfl, fz⟩⟩⟩
    · exact h.elim
  · exact h.elim
/-- the same tuple, as any other -/
def pPlain (f : PEx) : PEx := fun env C => f env fun p e => match p with
  | .dat (.dict [(.none, .tuple ds)]) => C (.dat (.tuple ds)) e
  | .dat d => C (.dat d) e
  | _ => False
theorem pe_plainP {f : PEx} (h : PE X e (tE X.K G f)) : PE X e (tE X.K G (pPlain f)) := h.le fun σ H Q ⟨env, T, C, s, h, k⟩ => ⟨env, T, _, s, h, fun p e1 v H1 h1 ⟨Z, s1⟩ => by
  split at h1
  · exact k _ _ _ _ h1 ⟨Z, s1.pop.dat s1.topDat.1⟩
  · exact k _ _ _ _ h1 ⟨Z, s1⟩
  · exact h1.elim⟩
/-- t.index(y), of such a tuple of flat items -/
def pIdxT (fo : PEx) (g : PAs) : PEx := fun env C => fo env fun po e1 => match po with
  | .dat (.dict [(.none, .tuple ds)]) => g e1 fun ps e2 => match ps with
    | [.dat d] => PyData.canLayAll0 ds = true ∧ SeqAt.shaped (.tuple ds) = true ∧ SeqAt.shaped d = true ∧ ∃ (j : Nat) (z : PyData), ds[j]? = some z ∧ PyData.eqv z d = true ∧ (∀ (m : Nat) z', m < j → ds[m]? = some z' → PyData.eqv z' d = false) ∧ C (.dat (.int j)) e2
    | _ => False
  | _ => False
theorem pe_idxTP {fo : PEx} {ga : PAs} (h : PE X e (tBMT (rIndexT X.K) (tE X.K G fo) (tA X.K G ga))) : PE X e (tE X.K G (pIdxT fo ga)) := h.le fun σ H Q ⟨env, T, C, s, h, k⟩ => ⟨env, T, _, s, h, fun po e1 v H1 h1 ⟨Z1, s1⟩ => by
  split at h1
  · obtain ⟨_, p, ys, rfl, fz⟩ := s1.topDat
    refine ⟨p, ys, rfl, fz, e1, _, _, ⟨Z1, s1⟩, h1, fun ps e2 vs H2 h2 l2 ⟨Z2, s2⟩ => ?_⟩
    split at h2
    · obtain ⟨u, rfl, S⟩ := one_arg s2 l2
      obtain ⟨f3, f4, f5, j, z, e3, e4, e5, hc⟩ := h2
      exact ⟨p, u, _, _, j, z, rfl, rfl, Da.dp _ _ f3 S.pop.topDat.1, Da.dp _ _ (SeqAt.canLay_of_shaped f5) S.topDat, f4, f5, e3, e4, e5, k _ _ _ _ hc ⟨Z2, S.pop.pop.dat rfl⟩⟩
    · exact h2.elim
  · exact h1.elim⟩
/-! ### x.index(y) of a list of flat items -/
def mIndex (s : Nat) (ps : List Cel) (env : PEnv) (C : PK) : Prop := match ps with
  | [.dat d] => match lstAt env[s]? with
    | some ds => flatD d = true ∧ (∀ z ∈ ds, flatD z = true) ∧ ∃ (j : Nat) (z : PyData), ds[j]? = some z ∧ PyData.eqv z d = true ∧ (∀ (m : Nat) z', m < j → ds[m]? = some z' → PyData.eqv z' d = false) ∧ C (.dat (.int j)) env
    | none => False
  | _ => False
theorem lm_index : LiftM K G (rIndex K) mIndex := by
  intro Z H σ env T s v vs ps C Q S l h k
  unfold mIndex at h
  split at h
  · next d =>
    match vs, l with
    | [u], _ =>
      have S : StZ K G Z H σ env ((u, .dat d) :: (v, .bor s) :: T) := S
      split at h
      · next ds e =>
        obtain ⟨f1, f2, j, z, e1, e2, e3, hc⟩ := h
        obtain ⟨a, us, rfl, ha, hx⟩ := S.lst (List.mem_cons_of_mem _ List.mem_cons_self) (show lstOf env (.bor s) = some ds from e)
        have hd := S.topDat.db
        obtain ⟨w, e4, hw⟩ := DaAll.at _ _ _ _ hx e1
        obtain ⟨g1, g2⟩ := flat_any hd f1 ds us hx.db f2
        refine ⟨a, us, u, j, w, rfl, rfl, SqL.of ha, flat_ok hd f1, g1, e4, ?_, fun m z' hm ez => ?_, k _ _ _ _ hc ⟨Z, S.pop.pop.dat rfl⟩⟩
        · rw [flat_eq hd hw.db f1 (f2 z (List.mem_of_getElem? e1))]
          exact e2
        · obtain ⟨d', e5, hd'⟩ := DaAll.at' _ _ _ _ hx ez
          rw [flat_eq hd hd'.db f1 (f2 d' (List.mem_of_getElem? e5))]
          exact e3 m d' hm e5
      · exact h.elim
  · exact h.elim
end

/-! ### names for the operators of ints; one more assignment -/
def pSub : POp := pInt0 fun i j => .int (i - j)
def pMod : POp := pInt (fun i j => .int (i % j)) fun _ j => 0 < j
def pFdiv : POp := pInt (fun i j => .int (i / j)) CDiv
def pPow : POp := pInt (fun i j => .int (i ^ j.toNat)) CPow
def pLt : POp := pInt0 fun i j => .bool (decide (i < j))
def pLe : POp := pInt0 fun i j => .bool (decide (i ≤ j))
def pGt : POp := pInt0 fun i j => .bool (decide (j < i))
def pGe : POp := pInt0 fun i j => .bool (decide (j ≤ i))
def pAsg (f : PEx) (g : PTg) : PSt := fun E env => f env fun p e => match p with
  | .dat d => g d e E.nx
  | .own xs => g (.list xs) e E.nx
  | _ => False
section
variable {K : PySem.W.Frag} {G : Gam}
theorem li_sub : LiftO K G (rI0 fun i j => .int (i - j)) pSub := li_int0
theorem li_mod : LiftO K G (rI (fun _ j => 0 < j) fun i j => .int (i % j)) pMod := li_int
theorem li_fdiv : LiftO K G (rI CDiv fun i j => .int (i / j)) pFdiv := li_int
theorem li_pow : LiftO K G (rI CPow fun i j => .int (i ^ j.toNat)) pPow := li_int
theorem li_lt : LiftO K G (rI0 fun i j => .bl (decide (i < j))) pLt := li_int0
theorem li_le : LiftO K G (rI0 fun i j => .bl (decide (i ≤ j))) pLe := li_int0
theorem li_gt : LiftO K G (rI0 fun i j => .bl (decide (j < i))) pGt := li_int0
theorem li_ge : LiftO K G (rI0 fun i j => .bl (decide (j ≤ i))) pGe := li_int0
theorem ps_asgP {X : Cx} {st : Stmt} {f : PEx} {g : PTg} (h : PS X st (tAsg (tE X.K G f) (tG X.K G none g))) : PS X st (tS X.K G (pAsg f g)) := h.le fun D σ H ⟨env, T, E, nb, s, h, k⟩ => ⟨env, T, _, s, h, fun p e1 v H1 h1 s1 => by
  cases p with
  | dat d => exact ⟨e1, T, d, _, fun _ => nb, s1, h1, fun e2 σ2 H2 h2 s2 _ => k.nx _ _ _ h2 s2⟩
  | own xs =>
    obtain ⟨Z, s1⟩ := s1
    exact ⟨e1, T, .list xs, _, fun _ => nb, s1.frzT, h1, fun e2 σ2 H2 h2 s2 _ => k.nx _ _ _ h2 s2⟩
  | _ => exact h1.elim⟩
end
theorem _root_.L2.Room.u65 {k : Nat} {A : Around} (r : Room k A) : A.units + 65 < cLine := by
  have := r.un
  omega
theorem pe_cP' {X : Cx} {G : Gam} {e : Expr} {v : V} (d : PyData) (h : PE X e (tC v)) (hd : ∀ Z H, Da X.K Z H d v) : PE X e (tE X.K G (pC d)) := h.le fun σ H Q ⟨env, T, C, ⟨Z, s⟩, h, k⟩ => k _ _ _ _ h ⟨Z, s.dat (hd _ _)⟩
/-! ### the draws, as promises over values -/
def RDraw : PR := fun as C => ∃ m : Int, as = [.drw, .dat (.int m)] ∧ 0 < m ∧ m < 1000000000 ∧ ∀ r : Int, 0 ≤ r → r < m → C (.dat (.int r)) as
def RRare : PR := fun as C => ∃ m : Int, as = [.drw, .dat (.int m)] ∧ 4 < m ∧ m < 1000000000 ∧ ∀ r : Bool, C (.dat (.bool r)) as
section
variable {K : PySem.W.Frag} {dc : Option (Addr × Addr)} {Z : Addr → Prop} {H H' : Hp} {vs : List V}
/-- behind a call that writes the draws alone, and gives a plain value -/
theorem post_keep {tbs : List Addr} {as : List Cel} {d c : Addr} {r : Cel} {v : V} (ok : ArgsOk K tbs dc Z H vs as) (e : dc = some (d, c)) (na : ∀ (j : Nat) xs, as[j]? ≠ some (Cel.arg xs)) (kp : Keep d H H') (dr : Dr d c H') (rt : RetOk K Z H H' v r) : PostOk K dc Z H vs as r as v H' Z := by
  have al : ∀ b, H b ≠ none → H' b ≠ none := fun b hb => by
    by_cases h : b = d
    · obtain ⟨xs, h1⟩ := dr.there
      rw [h, h1]
      exact fun z => by cases z
    · cases q : H b with
      | none => exact absurd q hb
      | some o =>
        rw [kp b o q h]
        exact fun z => by cases z
  refine ⟨fun _ z => z, fun _ z => .inl z, fun a z => al a (ok.z3 a z), rt, fun j xs' e1 => absurd e1 (na j xs'), fun j xs e1 => absurd e1 (na j xs), fun b o e1 _ _ n => kp b o e1 (n d c e), al, fun d' c' e' => ?_, fun b ⟨ps, h1, h2⟩ => ⟨ps, kp b _ h1 (fun z => ?_), h2⟩⟩
  · rw [e] at e'
    cases e'
    exact dr
  · obtain ⟨xs, h3⟩ := (ok.dr d c e).1.there
    rw [z, h3] at h1
    cases h1
end
section
variable {P : Program} {w : World} {K : PySem.W.Frag} {mg : Str → Option Value} {base : Heap} {k : Nat} {f : Addr} {fd : FuncData} {ps : List Str}
theorem draw_args {tbs : List Addr} {dc : Option (Addr × Addr)} {Z : Addr → Prop} {H : Hp} {vs : List V} {m : Int} (ok : ArgsOk K tbs dc Z H vs [.drw, .dat (.int m)]) : ∃ d c, dc = some (d, c) ∧ vs = [.ref d, .int m] ∧ Dr d c H := by
  match vs, ok.len with
  | [x, y], _ =>
    obtain ⟨d, c, e, rfl⟩ := ok.ok 0 _ _ rfl rfl
    have h2 := ok.ok 1 _ _ rfl rfl
    cases h2
    exact ⟨d, c, e, rfl, (ok.dr d c e).1⟩
theorem drawP {tbs : List Addr} (F : FnOk P w K mg base CX0 k f fd ps (sp2 rDraw)) : FnOk P w K mg base CX0 k f fd ps (spP K tbs 2 RDraw) := F.imp fun vs H Q E ⟨dc, Z, as, C, _, ok, ⟨m, e, m0, m1, h⟩, q⟩ => by
  subst e
  obtain ⟨d, c, e, rfl, dr⟩ := draw_args ok
  exact ⟨_, _, rfl, d, c, m, rfl, rfl, dr, m0, m1, fun r H' r0 r1 dr' kp => q _ _ _ _ _ (h r r0 r1) (post_keep ok e (fun j xs z => by match j with | 0 => cases z | 1 => cases z | j + 2 => simp at z) kp dr' rfl)⟩
theorem rareP {tbs : List Addr} (F : FnOk P w K mg base CX0 k f fd ps (sp2 rRare)) : FnOk P w K mg base CX0 k f fd ps (spP K tbs 2 RRare) := F.imp fun vs H Q E ⟨dc, Z, as, C, _, ok, ⟨m, e, m0, m1, h⟩, q⟩ => by
  subst e
  obtain ⟨d, c, e, rfl, dr⟩ := draw_args ok
  exact ⟨_, _, rfl, d, c, m, rfl, rfl, dr, m0, m1, fun r H' dr' kp => q _ _ _ _ _ (h r) (post_keep ok e (fun j xs z => by match j with | 0 => cases z | 1 => cases z | j + 2 => simp at z) kp dr' rfl)⟩
end

/-! ### sorted(set(..)), tuple(zip(..)), enumerate, keys of a table -/
def pSortSet (g : PAs) : PEx := fun env C => g env fun ps e => match ps with
  | [p] => match itemsOf e p with
    | some ds => ∃ ns : List Int, ds = ns.map .int ∧ ns.length < 64 ∧ ∀ hs : List Int, hs.Pairwise (· < ·) → (∀ k, k ∈ hs ↔ k ∈ ns) → hs.length ≤ ns.length → C (.own (hs.map .int)) e
    | none => False
  | _ => False
def pTupZip (g : PAs) : PEx := fun env C => g env fun ps e => match ps with
  | [p, q] => match lstOf e p, lstOf e q with
    | some xs, some ys => xs.length = ys.length ∧ C (.dat (.tuple (List.zipWith (fun a b => .tuple [a, b]) xs ys))) e
    | _, _ => False
  | _ => False
def numD : Nat → List PyData → List PyData
  | _, [] => []
  | i, d :: ds => .tuple [.int (i : Int), d] :: numD (i + 1) ds
theorem numD_at : ∀ (n : Nat) (ds : List PyData) (j : Nat) (x : PyData), (numD n ds)[j]? = some x → ∃ d, ds[j]? = some d ∧ x = .tuple [.int ((n + j : Nat) : Int), d]
  | _, [], _, _, h => by simp [numD] at h
  | n, d :: ds, 0, x, h => by
    cases h
    exact ⟨d, rfl, rfl⟩
  | n, d :: ds, j + 1, x, h => by
    obtain ⟨d', h1, h2⟩ := numD_at (n + 1) ds j x h
    exact ⟨d', h1, by rw [h2, show n + 1 + j = n + (j + 1) by omega]⟩
theorem numD_len : ∀ (n : Nat) (ds : List PyData), (numD n ds).length = ds.length
  | _, [] => rfl
  | n, d :: ds => congrArg Nat.succ (numD_len (n + 1) ds)
/-- enumerate of a tuple -/
def pEnumT (g : PAs) : PIt := fun env C => g env fun ps e => match ps with
  | [.dat (.tuple ds)] => C (numD 0 ds) e
  | _ => False
/-- enumerate of a list -/
def pEnumL (g : PAs) : PIt := fun env C => g env fun ps e => match ps with
  | [.dat (.list ds)] => C (numD 0 ds) e
  | [.own ds] => C (numD 0 ds) e
  | _ => False
/-- z in a table of the text -/
def pInTab (keys nots : List Str) (f : PEx) : PTst := fun env C => f env fun p e => match p with
  | .dat (.str z) => (z ∈ keys ∧ C true e) ∨ (z ∈ nots ∧ C false e)
  | _ => False
section
variable {X : Cx} {G : Gam} {e : Expr} {g : PAs} {f : PEx} {K : PySem.W.Frag}
theorem pe_sortSetP (h : PE X e (tCB (rSortedSet X.w) (tCons (tCB (rSetAny X.K X.w) (tA X.K G g)) tNil))) : PE X e (tE X.K G (pSortSet g)) := h.le fun σ H Q ⟨env, T, C, s, h, k⟩ => ⟨env, T, _, s, h, fun ps e1 vs H1 h1 l1 ⟨Z, s1⟩ => by
  split at h1
  · obtain ⟨v, rfl, S⟩ := one_arg s1 l1
    split at h1
    · next ds ed =>
      obtain ⟨ns, rfl, hn, hc⟩ := h1
      obtain ⟨a, us, rfl, ha, hx⟩ := S.seq List.mem_cons_self ed
      have := ints_da hx
      subst this
      have go : ∀ (b : Addr) (c : Nat), H1 b = none → c ≤ ns.length → rSortedSet X.w [.ref b] (upd H1 b (SetO X.w b (fun j => decide (j ∈ ns)) c)) Q := fun b c hb hcn => ⟨b, _, c, rfl, upd_same, by omega, fun hs p h1 h2 h3 hp => by
        refine k _ _ _ _ (hc hs h1 (fun k => ?_) (by omega)) ⟨Z, (S.pop.alloc _ hb).newLst hp (da_ints hs)⟩
        rw [h2 k, decide_eq_true_iff]⟩
      rcases ha with ha | ha
      · exact .inl ⟨a, ns, rfl, ha, by omega, go⟩
      · exact .inr ⟨a, ns, rfl, ha, by omega, go⟩
    · exact h1.elim
  · exact h1.elim⟩
theorem zip_da {Z : Addr → Prop} {H : Hp} : ∀ (xs ys : List PyData) (ts : List Addr) (us vs : List V), DaAll K Z H xs us → DaAll K Z H ys vs → ts.length = xs.length → xs.length = ys.length → (∀ (j : Nat) (t : Addr), ts[j]? = some t → ∃ u v, us[j]? = some u ∧ vs[j]? = some v ∧ H t = some (.tup [u, v])) →
    DaAll K Z H (List.zipWith (fun a b => .tuple [a, b]) xs ys) (ts.map V.ref)
  | [], [], [], _, _, _, _, _, _, _ => rfl
  | x :: xs, y :: ys, t :: ts, _, _, ⟨u, us, e1, h1, h2⟩, ⟨v, vs, e2, h3, h4⟩, l1, l2, h => by
    subst e1 e2
    obtain ⟨u', v', a1, a2, a3⟩ := h 0 t rfl
    cases a1
    cases a2
    exact ⟨.ref t, ts.map V.ref, rfl, ⟨t, _, rfl, SqT.of a3, u, _, rfl, h1, v, _, rfl, h3, rfl⟩, zip_da xs ys ts us vs h2 h4 (Nat.succ.inj l1) (Nat.succ.inj l2) fun j t e => h (j + 1) t e⟩
  | [], [], _ :: _, _, _, _, _, l, _, _ => by cases l
  | [], _ :: _, _, _, _, _, _, _, l, _ => by cases l
  | _ :: _, [], _, _, _, _, _, _, l, _ => by cases l
  | _ :: _, _ :: _, [], _, _, _, _, l, _, _ => by cases l
theorem pe_tupZipP (h : PE X e (tTupZip X.K (tA X.K G g))) : PE X e (tE X.K G (pTupZip g)) := h.le fun σ H Q ⟨env, T, C, s, h, k⟩ => ⟨env, T, _, s, h, fun ps e1 vs H1 h1 l1 ⟨Z, s1⟩ => by
  split at h1
  · obtain ⟨v, u, rfl, S⟩ := two_arg s1 l1
    split at h1
    · next xs ys ex ey =>
      obtain ⟨b, ws, rfl, hb, hy⟩ := S.lst List.mem_cons_self ey
      obtain ⟨a, us, rfl, ha, hx⟩ := S.lst (List.mem_cons_of_mem _ List.mem_cons_self) ex
      refine ⟨a, b, us, ws, rfl, SqL.of ha, SqL.of hb, by rw [hx.len, hy.len]; exact h1.1, fun p ts H2 np nts lts sm hp hts => k _ _ _ _ h1.2 ⟨Z, ?_⟩⟩
      have m : Mv X.K Z H1 Z H2 := Mv.same sm fun _ z => z
      have S2 : StZ X.K G Z H2 σ e1 T := S.pop.pop.move m (fun a vs _ e => sm _ _ e) (fun a oa => by obtain ⟨_, _, _, n⟩ := S.pop.pop.own_any oa; exact n) (fun _ z => z) (fun _ z => .inl z) (fun a z => by
        cases q : H1 a with
        | none => exact absurd q (S.z3 a z)
        | some o => rw [sm _ _ q]; exact fun z => by cases z) (fun b u e _ _ _ _ => sm _ _ e) (fun b e => by
        cases q : H1 b with
        | none => exact absurd q e
        | some o => rw [sm _ _ q]; exact fun z => by cases z) fun d c e => (S.dr d c e).same sm
      exact S2.dat ⟨p, _, rfl, SqT.of hp, zip_da xs ys ts us ws (DaAll.mv m _ _ hx) (DaAll.mv m _ _ hy) (by rw [lts, hx.len]) h1.1 fun j t ej => by
        obtain ⟨x, y, k1, k2, k3⟩ := hts j t ej
        exact ⟨x, y, k1, k2, k3⟩⟩
    · exact h1.elim
  · exact h1.elim⟩
theorem walks_enumT {a : Addr} {ds : List PyData} : Walks K G (IteT K a) (.ref a, .dat (.tuple ds)) (numD 0 ds) := by
  intro Z H σ env T s ht
  obtain ⟨b, vs, e, h1, h2⟩ := s.datT ht
  cases e
  refine ⟨fun i x e => ?_, vs, h1, by rw [numD_len, h2.len]⟩
  obtain ⟨d, e1, rfl⟩ := numD_at 0 ds i x e
  obtain ⟨v, e2, hv⟩ := DaAll.at i ds vs d h2 e1
  refine ⟨⟨vs, v, h1, e2⟩, fun xv H' y => ?_⟩
  obtain ⟨t, x, rfl, ht, rfl, hx⟩ := y
  have := hx vs h1
  rw [e2] at this
  cases this
  rw [Nat.zero_add]
  exact s.newTup ht ⟨_, _, rfl, rfl, _, _, rfl, hv, rfl⟩
theorem walks_enumL {a : Addr} {ds : List PyData} {p : Cel} (h : p = .dat (.list ds) ∨ p = .own ds) : Walks K G (Ite K a) (.ref a, p) (numD 0 ds) := by
  intro Z H σ env T s ht
  have hl : ∃ vs, H a = some (.lst vs) ∧ DaAll K Z H ds vs := by
    rcases h with rfl | rfl
    · obtain ⟨b, vs, e, h1, h2⟩ := s.lst ht (show lstOf env (.dat (.list ds)) = some ds from rfl)
      cases e
      exact ⟨vs, h1, h2⟩
    · obtain ⟨b, vs, e, h1, h2⟩ := s.lst ht (show lstOf env (.own ds) = some ds from rfl)
      cases e
      exact ⟨vs, h1, h2⟩
  obtain ⟨vs, h1, h2⟩ := hl
  refine ⟨fun i x e => ?_, vs, SqL.of h1, by rw [numD_len, h2.len]; exact Nat.le_refl _⟩
  obtain ⟨d, e1, rfl⟩ := numD_at 0 ds i x e
  obtain ⟨v, e2, hv⟩ := DaAll.at i ds vs d h2 e1
  refine ⟨⟨vs, v, SqL.of h1, e2⟩, fun xv H' y => ?_⟩
  obtain ⟨t, x, rfl, ht, rfl, hx⟩ := y
  have := hx vs (SqL.of h1)
  rw [e2] at this
  cases this
  rw [Nat.zero_add]
  exact s.newTup ht ⟨_, _, rfl, rfl, _, _, rfl, hv, rfl⟩
theorem pi_enumTP {tg l : Expr} (h : PI X tg l (iEnumT X.K (tA X.K G g))) : PI X tg l (tI X.K G (pEnumT g)) := h.le fun σ H R ⟨env, T, C, s, h, k⟩ => ⟨env, T, _, s, h, fun ps e1 vs H1 h1 l1 ⟨Z, s1⟩ => by
  split at h1
  · obtain ⟨v, rfl, S⟩ := one_arg s1 l1
    obtain ⟨a, us, rfl, ha, hx⟩ := S.topDat
    exact ⟨a, us, rfl, ha, k _ _ _ _ _ h1 (nb_no (fun _ z => by cases z) (fun _ _ z => by cases z)) ⟨Z, S⟩ walks_enumT⟩
  · exact h1.elim⟩
theorem pi_enumLP {tg l : Expr} (h : PI X tg l (iEnum X.K (tA X.K G g))) : PI X tg l (tI X.K G (pEnumL g)) := h.le fun σ H R ⟨env, T, C, s, h, k⟩ => ⟨env, T, _, s, h, fun ps e1 vs H1 h1 l1 ⟨Z, s1⟩ => by
  split at h1
  · next ds =>
    obtain ⟨v, rfl, S⟩ := one_arg s1 l1
    obtain ⟨a, us, rfl, ha, hx⟩ := S.lst List.mem_cons_self (show lstOf e1 (.dat (.list _)) = some _ from rfl)
    exact ⟨a, us, rfl, SqL.of ha, k _ _ _ _ _ h1 (nb_no (fun _ z => by cases z) (fun _ _ z => by cases z)) ⟨Z, S⟩ (walks_enumL (.inl rfl))⟩
  · obtain ⟨v, rfl, S⟩ := one_arg s1 l1
    obtain ⟨a, us, rfl, ha, hx⟩ := S.lst List.mem_cons_self (show lstOf e1 (.own _) = some _ from rfl)
    exact ⟨a, us, rfl, SqL.of ha, k _ _ _ _ _ h1 (nb_no (fun _ z => by cases z) (fun _ _ z => by cases z)) ⟨Z, S⟩ (walks_enumL (.inr rfl))⟩
  · exact h1.elim⟩
theorem pt_inTabP {keys nots : List Str} {d : Addr} (hk : ∀ z ∈ keys, ∃ r, PySem.W.nsIn X.K d z = some (some r)) (hn : ∀ z ∈ nots, PySem.W.nsIn X.K d z = some none)
    (h : PT X e (tTest (tOp (fun x y H Q => ∃ (z : Str) (r : Option Value), x = .str z ∧ y = .ref d ∧ PySem.W.nsIn X.K d z = some r ∧ Q (.bl r.isSome) H) (tE X.K G f) (tC (.ref d))))) : PT X e (tQ X.K G (pInTab keys nots f)) := h.le fun σ H Q ⟨env, T, C, s, h, k⟩ => ⟨env, T, _, s, h, fun p e1 v H1 h1 ⟨Z, s1⟩ => by
  split at h1
  · have := s1.topDat
    cases this
    rcases h1 with ⟨m, h1⟩ | ⟨m, h1⟩
    · obtain ⟨r, hr⟩ := hk _ m
      exact ⟨_, some r, rfl, rfl, hr, _, rfl, k _ _ _ h1 ⟨Z, s1.pop⟩⟩
    · exact ⟨_, none, rfl, rfl, hn _ m, _, rfl, k _ _ _ h1 ⟨Z, s1.pop⟩⟩
  · exact h1.elim⟩
end

/-! ### lists of lists -/
def itmsOf : List Cel → Option (List Itm)
  | [] => some []
  | .dat d :: ps => (itmsOf ps).map (.d d :: ·)
  | .own ys :: ps => (itmsOf ps).map (.l ys :: ·)
  | _ => none
def pBox (g : PAs) : PEx := fun env C => g env fun ps e => match itmsOf ps with
  | some xs => xs.length ≤ sizeLine ∧ C (.box xs) e
  | none => False
/-- an item: data, or a list that is at work -/
def pIxB : POp := fun env pa pb C => match pa, pb with
  | .bor i, .dat (.int n) => (match env[i]? with
    | some (.box xs) => ∃ k, ixN xs.length n = some k ∧ (match xs[k]? with
      | some (.d x) => C (.dat x) env
      | some (.l _) => C (.sub i k) (env.set i (.pnd xs))
      | none => False)
    | _ => False)
  | _, _ => False
/-- the work on a list in slot i is done -/
def unl (i : Nat) (p : Cel) (e : PEnv) (C : PK) : Prop := match e[i]? with
  | some (.pnd xs) => (match p with
    | .dat d => C (.dat d) (e.set i (.box xs))
    | .own ys => C (.own ys) (e.set i (.box xs))
    | _ => False)
  | _ => C p e
def isBox : Option Cel → Prop
  | some (.box _) => True
  | _ => False
def pUnl (i : Nat) (f : PEx) : PEx := fun env C => isBox env[i]? ∧ f env fun p e => unl i p e C
def pUnlT (i : Nat) (t : PTst) : PTst := fun env C => isBox env[i]? ∧ t env fun b e => match e[i]? with
  | some (.pnd xs) => C b (e.set i (.box xs))
  | _ => C b e
def mutS (e : PEnv) (i k : Nat) (P : List PyData → (List PyData → Prop) → Prop) (C : PEnv → Prop) : Prop := match e[i]? with
  | some (.pnd xs) => (match xs[k]? with
    | some (.l ys) => P ys fun zs => C (e.set i (.box (xs.set k (.l zs))))
    | _ => False)
  | _ => False
/-- xs[i].append(v) -/
def pAppS (fo : PEx) (ga : PAs) : PEx := fun env C => fo env fun po e1 => match po with
  | .sub s k => (subAt k e1[s]?).isSome = true ∧ ga e1 fun ps e2 => (match ps with
    | [.dat d] => mutS e2 s k (fun xs c => xs.length < sizeLine ∧ c (xs ++ [d])) (C (.dat .none))
    | _ => False)
  | _ => False
/-- xs.append(v), xs with lists in it -/
def mAppB (s : Nat) (ps : List Cel) (env : PEnv) (C : PK) : Prop := match env[s]? with
  | some (.box xs) => (match ps with
    | [.dat d] => xs.length < sizeLine ∧ C (.dat .none) (env.set s (.box (xs ++ [.d d])))
    | [.own ys] => xs.length < sizeLine ∧ C (.dat .none) (env.set s (.box (xs ++ [.l ys])))
    | _ => False)
  | _ => False
/-- xs[i] = e, xs with lists in it -/
def pSetIxB (fv fo fi : PEx) : PSt := fun E env => fv env fun pv e1 => fo e1 fun po e2 => fi e2 fun pi e3 => match po, pi with
  | .bor s, .dat (.int i) => (match e3[s]? with
    | some (.box xs) => ∃ j, ixN xs.length i = some j ∧ (match pv with
      | .dat d => E.nx (e3.set s (.box (xs.set j (.d d))))
      | .own ys => E.nx (e3.set s (.box (xs.set j (.l ys))))
      | _ => False)
    | _ => False)
  | _, _ => False
section
variable {K : PySem.W.Frag} {G : Gam} {Z Z' : Addr → Prop} {H H' : Hp} {σ : L2.St} {env : PEnv} {T : Stk}
theorem itms_da : ∀ (ps : List Cel) (vs : List V) (T : Stk) (xs : List Itm), vs.length = ps.length → itmsOf ps = some xs → StZ K G Z H σ env (psh T vs ps) →
    ItAll K Z H xs vs ∧ (∀ b ∈ subs xs vs, ¬ Z b ∧ G.H0 b = none ∧ H b ≠ none ∧ ¬ OwnA H σ env T b) ∧ (subs xs vs).Nodup ∧ StZ K G Z H σ env T
  | [], [], T, xs, _, e, s => by
    cases e
    exact ⟨rfl, (fun b hb => by cases hb), List.nodup_nil, s⟩
  | [], _ :: _, _, _, l, _, _ => by cases l
  | _ :: _, [], _, _, l, _, _ => by cases l
  | .dat d :: ps, v :: vs, T, xs, l, e, s => by
    obtain ⟨xs', e2, rfl⟩ := Option.map_eq_some_iff.mp (show (itmsOf ps).map (Itm.d d :: ·) = some xs from e)
    obtain ⟨h1, h2, h3, h4⟩ := itms_da ps vs ((v, .dat d) :: T) xs' (Nat.succ.inj l) e2 s
    exact ⟨⟨v, vs, rfl, h4.topDat, h1⟩, fun b hb => ⟨(h2 b hb).1, (h2 b hb).2.1, (h2 b hb).2.2.1, fun z => (h2 b hb).2.2.2 (z.elim .inl fun ⟨t, ht, o⟩ => .inr ⟨t, List.mem_cons_of_mem _ ht, o⟩)⟩, h3, h4.pop⟩
  | .own ys :: ps, v :: vs, T, xs, l, e, s => by
    obtain ⟨xs', e2, rfl⟩ := Option.map_eq_some_iff.mp (show (itmsOf ps).map (Itm.l ys :: ·) = some xs from e)
    obtain ⟨h1, h2, h3, h4⟩ := itms_da ps vs ((v, .own ys) :: T) xs' (Nat.succ.inj l) e2 s
    obtain ⟨a, us, rfl, k1, k2, k3, k4, no⟩ := h4.topOwn
    refine ⟨⟨a, us, vs, rfl, k1, k2, h1⟩, fun b hb => ?_, ?_, h4.pop⟩
    · rcases List.mem_cons.mp hb with rfl | hb
      · exact ⟨k3, k4, by rw [k1]; exact fun z => (by cases z), no⟩
      · exact ⟨(h2 b hb).1, (h2 b hb).2.1, (h2 b hb).2.2.1, fun z => (h2 b hb).2.2.2 (z.elim .inl fun ⟨t, ht, o⟩ => .inr ⟨t, List.mem_cons_of_mem _ ht, o⟩)⟩
    · exact List.nodup_cons.mpr ⟨fun hb => (h2 a hb).2.2.2 (.inr ⟨_, List.mem_cons_self, List.mem_cons_self⟩), h3⟩
  | .no :: _, _, _, _, _, e, _ => by cases e
  | .arg _ :: _, _, _, _, _, e, _ => by cases e
  | .drw :: _, _, _, _, _, e, _ => by cases e
  | .bor _ :: _, _, _, _, _, e, _ => by cases e
  | .box _ :: _, _, _, _, _, e, _ => by cases e
  | .pnd _ :: _, _, _, _, _, e, _ => by cases e
  | .sub _ _ :: _, _, _, _, _, e, _ => by cases e
  | .dic _ :: _, _, _, _, _, e, _ => by cases e
  | .dit _ :: _, _, _, _, _, e, _ => by cases e
  | .lck _ _ _ :: _, _, _, _, _, e, _ => by cases e
theorem StZ.ownNew (s : StZ K G Z H σ env T) {p : Addr} {o : HO} (hp : H p = none) {b : Addr} (h : OwnA (upd H p o) σ env T b) : OwnA H σ env T b := by
  have m : Mv K Z H Z (upd H p o) := Mv.same (same_new hp) fun _ z => z
  rcases h with ⟨i, ov, q, e1, e2, hb⟩ | ⟨t, ht, hb⟩
  · obtain ⟨ov', e3, ok⟩ := s.sl i q e2
    rw [e1] at e3
    cases e3
    rw [(ok.mv m (fun b us _ e => same_new hp _ _ e) fun b hb => (ok.own hb).2.1).2] at hb
    exact .inl ⟨i, ov, q, e1, e2, hb⟩
  · have ok := s.tm t ht
    unfold OwnT at hb
    rw [(ok.mv m (fun b us _ e => same_new hp _ _ e) fun b hb => (ok.own hb).2.1).2] at hb
    exact .inr ⟨t, ht, hb⟩
/-- a new list with lists in it -/
theorem StZ.newBox {xs : List Itm} {vs : List V} {p : Addr} (s : StZ K G Z H σ env T) (h1 : ItAll K Z H xs vs) (h2 : ∀ b ∈ subs xs vs, ¬ Z b ∧ G.H0 b = none ∧ H b ≠ none ∧ ¬ OwnA H σ env T b) (h3 : (subs xs vs).Nodup) (hp : H p = none) :
    StZ K G Z (upd H p (.lst vs)) σ env ((.ref p, .box xs) :: T) := by
  have m : Mv K Z H Z (upd H p (.lst vs)) := Mv.same (same_new hp) fun _ z => z
  have ft : celFoot (upd H p (.lst vs)) (.box xs) (some (.ref p)) = p :: subs xs vs := by
    show (p :: (match (upd H p (.lst vs)) p with | some (.lst vs) => subs xs vs | _ => [])) = _
    rw [upd_same]
  refine (s.alloc (.lst vs) hp).push (p := .box xs) ⟨p, vs, rfl, upd_same, ItAll.mv m (fun b us _ e => same_new hp _ _ e) h1, fun b hb => ?_, List.nodup_cons.mpr ⟨fun hb => (h2 p hb).2.2.1 hp, h3⟩⟩ (fun _ e => by cases e) (fun _ _ e => by cases e) (fun _ e => by cases e) fun b o oa => ?_
  · rcases List.mem_cons.mp hb with rfl | hb
    · exact ⟨fun z => s.z3 b z hp, s.h0 hp⟩
    · exact ⟨(h2 b hb).1, (h2 b hb).2.1⟩
  · rw [ft] at o
    have oa2 := s.ownNew hp oa
    rcases List.mem_cons.mp o with e | hb
    · rw [e] at oa2
      exact s.fresh hp oa2
    · exact (h2 b hb).2.2.2 oa2
theorem ItAll.set_l {b : Addr} {zs : List PyData} {ws us : List V} : ∀ {xs : List Itm} {vs : List V} {k : Nat} {ys : List PyData}, ItAll K Z H xs vs → (subs xs vs).Nodup → xs[k]? = some (.l ys) → vs[k]? = some (.ref b) → H b = some (.lst us) → ¬ Z b → DaAll K Z H zs ws →
    ItAll K Z (upd H b (.lst ws)) (xs.set k (.l zs)) vs ∧ subs (xs.set k (.l zs)) vs = subs xs vs ∧ b ∈ subs xs vs
  | [], _, _, _, _, _, e, _, _, _, _ => by cases e
  | .d x :: xs, _, 0, _, _, _, e, _, _, _, _ => by cases e
  | .d x :: xs, _, k + 1, ys, ⟨v, r, e1, h1, h2⟩, nd, e, e2, hb, nz, hz => by
    subst e1
    obtain ⟨g1, g2, g3⟩ := ItAll.set_l h2 nd (by simpa using e) (by simpa using e2) hb nz hz
    exact ⟨⟨v, r, rfl, Da.mv (Mv.wr hb nz) _ _ h1, g1⟩, g2, g3⟩
  | .l y :: xs, _, 0, ys, ⟨c, us', r, e1, h1, h2, h3⟩, nd, e, e2, hb, nz, hz => by
    subst e1
    cases e2
    have nd' := List.nodup_cons.mp (show (b :: subs xs r).Nodup from nd)
    exact ⟨⟨b, ws, r, rfl, upd_same, DaAll.mv (Mv.wr hb nz) _ _ hz, ItAll.mv (Mv.wr hb nz) (fun d us hd e => upd_else e fun z => nd'.1 (z ▸ hd)) h3⟩, rfl, List.mem_cons_self⟩
  | .l y :: xs, _, k + 1, ys, ⟨c, us', r, e1, h1, h2, h3⟩, nd, e, e2, hb, nz, hz => by
    subst e1
    have nd' := List.nodup_cons.mp (show (c :: subs xs r).Nodup from nd)
    obtain ⟨g1, g2, g3⟩ := ItAll.set_l h3 nd'.2 (by simpa using e) (by simpa using e2) hb nz hz
    exact ⟨⟨c, us', r, rfl, upd_else h1 fun z => nd'.1 (z ▸ g3), DaAll.mv (Mv.wr hb nz) _ _ h2, g1⟩, congrArg (c :: ·) g2, List.mem_cons_of_mem _ g3⟩
theorem StZ.mutS {i k : Nat} {v : V} {P : List PyData → (List PyData → Prop) → Prop} {C : PEnv → Prop} (S : StZ K G Z H σ env ((v, .sub i k) :: T)) (h : mutS env i k P C) :
    ∃ (b : Addr) (us : List V) (ys : List PyData) (c : List PyData → Cel), v = .ref b ∧ H b = some (.lst us) ∧ DaAll K Z H ys us ∧ P ys (fun zs => C (env.set i (c zs))) ∧ ∀ zs ws, DaAll K Z H zs ws → StZ K G Z (upd H b (.lst ws)) σ (env.set i (c zs)) T := by
  obtain ⟨a, vs, xs, e1, e2, h1, h2⟩ := S.pn _ List.mem_cons_self i k rfl
  unfold My.mutS at h
  rw [e2] at h
  have h : (match xs[k]? with
    | some (.l ys) => P ys fun zs => C (env.set i (.box (xs.set k (.l zs))))
    | _ => False) := h
  split at h
  · next ys e3 =>
    obtain ⟨ov, e4, ok⟩ := S.sl i _ e2
    rw [e1] at e4
    cases e4
    obtain ⟨a', vs', e5, k1, k2, k3, k4⟩ := id ok
    cases e5
    rw [h1] at k1
    cases k1
    obtain ⟨b, us, g1, g2, g3, g4⟩ := ItAll.at k2 e3
    rw [h2] at g1
    have g1 : v = .ref b := Option.some.inj g1
    have nab : a ≠ b := fun z => (List.nodup_cons.mp k4).1 (z ▸ g4)
    have nzb := (k3 b (List.mem_cons_of_mem _ g4)).1
    have ft : ∀ (H : Hp) (xs : List Itm) (vs : List V), H a = some (.lst vs) → celFoot H (.box xs) (some (.ref a)) = a :: subs xs vs := fun H xs vs e => by
      show (a :: (match H a with | some (.lst vs) => subs xs vs | _ => [])) = _
      rw [e]
    have ftp : celFoot H (.pnd xs) (some (.ref a)) = a :: subs xs vs := ft H xs vs h1
    refine ⟨b, us, ys, fun zs => .box (xs.set k (.l zs)), g1, g2, g3, h, fun zs ws hz => ?_⟩
    obtain ⟨f1, f2, f3⟩ := ItAll.set_l k2 (List.nodup_cons.mp k4).2 e3 (g1 ▸ h2) g2 nzb hz
    have hH : (upd H b (.lst ws)) a = some (.lst vs) := upd_else h1 nab
    refine (S.pop.dat (v := .non) (d := .none) rfl).chg (p' := .box (xs.set k (.l zs))) e1 e2 ⟨a, vs, rfl, hH, f1, by rw [f2]; exact k3, by rw [f2]; exact k4⟩ (fun c hc => .inl ?_) (fun c o n e => upd_else e fun z => n ?_) (fun c e => upd_some e) (fun _ => trivial) (fun t ht k' z => (List.pairwise_cons.mp S.pu).1 t ht i k k' rfl z) fun ys z => by cases z
    · rw [ft _ _ _ hH, f2] at hc
      rw [ftp]
      exact hc
    · rw [z, ftp]
      exact List.mem_cons_of_mem _ f3
  · exact h.elim
theorem ItAll.app : ∀ {xs ys : List Itm} {vs us : List V}, ItAll K Z H xs vs → ItAll K Z H ys us → ItAll K Z H (xs ++ ys) (vs ++ us)
  | [], _, _, _, h, k => by cases h; exact k
  | .d x :: xs, ys, _, us, ⟨v, r, e, h1, h2⟩, k => by subst e; exact ⟨v, r ++ us, rfl, h1, ItAll.app h2 k⟩
  | .l y :: xs, ys, _, us, ⟨c, u, r, e, h1, h2, h3⟩, k => by subst e; exact ⟨c, u, r ++ us, rfl, h1, h2, ItAll.app h3 k⟩
theorem subs_app : ∀ {xs ys : List Itm} {vs us : List V}, ItAll K Z H xs vs → subs (xs ++ ys) (vs ++ us) = subs xs vs ++ subs ys us
  | [], _, _, _, h => by cases h; rfl
  | .d x :: xs, ys, _, us, ⟨v, r, e, h1, h2⟩ => by
    subst e
    show subs (Itm.d x :: (xs ++ ys)) (v :: (r ++ us)) = _
    have : ∀ (zs : List Itm) (ws : List V), subs (.d x :: zs) (v :: ws) = subs zs ws := fun zs ws => rfl
    rw [this]
    exact subs_app h2
  | .l y :: xs, ys, _, us, ⟨c, u, r, e, h1, h2, h3⟩ => by
    subst e
    exact congrArg (c :: ·) (subs_app h3)
end
section
variable {K : PySem.W.Frag} {G : Gam} {Z Z' : Addr → Prop} {H H' : Hp} {σ : L2.St} {env : PEnv} {T : Stk}
theorem ItAll.split {x : Itm} {xs : List Itm} {vs : List V} (h : ItAll K Z H (x :: xs) vs) : ∃ u r, vs = u :: r ∧ ItAll K Z H [x] [u] ∧ ItAll K Z H xs r ∧ subs (x :: xs) (u :: r) = subs [x] [u] ++ subs xs r := by
  cases x with
  | d x =>
    obtain ⟨v, r, rfl, h1, h2⟩ := h
    have e : ItAll K Z H [.d x] [v] := ⟨v, [], rfl, h1, rfl⟩
    exact ⟨v, r, rfl, e, h2, subs_app (xs := [.d x]) (vs := [v]) e⟩
  | l y =>
    obtain ⟨c, u, r, rfl, h1, h2, h3⟩ := h
    have e : ItAll K Z H [.l y] [.ref c] := ⟨c, u, [], rfl, h1, h2, rfl⟩
    exact ⟨.ref c, r, rfl, e, h3, subs_app (xs := [.l y]) (vs := [.ref c]) e⟩
theorem ItAll.setI {it : Itm} {v : V} (hi : ItAll K Z H [it] [v]) : ∀ {xs : List Itm} {vs : List V} (j : Nat), ItAll K Z H xs vs → ItAll K Z H (xs.set j it) (vs.set j v) ∧ (∀ b ∈ subs (xs.set j it) (vs.set j v), b ∈ subs xs vs ∨ b ∈ subs [it] [v]) ∧
    ((subs xs vs).Nodup → (subs [it] [v]).Nodup → (∀ b ∈ subs [it] [v], b ∉ subs xs vs) → (subs (xs.set j it) (vs.set j v)).Nodup)
  | [], vs, j, h => by
    cases h
    exact ⟨rfl, (fun b hb => .inl hb), fun h _ _ => h⟩
  | x :: xs, vs, 0, h => by
    obtain ⟨u, r, rfl, h1, h2, h3⟩ := h.split
    have e : subs (it :: xs) (v :: r) = subs [it] [v] ++ subs xs r := subs_app (xs := [it]) (vs := [v]) hi
    refine ⟨ItAll.app (xs := [it]) (vs := [v]) hi h2, fun b hb => ?_, fun n1 n2 n3 => ?_⟩
    · rw [h3]
      have hb : b ∈ subs (it :: xs) (v :: r) := hb
      rw [e] at hb
      exact (List.mem_append.mp hb).elim .inr fun h => .inl (List.mem_append_right _ h)
    · show (subs (it :: xs) (v :: r)).Nodup
      rw [e]
      rw [h3] at n1 n3
      exact List.nodup_append.mpr ⟨n2, (List.nodup_append.mp n1).2.1, fun b hb c hc z => n3 b hb (List.mem_append_right _ (z ▸ hc))⟩
  | x :: xs, vs, j + 1, h => by
    obtain ⟨u, r, rfl, h1, h2, h3⟩ := h.split
    obtain ⟨g1, g2, g3⟩ := ItAll.setI hi j h2
    have e : subs (x :: xs.set j it) (u :: r.set j v) = subs [x] [u] ++ subs (xs.set j it) (r.set j v) := subs_app (xs := [x]) (vs := [u]) h1
    refine ⟨ItAll.app (xs := [x]) (vs := [u]) h1 g1, fun b hb => ?_, fun n1 n2 n3 => ?_⟩
    · have hb : b ∈ subs (x :: xs.set j it) (u :: r.set j v) := hb
      rw [e] at hb
      rw [h3]
      rcases List.mem_append.mp hb with hb | hb
      · exact .inl (List.mem_append_left _ hb)
      · exact (g2 b hb).elim (fun h => .inl (List.mem_append_right _ h)) .inr
    · show (subs (x :: xs.set j it) (u :: r.set j v)).Nodup
      rw [e]
      rw [h3] at n1 n3
      have n4 := List.nodup_append.mp n1
      refine List.nodup_append.mpr ⟨n4.1, g3 n4.2.1 n2 (fun b hb z => n3 b hb (List.mem_append_right _ z)), fun b hb c hc z => ?_⟩
      subst z
      rcases g2 b hc with h | h
      · exact n4.2.2 b hb b h rfl
      · exact n3 b h (List.mem_append_left _ hb)
theorem StZ.boxW {i : Nat} {v : V} {q : Cel} {a : Addr} {xs xs' : List Itm} {vs vs' : List V} (s : StZ K G Z H σ env ((v, q) :: T)) (e2 : env[i]? = some (.box xs)) (e1 : σ[i]? = some (some (.ref a))) (h1 : H a = some (.lst vs)) (it : ItAll K Z H xs' vs')
    (sb : ∀ b ∈ subs xs' vs', b ∈ subs xs vs ∨ b ∈ celFoot H q (some v)) (nd : (subs xs' vs').Nodup) (hq : ∀ b ∈ celFoot H q (some v), G.H0 b = none) : StZ K G Z (upd H a (.lst vs')) σ (env.set i (.box xs')) T := by
  obtain ⟨ov, e4, ok⟩ := s.sl i _ e2
  rw [e1] at e4
  cases e4
  obtain ⟨a', ws, e5, k1, k2, k3, k4⟩ := id ok
  cases e5
  rw [h1] at k1
  cases k1
  have ft : ∀ (H : Hp) (xs : List Itm) (vs : List V), H a = some (.lst vs) → celFoot H (.box xs) (some (.ref a)) = a :: subs xs vs := fun H xs vs e => by
    show (a :: (match H a with | some (.lst vs) => subs xs vs | _ => [])) = _
    rw [e]
  have nz := (k3 a List.mem_cons_self).1
  have oa : OwnS H σ env i a := ⟨_, _, e1, e2, by rw [ft H xs vs h1]; exact List.mem_cons_self⟩
  have na : ∀ b ∈ subs xs' vs', b ≠ a := fun b hb z => by
    subst z
    rcases sb b hb with h | h
    · exact (List.nodup_cons.mp k4).1 h
    · exact s.topSep (t := (v, q)) h (.inl ⟨i, oa⟩)
  have hH : (upd H a (.lst vs')) a = some (.lst vs') := upd_same
  refine s.chg (p' := .box xs') e1 e2 ⟨a, vs', rfl, hH, ItAll.mv (Mv.wr h1 nz) (fun b us hb e => upd_else e (na b hb)) it, fun b hb => ?_, List.nodup_cons.mpr ⟨fun hb => na a hb rfl, nd⟩⟩ (fun b hb => ?_) (fun c o n e => upd_else e fun z => n ?_) (fun c e => upd_some e) (fun _ => trivial) (fun t ht => s.nosub e2 (fun _ z => by cases z) t (List.mem_cons_of_mem _ ht)) fun ys z => by cases z
  · rcases List.mem_cons.mp hb with rfl | hb
    · exact k3 b List.mem_cons_self
    · rcases sb b hb with h | h
      · exact k3 b (List.mem_cons_of_mem _ h)
      · exact ⟨((s.tm _ List.mem_cons_self).own h).2.1, hq b h⟩
  · rw [ft _ _ _ hH] at hb
    rw [ft H xs vs h1]
    rcases List.mem_cons.mp hb with rfl | hb
    · exact .inl List.mem_cons_self
    · exact (sb b hb).elim (fun h => .inl (List.mem_cons_of_mem _ h)) .inr
  · rw [z, ft H xs vs h1]
    exact List.mem_cons_self
/-- what a value gives as an item -/
theorem StZ.topIt {v : V} {q : Cel} {it : Itm} (s : StZ K G Z H σ env ((v, q) :: T)) (h : (∃ d, q = .dat d ∧ it = .d d) ∨ ∃ ys, q = .own ys ∧ it = .l ys) : ItAll K Z H [it] [v] ∧ subs [it] [v] = celFoot H q (some v) ∧ (subs [it] [v]).Nodup ∧ ∀ b ∈ celFoot H q (some v), G.H0 b = none := by
  rcases h with ⟨d, rfl, rfl⟩ | ⟨ys, rfl, rfl⟩
  · have e : celFoot H (.dat d) (some v) = [] := by cases v <;> rfl
    rw [e]
    exact ⟨⟨v, [], rfl, s.topDat, rfl⟩, rfl, List.nodup_nil, fun b hb => by cases hb⟩
  · obtain ⟨a, us, rfl, k1, k2, k3, k4, no⟩ := s.topOwn
    exact ⟨⟨a, us, [], rfl, k1, k2, rfl⟩, rfl, List.nodup_cons.mpr ⟨(fun h => by cases h), List.nodup_nil⟩, fun b hb => by rw [List.mem_singleton.mp hb]; exact k4⟩
theorem StZ.boxSet {i j : Nat} {v : V} {q : Cel} {it : Itm} {a : Addr} {xs : List Itm} {vs : List V} (s : StZ K G Z H σ env ((v, q) :: T)) (h : (∃ d, q = .dat d ∧ it = .d d) ∨ ∃ ys, q = .own ys ∧ it = .l ys) (e2 : env[i]? = some (.box xs)) (e1 : σ[i]? = some (some (.ref a))) (h1 : H a = some (.lst vs)) :
    StZ K G Z (upd H a (.lst (vs.set j v))) σ (env.set i (.box (xs.set j it))) T := by
  obtain ⟨ov, e4, ok⟩ := s.sl i _ e2
  rw [e1] at e4
  cases e4
  obtain ⟨a', ws, e5, k1, k2, k3, k4⟩ := id ok
  cases e5
  rw [h1] at k1
  cases k1
  obtain ⟨t1, t2, t3, t4⟩ := s.topIt h
  obtain ⟨g1, g2, g3⟩ := ItAll.setI t1 j k2
  refine s.boxW e2 e1 h1 g1 (fun b hb => (g2 b hb).elim .inl fun h => .inr (t2 ▸ h)) (g3 (List.nodup_cons.mp k4).2 t3 fun b hb z => ?_) t4
  refine s.topSep (t := (v, q)) (show b ∈ celFoot H q (some v) from t2 ▸ hb) (.inl ⟨i, some (.ref a), .box xs, e1, e2, ?_⟩)
  show b ∈ (a :: (match H a with | some (.lst vs) => subs xs vs | _ => []))
  rw [h1]
  exact List.mem_cons_of_mem _ z
theorem StZ.boxApp {i : Nat} {v : V} {q : Cel} {it : Itm} {a : Addr} {xs : List Itm} {vs : List V} (s : StZ K G Z H σ env ((v, q) :: T)) (h : (∃ d, q = .dat d ∧ it = .d d) ∨ ∃ ys, q = .own ys ∧ it = .l ys) (e2 : env[i]? = some (.box xs)) (e1 : σ[i]? = some (some (.ref a))) (h1 : H a = some (.lst vs)) :
    StZ K G Z (upd H a (.lst (vs ++ [v]))) σ (env.set i (.box (xs ++ [it]))) T := by
  obtain ⟨ov, e4, ok⟩ := s.sl i _ e2
  rw [e1] at e4
  cases e4
  obtain ⟨a', ws, e5, k1, k2, k3, k4⟩ := id ok
  cases e5
  rw [h1] at k1
  cases k1
  obtain ⟨t1, t2, t3, t4⟩ := s.topIt h
  have e := subs_app (ys := [it]) (us := [v]) k2
  refine s.boxW e2 e1 h1 (ItAll.app k2 t1) (fun b hb => ?_) ?_ t4
  · rw [e, t2] at hb
    exact List.mem_append.mp hb
  · rw [e]
    refine List.nodup_append.mpr ⟨(List.nodup_cons.mp k4).2, t3, fun b hb c hc z => ?_⟩
    subst z
    refine s.topSep (t := (v, q)) (show b ∈ celFoot H q (some v) from t2 ▸ hc) (.inl ⟨i, some (.ref a), .box xs, e1, e2, ?_⟩)
    show b ∈ (a :: (match H a with | some (.lst vs) => subs xs vs | _ => []))
    rw [h1]
    exact List.mem_cons_of_mem _ hb
/-- a list in a list at work -/
theorem StZ.pushS {i k : Nat} {a : Addr} {v : V} {xs : List Itm} {vs : List V} (s : StZ K G Z H σ env T) (e1 : σ[i]? = some (some (.ref a))) (e2 : env[i]? = some (.box xs)) (h1 : H a = some (.lst vs)) (hk : vs[k]? = some v) : StZ K G Z H σ (env.set i (.pnd xs)) ((v, .sub i k) :: T) := by
  have hi := (List.getElem?_eq_some_iff.mp e2).1
  have ns := s.nosub e2 (fun _ z => by cases z)
  obtain ⟨ov, e4, ok⟩ := s.sl i _ e2
  rw [e1] at e4
  cases e4
  have s2 := s.say (p' := .pnd xs) e1 e2 ok (fun b h => h) (fun _ => trivial) ns fun _ z => by cases z
  exact {
    gok := s2.gok
    sl := s2.sl
    tm := fun t ht => by
      rcases List.mem_cons.mp ht with rfl | ht
      · exact ⟨_, rfl⟩
      · exact s2.tm t ht
    bo := fun t ht j e => by
      rcases List.mem_cons.mp ht with rfl | ht
      · cases e
      · exact s2.bo t ht j e
    pn := fun t ht j k' e => by
      rcases List.mem_cons.mp ht with rfl | ht
      · cases e
        exact ⟨a, vs, xs, e1, List.getElem?_set_self hi, h1, hk⟩
      · exact s2.pn t ht j k' e
    pu := List.pairwise_cons.mpr ⟨fun u hu j k1 k2 e => by
      cases e
      exact ns u hu k2, s2.pu⟩
    s1 := s2.s1
    s2 := List.pairwise_cons.mpr ⟨fun u hu b o1 => (by cases v <;> cases o1), s2.s2⟩
    s3 := fun j b t o1 ht o2 => by
      rcases List.mem_cons.mp ht with rfl | ht
      · cases v <;> cases o2
      · exact s2.s3 j b t o1 ht o2
    ta := fun t ht ys => by
      rcases List.mem_cons.mp ht with rfl | ht
      · exact fun z => by cases z
      · exact s2.ta t ht ys
    ar := s2.ar
    z1 := s2.z1
    z2 := s2.z2
    z3 := s2.z3
    fr := s2.fr
    al := s2.al
    dr := s2.dr
    tb := s2.tb
    tk := s2.tk }
theorem ItAll.at_d : ∀ {xs : List Itm} {vs : List V} {k : Nat} {it : Itm}, ItAll K Z H xs vs → xs[k]? = some it → ∃ v, vs[k]? = some v ∧ ∀ x, it = .d x → Da K Z H x v
  | [], _, _, _, _, e => by cases e
  | .d x :: xs, _, 0, _, ⟨v, r, e1, h1, h2⟩, e => by subst e1; cases e; exact ⟨v, rfl, fun x z => by cases z; exact h1⟩
  | .l y :: xs, _, 0, _, ⟨c, us, r, e1, h1, h2, h3⟩, e => by subst e1; cases e; exact ⟨_, rfl, fun x z => by cases z⟩
  | .d x :: xs, _, k + 1, _, ⟨v, r, e1, h1, h2⟩, e => by
    subst e1
    obtain ⟨v, g1, g2⟩ := ItAll.at_d h2 (by simpa using e)
    exact ⟨v, by simpa using g1, g2⟩
  | .l y :: xs, _, k + 1, _, ⟨c, us, r, e1, h1, h2, h3⟩, e => by
    subst e1
    obtain ⟨v, g1, g2⟩ := ItAll.at_d h3 (by simpa using e)
    exact ⟨v, by simpa using g1, g2⟩
end
section
variable {X : Cx} {G : Gam} {e a b c : Expr} {es : List Expr} {pos : Pos} {fa fb fo fe fi fv f : PEx} {st : Stmt} {K : PySem.W.Frag}
theorem li_ixB : LiftO K G (rIx K) pIxB := by
  intro Z H σ env T x y pa pb C Q s h k
  unfold pIxB at h
  split at h
  · next i n =>
    have h1 := s.topDat
    cases h1
    obtain ⟨e1, _⟩ := s.bo _ (List.mem_cons_of_mem _ List.mem_cons_self) i rfl
    split at h
    · next xs e2 =>
      obtain ⟨ov, e4, a, vs, e5, k1, k2, _⟩ := s.sl i _ e2
      rw [e1] at e4
      cases e4
      cases e5
      obtain ⟨j, hj, h⟩ := h
      have hj' : ixN vs.length n = some j := by rw [k2.len]; exact hj
      split at h
      · next d e3 =>
        obtain ⟨v, g1, g2⟩ := ItAll.at_d k2 e3
        exact .inl ⟨a, vs, n, v, rfl, rfl, SqL.of k1, by unfold atI; rw [hj']; exact g1, k _ _ _ _ h ⟨Z, s.pop.pop.dat (g2 _ rfl)⟩⟩
      · next ys e3 =>
        obtain ⟨v, g1, g2⟩ := ItAll.at_d k2 e3
        exact .inl ⟨a, vs, n, v, rfl, rfl, SqL.of k1, by unfold atI; rw [hj']; exact g1, k _ _ _ _ h ⟨Z, s.pop.pop.pushS e1 e2 k1 g1⟩⟩
      · exact h.elim
    · exact h.elim
  · exact h.elim
theorem lm_appB : LiftM K G rAppend mAppB := by
  intro Z H σ env T s v vs ps C Q S l h k
  unfold mAppB at h
  split at h
  · next xs e2 =>
    have go : ∀ {u p it}, StZ K G Z H σ env ((u, p) :: (v, .bor s) :: T) → ((∃ d, p = .dat d ∧ it = .d d) ∨ ∃ ys, p = .own ys ∧ it = .l ys) → xs.length < sizeLine → C (.dat .none) (env.set s (.box (xs ++ [it]))) → rAppend v [u] H Q := fun {u p it} S hp h3 h4 => by
      obtain ⟨e1, _⟩ := S.bo _ (List.mem_cons_of_mem _ List.mem_cons_self) s rfl
      obtain ⟨ov, e4, a, ws, e5, k1, k2, _⟩ := S.sl s _ e2
      rw [e1] at e4
      cases e4
      cases e5
      have S' : StZ K G Z H σ env ((u, p) :: T) := S.sub (List.Sublist.cons_cons _ (List.sublist_cons_self _ _))
      exact ⟨a, ws, u, rfl, rfl, k1, by rw [k2.len]; exact h3, k _ _ _ _ h4 ⟨Z, (S'.boxApp hp e2 e1 k1).dat rfl⟩⟩
    split at h
    · match vs, l with
      | [u], _ => exact go (it := .d _) S (.inl ⟨_, rfl, rfl⟩) h.1 h.2
    · match vs, l with
      | [u], _ => exact go (it := .l _) S (.inr ⟨_, rfl, rfl⟩) h.1 h.2
    · exact h.elim
  · exact h.elim
theorem pe_boxP {g : PAs} (h : PA X es (tA X.K G g)) : PE X (.List es pos) (tE X.K G (pBox g)) := (pe_lst h).le fun σ H Q ⟨env, T, C, s, h, k⟩ => ⟨env, T, _, s, h, fun ps e1 vs H1 h1 l1 ⟨Z, s1⟩ => by
  split at h1
  · next xs e =>
    obtain ⟨g1, g2, g3, g4⟩ := itms_da ps vs T xs l1 e s1
    refine ⟨by rw [g1.len]; exact h1.1, fun p hp => k _ _ _ _ h1.2 ⟨Z, g4.newBox g1 g2 g3 hp⟩⟩
  · exact h1.elim⟩
theorem pe_ixBP (ha : PE X a (tE X.K G fa)) (hb : PE X b (tE X.K G fb)) (hs : PlainIx b) : PE X (.Subscript a b pos) (tE X.K G (pBin pIxB fa fb)) := (pe_ix ix_seq ha hb hs).le (binP li_ixB)
theorem StZ.unl {Z : Addr → Prop} {H : Hp} {σ : L2.St} {e : PEnv} {T : Stk} {i : Nat} {xs : List Itm} (s : StZ K G Z H σ e T) (h : e[i]? = some (.pnd xs)) (ns : ∀ t ∈ T, ∀ k, t.2 ≠ Cel.sub i k) : StZ K G Z H σ (e.set i (.box xs)) T := by
  obtain ⟨ov, e1, ok⟩ := s.sl i _ h
  exact s.say (p' := .box xs) e1 h ok (fun b hb => by cases ov with | none => cases hb | some v => cases v <;> first | exact hb | cases hb) (fun _ => trivial) ns fun _ z => by cases z
theorem isBox_at {c : Option Cel} (h : isBox c) : ∃ xs, c = some (.box xs) := by
  cases c with
  | none => exact h.elim
  | some c => cases c <;> first | exact h.elim | exact ⟨_, rfl⟩
theorem pe_unlP {i : Nat} (h : PE X e (tE X.K G f)) : PE X e (tE X.K G (pUnl i f)) := h.le fun σ H Q ⟨env, T, C, ⟨Z, s⟩, ⟨hb, h⟩, k⟩ => ⟨env, T, _, ⟨Z, s⟩, h, fun p e1 v H1 h1 ⟨Z1, s1⟩ => by
  obtain ⟨xs, hx⟩ := isBox_at hb
  have ns := s.nosub hx fun _ z => by cases z
  unfold unl at h1
  split at h1
  · next xs' e2 =>
    split at h1
    · exact k _ _ _ _ h1 ⟨Z1, s1.unl e2 fun t ht k' z => (List.mem_cons.mp ht).elim (fun q => by subst q; cases z) fun ht => ns t ht k' z⟩
    · exact k _ _ _ _ h1 ⟨Z1, s1.unl e2 fun t ht k' z => (List.mem_cons.mp ht).elim (fun q => by subst q; cases z) fun ht => ns t ht k' z⟩
    · exact h1.elim
  · exact k _ _ _ _ h1 ⟨Z1, s1⟩⟩
theorem pt_unlP {i : Nat} {t : PTst} (h : PT X e (tQ X.K G t)) : PT X e (tQ X.K G (pUnlT i t)) := h.le fun σ H Q ⟨env, T, C, ⟨Z, s⟩, ⟨hb, h⟩, k⟩ => ⟨env, T, _, ⟨Z, s⟩, h, fun b e1 H1 h1 ⟨Z1, s1⟩ => by
  obtain ⟨xs, hx⟩ := isBox_at hb
  have ns := s.nosub hx fun _ z => by cases z
  split at h1
  · next xs' e2 => exact k _ _ _ h1 ⟨Z1, s1.unl e2 ns⟩
  · exact k _ _ _ h1 ⟨Z1, s1⟩⟩
theorem pe_appSP {ga : PAs} (h : PE X e (tBM X.K "list" rAppend (tE X.K G fo) (tA X.K G ga))) : PE X e (tE X.K G (pAppS fo ga)) :=
  h.le fun σ H Q ⟨env, T, C, s, h, k⟩ => ⟨env, T, _, s, h, fun po e1 v H1 h1 ⟨Z1, s1⟩ => by
    split at h1
    · next s k' s1 =>
      obtain ⟨h0, h1⟩ := h1
      obtain ⟨ys0, e0⟩ := Option.isSome_iff_exists.mp h0
      obtain ⟨b0, us0, rfl, q0, _⟩ := s1.lst (ds := ys0) List.mem_cons_self e0
      have ty : tyV X.K "list" (.ref b0) H1 := ty_lst q0
      exact ⟨ty, e1, _, _, ⟨Z1, s1⟩, h1, fun ps e2 vs H2 h2 l2 ⟨Z2, s2⟩ => by
        split at h2
        · match vs, l2 with
          | [u], _ =>
            have S : StZ X.K G Z2 H2 σ e2 ((u, .dat _) :: (.ref b0, .sub s k') :: T) := s2
            obtain ⟨b, us, ys, c, eb, g1, g2, ⟨g3, g4⟩, g5⟩ := S.pop.mutS h2
            exact ⟨b, us, u, eb, rfl, g1, by rw [g2.len]; exact g3, k _ _ _ _ g4 ⟨Z2, (g5 _ _ (DaAll.app _ _ _ _ g2 (DaAll.one S.topDat))).dat rfl⟩⟩
        · exact h2.elim⟩
    · exact h1.elim⟩
theorem ps_setIxBP (h : PS X st (tAsg (tE X.K G fv) (gSub (tE X.K G fo) (tE X.K G fi) rSetL))) : PS X st (tS X.K G (pSetIxB fv fo fi)) := h.le fun D σ H ⟨env, T, E, nb, s, h, k⟩ => ⟨env, T, _, s, h, fun pv e1 v H1 h1 s1 => ⟨e1, _, _, s1, h1, fun po e2 o H2 h2 s2 => ⟨e2, _, _, s2, h2, fun pi e3 i H3 h3 ⟨Z, s3⟩ => by
  split at h3
  · next s0 n s3 =>
    have hi := s3.topDat
    cases hi
    split at h3
    · next xs q2 =>
      obtain ⟨q1, _⟩ := s3.bo _ (List.mem_cons_of_mem _ List.mem_cons_self) s0 rfl
      obtain ⟨ov, q4, a, ws, q5, k1, k2, _⟩ := s3.sl s0 _ q2
      rw [q1] at q4
      cases q4
      cases q5
      obtain ⟨j, hj, h3⟩ := h3
      have S := s3.pop.pop
      split at h3
      · exact ⟨a, ws, _, j, rfl, rfl, k1, by rw [k2.len]; exact hj, k.nx _ _ _ h3 ⟨Z, S.boxSet (.inl ⟨_, rfl, rfl⟩) q2 q1 k1⟩⟩
      · exact ⟨a, ws, _, j, rfl, rfl, k1, by rw [k2.len]; exact hj, k.nx _ _ _ h3 ⟨Z, S.boxSet (.inr ⟨_, rfl, rfl⟩) q2 q1 k1⟩⟩
      · exact h3.elim
    · exact h3.elim
  · exact h3.elim⟩⟩⟩
end

/-! ### x.index(y) of a list of any data; text.split(text) -/
def mIndexD (s : Nat) (ps : List Cel) (env : PEnv) (C : PK) : Prop := match ps with
  | [.dat d] => match lstAt env[s]? with
    | some ds => SeqAt.shaped (.list ds) = true ∧ SeqAt.shaped d = true ∧ ∃ (j : Nat) (z : PyData), ds[j]? = some z ∧ PyData.eqv z d = true ∧ (∀ (m : Nat) z', m < j → ds[m]? = some z' → PyData.eqv z' d = false) ∧ C (.dat (.int j)) env
    | none => False
  | _ => False
section
variable {X : Cx} {G : Gam} {e a b c : Expr} {es : List Expr} {pos : Pos} {fo fe : PEx} {K : PySem.W.Frag}
theorem lm_indexD : LiftM K G (rIndexD K) mIndexD := by
  intro Z H σ env T s v vs ps C Q S l h k
  unfold mIndexD at h
  split at h
  · next d =>
    match vs, l with
    | [u], _ =>
      have S : StZ K G Z H σ env ((u, .dat d) :: (v, .bor s) :: T) := S
      split at h
      · next ds e =>
        obtain ⟨f1, f2, j, z, e1, e2, e3, hc⟩ := h
        obtain ⟨a, us, rfl, ha, hx⟩ := S.lst (List.mem_cons_of_mem _ List.mem_cons_self) (show lstOf env (.bor s) = some ds from e)
        exact ⟨a, u, d, ds, j, z, rfl, rfl, .lst (SqL.of ha) (DaAll.dp _ _ (show PyData.canLayAll0 ds = true from SeqAt.canLay_of_shaped f1) hx), Da.dp _ _ (SeqAt.canLay_of_shaped f2) S.topDat, f1, f2, e1, e2, e3, k _ _ _ _ hc ⟨Z, S.pop.pop.dat rfl⟩⟩
      · exact h.elim
  · exact h.elim
def pSplit (fo fe : PEx) : PEx := fun env C => fo env fun po e1 => match po with
  | .dat (.str x) => fe e1 fun pe e2 => (match pe with
    | .dat (.str y) => (y.length == 0) = false ∧ x.length + 2 ≤ sizeLine ∧ C (.own ((Txt.split x y).map .str)) e2
    | _ => False)
  | _ => False
theorem da_strsV {Z : Addr → Prop} {H : Hp} : ∀ l : List Str, DaAll K Z H (l.map .str) (l.map V.str)
  | [] => rfl
  | x :: l => ⟨.str x, _, rfl, rfl, da_strsV l⟩
theorem pe_splitP (h : PE X e (tM1 (fun x xs H Q => ∃ a b, x = .str a ∧ xs = [.str b] ∧ (b.length == 0) = false ∧ a.length + 2 ≤ sizeLine ∧ rNewStrs (Txt.split a b) H Q) (tE X.K G fo) (tE X.K G fe))) : PE X e (tE X.K G (pSplit fo fe)) := h.le fun σ H Q ⟨env, T, C, s, h, k⟩ =>
  ⟨env, T, _, s, h, fun po e1 v H1 h1 ⟨Z1, s1⟩ => by
    split at h1
    · have h4 := s1.topDat
      cases h4
      exact ⟨⟨_, rfl⟩, e1, _, _, ⟨Z1, s1⟩, h1, fun pe e2 u H2 h2 ⟨Z, s2⟩ => by
        split at h2
        · have h3 := s2.topDat
          cases h3
          exact ⟨_, _, rfl, rfl, h2.1, h2.2.1, fun p hp => k _ _ _ _ h2.2.2 ⟨Z, s2.pop.pop.newLst hp (da_strsV _)⟩⟩
        · exact h2.elim⟩
    · exact h1.elim⟩
end
/-! ### a <= b <= c of ints -/
def pChain (o1 o2 : Int → Int → Bool) (fa fb fc : PEx) : PEx := fun env C => fa env fun pa e1 => fb e1 fun pb e2 => match pa, pb with
  | .dat (.int a), .dat (.int b) => IfP (o1 a b) (fc e2 fun pc e3 => match pc with
    | .dat (.int c) => C (.dat (.bool (o2 b c))) e3
    | _ => False) (C (.dat (.bool false)) e2)
  | _, _ => False
section
variable {X : Cx} {G : Gam} {e : Expr} {fa fb fc : PEx} {o1 o2 : Int → Int → Bool}
theorem chainP (σ : L2.St) (H : Hp) (Q : VK) (h : tE X.K G (pChain o1 o2 fa fb fc) σ H Q) : tChain (rI0 fun i j => .bl (o1 i j)) (rI0 fun i j => .bl (o2 i j)) (tE X.K G fa) (tE X.K G fb) (tE X.K G fc) σ H Q := by
  obtain ⟨env, T, C, s, h, k⟩ := h
  refine ⟨env, T, _, s, h, fun pa e1 x H1 h1 s1 => ⟨e1, _, _, s1, h1, fun pb e2 y H2 h2 s2 => ?_⟩⟩
  split at h2
  · obtain ⟨Z, s2⟩ := s2
    have g1 := s2.topDat
    have g2 := s2.pop.topDat
    cases g1
    cases g2
    refine ⟨_, _, rfl, rfl, _, rfl, ?_⟩
    cases h2 with
    | t ht h2 =>
      rw [if_pos ht]
      refine ⟨e2, _, _, ⟨Z, s2⟩, h2, fun pc e3 w H3 h3 ⟨Z3, s3⟩ => ?_⟩
      split at h3
      · have g3 := s3.topDat
        cases g3
        exact ⟨_, _, rfl, rfl, k _ _ _ _ h3 ⟨Z3, s3.pop.pop.pop.dat rfl⟩⟩
      · exact h3.elim
    | f hf h2 =>
      rw [if_neg (by rw [hf]; decide)]
      exact k _ _ _ _ h2 ⟨Z, s2.pop.pop.dat rfl⟩
  · exact h2.elim
theorem pe_chainP (h : PE X e (tChain (rI0 fun i j => .bl (o1 i j)) (rI0 fun i j => .bl (o2 i j)) (tE X.K G fa) (tE X.K G fb) (tE X.K G fc))) : PE X e (tE X.K G (pChain o1 o2 fa fb fc)) := h.le chainP
theorem pt_chainP (h : PT X e (tTest (tChain (rI0 fun i j => .bl (o1 i j)) (rI0 fun i j => .bl (o2 i j)) (tE X.K G fa) (tE X.K G fb) (tE X.K G fc)))) : PT X e (tQ X.K G (pTst (pChain o1 o2 fa fb fc))) := h.le fun σ H Q ⟨env, T, C, s, h, k⟩ =>
  chainP σ H _ ⟨env, T, _, s, h, fun p e1 v H1 h1 ⟨Z, s1⟩ => by
    split at h1
    · have g := s1.topDat
      cases g
      exact ⟨_, rfl, k _ _ _ h1 ⟨Z, s1.pop⟩⟩
    · exact h1.elim⟩
end

/-! ### helps for readings -/
theorem atD {α : Type} {xs : List α} {v : α} (j : Nat) (h : xs[j]? = some v) : atI xs (j : Int) = some v := atI_nat h
theorem rangeP0 (n : Nat) : rangeP 0 (n : Int) = (List.range n).map fun k : Nat => .int (k : Int) := by
  unfold rangeP
  rw [show ((n : Int) - 0).toNat = n by omega]
  exact List.map_congr_left fun k _ => by rw [Int.zero_add]
theorem tab_in {K : PySem.W.Frag} {w : World} {d : Addr} {tab : List (Str × V)} (h : ∀ q ∈ tab, KDct K w d q.1 q.2) : ∀ z ∈ tab.map (·.1), ∃ r, PySem.W.nsIn K d z = some (some r) := fun z hz => by
  obtain ⟨q, hq, rfl⟩ := List.mem_map.mp hz
  obtain ⟨_, _, u, _, _, e, _⟩ := h q hq
  exact ⟨u, e⟩
theorem wipeP_idem {e : PEnv} {vs : List Nat} : wipeP (wipeP e vs) vs = wipeP e vs := by
  refine List.ext_getElem? fun i => ?_
  by_cases hi : i < e.length
  · by_cases hv : i ∈ vs
    · rw [wipeP_no hv (by rw [wipeP_len]; exact hi), wipeP_no hv hi]
    · have out : ∀ (us : List Nat) (e : PEnv), i ∉ us → (wipeP e us)[i]? = e[i]? := by
        intro us
        induction us with
        | nil => intro e _; rfl
        | cons u us ih =>
          intro e h
          unfold wipeP
          rw [List.getElem?_set_ne (fun z => h (by rw [z]; exact List.mem_cons_self)), ih e fun z => h (List.mem_cons_of_mem _ z)]
      rw [out vs _ hv]
  · rw [List.getElem?_eq_none (by rw [wipeP_len, wipeP_len]; omega), List.getElem?_eq_none (by rw [wipeP_len]; omega)]
section
variable {α : Type} {l : List α} {e : α → PyData} {env : PEnv} {g : PTg} {t : PTst} {f : PEx} {vs : List Nat} {C : PK}
/-- a comprehension without effects: each item gives a value, or none -/
theorem lc_filterP (F : α → Option PyData) (hl : l.length < sizeLine) (hb : ∀ (j : Nat) (a : α), l[j]? = some a → ∀ Q : Option PyData → PEnv → Prop, Q (F a) (wipeP env vs) → g (e a) (wipeP env vs) fun e3 => t e3 fun b e4 => IfP b (f e4 (fun p e5 => match p with
      | .dat d => Q (some d) (wipeP e5 vs)
      | _ => False)) (Q none (wipeP e4 vs))) (hc : C (.own (l.filterMap F)) (wipeP env vs)) (hf : fgtB env vs = true := by rfl) : LcOk (l.map e) env g t f vs C := by
  refine ⟨hf, fun j e2 acc => e2 = wipeP env vs ∧ acc = (l.take j).filterMap F, ⟨rfl, rfl⟩, ?_, ?_⟩
  · rintro j x e2 acc hx ⟨rfl, rfl⟩
    rw [List.getElem?_map] at hx
    obtain ⟨a, ha, rfl⟩ := Option.map_eq_some_iff.mp hx
    rw [wipeP_idem]
    have tk : l.take (j + 1) = l.take j ++ [a] := by rw [List.take_succ, ha]; rfl
    refine hb j a ha (fun od e' => match od with
      | some d => ((l.take j).filterMap F).length < sizeLine ∧ e' = wipeP env vs ∧ (l.take j).filterMap F ++ [d] = (l.take (j + 1)).filterMap F
      | none => e' = wipeP env vs ∧ (l.take j).filterMap F = (l.take (j + 1)).filterMap F) ?_
    have lt : ((l.take j).filterMap F).length < sizeLine := Nat.lt_of_le_of_lt (List.length_filterMap_le _ _) (by rw [List.length_take]; omega)
    rw [tk, List.filterMap_append]
    cases q : F a with
    | none => exact ⟨rfl, by simp [q]⟩
    | some d => exact ⟨lt, rfl, by simp [q]⟩
  · rintro e2 acc ⟨rfl, rfl⟩
    rw [List.length_map, List.take_length, wipeP_idem]
    exact hc
theorem lc_mapP (F : α → PyData) (hl : l.length < sizeLine) (hb : ∀ (j : Nat) (a : α), l[j]? = some a → ∀ Q : Option PyData → PEnv → Prop, Q (some (F a)) (wipeP env vs) → g (e a) (wipeP env vs) fun e3 => t e3 fun b e4 => IfP b (f e4 (fun p e5 => match p with
      | .dat d => Q (some d) (wipeP e5 vs)
      | _ => False)) (Q none (wipeP e4 vs))) (hc : C (.own (l.map F)) (wipeP env vs)) (hf : fgtB env vs = true := by rfl) : LcOk (l.map e) env g t f vs C :=
  lc_filterP (fun a => some (F a)) hl hb (by rw [List.filterMap_eq_map']; exact hc) hf
end
theorem szl {n : Nat} (h : n ≤ 1000000) : n < sizeLine := by
  rw [sizeLine_eq]
  omega
theorem szle {n : Nat} (h : n ≤ 1000000) : n ≤ sizeLine := Nat.le_of_lt (szl h)
theorem szr {n : Nat} (h : Nat.ble n 1000000 = true := by rfl) : n ≤ sizeLine := szle (Nat.le_of_ble_eq_true h)
theorem szn {n : Nat} (h : Nat.ble n 1000000 = true := by rfl) : n < sizeLine := szl (Nat.le_of_ble_eq_true h)
theorem ne_w {a b : Str} (h : ¬ a = b) : decide (a = b) = false := decide_eq_false h
theorem eq_w {a b : Str} (h : a = b) : decide (a = b) = true := decide_eq_true h
theorem IfP.as {b b' : Bool} {A B : Prop} (h : b = b') (x : IfP b' A B) : IfP b A B := by
  rw [h]
  exact x
theorem in_strs (w : Str) : ∀ ns : List Str, ((ns.map PyData.str).any fun z => PyData.eqv z (.str w)) = decide (w ∈ ns)
  | [] => rfl
  | n :: ns => by
    rw [List.map_cons, List.any_cons, in_strs w ns]
    have e : PyData.eqv (.str n) (.str w) = decide (n = w) := by
      show (n == w) = decide (n = w)
      by_cases h : n = w
      · rw [decide_eq_true h, h]
        exact beq_self_eq_true w
      · rw [decide_eq_false h]
        exact beq_eq_false_iff_ne.mpr h
    rw [e]
    by_cases h : n = w
    · rw [decide_eq_true h, Bool.true_or]
      exact (decide_eq_true (by rw [h]; exact List.mem_cons_self)).symm
    · rw [decide_eq_false h, Bool.false_or]
      have : (w ∈ n :: ns) ↔ w ∈ ns := by rw [List.mem_cons]; exact ⟨fun z => z.elim (fun z => absurd z.symm h) id, .inr⟩
      simp only [this]
theorem inS (w : Str) (ns : List Str) : (false ^^ ((ns.map PyData.str).any fun z => PyData.eqv z (.str w))) = decide (w ∈ ns) := by
  rw [Bool.false_xor, in_strs]
theorem in_nums (k : Int) : ∀ ns : List Int, ((ns.map PyData.int).any fun z => PyData.eqv z (.int k)) = decide (k ∈ ns)
  | [] => rfl
  | n :: ns => by
    rw [List.map_cons, List.any_cons, in_nums k ns]
    have e : PyData.eqv (.int n) (.int k) = decide (n = k) := by
      show (n == k) = decide (n = k)
      by_cases h : n = k
      · rw [decide_eq_true h, h]
        exact beq_self_eq_true k
      · rw [decide_eq_false h]
        exact beq_eq_false_iff_ne.mpr h
    rw [e]
    by_cases h : n = k
    · rw [decide_eq_true h, Bool.true_or]
      exact (decide_eq_true (by rw [h]; exact List.mem_cons_self)).symm
    · rw [decide_eq_false h, Bool.false_or]
      have : (k ∈ n :: ns) ↔ k ∈ ns := by rw [List.mem_cons]; exact ⟨fun z => z.elim (fun z => absurd z.symm h) id, .inr⟩
      simp only [this]
theorem inN (k : Int) (ns : List Int) : (false ^^ ((ns.map PyData.int).any fun z => PyData.eqv z (.int k))) = decide (k ∈ ns) := by
  rw [Bool.false_xor, in_nums]
theorem flat_strs (ns : List Str) : ∀ z ∈ ns.map PyData.str, flatD z = true := fun z hz => by
  obtain ⟨n, _, rfl⟩ := List.mem_map.mp hz
  rfl
theorem flat_ints (ns : List Int) : ∀ z ∈ ns.map PyData.int, flatD z = true := fun z hz => by
  obtain ⟨n, _, rfl⟩ := List.mem_map.mp hz
  rfl

/-! ### all and any of a generator expression: a word, as for a list comprehension -/
section
/-- the code of a generator expression that runs -/
abbrev gLoop (elt tg iter : Expr) (ifs : List Expr) (scope : Scope) (gp : Pos) (it : Addr) (ce : Env) : Code := .compLoop (.GeneratorExp elt [⟨tg, iter, ifs, 0⟩] scope gp) 0 (.ref it) .none ce
abbrev gStart (elt tg iter : Expr) (ifs : List Expr) (scope : Scope) (gp : Pos) (it : Addr) (ce : Env) : Code := .compStart (.GeneratorExp elt [⟨tg, iter, ifs, 0⟩] scope gp) 0 (.ref it) .none ce
/-- around a generator's frame -/
def gAround (A : Around) (ce : Env) (st : List Env) : Around := ⟨A.handled, A.depth + 1, some (ce :: st), A.guards, A.units + 3⟩
theorem pushGuards_nil (x : Option (List Code)) : pushGuards [] x = x := rfl
theorem over_gLoop {A : Around} {elt tg iter : Expr} {ifs : List Expr} {scope : Scope} {gp : Pos} {it : Addr} {ce : Env} {st : List Env} (hf : A.frames = some st) : A.over (gLoop elt tg iter ifs scope gp it ce) [] = gAround A ce st := by
  obtain ⟨hd, d, fr, gs, u⟩ := A
  have hf : fr = some st := hf
  subst hf
  simp [Around.over, gAround, marksOver, frameCount, unitsOf, envsOf, guardsOf, pushEnvs, pushGuards, Code.envs, Code.env?, Code.isFrame, Code.guards, Code.isGuard, Code.weight, Code.frames, Code.isCreation, Code.isCaller, Code.cUnits]
theorem over_gStart {A : Around} {elt tg iter : Expr} {ifs : List Expr} {scope : Scope} {gp : Pos} {it : Addr} {ce : Env} {st : List Env} (hf : A.frames = some st) : A.over (gStart elt tg iter ifs scope gp it ce) [] = gAround A ce st := by
  obtain ⟨hd, d, fr, gs, u⟩ := A
  have hf : fr = some st := hf
  subst hf
  simp [Around.over, gAround, marksOver, frameCount, unitsOf, envsOf, guardsOf, pushEnvs, pushGuards, Code.envs, Code.env?, Code.isFrame, Code.guards, Code.isGuard, Code.weight, Code.frames, Code.isCreation, Code.isCaller, Code.cUnits]
theorem room_gen {k : Nat} {A : Around} {ce : Env} {st : List Env} (r : Room (k + 1) A) : Room k (gAround A.in1.in1 ce st) := by
  refine ⟨r.hd, ?_, ?_⟩
  · have := r.dp
    show A.depth + 1 + 3 * k + 5 < _
    omega
  · have := r.un
    show A.units + 1 + 1 + 3 + 16 * k + 200 < _
    omega
end

/-! ### all and any of a generator expression: the frame -/
section
variable {X : Cx} {pins : List (Addr × Obj)} {σ : L2.St} {H : Hp} {s : Shared}
/-- a generator's frame, seen from s -/
abbrev genCx (X : Cx) (s : Shared) (H : Hp) (ce : Env) (A : Around) (fp : List Addr) (pn : List (Addr × Obj)) : Cx :=
  { X with A := A, s_0 := s, H_0 := H, env := ce, outer := X.stack, stack := ce :: X.stack, ex := fp, fn := fun _ => false, pn := pn, xe := fun _ _ => False }
/-- the heap grows, the table of generators turns -/
theorem inv_later {h' : Heap} {g' : Array GenState} {d' : Drawn} {t' : Nat} (I : Inv X pins σ H s) (k : ∀ b o, s.heap.get? b = some o → h'.get? b = some o) (hg : AllBare g') : Inv X pins σ H { s with heap := h', gens := g', drawn := d', toks := t' } :=
  I.step (ch := []) (fun _ z => nomatch z) (fun b o _ _ _ e _ => k b o e) (fun b o _ _ _ e _ => ⟨o.slots, k b o e⟩) (fun _ _ _ _ n => n) (fun b o _ e => ⟨o, k b o e⟩) (fun _ _ e => e) (fun _ _ _ e => e) (fun b ps e => ⟨#[], by rw [e]; simp⟩) (fun m hm => hm.keeps k) (I.hok.kept k) hg
theorem inv_later' {s' : Shared} (I : Inv X pins σ H s) (os : s'.os = s.os) (k : ∀ b o, s.heap.get? b = some o → s'.heap.get? b = some o) (hg : AllBare s'.gens) : Inv X pins σ H s' := by
  obtain ⟨h', g', d', t', o'⟩ := s'
  have e : o' = s.os := os
  subst e
  exact inv_later I k hg
/-- the frame's own facts: its names; captured ones are cells of the def -/
structure GenOk (N : List Str) (sc scope : Scope) (own : List (Str × Nat)) : Prop where
  blk : BlkOk N sc scope own
  co : scope.isCoroutine = false
  nocell : ∀ y ∈ scope.names, y.2 ≠ NameKind.cell
  dot : scope.names.lookup (".0" : Str) = some NameKind.local
theorem gen_begin {scope : Scope} {own : List (Str × Nat)} {fp : List Addr} {A : Around} {s' : Shared} {code : Value} {ga : Addr} {go : Obj} {m : Str → Option Value} (I : Inv X pins σ H s) (ok : GenOk X.N X.env.scope scope own) (hN : X.N.Nodup)
    (hfp : ∀ b ∈ fp, FpOk X pins H b ∧ b < s.heap.objs.size) (hA : A.handled = none) (hfr : A.frames = some (genEnv scope (cloFrom X.env.cells scope.names []) s.heap.objs.size code builtinsNs X.env :: X.stack))
    (os : s'.os = s.os) (bare : AllBare s'.gens) (kp : ∀ b o, s.heap.get? b = some o → s'.heap.get? b = some o) (ns : s'.heap.Ns s.heap.objs.size m) (hga : s.heap.objs.size < ga) (hgo : s'.heap.get? ga = some go) (hgd : ∀ v, go.data ≠ .cell v) :
    Inv (genCx X s H (genEnv scope (cloFrom X.env.cells scope.names []) s.heap.objs.size code builtinsNs X.env) A fp [(ga, go)]) [] (wipe σ (own.map (·.2))) H s' := by
  have hfree : ∀ y ∈ scope.names, y.2 = .free → ∃ c, X.env.cells.lookup y.1 = some c := fun y hy e =>
    (ok.blk.free y hy e).elim (fun z => I.ok.has _ (.inl z)) fun z => I.ok.has _ (.inr z)
  generalize hce : genEnv scope (cloFrom X.env.cells scope.names []) s.heap.objs.size code builtinsNs X.env = ce at hfr ⊢
  have cL : ce.locals = s.heap.objs.size := by rw [← hce]; rfl
  have cC : ce.cells = cloFrom X.env.cells scope.names [] := by rw [← hce]; rfl
  have cS : ce.scope = scope := by rw [← hce]; rfl
  have cm : ∀ {y c}, (y, c) ∈ cloFrom X.env.cells scope.names [] → X.env.cells.lookup y = some c ∧ c < s.heap.objs.size := fun {y c} hm => by
    rcases cloFrom_mem hm with z | ⟨z, rfl⟩
    · cases z
    · obtain ⟨c, hc⟩ := hfree _ z rfl
      rw [hc]
      obtain ⟨w, hw⟩ := I.cell _ _ hc
      exact ⟨rfl, hw.lt⟩
  have mem : ∀ {y c}, ce.cells.lookup y = some c → X.env.cells.lookup y = some c ∧ c < s.heap.objs.size := fun {y c} e => cm (PySem.mem_of_lookup (by rw [← cC]; exact e))
  have look : ∀ {y}, scope.names.lookup y = some .free → ∃ c, ce.cells.lookup y = some c ∧ X.env.cells.lookup y = some c := fun {y} hl => by
    obtain ⟨c, hc⟩ := mem_lookup (cloFrom_has (cells := X.env.cells) (acc := []) (PySem.mem_of_lookup hl))
    rw [← cC] at hc
    exact ⟨c, hc, (mem hc).1⟩
  have nocell : ∀ {y k}, ce.kindOf y = some k → k = .local ∨ k = .free ∨ (k ≠ .local ∧ k ≠ .cell ∧ k ≠ .free) := fun {y k} hk => by
    have hk : ce.scope.names.lookup y = some k := hk
    rw [cS] at hk
    have := ok.nocell _ (PySem.mem_of_lookup hk)
    cases k <;> simp_all
  have kL : ∀ {x : Str} {c : Addr}, X.env.cells.lookup x = some c → c < s.heap.objs.size := fun {x c} e => by
    obtain ⟨w, hw⟩ := I.cell _ _ e
    exact hw.lt
  have yok : (genCx X s H ce A fp [(ga, go)]).Ok := by
    refine ⟨I.ok.mod, ?_, ?_, ?_, ?_, fun y z c e1 e2 => ?_, fun y hy => ?_, fun y c e => (by cases e), fun _ => hA, hfr, .inr ⟨rfl, ?_⟩, fun b hb => ⟨?_, fun y c e z => ?_⟩, I.bs, Nat.le_trans I.ok.bsz I.sz, fun b o e hb => ?_, fun b hb z => ?_, I.stack, I.stkFree⟩
    · show ce.scope.kind = _
      rw [cS]
      exact ok.blk.kind
    · show ce.globals = _
      rw [← hce]
      exact I.ok.glob
    · show ce.builtins = _
      rw [← hce]
      rfl
    · show s.heap.objs.size ≤ ce.locals
      exact Nat.le_of_eq cL.symm
    · exact I.ok.inj y z c (mem e1).1 (mem e2).1
    · rcases hy with hy | hy
      · rcases nocell hy with z | z | ⟨_, z, _⟩
        · cases z
        · cases z
        · exact absurd rfl z
      · have hy : ce.scope.names.lookup y = some .free := hy
        rw [cS] at hy
        obtain ⟨c, h1, _⟩ := look hy
        exact ⟨c, h1⟩
    · rw [← hce]
      rfl
    · show b ≠ ce.locals
      rw [cL]
      exact Nat.ne_of_lt (hfp b hb).2
    · exact (hfp b hb).1.2.2.2.2.1 y c (mem e).1 z
    · rcases (hfp b hb).1.2.2.2.1 with z | z
      · exact I.ok.noex b o e z
      · exact absurd (Nat.lt_of_lt_of_le (Heap.lt_size e) (Nat.le_trans I.ok.bsz z)) (Nat.lt_irrefl _)
    · rcases List.mem_cons.mp (I.stkSub b z) with z | z
      · exact (hfp b hb).1.2.1 z
      · exact (hfp b hb).1.2.2.1 z
  refine ⟨yok, os, bare, Un.kept kp, ⟨m, by show s'.heap.Ns ce.locals m; rw [cL]; exact ns, fun i y av e1 e2 e3 => ?_⟩, fun y c e => ?_, ?_, fun y c e => I.freeC y c (mem e).1, fun p hp => ?_, I.hok.kept kp, by rw [wipe_length]; exact I.len⟩
  · obtain ⟨e2, hne⟩ := wipe_some e2
    have e3 : Vis ce.scope y := e3
    rw [cS] at e3
    have hf : scope.names.lookup y = some .free := by
      have no : ∀ k, scope.names.lookup y = some k → k = .local ∨ k = .cell → False := fun k hk hh => by
        rcases ok.blk.own _ (PySem.mem_of_lookup hk) hh with z | z
        · obtain ⟨p, hp, hpy⟩ := List.mem_map.mp z
          have q := ok.blk.ix p hp
          rw [show p.1 = y from hpy] at q
          exact hne (List.mem_map.mpr ⟨p, hp, nodup_ix hN q e1⟩)
        · exact z (List.mem_of_getElem? e1)
      rcases e3 with z | z | z
      · exact (no _ z (.inl rfl)).elim
      · exact (no _ z (.inr rfl)).elim
      · exact z
    obtain ⟨m0, _, hl⟩ := I.loc
    have fr := ok.blk.free _ (PySem.mem_of_lookup hf) rfl
    obtain ⟨w, r, q⟩ := hl i y av e1 e2 (fr.elim (fun z => .inr (.inl z)) fun z => .inr (.inr z))
    obtain ⟨c, h1, h2⟩ := look hf
    refine ⟨w, r, .inr ⟨.inr (by show ce.scope.names.lookup y = _; rw [cS]; exact hf), c, h1, ?_⟩⟩
    rcases q with ⟨z, _⟩ | ⟨_, c', e', z⟩
    · have z : X.env.scope.names.lookup y = some .local := z
      rcases fr with z' | z' <;> rw [show X.env.scope.names.lookup y = _ from z'] at z <;> cases z
    · rw [h2] at e'
      cases e'
      exact z.keeps kp
  · obtain ⟨w, z⟩ := I.cell y c (mem e).1
    exact ⟨w, z.keeps kp⟩
  · show H ce.locals = none
    rw [cL]
    exact I.hok.fresh (Nat.le_refl _)
  · have hp : p = (ga, go) := by simpa using hp
    subst hp
    refine ⟨hgo, I.hok.fresh (Nat.le_of_lt hga), ?_, fun hb => ?_, hgd⟩
    · show ga ≠ ce.locals
      rw [cL]
      exact Nat.ne_of_gt hga
    · have lt : ∀ b ∈ frs X.stack, b < s.heap.objs.size := fun b hb => by
        obtain ⟨_, o, ho, _⟩ := I.stack.mem hb
        exact Heap.lt_size ho
      exact absurd (lt ga hb) (Nat.not_lt.mpr (Nat.le_of_lt hga))
end

/-! ### all and any of a generator expression: the loop -/
section
/-- the reading: d = true for all, false for any; P: the def's table; W by the turn and a measure -/
def tAll (d : Bool) (P : Addr) (wi : TI) (g : TG) (tt : TT) (te : TE) (vs : List Nat) : TE := fun σ H Q => wi σ H fun J H1 => GxR.TabG H1 P ∧ ∀ H2, GxR.Tabbed P H1 H2 → ∃ W : Nat → Nat → Hp → Prop, (∃ m, W 0 m H2) ∧
  ∀ i m H, W i m H → (J.stop i H ∧ Q (.bl d) H) ∨ (J.go i H ∧ ∃ Nx : Hp → Prop, (∀ H', Nx H' → ∃ m', m' < m ∧ W (i + 1) m' H') ∧
    ∀ x H', J.yld i H x H' → g x (wipe σ vs) H' fun σ2 H3 => wipe σ2 vs = wipe σ vs ∧ tt σ2 H3 fun b H4 => if b = true then te σ2 H4 fun y H5 => ∃ c, y = .bl c ∧ (c = d → Nx H5) ∧ (c ≠ d → Q (.bl c) H5) else Nx H4)
/-- what stays while the generator sleeps -/
def Later (s s' : Shared) : Prop := s'.os = s.os ∧ AllBare s'.gens ∧ ∀ b o, s.heap.get? b = some o → s'.heap.get? b = some o
variable {Y : Cx} {σ : L2.St} {elt tg iter : Expr} {ifs : List Expr} {scope : Scope} {gp : Pos} {it : Addr} {fp : List Addr} {tn : Nat → Heap → Prop} {J : It} {g : TG} {tt : TT} {te : TE} {vs : List Nat} {d : Bool} {Q : VK} {W : Nat → Nat → Hp → Prop}
/-- at the loop's head -/
def GHead (Y : Cx) (σ : L2.St) (fp : List Addr) (tn : Nat → Heap → Prop) (i : Nat) (H : Hp) (s : Shared) : Prop := Inv Y [] σ H s ∧ tn i s.heap ∧ ∀ b ∈ fp, H b = none
def GYld (Y : Cx) (σ : L2.St) (fp : List Addr) (tn : Nat → Heap → Prop) (d : Bool) (Q : VK) (W : Nat → Nat → Hp → Prop) : Protocol := fun n _ v s kap =>
  ∃ (i : Nat) (H : Hp) (c : Bool), v = .bool c ∧ GHead Y σ fp tn i H s ∧ (c ≠ d → Q (.bl c) H) ∧ (c = d → (∃ m, m < n ∧ W i m H) ∧ ∀ s', Later s s' → kap (.send .none) s')
def GEnd (Y : Cx) (σ : L2.St) (d : Bool) (Q : VK) : Nat → Shared → Shared → Prop := fun _ _ s => ∃ H, Inv Y [] σ H s ∧ Q (.bl d) H
theorem GHead.later {i : Nat} {H : Hp} {s s' : Shared} (T : Turn Y.prog Y.w Y.K tg J fp it tn) (h : GHead Y σ fp tn i H s) (l : Later s s') : GHead Y σ fp tn i H s' :=
  ⟨inv_later' h.1 l.1 l.2.2 l.2.1, T.keep _ _ _ h.2.1 fun b _ o e => l.2.2 b o e, h.2.2⟩
theorem GHead.stat {H : Hp} {s : Shared} (hY : Y.ex = fp) (hpn : ∀ p ∈ Y.pn, p.1 ∉ fp) (I : Inv Y [] σ H s) (n : ∀ b ∈ fp, H b = none) : ∀ b ∈ fp, FpOk Y [] H b := fun b hb => by
  have hx : b ∈ Y.ex := by rw [hY]; exact hb
  exact ⟨n b hb, (I.ok.exf b hx).1, I.ok.exfs b hx, .inl hx, fun x c e => (I.ok.exf b hx).2 x c e, fun p hp z => hpn p (by simpa using hp) (z ▸ hb)⟩
theorem seg_gLoop {A : Around} {ce : Env} (hce : Y.env = ce) (hA : A.over (gLoop elt tg iter ifs scope gp it ce) [] = Y.A) (hc : Y.calm = true) (hco : ce.scope.isCoroutine = false) (hY : Y.ex = fp) (hpn : ∀ p ∈ Y.pn, p.1 ∉ fp) (hxe : ∀ e z, ¬ Y.xe e z)
    (T : Turn Y.prog Y.w Y.K tg J fp it tn) (pg : PG Y tg g) (pt : PTs Y ifs tt) (pe : PE Y elt te)
    (turn : ∀ i m H, W i m H → (J.stop i H ∧ Q (.bl d) H) ∨ (J.go i H ∧ ∃ Nx : Hp → Prop, (∀ H', Nx H' → ∃ m', m' < m ∧ W (i + 1) m' H') ∧
      ∀ x H', J.yld i H x H' → g x (wipe σ vs) H' fun σ2 H3 => wipe σ2 vs = wipe σ vs ∧ tt σ2 H3 fun b H4 => if b = true then te σ2 H4 fun y H5 => ∃ c, y = .bl c ∧ (c = d → Nx H5) ∧ (c ≠ d → Q (.bl c) H5) else Nx H4)) :
    ∀ (m n i : Nat) (H : Hp) (s₀ s : Shared), m < n → W i m H → GHead Y (wipe σ vs) fp tn i H s →
      Seg (model Y.prog Y.w) A (fun n s₀ r s₁ => r = .ok .next ∧ GEnd Y (wipe σ vs) d Q n s₀ s₁) (GYld Y (wipe σ vs) fp tn d Q W) n s₀ (gLoop elt tg iter ifs scope gp it ce) ((model Y.prog Y.w).den (gLoop elt tg iter ifs scope gp it ce)) [] s := by
  intro m
  induction m using Nat.strongRecOn with
  | ind m ih =>
    intro n i H s₀ s hmn w ⟨I, st, nf⟩
    show Seg _ A _ _ n s₀ _ ((compTurn (.GeneratorExp elt [⟨tg, iter, ifs, 0⟩] scope gp) 0 (.ref it) .none ce).onRaise (leaving ce)) [] s
    rw [compTurn_gen, Sem.onRaise_eq_wrap]
    refine seg_bind_wrap (wpAny_standAt ?_)
    have noE : ∀ {α : Type} {t : Sem α} {R R' : α → Shared → Prop} {E : Value → Shared → Prop} {z : Shared}, wpAny (model Y.prog Y.w) Y.A t R Y.xe z → (∀ a z, R a z → R' a z) → wpAny (model Y.prog Y.w) Y.A t R' E z := fun h k => wpAny_mono h k fun e z q => (hxe e z q).elim
    rcases turn i m H w with ⟨stop, q⟩ | ⟨go, Nx, hNx, step⟩
    · refine seg_bind_wrap ?_
      rw [hA]
      refine thnF (T.done Y rfl rfl rfl hc i [] s _ H (fun _ _ => False) I (GHead.stat hY hpn I nf) st stop) fun r s1 ⟨hr, I1⟩ => ?_
      subst hr
      exact seg_end (.ok .next) ⟨rfl, H, I1, q⟩
    · refine seg_bind_wrap ?_
      rw [hA]
      refine thnF (T.item Y rfl rfl rfl hc i [] s _ H (fun _ _ => False) I (GHead.stat hY hpn I nf) st go) fun r s1 ⟨u, hr, h1⟩ => ?_
      subst hr
      refine seg_bind_wrap ?_
      rw [hA]
      refine thnF h1 fun _ s2 ⟨x, H2, I2, r2, y2, st2, n2⟩ => ?_
      have I2' := I2.pinned (GHead.stat hY hpn I2 n2) (T.obj _ _ st2)
      refine seg_bind_wrap ?_
      rw [hA, ← hce]
      refine noE (pg.run _ s2 _ H2 x u _ I2' r2 (step x H2 y2)) fun _ s3 ⟨σ3, H3, I3, w3, q3⟩ => ?_
      refine seg_bind_wrap ?_
      rw [hce, hA, ← hce]
      refine noE (pt.run _ s3 σ3 H3 _ I3 q3) fun b s4 ⟨H4, I4, q4⟩ => ?_
      have fin : ∀ {s' : Shared} {H' : Hp}, Inv Y ([] ++ pinsAt fp s2.heap) σ3 H' s' → GHead Y (wipe σ vs) fp tn (i + 1) H' s' := fun {s' H'} I' => by
        have pin' : ∀ b ∈ fp, ∀ o, s2.heap.get? b = some o → s'.heap.get? b = some o ∧ H' b = none := fun b hb o e =>
          have z := I'.pin (b, o) (List.mem_append_right _ (List.mem_append_right _ (mem_pinsAt hb e)))
          ⟨z.1, z.2.1⟩
        refine ⟨(I'.unpinned (pins := [])).weak (by rw [← w3, wipe_length]) fun j v e => ?_, T.keep _ _ _ st2 fun b hb o e => (pin' b hb o e).1, fun b hb => ?_⟩
        · rw [← w3] at e
          exact (wipe_some e).1
        · obtain ⟨o, e, _⟩ := T.obj _ _ st2 b hb
          exact (pin' b hb o e).2
      cases b with
      | false =>
        have q4 : Nx H4 := q4
        obtain ⟨m', hm, w'⟩ := hNx H4 q4
        rw [hce]
        exact seg_again rfl (ih m' hm n (i + 1) H4 s₀ s4 (by omega) w' (fin I4))
      | true =>
        have hy : ∀ v, yieldOut Y.env v = yieldValue v := fun v => by simp only [yieldOut, hce, hco, Bool.false_eq_true, if_false]
        simp only [if_true, hy]
        rw [Sem.bind_eq_wrap', Sem.bind_eq_wrap', Sem.wrap_wrap, Sem.wrap_wrap]
        refine seg_wrap ?_
        rw [hce, hA, ← hce]
        refine noE (pe.run _ s4 σ3 H4 _ I4 q4) fun z s5 ⟨yv, H5, I5, r5, c, e5, k1, k2⟩ => ?_
        subst e5
        obtain rfl : z = Value.bool c := r5
        obtain ⟨n', rfl⟩ : ∃ n', n = n' + 1 := ⟨n - 1, by omega⟩
        refine seg_at (seg_yield rfl rfl rfl ⟨i + 1, H5, c, rfl, fin I5, k2, fun hcd => ?_⟩)
        obtain ⟨m', hm, w'⟩ := hNx H5 (k1 hcd)
        refine ⟨⟨m', by omega, w'⟩, fun s' l => ?_⟩
        rw [hce]
        exact seg_again rfl (ih m' hm n' (i + 1) H5 s' s' (by omega) w' ((fin I5).later T l))
theorem seg_gStart {A : Around} {ce : Env} (hA : A.over (gStart elt tg iter ifs scope gp it ce) [] = Y.A) (T : Turn Y.prog Y.w Y.K tg J fp it tn) {R : GenEnd} {P : Protocol} {n : Nat} {s₀ s : Shared} (st : tn 0 s.heap)
    (h : Seg (model Y.prog Y.w) A R P n s₀ (gLoop elt tg iter ifs scope gp it ce) ((model Y.prog Y.w).den (gLoop elt tg iter ifs scope gp it ce)) [] s) :
    Seg (model Y.prog Y.w) A R P n s₀ (gStart elt tg iter ifs scope gp it ce) ((model Y.prog Y.w).den (gStart elt tg iter ifs scope gp it ce)) [] s := by
  show Seg _ A R P n s₀ _ ((compStart (.GeneratorExp elt [⟨tg, iter, ifs, 0⟩] scope gp) 0 (.ref it) .none ce).onRaise (leaving ce)) [] s
  unfold compStart
  rw [Sem.onRaise_eq_wrap]
  show Seg _ A R P n s₀ _ ((ask >>= _).wrap _ _ _ _) [] s
  refine seg_bind_wrap (wpAny_askSetting ?_)
  split
  · exact seg_again rfl h
  · refine seg_bind_wrap (wpAny_rule ?_)
    show Seg _ A R P n s₀ _ ((standAt iter.pos >>= _).wrap _ _ _ _) [] s
    exact seg_bind_wrap (wpAny_standAt (seg_bind_wrap (T.self _ 0 s _ _ st (seg_again rfl h))))
end

/-! ### all and any of a generator expression: who asks it -/
section
variable {Y : Cx} {σ : L2.St} {fp : List Addr} {tn : Nat → Heap → Prop} {J : It} {tg : Expr} {it : Addr} {d : Bool} {Q : VK} {W : Nat → Nat → Hp → Prop}
/-- the generator at a sleeps, or has not begun -/
def GRest (Y : Cx) (σ : L2.St) (fp : List Addr) (tn : Nat → Heap → Prop) (d : Bool) (Q : VK) (W : Nat → Nat → Hp → Prop) (A : Around) (g n : Nat) (s : Shared) : Prop :=
  (∃ H, Inv Y [] σ H s) ∧ ∃ gs, s.gens[g]? = some gs ∧ gs.Goes (model Y.prog Y.w) A (fun n s₀ r s₁ => r = .ok .next ∧ GEnd Y σ d Q n s₀ s₁) (GYld Y σ fp tn d Q W) n (.send .none) (s.setGen g .running)
theorem next_gRest {A : Around} {a : Addr} {go : Obj} {g n : Nat} {s : Shared} {R : Option Value → Shared → Prop} {E : Value → Shared → Prop} (T : Turn Y.prog Y.w Y.K tg J fp it tn) (hpn : (a, go) ∈ Y.pn) (hgo : ∀ h : Heap, h.get? a = some go → h.IsGen a g) (hh : A.handled = none) (hd : A.depth < recursionLimit)
    (h : GRest Y σ fp tn d Q W A.in1 g n s) (h0 : ∀ s' H, Inv Y [] σ H s' → Q (.bl d) H → R none s') (h1 : ∀ c s' H, c ≠ d → Inv Y [] σ H s' → Q (.bl c) H → R (some (.bool c)) s')
    (h2 : ∀ m s', n = m + 1 → GRest Y σ fp tn d Q W A.in1 g m s' → R (some (.bool d)) s') : wpAny (model Y.prog Y.w) A (pyNext (.ref a)) R E s := by
  obtain ⟨⟨H, I⟩, gs, hgs, goes⟩ := h
  have gl : g + 1 ≤ s.gens.size := (Array.getElem?_eq_some_iff.mp hgs).1
  refine GenW.wpAny_gsz gl (wpAny_pyNext_genexpQ hh I.nolimit hd (hgo _ (I.pin (a, go) (List.mem_append_left _ hpn)).1) hgs goes (fun v s1 gs' bare hv => ?_) fun s1 hp h' hk => ?_)
  · intro sz
    obtain ⟨i, H1, c, rfl, hd1, q1, q2⟩ := hv
    have sz1 : g < s1.gens.size := by
      rw [GenW.setGen_size] at sz
      omega
    have l1 : Later s1 (s1.setGen g gs') := ⟨rfl, allBare_setGen hd1.1.bare bare, fun _ _ e => e⟩
    by_cases hc : c = d
    · subst hc
      obtain ⟨⟨m, hm, w⟩, k⟩ := q2 rfl
      cases n with
      | zero => omega
      | succ n =>
        refine h2 n _ rfl ⟨⟨H1, inv_later' hd1.1 l1.1 l1.2.2 l1.2.1⟩, gs', setGen_at sz1, ?_⟩
        exact k _ ⟨rfl, allBare_setGen (s := s1.setGen g gs') l1.2.1 rfl, fun _ _ e => e⟩
    · exact h1 c _ H1 hc (inv_later' hd1.1 l1.1 l1.2.2 l1.2.1) (q1 hc)
  · intro _
    obtain ⟨H1, I1, q⟩ := hp
    exact h0 _ H1 (inv_later (s := s1) (g' := (s1.setGen g .finished).gens) I1 hk (allBare_setGen I1.bare rfl)) q
theorem ask_all {a : Addr} {go : Obj} {g : Nat} {A : Around} {R : Result → Shared → Prop} (hd1 : d = true) (T : Turn Y.prog Y.w Y.K tg J fp it tn) (hpn : (a, go) ∈ Y.pn) (hgo : ∀ h : Heap, h.get? a = some go → h.IsGen a g) (hh : A.handled = none) (hd : A.depth < recursionLimit)
    (hR : ∀ c s' H, Inv Y [] σ H s' → Q (.bl c) H → R (.ok (.ret (.bool c))) s') : ∀ (n : Nat) (s : Shared), GRest Y σ fp tn d Q W A.in1.in1 g n s → codeAny (model Y.prog Y.w) A (.builtin "all.loop" ⟨[.ref a], []⟩) R s := by
  subst hd1
  intro n
  induction n with
  | zero =>
    intro s h
    refine codeAny_builtin F.entry_all_loop ?_
    rw [Around.under_plainId F.plain_all_loop _]
    refine wpAny_bind (m := pyNext (.ref a)) (next_gRest (A := A.in1) T hpn hgo hh hd h (fun s' H I q => ?_) (fun c s' H hc I q => ?_) fun m s' e => (by omega))
    · exact wpAny_bind (wpAny_rule (wpAny_pure (hR true s' H I q)))
    · have hc : c = false := by simpa using hc
      subst hc
      refine wpAny_bind (wpAny_holding (wpAny_truthy_bool (wpAny_bind (wpAny_letGo ?_))))
      exact wpAny_bind (wpAny_rule (wpAny_pure (hR false s' H I q)))
  | succ n ih =>
    intro s h
    refine codeAny_builtin F.entry_all_loop ?_
    rw [Around.under_plainId F.plain_all_loop _]
    refine wpAny_bind (m := pyNext (.ref a)) (next_gRest (A := A.in1) T hpn hgo hh hd h (fun s' H I q => ?_) (fun c s' H hc I q => ?_) fun m s' e h' => ?_)
    · exact wpAny_bind (wpAny_rule (wpAny_pure (hR true s' H I q)))
    · have hc : c = false := by simpa using hc
      subst hc
      refine wpAny_bind (wpAny_holding (wpAny_truthy_bool (wpAny_bind (wpAny_letGo ?_))))
      exact wpAny_bind (wpAny_rule (wpAny_pure (hR false s' H I q)))
    · obtain rfl : m = n := by omega
      refine wpAny_bind (wpAny_holding (wpAny_truthy_bool (wpAny_bind (wpAny_letGo ?_))))
      exact wpAny_pure ⟨plainId_quiet F.plain_all_loop _, ih s' h'⟩
theorem ask_any {a : Addr} {go : Obj} {g : Nat} {A : Around} {R : Result → Shared → Prop} (hd1 : d = false) (T : Turn Y.prog Y.w Y.K tg J fp it tn) (hpn : (a, go) ∈ Y.pn) (hgo : ∀ h : Heap, h.get? a = some go → h.IsGen a g) (hh : A.handled = none) (hd : A.depth < recursionLimit)
    (hR : ∀ c s' H, Inv Y [] σ H s' → Q (.bl c) H → R (.ok (.ret (.bool c))) s') : ∀ (n : Nat) (s : Shared), GRest Y σ fp tn d Q W A.in1.in1 g n s → codeAny (model Y.prog Y.w) A (.builtin "any.loop" ⟨[.ref a], []⟩) R s := by
  subst hd1
  intro n
  induction n with
  | zero =>
    intro s h
    refine codeAny_builtin F.entry_any_loop ?_
    rw [Around.under_plainId F.plain_any_loop _]
    refine wpAny_bind (m := pyNext (.ref a)) (next_gRest (A := A.in1) T hpn hgo hh hd h (fun s' H I q => ?_) (fun c s' H hc I q => ?_) fun m s' e => (by omega))
    · exact wpAny_bind (wpAny_rule (wpAny_pure (hR false s' H I q)))
    · have hc : c = true := by simpa using hc
      subst hc
      refine wpAny_bind (wpAny_holding (wpAny_truthy_bool (wpAny_bind (wpAny_letGo ?_))))
      exact wpAny_bind (wpAny_rule (wpAny_pure (hR true s' H I q)))
  | succ n ih =>
    intro s h
    refine codeAny_builtin F.entry_any_loop ?_
    rw [Around.under_plainId F.plain_any_loop _]
    refine wpAny_bind (m := pyNext (.ref a)) (next_gRest (A := A.in1) T hpn hgo hh hd h (fun s' H I q => ?_) (fun c s' H hc I q => ?_) fun m s' e h' => ?_)
    · exact wpAny_bind (wpAny_rule (wpAny_pure (hR false s' H I q)))
    · have hc : c = true := by simpa using hc
      subst hc
      refine wpAny_bind (wpAny_holding (wpAny_truthy_bool (wpAny_bind (wpAny_letGo ?_))))
      exact wpAny_bind (wpAny_rule (wpAny_pure (hR true s' H I q)))
    · obtain rfl : m = n := by omega
      refine wpAny_bind (wpAny_holding (wpAny_truthy_bool (wpAny_bind (wpAny_letGo ?_))))
      exact wpAny_pure ⟨plainId_quiet F.plain_any_loop _, ih s' h'⟩
end

/-! ### all and any of a generator expression: the rule -/
section
variable {X : Cx} {pins : List (Addr × Obj)} {σ : L2.St} {H : Hp} {s : Shared}
/-- what the generator's frame is, whatever its places are -/
abbrev genIn (X : Cx) (s : Shared) (H : Hp) (scope : Scope) (cl : List (Str × Addr)) (C : Addr) (code : Value) (fp : List Addr) (pn : List (Addr × Obj)) : Cx :=
  genCx X s H (genEnv scope cl C code builtinsNs X.env) (gAround X.A.in1.in1 (genEnv scope cl C code builtinsNs X.env) X.stack) fp pn
theorem gen_rest {c P : Addr} {elt tg iter : Expr} {ifs : List Expr} {gp : Pos} {scope : Scope} {own : List (Str × Nat)} {wi : TI} {g : TG} {tt : TT} {te : TE} {d : Bool} {k : Nat} {Q : VK} {Q' : Value → Shared → Prop}
    (hr : Room k X.A) (hc : X.calm = true) (hN : X.N.Nodup) (TB : GxR.TabB X.base X.mg c P) (hcode : X.env.code = .ref c) (ok : GenOk X.N X.env.scope scope own) (hi : PI X tg iter wi)
    (hg : ∀ (s : Shared) (H : Hp) (cl : List (Str × Addr)) (C : Addr) (code : Value) (fp : List Addr) (pn : List (Addr × Obj)), PG (genIn X s H scope cl C code fp pn) tg g)
    (ht : ∀ (s : Shared) (H : Hp) (cl : List (Str × Addr)) (C : Addr) (code : Value) (fp : List Addr) (pn : List (Addr × Obj)), PTs (genIn X s H scope cl C code fp pn) ifs tt)
    (he : ∀ (s : Shared) (H : Hp) (cl : List (Str × Addr)) (C : Addr) (code : Value) (fp : List Addr) (pn : List (Addr × Obj)), PE (genIn X s H scope cl C code fp pn) elt te)
    (hs : ∀ v, genFold iter X.env v = pure v) (I : Inv X pins σ H s) (h : tAll d P wi g tt te (own.map (·.2)) σ H Q)
    (hQ : ∀ (Y : Cx) (fp : List Addr) (tn : Nat → Heap → Prop) (J : It) (it a : Addr) (go : Obj) (gi n : Nat) (W : Nat → Nat → Hp → Prop) (s' : Shared), Y.prog = X.prog → Y.w = X.w → Turn Y.prog Y.w Y.K tg J fp it tn → (a, go) ∈ Y.pn → (∀ h : Heap, h.get? a = some go → h.IsGen a gi) → s'.heap.IsGen a gi →
      GRest Y (wipe σ (own.map (·.2))) fp tn d Q W X.A.in1.in1 gi n s' → (∀ s2 H2, Inv Y [] (wipe σ (own.map (·.2))) H2 s2 → Inv X pins σ H2 s2) → Q' (.ref a) s') :
    wpAny (model X.prog X.w) X.A (eval (.GeneratorExp elt [⟨tg, iter, ifs, 0⟩] scope gp) X.env) Q' X.xe s := by
  have hfree : ∀ y ∈ scope.names, y.2 = .free → ∃ c, X.env.cells.lookup y.1 = some c := fun y hy e =>
    (ok.blk.free y hy e).elim (fun z => I.ok.has _ (.inl z)) fun z => I.ok.has _ (.inr z)
  refine wpAny_GeneratorExp_make ok.co (closure_ok hfree) ok.nocell ok.dot ok.blk.kind (by have := hr.dp; omega) ?_ hs
  refine thn (hi.run pins s σ H _ I h) fun xv s1 hx => thn hx fun itv s2 h2 => ?_
  obtain ⟨it, fp, tn, J, H2, rfl, I2, T, st2, f2, ⟨ps, hP, htr⟩, q⟩ := h2
  have hPs : s2.heap.get? P = some { cls := .none, data := .fields ps } := I2.hok P _ hP
  have cd : PySem.W.CodeHd s2.heap c P := TB.code.keeps fun b u e => I2.bk b u e
  refine ⟨I2.nolimit, ?_⟩
  have cont : ∀ (code : Value) (h3 : Heap) (tk : Nat) (ps' : Array Value), Heap.ExtBut P s2.heap h3 → h3.get? P = some { cls := .none, data := .fields ps' } → (∃ more, ps' = ps ++ more) → TriplesOk ps'.toList →
      wpAny (model X.prog X.w) X.A (builtinsFor X.env.globals X.env.builtins) (fun bi s₄ =>
        ∀ h', h'.Ns s₄.heap.objs.size (fun y => if y = ".0" then some (Value.ref it) else none) → Heap.SameBut s₄.heap.objs.size (s₄.heap.push { cls := .type "frame", data := .dict #[] }) h' →
          Q' (.ref h'.objs.size) { s₄ with
            gens := s₄.gens.push (.fresh (.compStart (.GeneratorExp elt [⟨tg, iter, ifs, 0⟩] scope gp) 0 (.ref it) .none (genEnv scope (cloFrom X.env.cells scope.names []) s₄.heap.objs.size code bi X.env))),
            toks := s₄.toks + 1 + 1 + 1,
            heap := h'.push { cls := .type "generator", data := .fields #[.int s₄.gens.size 0, .str "<genexpr>" (s₄.toks + 1), .str (X.env.qual ++ "<genexpr>") (s₄.toks + 1 + 1)] } }) X.xe { s2 with heap := h3, toks := tk } := by
    intro code h3 tk ps' hx hP3 ⟨more, em⟩ ht3
    subst em
    have I3 : Inv X pins σ (upd H2 P (.tbl (ps ++ more))) { s2 with heap := h3, toks := tk } := GxR.inv_tab (g' := s2.gens) (d' := s2.drawn) I2 hP (fun b o hb e => hx b o hb e) hP3 I2.bare
    have nfp : ∀ b ∈ fp, b ≠ P := fun b hb z => by
      have := (f2 b hb).1
      rw [z, hP] at this
      cases this
    have tb : GxR.Tabbed P H2 (upd H2 P (.tbl (ps ++ more))) := ⟨⟨_, upd_same, ht3⟩, fun b hb => upd_ne hb⟩
    obtain ⟨W, ⟨m0, w0⟩, turn⟩ := q _ tb
    have f3 : ∀ b ∈ fp, FpOk X pins (upd H2 P (.tbl (ps ++ more))) b ∧ b < h3.objs.size := fun b hb => by
      obtain ⟨o, e, _⟩ := T.obj _ _ st2 b hb
      refine ⟨⟨by rw [upd_ne (nfp b hb)]; exact (f2 b hb).1, (f2 b hb).2⟩, Heap.lt_size (hx b o (nfp b hb) e)⟩
    have st3 : tn 0 h3 := T.keep _ _ _ st2 fun b hb o e => hx b o (nfp b hb) e
    obtain ⟨bm, ob, e1, e2, e3, e4, e5, e6, e7, e8⟩ := TB.bm
    refine wpAny_builtinsFor (m := X.mg) (by rw [I3.ok.glob]; exact I3.mod.glob.keeps I3.bk) e1 e2 (I3.bk _ _ e5) e6 e7 e8 ?_
    intro h' hn' hsb
    generalize hs3 : ({ s2 with heap := h3, toks := tk } : Shared) = s3 at I3 hn' hsb ⊢
    have eh : s3.heap = h3 := by rw [← hs3]
    rw [← eh] at st3 f3
    generalize hH3 : upd H2 P (.tbl (ps ++ more)) = H3 at I3 w0 f3
    have hsz : h'.objs.size = s3.heap.objs.size + 1 := by rw [hsb.1, Heap.size_push]
    have keep' : ∀ b o, s3.heap.get? b = some o → h'.get? b = some o := fun b o e => hsb.extBut b o (Nat.ne_of_lt (Heap.lt_size e)) (Heap.get?_push_of_some _ e)
    generalize hgo : ({ cls := .type "generator", data := .fields #[.int s3.gens.size 0, .str "<genexpr>" (s3.toks + 1), .str (X.env.qual ++ "<genexpr>") (s3.toks + 1 + 1)] } : Obj) = go
    have goA : (h'.push go).get? h'.objs.size = some go := Heap.get?_push_size _ (by rw [← hgo] <;> rfl)
    have keep5 : ∀ b o, s3.heap.get? b = some o → (h'.push go).get? b = some o := fun b o e => Heap.get?_push_of_some _ (keep' b o e)
    have isg : ∀ h : Heap, h.get? h'.objs.size = some go → h.IsGen h'.objs.size s3.gens.size := fun h e => ⟨_, _, _, e, by rw [← hgo], by rw [← hgo], by rw [← hgo]⟩
    generalize hce : genEnv scope (cloFrom X.env.cells scope.names []) s3.heap.objs.size code builtinsNs X.env = ce
    have bare5 : AllBare (s3.gens.push (.fresh (.compStart (.GeneratorExp elt [⟨tg, iter, ifs, 0⟩] scope gp) 0 (.ref it) .none ce))) := I3.bare.push rfl
    have hfr : X.A.in1.in1.frames = some X.stack := I3.ok.frames
    have I5 := gen_begin (A := gAround X.A.in1.in1 ce X.stack) (code := code) (ga := h'.objs.size) (go := go) (s' := { s3 with gens := s3.gens.push (.fresh (.compStart (.GeneratorExp elt [⟨tg, iter, ifs, 0⟩] scope gp) 0 (.ref it) .none ce)), toks := s3.toks + 1 + 1 + 1, heap := h'.push go }) I3 ok hN f3 (by show X.A.handled = none; exact hr.hd) (by rw [hce]; rfl) rfl bare5 keep5 (hn'.push _) (by omega) goA (fun v z => by rw [← hgo] at z; cases z)
    have hg' : PG (genCx X s3 H3 ce (gAround X.A.in1.in1 ce X.stack) fp [(h'.objs.size, go)]) tg g := by rw [← hce]; exact hg s3 H3 (cloFrom X.env.cells scope.names []) s3.heap.objs.size code fp [(h'.objs.size, go)]
    have ht' : PTs (genCx X s3 H3 ce (gAround X.A.in1.in1 ce X.stack) fp [(h'.objs.size, go)]) ifs tt := by rw [← hce]; exact ht s3 H3 (cloFrom X.env.cells scope.names []) s3.heap.objs.size code fp [(h'.objs.size, go)]
    have he' : PE (genCx X s3 H3 ce (gAround X.A.in1.in1 ce X.stack) fp [(h'.objs.size, go)]) elt te := by rw [← hce]; exact he s3 H3 (cloFrom X.env.cells scope.names []) s3.heap.objs.size code fp [(h'.objs.size, go)]
    rw [hce] at I5
    have ceS : ce.scope.isCoroutine = false := by rw [← hce]; exact ok.co
    have szf : ∀ b ∈ fp, b < s3.heap.objs.size := fun b hb => (f3 b hb).2
    refine hQ (genCx X s3 H3 ce (gAround X.A.in1.in1 ce X.stack) fp [(h'.objs.size, go)]) fp tn J it h'.objs.size go s3.gens.size (m0 + 1) W _ rfl rfl T (List.mem_cons_self) isg (isg _ goA) ⟨⟨H3, I5⟩, _, Array.getElem?_push_size .., rfl, ?_⟩ fun s6 H6 I6 => ?_
    · refine seg_gStart (Y := genCx X s3 H3 ce (gAround X.A.in1.in1 ce X.stack) fp [(h'.objs.size, go)]) (over_gStart hfr) T (T.keep _ _ _ st3 fun b hb o e => keep5 b o e) ?_
      refine seg_gLoop (Y := genCx X s3 H3 ce (gAround X.A.in1.in1 ce X.stack) fp [(h'.objs.size, go)]) rfl (over_gLoop hfr) hc ceS rfl (fun p hp hb => ?_) (fun _ _ z => z) T hg' ht' he' turn m0 (m0 + 1) 0 H3 _ _ (by omega) w0 ⟨?_, T.keep _ _ _ st3 fun b hb o e => keep5 b o e, fun b hb => (f3 b hb).1.1⟩
      · rw [List.mem_singleton.mp hp] at hb
        have z : h'.objs.size < s3.heap.objs.size := szf _ hb
        omega
      · exact inv_later (d' := s3.drawn) (t' := s3.toks + 1 + 1 + 1) I5 (fun _ _ e => e) (allBare_setGen bare5 rfl)
    · exact I3.call' (ch := fp) I6.os I6.base I6.hok I6.bare fun b hb => ⟨(f3 b hb).1.2.2.2.1, (f3 b hb).1.2.1, (f3 b hb).1.2.2.2.2.1, (f3 b hb).1.2.2.2.2.2⟩
  cases hf : codeAmong gp ps.toList with
  | none =>
    refine wpAny_genexprCodeX hcode (cd.code hPs htr) (cd.tab hPs) hf fun c' h' tk hx hge hlt hco' _ htab' _ => ?_
    obtain ⟨o1, vs, f1, tf, fl, tg', inF, tx, tt', op, _, _, _, _, _, _, _, _, _, htr', _⟩ := hco'
    exact cont _ h' tk _ hx htab'.2 ⟨_, rfl⟩ htr'
  | some cv =>
    refine wpAny_genexprCode_hit hcode (cd.code hPs htr) hf ?_
    exact cont cv s2.heap s2.toks ps (Heap.ExtBut.refl _ _) hPs ⟨#[], by simp⟩ htr
theorem pe_allG {c P : Addr} {elt tg iter : Expr} {ifs : List Expr} {p pos gp : Pos} {scope : Scope} {own : List (Str × Nat)} {wi : TI} {g : TG} {tt : TT} {te : TE} {k : Nat}
    (hr : Room k X.A) (hc : X.calm = true) (hN : X.N.Nodup) (hgl : Gl X "all") (hm : X.mg "all" = none) (TB : GxR.TabB X.base X.mg c P) (hcode : X.env.code = .ref c) (ok : GenOk X.N X.env.scope scope own) (hi : PI X tg iter wi)
    (hg : ∀ (s : Shared) (H : Hp) (cl : List (Str × Addr)) (C : Addr) (code : Value) (fp : List Addr) (pn : List (Addr × Obj)), PG (genIn X s H scope cl C code fp pn) tg g)
    (ht : ∀ (s : Shared) (H : Hp) (cl : List (Str × Addr)) (C : Addr) (code : Value) (fp : List Addr) (pn : List (Addr × Obj)), PTs (genIn X s H scope cl C code fp pn) ifs tt)
    (he : ∀ (s : Shared) (H : Hp) (cl : List (Str × Addr)) (C : Addr) (code : Value) (fp : List Addr) (pn : List (Addr × Obj)), PE (genIn X s H scope cl C code fp pn) elt te)
    (hs : ∀ v, genFold iter X.env v = pure v := by intro _; rfl)
    (hst : starEach [.GeneratorExp elt [⟨tg, iter, ifs, 0⟩] scope gp] X.env = (false, eval (.GeneratorExp elt [⟨tg, iter, ifs, 0⟩] scope gp) X.env) :: starEach [] X.env := by rfl) :
    PE X (.Call (.Name "all" p) [.GeneratorExp elt [⟨tg, iter, ifs, 0⟩] scope gp] [] pos) (tAll true P wi g tt te (own.map (·.2))) := by
  refine ⟨fun pins s σ H Q I h => ?_⟩
  refine wpAny_Call_Name_kw (ld_blt I hgl hm boot_all ?_)
  refine PyProof.Rows.callWith_builtin1 ?_ hst (by rfl)
  rw [hst]
  show wpAny _ _ (spliced ((false, eval (.GeneratorExp elt [⟨tg, iter, ifs, 0⟩] scope gp) X.env) :: backTo pos (starEach [] X.env))) _ _ s
  refine Calls.spliced_cons (gen_rest hr hc hN TB hcode ok hi hg ht he hs I h fun Y fp tn J it a go gi n W s' hp hw T hpn isg ig rest back => ?_)
  refine Calls.spliced_nil ?_
  refine call_function_tree F.kind_all F.plain_all F.entry_all (F.args_all1 _) ?_
  unfold Builtin.«all»
  refine wpAny_bind (m := oneArg "all" _) (wpAny_pure (wpAny_bind (wpAny_pyIter_gen ig (wpAny_pure ⟨plainId_quiet F.plain_all_loop _, ?_⟩))))
  rw [← hp, ← hw] at *
  exact ask_all (d := true) rfl T hpn isg hr.hd (by have := hr.dp; omega) (fun b s2 H2 I2 q => ⟨.bl b, H2, back s2 H2 I2, rfl, q⟩) n s' rest
theorem pe_anyG {c P : Addr} {elt tg iter : Expr} {ifs : List Expr} {p pos gp : Pos} {scope : Scope} {own : List (Str × Nat)} {wi : TI} {g : TG} {tt : TT} {te : TE} {k : Nat}
    (hr : Room k X.A) (hc : X.calm = true) (hN : X.N.Nodup) (hgl : Gl X "any") (hm : X.mg "any" = none) (TB : GxR.TabB X.base X.mg c P) (hcode : X.env.code = .ref c) (ok : GenOk X.N X.env.scope scope own) (hi : PI X tg iter wi)
    (hg : ∀ (s : Shared) (H : Hp) (cl : List (Str × Addr)) (C : Addr) (code : Value) (fp : List Addr) (pn : List (Addr × Obj)), PG (genIn X s H scope cl C code fp pn) tg g)
    (ht : ∀ (s : Shared) (H : Hp) (cl : List (Str × Addr)) (C : Addr) (code : Value) (fp : List Addr) (pn : List (Addr × Obj)), PTs (genIn X s H scope cl C code fp pn) ifs tt)
    (he : ∀ (s : Shared) (H : Hp) (cl : List (Str × Addr)) (C : Addr) (code : Value) (fp : List Addr) (pn : List (Addr × Obj)), PE (genIn X s H scope cl C code fp pn) elt te)
    (hs : ∀ v, genFold iter X.env v = pure v := by intro _; rfl)
    (hst : starEach [.GeneratorExp elt [⟨tg, iter, ifs, 0⟩] scope gp] X.env = (false, eval (.GeneratorExp elt [⟨tg, iter, ifs, 0⟩] scope gp) X.env) :: starEach [] X.env := by rfl) :
    PE X (.Call (.Name "any" p) [.GeneratorExp elt [⟨tg, iter, ifs, 0⟩] scope gp] [] pos) (tAll false P wi g tt te (own.map (·.2))) := by
  refine ⟨fun pins s σ H Q I h => ?_⟩
  refine wpAny_Call_Name_kw (ld_blt I hgl hm boot_any ?_)
  refine PyProof.Rows.callWith_builtin1 ?_ hst (by rfl)
  rw [hst]
  show wpAny _ _ (spliced ((false, eval (.GeneratorExp elt [⟨tg, iter, ifs, 0⟩] scope gp) X.env) :: backTo pos (starEach [] X.env))) _ _ s
  refine Calls.spliced_cons (gen_rest hr hc hN TB hcode ok hi hg ht he hs I h fun Y fp tn J it a go gi n W s' hp hw T hpn isg ig rest back => ?_)
  refine Calls.spliced_nil ?_
  refine call_function_tree F.kind_any F.plain_any F.entry_any (F.args_any1 _) ?_
  unfold Builtin.«any»
  refine wpAny_bind (m := oneArg "any" _) (wpAny_pure (wpAny_bind (wpAny_pyIter_gen ig (wpAny_pure ⟨plainId_quiet F.plain_any_loop _, ?_⟩))))
  rw [← hp, ← hw] at *
  exact ask_any (d := false) rfl T hpn isg hr.hd (by have := hr.dp; omega) (fun b s2 H2 I2 q => ⟨.bl b, H2, back s2 H2 I2, rfl, q⟩) n s' rest
end

/-! ### all(e for x in xs), any(..) over the value layer -/
inductive AllOk (d : Bool) (items : List PyData) (e : PEnv) (g : PTg) (t : PTst) (f : PEx) (vs : List Nat) (C : PK) : Prop where
  | mk (hf : fgtB e vs = true) (W : Nat → PEnv → Prop) (w0 : W 0 (wipeP e vs)) (turn : ∀ j x e2, items[j]? = some x → W j e2 → g x (wipeP e2 vs) fun e3 => t e3 fun b e4 => IfP b (f e4 (fun p e5 => match p with
      | .dat (.bool c) => (c = d → W (j + 1) (wipeP e5 vs)) ∧ (c ≠ d → C (.dat (.bool c)) (wipeP e5 vs))
      | _ => False)) (W (j + 1) (wipeP e4 vs))) (fin : ∀ e2, W items.length e2 → C (.dat (.bool d)) (wipeP e2 vs))
def pAll (d : Bool) (it : PIt) (g : PTg) (t : PTst) (f : PEx) (vs : List Nat) : PEx := fun env C => it env fun items e => AllOk d items e g t f vs C
section
variable {K : PySem.W.Frag} {G : Gam} {Z : Addr → Prop} {H H2 : Hp} {σ : L2.St} {env : PEnv} {T : Stk}
theorem StZ.tabbed {P : Addr} (s : StZ K G Z H σ env T) (hP : GxR.TabG H P) (tb : GxR.Tabbed P H H2) : StZ K G Z H2 σ env T := by
  obtain ⟨ps, hp, _⟩ := hP
  have nP : ∀ {b o}, H b = some o → (∀ ps, o ≠ .tbl ps) → H2 b = some o := fun {b o} e n => by
    rw [tb.2 b fun z => by rw [z, hp] at e; exact n ps (Option.some.inj e).symm]
    exact e
  have al : ∀ b, H b ≠ none → H2 b ≠ none := fun b h => by
    by_cases z : b = P
    · obtain ⟨qs, e, _⟩ := tb.1
      rw [z, e]
      exact fun z => by cases z
    · rw [tb.2 b z]
      exact h
  have m : Mv K Z H Z H2 := Mv.ofT (fun _ => False) (fun b o e n _ => nP e n) (fun _ h => h.elim) (fun _ z => z) fun a h => by
    by_cases z : a = P
    · rw [z]
      exact tb.1
    · obtain ⟨qs, e, t⟩ := h
      exact ⟨qs, by rw [tb.2 a z]; exact e, t⟩
  refine s.move m (fun a o oa e => ?_) (fun a oa => by obtain ⟨_, _, _, n⟩ := s.own_any oa; exact n) (fun _ z => z) (fun _ z => .inl z) (fun a z => al a (s.z3 a z)) (fun b o e _ n _ _ => nP e n) al fun d c e => ?_
  · by_cases z : a = P
    · have w : ∃ o, H a = some o ∧ WrO o := by
        rcases oa with ⟨i, oi⟩ | ⟨t, ht, ot⟩
        · exact (s.ownS oi).1
        · exact ((s.tm t ht).own ot).1
      obtain ⟨o', e1, w'⟩ := w
      rw [z, hp] at e1
      cases e1
      rcases w' with ⟨_, z⟩ | ⟨_, z⟩ | ⟨_, z⟩ <;> cases z
    · rw [tb.2 a z]
      exact e
  · obtain ⟨cells, k, big, seed, cnt, h1, h2, h3⟩ := s.dr d c e
    exact ⟨cells, k, big, seed, cnt, nP h1 (fun _ z => by cases z), nP h2 (fun _ z => by cases z), h3⟩
end
section
variable {X : Cx} {G : Gam} {e : Expr} {it : PIt} {g : PTg} {t : PTst} {f : PEx} {vs : List Nat} {d : Bool}
theorem allP {P : Addr} (hP : P ∈ G.tbs) (σ : L2.St) (H : Hp) (Q : VK) (h : tE X.K G (pAll d it g t f vs) σ H Q) : tAll d P (tI X.K G it) (tG X.K G (some vs) g) (tQ X.K G t) (tE X.K G f) vs σ H Q := by
  obtain ⟨env, T, C, s, h, k⟩ := h
  refine ⟨env, T, _, s, h, fun items e1 u H1 J h1 nbt ⟨Z1, s1⟩ wk => ?_⟩
  obtain ⟨hf, W, w0, turn, fin⟩ := h1
  refine ⟨s1.tk P hP, fun H2 tb => ?_⟩
  have s2 := s1.tabbed (s1.tk P hP) tb
  have nbv := s1.fgtB hf
  have ww : wipe (wipe σ vs) vs = wipe σ vs := wipe_wipe vs fun _ h => h
  refine ⟨fun i m H => m = items.length - i ∧ i ≤ items.length ∧ ∃ env, W i env ∧ StE X.K G H (wipe σ vs) (wipeP env vs) (u :: T), ⟨_, rfl, Nat.zero_le _, wipeP e1 vs, w0, Z1, ?_⟩, ?_⟩
  · exact StZ.wipeA (StZ.wipeS nbv (StZ.wipeS nbv s2))
  · rintro i m H3 ⟨rfl, hi, e2, w2, Z2, s3⟩
    obtain ⟨go, stop⟩ := wk Z2 H3 _ _ _ s3 List.mem_cons_self
    by_cases hlt : i < items.length
    · obtain ⟨g1, g2⟩ := go i _ (List.getElem?_eq_getElem hlt)
      refine .inr ⟨g1, fun H => ∃ env, W (i + 1) env ∧ StE X.K G H (wipe σ vs) (wipeP env vs) (u :: T), fun H' x => ⟨items.length - (i + 1), by omega, rfl, hlt, x⟩, fun x H4 y => ?_⟩
      refine ⟨wipeP e2 vs, u :: T, _, _, (fun z => by cases z), ⟨Z2, g2 x H4 y⟩, turn i _ e2 (List.getElem?_eq_getElem hlt) w2, fun e3 σ3 H3 h3 s3 hw => ?_⟩
      have hw3 : wipe σ3 vs = wipe σ vs := (hw vs rfl).trans ww
      refine ⟨hw3, e3, _, _, s3, h3, fun b e4 H4 h4 s4 => ?_⟩
      have back : ∀ {Z H5 e5}, StZ X.K G Z H5 σ3 e5 (u :: T) → StE X.K G H5 (wipe σ vs) (wipeP (wipeP e5 vs) vs) (u :: T) := fun {Z H5 e5} s5 => by
        have s6 := (StZ.wipeS nbv (StZ.wipeS nbv s5)).wipeA
        rw [hw3] at s6
        exact ⟨Z, s6⟩
      cases b with
      | true =>
        refine ⟨e4, _, _, s4, h4.tt, fun p e5 v H5 h5 ⟨Z5, s5⟩ => ?_⟩
        cases p with
        | dat q =>
          cases q with
          | bool c =>
            have hv := s5.topDat
            cases hv
            refine ⟨c, rfl, fun z => ⟨_, h5.1 z, back s5.pop⟩, fun z => ?_⟩
            have s6 := (StZ.wipeS nbv s5.pop).wipeA
            rw [hw3] at s6
            exact k _ _ _ _ (h5.2 z) ⟨Z5, (s6.wipeB.pop).dat rfl⟩
          | _ => exact h5.elim
        | _ => exact h5.elim
      | false =>
        obtain ⟨Z4, s4⟩ := s4
        exact ⟨_, h4.ff, back s4⟩
    · have e : i = items.length := by omega
      subst e
      exact .inl ⟨stop, k _ _ _ _ (fin e2 w2) ⟨Z2, s3.wipeB.pop.dat rfl⟩⟩
theorem pe_allP {P : Addr} (hP : P ∈ G.tbs) (h : PE X e (tAll d P (tI X.K G it) (tG X.K G (some vs) g) (tQ X.K G t) (tE X.K G f) vs)) : PE X e (tE X.K G (pAll d it g t f vs)) := h.le (allP hP)
end

/-! ### helps for all, any -/
section
variable {α : Type} {l : List α} {e : α → PyData} {env : PEnv} {g : PTg} {t : PTst} {f : PEx} {vs : List Nat} {C : PK}
/-- without effects, without a test behind -/
theorem all_mapP (F : α → Bool) (hb : ∀ (j : Nat) (a : α), l[j]? = some a → ∀ (Q : Bool → PEnv → Prop) (R : PEnv → Prop), Q (F a) (wipeP env vs) → g (e a) (wipeP env vs) fun e3 => t e3 fun b e4 => IfP b (f e4 (fun p e5 => match p with
      | .dat (.bool c) => Q c (wipeP e5 vs)
      | _ => False)) (R (wipeP e4 vs))) (hc : C (.dat (.bool (l.all F))) (wipeP env vs)) (hf : fgtB env vs = true := by rfl) : AllOk true (l.map e) env g t f vs C := by
  refine ⟨hf, fun j e2 => e2 = wipeP env vs ∧ (l.take j).all F = true, ⟨rfl, rfl⟩, ?_, ?_⟩
  · rintro j x e2 hx ⟨rfl, hj⟩
    rw [List.getElem?_map] at hx
    obtain ⟨a, ha, rfl⟩ := Option.map_eq_some_iff.mp hx
    rw [wipeP_idem]
    have tk : (l.take (j + 1)).all F = ((l.take j).all F && F a) := by rw [List.take_succ, ha]; simp [List.all_append]
    refine hb j a ha (fun c e' => (c = true → e' = wipeP env vs ∧ (l.take (j + 1)).all F = true) ∧ (c ≠ true → C (.dat (.bool c)) e')) (fun e' => e' = wipeP env vs ∧ (l.take (j + 1)).all F = true) ⟨fun h => ⟨rfl, by rw [tk, hj, h]; rfl⟩, fun h => ?_⟩
    have hF : F a = false := by simpa using h
    have : l.all F = false := by
      rw [List.all_eq_false]
      exact ⟨a, List.mem_of_getElem? ha, by rw [hF]; decide⟩
    rw [hF, ← this]
    exact hc
  · rintro e2 ⟨rfl, hj⟩
    rw [List.length_map, List.take_length] at hj
    rw [wipeP_idem]
    rw [hj] at hc
    exact hc
theorem any_mapP (F : α → Bool) (hb : ∀ (j : Nat) (a : α), l[j]? = some a → ∀ (Q : Bool → PEnv → Prop) (R : PEnv → Prop), Q (F a) (wipeP env vs) → g (e a) (wipeP env vs) fun e3 => t e3 fun b e4 => IfP b (f e4 (fun p e5 => match p with
      | .dat (.bool c) => Q c (wipeP e5 vs)
      | _ => False)) (R (wipeP e4 vs))) (hc : C (.dat (.bool (l.any F))) (wipeP env vs)) (hf : fgtB env vs = true := by rfl) : AllOk false (l.map e) env g t f vs C := by
  refine ⟨hf, fun j e2 => e2 = wipeP env vs ∧ (l.take j).any F = false, ⟨rfl, rfl⟩, ?_, ?_⟩
  · rintro j x e2 hx ⟨rfl, hj⟩
    rw [List.getElem?_map] at hx
    obtain ⟨a, ha, rfl⟩ := Option.map_eq_some_iff.mp hx
    rw [wipeP_idem]
    have tk : (l.take (j + 1)).any F = ((l.take j).any F || F a) := by rw [List.take_succ, ha]; simp [List.any_append]
    refine hb j a ha (fun c e' => (c = false → e' = wipeP env vs ∧ (l.take (j + 1)).any F = false) ∧ (c ≠ false → C (.dat (.bool c)) e')) (fun e' => e' = wipeP env vs ∧ (l.take (j + 1)).any F = false) ⟨fun h => ⟨rfl, by rw [tk, hj, h]; rfl⟩, fun h => ?_⟩
    have hF : F a = true := by simpa using h
    have : l.any F = true := by
      rw [List.any_eq_true]
      exact ⟨a, List.mem_of_getElem? ha, hF⟩
    rw [hF, ← this]
    exact hc
  · rintro e2 ⟨rfl, hj⟩
    rw [List.length_map, List.take_length] at hj
    rw [wipeP_idem]
    rw [hj] at hc
    exact hc
end

/-! ### dicts of one's own: keys ints or texts, values data -/
def keyP : PyData → Option Key
  | .int n => some (.inl n)
  | .str z => some (.inr z)
  | _ => none
def getD (kvs : List (Key × PyData)) (k : Key) : Option PyData := (kvs.find? fun kv => decide (kv.1 = k)).map (·.2)
def putD (kvs : List (Key × PyData)) (k : Key) (v : PyData) : List (Key × PyData) := if (kvs.any fun kv => decide (kv.1 = k)) = true then kvs.map (fun kv => if kv.1 = k then (kv.1, v) else kv) else kvs ++ [(k, v)]
def pDNew : PEx := fun env C => C (.dic []) env
def dicAt (e : PEnv) (pd pk : Cel) : Option (Nat × List (Key × PyData) × Key) := match pd, pk with
  | .bor i, .dat dk => (match e[i]?, keyP dk with
    | some (.dic kvs), some k => some (i, kvs, k)
    | _, _ => none)
  | _, _ => none
def pDIn (n : Bool) (fk fd : PEx) : PTst := fun env C => fk env fun pk e1 => fd e1 fun pd e2 => match dicAt e2 pd pk with
  | some (_, kvs, k) => C (n ^^ (getD kvs k).isSome) e2
  | none => False
def pDGet (fd fk : PEx) : PEx := fun env C => fd env fun pd e1 => fk e1 fun pk e2 => match dicAt e2 pd pk with
  | some (_, kvs, k) => ∃ v, getD kvs k = some v ∧ C (.dat v) e2
  | none => False
def pDPut (fv fd fk : PEx) : PSt := fun E env => fv env fun pv e1 => fd e1 fun pd e2 => fk e2 fun pk e3 => match pv, dicAt e3 pd pk with
  | .dat v, some (i, kvs, k) => kvs.length < sizeLine ∧ E.nx (e3.set i (.dic (putD kvs k v)))
  | _, _ => False
section
variable {K : PySem.W.Frag} {G : Gam} {Z Z' : Addr → Prop} {H H' : Hp} {σ : L2.St} {env : PEnv} {T : Stk}
theorem KvAll.get {k : Key} : ∀ {kvs : List (Key × PyData)} {ws : List (Key × V)}, KvAll K Z H kvs ws → ((getD kvs k = none ∧ valV ws k = none) ∨ ∃ d v, getD kvs k = some d ∧ valV ws k = some v ∧ Da K Z H d v)
  | [], _, h => by cases h; exact .inl ⟨rfl, rfl⟩
  | p :: kvs, _, ⟨v, r, e, h1, h2⟩ => by
    subst e
    by_cases q : p.1 = k
    · refine .inr ⟨p.2, v, ?_, ?_, h1⟩
      · unfold getD
        rw [List.find?_cons_of_pos (by simpa using q)]
        rfl
      · unfold valV
        rw [List.find?_cons_of_pos (by simpa using q)]
        rfl
    · have e1 : getD (p :: kvs) k = getD kvs k := by
        unfold getD
        rw [List.find?_cons_of_neg (by simpa using q)]
      have e2 : valV ((p.1, v) :: r) k = valV r k := by
        unfold valV
        rw [List.find?_cons_of_neg (by simpa using q)]
      rw [e1, e2]
      exact KvAll.get h2
theorem KvAll.len : ∀ {kvs : List (Key × PyData)} {ws : List (Key × V)}, KvAll K Z H kvs ws → ws.length = kvs.length
  | [], _, h => by cases h; rfl
  | _ :: _, _, ⟨v, r, e, _, h2⟩ => by subst e; exact congrArg Nat.succ (KvAll.len h2)
theorem KvAll.app : ∀ {kvs lvs : List (Key × PyData)} {ws us : List (Key × V)}, KvAll K Z H kvs ws → KvAll K Z H lvs us → KvAll K Z H (kvs ++ lvs) (ws ++ us)
  | [], _, _, _, h, k => by cases h; exact k
  | _ :: _, _, _, us, ⟨v, r, e, h1, h2⟩, k => by subst e; exact ⟨v, r ++ us, rfl, h1, KvAll.app h2 k⟩
theorem KvAll.any {k : Key} : ∀ {kvs : List (Key × PyData)} {ws : List (Key × V)}, KvAll K Z H kvs ws → (ws.any fun kv => decide (kv.1 = k)) = (kvs.any fun kv => decide (kv.1 = k))
  | [], _, h => by cases h; rfl
  | p :: kvs, _, ⟨v, r, e, h1, h2⟩ => by
    subst e
    show (decide (p.1 = k) || _) = (decide (p.1 = k) || _)
    rw [KvAll.any h2]
theorem KvAll.upd {k : Key} {d : PyData} {v : V} (hd : Da K Z H d v) : ∀ {kvs : List (Key × PyData)} {ws : List (Key × V)}, KvAll K Z H kvs ws → KvAll K Z H (kvs.map fun kv => if kv.1 = k then (kv.1, d) else kv) (ws.map fun kv => if kv.1 = k then (kv.1, v) else kv)
  | [], _, h => by cases h; exact rfl
  | p :: kvs, _, ⟨u, r, e, h1, h2⟩ => by
    subst e
    by_cases q : p.1 = k
    · refine ⟨v, _, ?_, ?_, KvAll.upd hd h2⟩
      · show (if p.1 = k then (p.1, v) else (p.1, u)) :: _ = (((if p.1 = k then (p.1, d) else p) : Key × PyData).1, v) :: _
        rw [if_pos q, if_pos q]
      · show Da K Z H ((if p.1 = k then (p.1, d) else p) : Key × PyData).2 v
        rw [if_pos q]
        exact hd
    · refine ⟨u, _, ?_, ?_, KvAll.upd hd h2⟩
      · show (if p.1 = k then (p.1, v) else (p.1, u)) :: _ = (((if p.1 = k then (p.1, d) else p) : Key × PyData).1, u) :: _
        rw [if_neg q, if_neg q]
      · show Da K Z H ((if p.1 = k then (p.1, d) else p) : Key × PyData).2 u
        rw [if_neg q]
        exact h1
theorem KvAll.put {k : Key} {d : PyData} {v : V} (hd : Da K Z H d v) {kvs : List (Key × PyData)} {ws : List (Key × V)} (h : KvAll K Z H kvs ws) : KvAll K Z H (putD kvs k d) (putK ws k v) := by
  unfold putD putK
  rw [KvAll.any h]
  split
  · exact KvAll.upd hd h
  · exact KvAll.app h ⟨v, [], rfl, hd, rfl⟩
theorem StZ.newDic (s : StZ K G Z H σ env T) {p : Addr} (hp : H p = none) : StZ K G Z (upd H p (.dK [])) σ env ((.ref p, .dic []) :: T) := by
  have s2 := s.alloc (.dK []) hp
  refine s2.push ⟨p, [], rfl, upd_same, rfl, fun z => s.z3 p z hp, s.h0 hp⟩ (fun _ e => by cases e) (fun _ _ e => by cases e) (fun _ e => by cases e) fun a o oa => ?_
  rw [List.mem_singleton.mp o] at oa
  exact s.fresh hp (s.ownNew hp oa)
/-- the dict of a slot, borrowed -/
theorem StZ.dicB {i : Nat} {v : V} {kvs : List (Key × PyData)} (s : StZ K G Z H σ env T) (ht : (v, .bor i) ∈ T) (e : env[i]? = some (.dic kvs)) : σ[i]? = some (some v) ∧ ∃ a ws, v = .ref a ∧ H a = some (.dK ws) ∧ KvAll K Z H kvs ws ∧ ¬ Z a ∧ G.H0 a = none := by
  obtain ⟨e1, _⟩ := s.bo _ ht i rfl
  obtain ⟨ov, e2, a, ws, e3, h⟩ := s.sl i _ e
  rw [e1] at e2
  cases e2
  cases e3
  exact ⟨e1, a, ws, rfl, h⟩
theorem dicAt_some {pd pk : Cel} {i : Nat} {kvs : List (Key × PyData)} {k : Key} (h : dicAt env pd pk = some (i, kvs, k)) : pd = .bor i ∧ env[i]? = some (.dic kvs) ∧ ∃ d, pk = .dat d ∧ keyP d = some k := by
  unfold dicAt at h
  split at h
  · split at h
    · next h1 h2 =>
      cases h
      exact ⟨rfl, h1, _, rfl, h2⟩
    · cases h
  · cases h
theorem keyP_da {d : PyData} {k : Key} {v : V} (h : keyP d = some k) (hd : Da K Z H d v) : v = kV k := by
  cases d <;> first | (cases h; exact hd) | cases h
theorem StZ.dicPut {i : Nat} {kvs : List (Key × PyData)} {k : Key} {a : Addr} {ws : List (Key × V)} {d : PyData} {u : V} (s : StZ K G Z H σ env T) (e1 : σ[i]? = some (some (.ref a))) (e : env[i]? = some (.dic kvs)) (hd : Da K Z H d u) (ha : H a = some (.dK ws)) (hk : KvAll K Z H kvs ws) (nz : ¬ Z a) (h0 : G.H0 a = none) :
    StZ K G Z (upd H a (.dK (putK ws k u))) σ (env.set i (.dic (putD kvs k d))) T := by
  have m : Mv K Z H Z (upd H a (.dK (putK ws k u))) := Mv.ofW (fun b => b = a) (fun b o e n => upd_else e n) (fun b e => by subst e; exact ⟨_, ha, .inr (.inl ⟨ws, rfl⟩), nz⟩) fun _ z => z
  refine (s.dat (v := .non) (d := .none) rfl).chg (p' := .dic (putD kvs k d)) e1 e ⟨a, _, rfl, upd_same, KvAll.mv m _ _ (KvAll.put hd hk), nz, h0⟩ (fun b hb => .inl hb) (fun b o n e => upd_else e fun z => n (by rw [z]; exact List.mem_cons_self)) (fun b e => upd_some e) (fun _ => trivial) (s.nosub e fun _ z => by cases z) fun _ z => by cases z
end
section
variable {X : Cx} {G : Gam} {e a b c : Expr} {pos pos' : Pos} {fa fb fc : PEx} {st : Stmt}
theorem pe_dnewP (h : PE X e tDNewK) : PE X e (tE X.K G pDNew) := h.le fun σ H Q ⟨env, T, C, ⟨Z, s⟩, h, k⟩ => fun p hp => k _ _ _ _ h ⟨Z, s.newDic hp⟩
theorem pt_dinP (h : PT X e (tB (tDIn (tE X.K G fa) (tE X.K G fb)))) : PT X e (tQ X.K G (pDIn false fa fb)) := h.le fun σ H Q ⟨env, T, C, s, h, k⟩ => ⟨env, T, _, s, h, fun pk e1 y H1 h1 s1 => ⟨e1, _, _, s1, h1, fun pd e2 x H2 h2 ⟨Z2, s2⟩ => by
  split at h2
  · next i kvs key ed =>
    obtain ⟨rfl, ed1, d, rfl, kd⟩ := dicAt_some ed
    obtain ⟨_, a, ws, rfl, ha, hk, _⟩ := s2.dicB List.mem_cons_self ed1
    obtain rfl := keyP_da kd (s2.pop.topDat)
    refine ⟨a, _, rfl, DGet.k ha, _, rfl, k _ _ _ ?_ ⟨Z2, s2.pop.pop⟩⟩
    rcases hk.get (k := key) with ⟨g1, g2⟩ | ⟨u, w, g1, g2, _⟩
    · rw [g1] at h2
      rw [g2]
      exact h2
    · rw [g1] at h2
      rw [g2]
      exact h2
  · exact h2.elim⟩⟩
theorem pt_dninP (h : PT X e (tB (tDNotIn (tE X.K G fa) (tE X.K G fb)))) : PT X e (tQ X.K G (pDIn true fa fb)) := h.le fun σ H Q ⟨env, T, C, s, h, k⟩ => ⟨env, T, _, s, h, fun pk e1 y H1 h1 s1 => ⟨e1, _, _, s1, h1, fun pd e2 x H2 h2 ⟨Z2, s2⟩ => by
  split at h2
  · next i kvs key ed =>
    obtain ⟨rfl, ed1, d, rfl, kd⟩ := dicAt_some ed
    obtain ⟨_, a, ws, rfl, ha, hk, _⟩ := s2.dicB List.mem_cons_self ed1
    obtain rfl := keyP_da kd (s2.pop.topDat)
    refine ⟨a, _, rfl, DGet.k ha, _, rfl, k _ _ _ ?_ ⟨Z2, s2.pop.pop⟩⟩
    rcases hk.get (k := key) with ⟨g1, g2⟩ | ⟨u, w, g1, g2, _⟩
    · rw [g1] at h2
      rw [g2]
      exact h2
    · rw [g1] at h2
      rw [g2]
      exact h2
  · exact h2.elim⟩⟩
theorem pe_dgetP (h : PE X e (tDGet (tE X.K G fa) (tE X.K G fb))) : PE X e (tE X.K G (pDGet fa fb)) := h.le fun σ H Q ⟨env, T, C, s, h, k⟩ => ⟨env, T, _, s, h, fun pd e1 x H1 h1 s1 => ⟨e1, _, _, s1, h1, fun pk e2 y H2 h2 ⟨Z2, s2⟩ => by
  split at h2
  · next i kvs key ed =>
    obtain ⟨v, hv, hc⟩ := h2
    obtain ⟨rfl, ed1, d, rfl, kd⟩ := dicAt_some ed
    obtain ⟨_, a, ws, rfl, ha, hk, _⟩ := s2.dicB (List.mem_cons_of_mem _ List.mem_cons_self) ed1
    obtain rfl := keyP_da kd s2.topDat
    rcases hk.get (k := key) with ⟨g1, g2⟩ | ⟨u, w, g1, g2, g3⟩
    · rw [g1] at hv
      cases hv
    · rw [g1] at hv
      cases hv
      exact ⟨a, w, rfl, by rw [← g2]; exact DGet.k ha, k _ _ _ _ hc ⟨Z2, s2.pop.pop.dat g3⟩⟩
  · exact h2.elim⟩⟩
theorem ps_dputP (h : PS X st (sDPut (tE X.K G fb) (tE X.K G fc) (tE X.K G fa))) : PS X st (tS X.K G (pDPut fa fb fc)) := h.le fun D σ H ⟨env, T, E, nb, s, h, k⟩ => ⟨env, T, _, s, h, fun pv e1 v H1 h1 s1 => ⟨e1, _, _, s1, h1, fun pd e2 x H2 h2 s2 => ⟨e2, _, _, s2, h2, fun pk e3 y H3 h3 sx => by
  obtain ⟨Z3, s3⟩ := sx
  generalize hda : dicAt e3 pd pk = da at h3
  split at h3
  · next v' i kvs key =>
    have ed := hda
    obtain ⟨rfl, ed1, d, rfl, kd⟩ := dicAt_some ed
    obtain ⟨e4, a, ws, rfl, ha, hk, nz, h0⟩ := s3.dicB (List.mem_cons_of_mem _ List.mem_cons_self) ed1
    obtain rfl := keyP_da kd s3.topDat
    have hv : Da X.K Z3 H3 v' v := s3.pop.pop.topDat
    exact ⟨a, _, rfl, DPut.k ha (by rw [hk.len]; exact h3.1), k.nx _ _ _ h3.2 ⟨Z3, s3.pop.pop.pop.dicPut e4 ed1 hv ha hk nz h0⟩⟩
  · exact h3.elim⟩⟩⟩
end

/-! ### len of a set; the item of an item; lists as lists of lists -/
def pLenSet (g : PAs) : PEx := fun env C => g env fun ps e => match ps with
  | [p] => match itemsOf e p with
    | some ds => ∃ ns : List Int, ds = ns.map .int ∧ ns.length ≤ 1000 ∧ ∀ L : List Int, L.Nodup → (∀ k, k ∈ L ↔ k ∈ ns) → C (.dat (.int (L.length : Int))) e
    | none => False
  | _ => False
/-- xs[i][j] = e -/
def pSetSub (fv fo fi : PEx) : PSt := fun E env => fv env fun pv e1 => fo e1 fun po e2 => fi e2 fun pi e3 => match po, pi, pv with
  | .sub s k, .dat (.int i), .dat d => mutS e3 s k (fun xs c => ∃ j, ixN xs.length i = some j ∧ c (xs.set j d)) E.nx
  | _, _, _ => False
/-- a list in a slot, from now on one of lists -/
def pToBox (i : Nat) (g : PSt) : PSt := fun E env => g { E with nx := fun e => match e[i]? with
  | some (.own xs) => E.nx (e.set i (.box (xs.map .d)))
  | _ => False } env
section
variable {X : Cx} {G : Gam} {e a b c : Expr} {pos pos' : Pos} {fa fb fc fo fi fv : PEx} {st : Stmt} {g : PAs} {h : PSt}
theorem pe_lenSetP (h : PE X e (tCB (rLenSetO X.w) (tCons (tCB (rSetAny X.K X.w) (tA X.K G g)) tNil))) : PE X e (tE X.K G (pLenSet g)) := h.le fun σ H Q ⟨env, T, C, s, h, k⟩ => ⟨env, T, _, s, h, fun ps e1 vs H1 h1 l1 ⟨Z, s1⟩ => by
  split at h1
  · obtain ⟨v, rfl, S⟩ := one_arg s1 l1
    split at h1
    · next ds ed =>
      obtain ⟨ns, rfl, hn, hc⟩ := h1
      obtain ⟨a, us, rfl, ha, hx⟩ := S.seq List.mem_cons_self ed
      have := ints_da hx
      subst this
      have go : ∀ (b : Addr) (c : Nat), H1 b = none → c ≤ ns.length → rLenSetO X.w [.ref b] (upd H1 b (SetO X.w b (fun j => decide (j ∈ ns)) c)) Q := fun b c hb _ => ⟨b, _, c, rfl, upd_same, fun L nd hl hm => by
        subst hl
        exact k _ _ _ _ (hc L nd fun k => (hm k).symm.trans decide_eq_true_iff) ⟨Z, (S.pop.alloc _ hb).dat rfl⟩⟩
      rcases ha with ha | ha
      · exact .inl ⟨a, ns, rfl, ha, hn, go⟩
      · exact .inr ⟨a, ns, rfl, ha, hn, go⟩
    · exact h1.elim
  · exact h1.elim⟩
theorem ps_setSubP (h : PS X st (tAsg (tE X.K G fv) (gSub (tE X.K G fo) (tE X.K G fi) rSetL))) : PS X st (tS X.K G (pSetSub fv fo fi)) := h.le fun D σ H ⟨env, T, E, nb, s, h, k⟩ => ⟨env, T, _, s, h, fun pv e1 v H1 h1 s1 => ⟨e1, _, _, s1, h1, fun po e2 o H2 h2 s2 => ⟨e2, _, _, s2, h2, fun pi e3 y H3 h3 sx => by
  obtain ⟨Z, s3⟩ := sx
  split at h3
  · next s k' i d =>
    have hi := s3.topDat
    cases hi
    have hv := s3.pop.pop.topDat
    have S := s3.pop
    have S' : StZ X.K G Z H3 σ e3 ((o, .sub s k') :: T) := S.sub (List.Sublist.cons_cons _ (List.sublist_cons_self _ _))
    obtain ⟨b, us, ys, c, rfl, k1, k2, ⟨j, hj, k3⟩, k4⟩ := S'.mutS h3
    have st := k4 (ys.set j d) (us.set j v) (DaAll.set j _ _ _ _ k2 hv)
    exact ⟨b, us, i, j, rfl, rfl, k1, by rw [k2.len]; exact hj, k.nx _ _ _ k3 ⟨Z, st⟩⟩
  · exact h3.elim⟩⟩⟩
theorem ItAll.ofD {K : PySem.W.Frag} {Z : Addr → Prop} {H : Hp} : ∀ {ds : List PyData} {vs : List V}, DaAll K Z H ds vs → ItAll K Z H (ds.map .d) vs ∧ subs (ds.map .d) vs = []
  | [], _, h => by cases h; exact ⟨rfl, rfl⟩
  | d :: ds, _, ⟨v, r, e, h1, h2⟩ => by
    subst e
    obtain ⟨g1, g2⟩ := ItAll.ofD h2
    exact ⟨⟨v, r, rfl, h1, g1⟩, g2⟩
theorem ps_toBoxP {i : Nat} (hs : PS X st (tS X.K G h)) : PS X st (tS X.K G (pToBox i h)) := hs.le fun D σ H ⟨env, T, E, nb, s, w, k⟩ => ⟨env, T, _, nb, s, w, ⟨fun e2 σ2 H2 h2 ⟨Z, s2⟩ => by
  dsimp only at h2
  split at h2
  · next xs e1 =>
    obtain ⟨ov, e3, a, vs, rfl, h1, h3, h4, h5⟩ := s2.sl i _ e1
    obtain ⟨g1, g2⟩ := ItAll.ofD h3
    refine k.nx _ _ _ h2 ⟨Z, s2.say (p' := .box (xs.map .d)) e3 e1 ⟨a, vs, rfl, h1, g1, fun b hb => ?_, ?_⟩ (fun b hb => ?_) (fun _ => trivial) (s2.nosub e1 fun _ z => by cases z) fun _ z => by cases z⟩
    · rw [g2, List.mem_singleton] at hb
      subst hb
      exact ⟨h4, h5⟩
    · rw [g2]
      simp
    · have hb : b ∈ a :: (match H2 a with | some (.lst vs) => subs (xs.map .d) vs | _ => []) := hb
      rw [h1] at hb
      have hb : b ∈ a :: subs (xs.map .d) vs := hb
      rw [g2] at hb
      exact hb
  · exact h2.elim, k.rt, k.bk, k.ct⟩⟩
end
theorem itemsOf_sub {e : PEnv} {i k : Nat} {xs : List Itm} {ys : List PyData} (h : e[i]? = some (.pnd xs)) (h2 : xs[k]? = some (.l ys)) : itemsOf e (.sub i k) = some ys := by
  show subAt k e[i]? = _
  rw [h]
  show (match xs[k]? with | some (.l ys) => some ys | _ => none) = _
  rw [h2]
theorem mutS_at {e : PEnv} {i k : Nat} {xs : List Itm} {ys : List PyData} {P : List PyData → (List PyData → Prop) → Prop} {C : PEnv → Prop} (h : e[i]? = some (.pnd xs)) (h2 : xs[k]? = some (.l ys)) (c : P ys fun zs => C (e.set i (.box (xs.set k (.l zs))))) : mutS e i k P C := by
  unfold mutS
  rw [h]
  show (match xs[k]? with | some (.l ys) => P ys fun zs => C (e.set i (.box (xs.set k (.l zs)))) | _ => False)
  rw [h2]
  exact c
theorem ixSub {e : PEnv} {i k : Nat} {xs : List Itm} {ys : List PyData} {n : Int} {d : PyData} {C : PK} (h : e[i]? = some (.pnd xs)) (h2 : xs[k]? = some (.l ys)) (h3 : atI ys n = some d) (c : C (.dat d) e) : pIx e (.sub i k) (.dat (.int n)) C := by
  unfold pIx
  rw [itemsOf_sub h h2]
  exact ⟨d, h3, c⟩
/-- len(xs), xs with lists in it -/
def mLenB (ps : List Cel) (env : PEnv) (C : PK) : Prop := match ps with
  | [.bor s] => (match env[s]? with
    | some (.box xs) => C (.dat (.int xs.length)) env
    | _ => False)
  | _ => False
theorem lc_lenB {K : PySem.W.Frag} {G : Gam} : LiftC K G (rLenP K) mLenB := by
  intro Z H σ env T vs ps C Q s l h k
  unfold mLenB at h
  split at h
  · next i =>
    obtain ⟨v, rfl, S⟩ := one_arg s l
    split at h
    · next xs e2 =>
      obtain ⟨e1, _⟩ := S.bo _ List.mem_cons_self i rfl
      obtain ⟨ov, e4, a, ws, e5, k1, k2, _⟩ := S.sl i _ e2
      rw [e1] at e4
      cases e4
      cases e5
      exact .inl ⟨a, ws, rfl, .inl (SqL.of k1), by rw [k2.len]; exact k _ _ _ _ h ⟨Z, S.pop.dat rfl⟩⟩
    · exact h.elim
  · exact h.elim

/-! ### sorted(set(..)) of ints, any number of them -/
section
variable {P : Program} {w : World} {A : Around} {E : Value → Shared → Prop} {s : Shared} {a : Addr}
theorem sort_set_all {S : Int → Bool} {n : Nat} {Q : Value → Shared → Prop} (R : SetR w s.heap a S n) (hh : A.handled = none)
    (hQ : ∀ (s' : Shared) (p : Addr) (out : List Value) (c : Nat) (ns : List Int), (∀ b o, s.heap.get? b = some o → s'.heap.get? b = some o) → s'.gens = s.gens → s'.os = s.os → s.heap.objs.size ≤ p → s'.heap.get? p = some (seqObj "list" out.toArray c) → IntsAre out ns → ns.Pairwise (· < ·) → (∀ k, k ∈ ns ↔ S k = true) → ns.length = n → n ≤ sizeLine → Q (.ref p) s') : wpAny (model P w) A (call (.builtin "sorted") [.ref a]) Q E s := by
  obtain ⟨o, es, ep, t, ho, hex, hd, g, nd, hm, hb, hf, hn, hr, hl⟩ := R
  refine Calls.call_function_entry kind_sorted plain_sorted entry_sorted (args_sorted1 _) ?_
  unfold Builtin.«sorted»
  refine wpAny_bind (m := checkCount "sorted" 1 1 _) (wpAny_pure ?_)
  refine wpAny_bind (collect_set (A := A.in1) hh ⟨o, ho, hex.1, hd⟩ hf hb hr hl fun s1 vs k1 hz g1 o1 pm => ?_)
  have len : vs.length = n := pm.length_eq.trans (by rw [List.length_map, Array.length_toList]; exact hn)
  have small : n ≤ sizeLine := by rw [sizeLine_eq]; unfold scanBound at hb; omega
  have allI : ∀ v ∈ vs, ∃ k t, v = Value.int k t := fun v hv => by
    obtain ⟨e, he, q⟩ := List.mem_map.mp (pm.mem_iff.mp hv)
    obtain ⟨k, tk, h1, _⟩ := g e he
    exact ⟨k, tk, q.symm.trans h1⟩
  have hI := SrtO.ints_iv allI
  have keys : (vs.map SrtO.iv).Perm (es.toList.map keyOf) := by
    have q := pm.map SrtO.iv
    rw [List.map_map] at q
    refine q.trans (List.Perm.of_eq (List.map_congr_left fun e he => ?_))
    obtain ⟨k, tk, h1, h2⟩ := g e he
    show SrtO.iv e.2 = (match e.2 with | .int k _ => k | _ => 0)
    rw [h1]
    rfl
  refine wpAny_bind (wpAny_newList ?_ (by rw [len]; exact small))
  have at_ : (s1.heap.push (seqObj "list" vs.toArray 0)).get? s1.heap.objs.size = some (seqObj "list" vs.toArray 0) := Heap.get?_push_size _ rfl
  refine wpAny_bind (wpAny_holding (wpAny_call_entry slot_list_sort ⟨_, at_, rfl⟩ entry_list_sort (SrtO.list_sort_ord SrtO.swo_int at_ (by rw [len]; exact small) (fun h2 => SrtO.ints_sortable hI h2) fun out a1 a2 => ⟨_, rfl, ?_⟩) (args_list_sort _)))
  obtain ⟨b1, b2, b3⟩ := SrtO.ints_out hI a1 a2
  obtain ⟨c, hc⟩ := sortedHeap_at (vs := vs) (out := out.toArray) at_
  have pn := b2.trans keys
  refine wpAny_pure ⟨_, rfl, hQ _ s1.heap.objs.size out c (out.map SrtO.iv) (fun b u e => ?_) g1 o1 hz hc b1 (lt_of_le_nodup _ b3 (pn.nodup_iff.mpr nd)) (fun k => by rw [pn.mem_iff, ← hm k]) (pn.length_eq.trans (by rw [List.length_map, Array.length_toList]; exact hn)) small⟩
  have q := k1 b u e
  have hlt := Heap.lt_size q
  refine (sortedHeap_old (Nat.ne_of_lt hlt) (by rw [size_push']; exact Nat.lt_succ_of_lt hlt)).trans (Heap.get?_push_of_some _ q)
end
section
variable {X : Cx}
def rSortedAll (w : World) : List V → Hp → VK → Prop := fun vs H Q => ∃ (a : Addr) (S : Int → Bool) (n : Nat), vs = [V.ref a] ∧ H a = some (SetO w a S n) ∧
  ∀ (ns : List Int) (p : Addr), ns.Pairwise (· < ·) → (∀ k : Int, k ∈ ns ↔ S k = true) → ns.length = n → H p = none → Q (.ref p) (upd H p (.lst (ns.map V.int)))
theorem cr_sortedAll (hc : X.calm = true) : CallR X (.builtin "sorted") (rSortedAll X.w) := by
  intro pins s σ H vs us Q I r h
  obtain ⟨a, S, n, rfl, ha, q⟩ := h
  rw [Vals.ref1 r]
  refine sort_set_all (setO_get I ha) (I.ok.hd hc) fun s' p out c ns k g o hp hg hi hs hm hl hz => ?_
  have hn : H p = none := I.hok.fresh hp
  have J : Inv X pins σ (upd H p (.lst (ns.map V.int))) { s with heap := s'.heap, gens := s'.gens, drawn := s'.drawn, toks := s'.toks } :=
    I.call (ch := []) (Un.laid k hp hn) (I.hok.laid k hp ⟨by rw [List.length_map, hl]; exact hz, out, c, vals_of_ints hi, hg⟩) (by rw [g]; exact I.bare) (fun _ z => nomatch z)
  rw [GxR.sh_eta s s' o] at J
  exact ⟨.ref p, _, J, rfl, q ns p hs hm hl hn⟩
end
def pSortAll (g : PAs) : PEx := fun env C => g env fun ps e => match ps with
  | [p] => match itemsOf e p with
    | some ds => ∃ ns : List Int, ds = ns.map .int ∧ ns.length ≤ 1000 ∧ ∀ hs : List Int, hs.Pairwise (· < ·) → (∀ k, k ∈ hs ↔ k ∈ ns) → hs.length ≤ ns.length → C (.own (hs.map .int)) e
    | none => False
  | _ => False
section
variable {X : Cx} {G : Gam} {e : Expr} {g : PAs}
theorem pe_sortAllP (h : PE X e (tCB (rSortedAll X.w) (tCons (tCB (rSetAny X.K X.w) (tA X.K G g)) tNil))) : PE X e (tE X.K G (pSortAll g)) := h.le fun σ H Q ⟨env, T, C, s, h, k⟩ => ⟨env, T, _, s, h, fun ps e1 vs H1 h1 l1 ⟨Z, s1⟩ => by
  split at h1
  · obtain ⟨v, rfl, S⟩ := one_arg s1 l1
    split at h1
    · next ds ed =>
      obtain ⟨ns, rfl, hn, hc⟩ := h1
      obtain ⟨a, us, rfl, ha, hx⟩ := S.seq List.mem_cons_self ed
      have := ints_da hx
      subst this
      have go : ∀ (b : Addr) (c : Nat), H1 b = none → c ≤ ns.length → rSortedAll X.w [.ref b] (upd H1 b (SetO X.w b (fun j => decide (j ∈ ns)) c)) Q := fun b c hb hcn => ⟨b, _, c, rfl, upd_same, fun hs p h1 h2 h3 hp => by
        refine k _ _ _ _ (hc hs h1 (fun k => ?_) (by omega)) ⟨Z, (S.pop.alloc _ hb).newLst hp (da_ints hs)⟩
        rw [h2 k, decide_eq_true_iff]⟩
      rcases ha with ha | ha
      · exact .inl ⟨a, ns, rfl, ha, by omega, go⟩
      · exact .inr ⟨a, ns, rfl, ha, by omega, go⟩
    · exact h1.elim
  · exact h1.elim⟩
end

/-! ### dict comprehensions; len of a dict -/
inductive DcOk (items : List PyData) (e : PEnv) (g : PTg) (t : PTst) (fk fv : PEx) (vs : List Nat) (C : PK) : Prop where
  | mk (hf : fgtB e vs = true) (W : Nat → PEnv → List (Key × PyData) → Prop) (w0 : W 0 (wipeP e vs) []) (turn : ∀ j x e2 kvs, items[j]? = some x → W j e2 kvs → g x (wipeP e2 vs) fun e3 => t e3 fun b e4 => IfP b (fk e4 fun pk e5 => fv e5 fun pv e6 => match pk, pv with
      | .dat dk, .dat dv => (match keyP dk with
        | some k => kvs.length < sizeLine ∧ W (j + 1) (wipeP e6 vs) (putD kvs k dv)
        | none => False)
      | _, _ => False) (W (j + 1) (wipeP e4 vs) kvs)) (fin : ∀ e2 kvs, W items.length e2 kvs → C (.dic kvs) (wipeP e2 vs))
def pDc (it : PIt) (g : PTg) (t : PTst) (fk fv : PEx) (vs : List Nat) : PEx := fun env C => it env fun items e => DcOk items e g t fk fv vs C
def mLenD (ps : List Cel) (env : PEnv) (C : PK) : Prop := match ps with
  | [.bor s] => (match env[s]? with
    | some (.dic kvs) => C (.dat (.int kvs.length)) env
    | _ => False)
  | _ => False
theorem lc_lenD {K : PySem.W.Frag} {G : Gam} : LiftC K G (fun xs H Q => ∃ a kvs, xs = [V.ref a] ∧ H a = some (.dK kvs) ∧ Q (.int kvs.length) H) mLenD := by
  intro Z H σ env T vs ps C Q s l h k
  unfold mLenD at h
  split at h
  · next i =>
    obtain ⟨v, rfl, S⟩ := one_arg s l
    split at h
    · next kvs e2 =>
      obtain ⟨_, a, ws, rfl, ha, hk, _⟩ := S.dicB List.mem_cons_self e2
      exact ⟨a, ws, rfl, ha, by rw [hk.len]; exact k _ _ _ _ h ⟨Z, S.pop.dat rfl⟩⟩
    · exact h.elim
  · exact h.elim
section
variable {K : PySem.W.Frag} {G : Gam} {Z : Addr → Prop} {H : Hp} {σ : L2.St} {env : PEnv} {T : Stk}
/-- a dict on top of the stack is written -/
theorem StZ.wrD {a : Addr} {xs ys : List (Key × PyData)} {us vs : List (Key × V)} (s : StZ K G Z H σ env ((.ref a, .dic xs) :: T)) (hv : H a = some (.dK vs)) (h : KvAll K Z H ys us) : StZ K G Z (upd H a (.dK us)) σ env ((.ref a, .dic ys) :: T) := by
  obtain ⟨a', ws, e, h1, h2, h3, h4⟩ := s.tm _ (List.mem_cons_self)
  cases e
  have no : ¬ OwnA H σ env T a := s.topSep (t := (.ref a, .dic xs)) List.mem_cons_self
  have m : Mv K Z H Z (upd H a (.dK us)) := Mv.ofW (fun b => b = a) (fun b o e n => upd_else e n) (fun b e => by subst e; exact ⟨_, hv, .inr (.inl ⟨vs, rfl⟩), h3⟩) fun _ z => z
  have s2 : StZ K G Z (upd H a (.dK us)) σ env T := s.pop.move m (fun b ws ob e => upd_else e fun z => no (z ▸ ob)) (fun b ob => by obtain ⟨_, _, _, n⟩ := s.pop.own_any ob; exact n) (fun _ z => z) (fun _ z => .inl z) (fun b z => upd_some (s.z3 b z))
    (fun b u e e0 _ _ _ => upd_else e fun z => by rw [z, h4] at e0; cases e0) (fun b e => upd_some e) fun d c e => by
      obtain ⟨n1, n2⟩ := s.gok.ne (.inl h4) e
      exact (s.dr d c e).else n1 n2
  refine s2.push ⟨a, us, rfl, upd_same, KvAll.mv m _ _ h, h3, h4⟩ (fun _ e => by cases e) (fun _ _ e => by cases e) (fun _ e => by cases e) fun b o ob => ?_
  rw [List.mem_singleton.mp o] at ob
  refine no ?_
  rcases ob with ⟨i, ov, q, e1, e2, hb⟩ | ⟨t, ht, hb⟩
  · obtain ⟨ov', e3, ok⟩ := s.sl i q e2
    rw [e1] at e3
    cases e3
    have kp := (ok.mv m (fun b us' hb e => upd_else e fun z => no (.inl ⟨i, ov, q, e1, e2, z ▸ hb⟩)) fun b hb => (ok.own hb).2.1).2
    rw [kp] at hb
    exact .inl ⟨i, ov, q, e1, e2, hb⟩
  · have ok := s.pop.tm t ht
    have kp := (ok.mv m (fun b us' hb e => upd_else e fun z => no (.inr ⟨t, ht, z ▸ hb⟩)) fun b hb => (ok.own hb).2.1).2
    unfold OwnT at hb
    rw [kp] at hb
    exact .inr ⟨t, ht, hb⟩
end
section
variable {X : Cx} {G : Gam} {e : Expr} {it : PIt} {g : PTg} {t : PTst} {fk fv : PEx} {vs : List Nat}
theorem dcP (σ : L2.St) (H : Hp) (Q : VK) (h : tE X.K G (pDc it g t fk fv vs) σ H Q) : tDc (tI X.K G it) (tG X.K G (some vs) g) (tQ X.K G t) (tE X.K G fk) (tE X.K G fv) vs σ H Q := by
  obtain ⟨env, T, C, s, h, k⟩ := h
  refine ⟨env, T, _, s, h, fun items e1 u H1 J h1 nbt ⟨Z1, s1⟩ wk => ?_⟩
  obtain ⟨hf, W, w0, turn, fin⟩ := h1
  intro D hD
  have nbv := s1.fgtB hf
  have sD := s1.newDic hD
  have nbA : ∀ acc, ∀ v ∈ vs, ∀ t ∈ ((V.ref D, Cel.dic acc) :: u :: T), t.2 ≠ Cel.bor v ∧ ∀ k, t.2 ≠ Cel.sub v k := fun acc v hv t ht => by
    rcases List.mem_cons.mp ht with rfl | ht
    · exact ⟨(fun z => by cases z), fun k z => by cases z⟩
    · exact nbv v hv t ht
  have ww : wipe (wipe σ vs) vs = wipe σ vs := wipe_wipe vs fun _ h => h
  refine ⟨fun i m H => m = items.length - i ∧ i ≤ items.length ∧ ∃ env acc, W i env acc ∧ StE X.K G H (wipe σ vs) (wipeP env vs) ((.ref D, .dic acc) :: u :: T), ⟨_, rfl, Nat.zero_le _, wipeP e1 vs, [], w0, Z1, ?_⟩, ?_⟩
  · exact StZ.wipeA (StZ.wipeS (nbA []) (StZ.wipeS (nbA []) sD))
  · rintro i m H2 ⟨rfl, hi, e2, acc, w2, Z2, s2⟩
    obtain ⟨go, stop⟩ := wk Z2 H2 _ _ _ s2 (List.mem_cons_of_mem _ List.mem_cons_self)
    by_cases hlt : i < items.length
    · obtain ⟨g1, g2⟩ := go i _ (List.getElem?_eq_getElem hlt)
      refine .inr ⟨g1, fun H => ∃ env acc, W (i + 1) env acc ∧ StE X.K G H (wipe σ vs) (wipeP env vs) ((.ref D, .dic acc) :: u :: T), fun H' x => ⟨items.length - (i + 1), by omega, rfl, hlt, x⟩, fun x H3 y => ?_⟩
      refine ⟨wipeP e2 vs, (.ref D, .dic acc) :: u :: T, _, _, (fun z => by cases z), ⟨Z2, g2 x H3 y⟩, turn i _ e2 acc (List.getElem?_eq_getElem hlt) w2, fun e3 σ3 H3 h3 s3 hw => ?_⟩
      have hw3 : wipe σ3 vs = wipe σ vs := (hw vs rfl).trans ww
      refine ⟨hw3, e3, _, _, s3, h3, fun b e4 H4 h4 s4 => ?_⟩
      have back : ∀ {Z H5 e5 acc'}, StZ X.K G Z H5 σ3 e5 ((.ref D, .dic acc') :: u :: T) → StE X.K G H5 (wipe σ vs) (wipeP (wipeP e5 vs) vs) ((.ref D, .dic acc') :: u :: T) := fun {Z H5 e5 acc'} s5 => by
        have s6 := (StZ.wipeS (nbA acc') (StZ.wipeS (nbA acc') s5)).wipeA
        rw [hw3] at s6
        exact ⟨Z, s6⟩
      cases b with
      | true =>
        refine ⟨e4, _, _, s4, h4.tt, fun pk e5 kv H5 h5 s5 => ⟨e5, _, _, s5, h5, fun pv e6 v H6 h6 ⟨Z6, s6⟩ => ?_⟩⟩
        cases pk with
        | dat dk =>
          cases pv with
          | dat dv =>
            cases kd : keyP dk with
            | some k =>
              have h6 : acc.length < sizeLine ∧ W (i + 1) (wipeP e6 vs) (putD acc k dv) := by
                simpa only [kd] using h6
              have ek := keyP_da kd s6.pop.topDat
              obtain ⟨a, ws, e7, k1, k2, _⟩ := s6.pop.pop.tm _ List.mem_cons_self
              cases e7
              exact ⟨ws, k, ek, k1, by rw [k2.len]; exact h6.1, wipeP e6 vs, putD acc k dv, h6.2, back (s6.pop.pop.wrD k1 (KvAll.put s6.topDat k2))⟩
            | none =>
              have h6 : False := by simpa only [kd] using h6
              exact h6.elim
          | _ => exact h6.elim
        | _ => cases pv <;> exact h6.elim
      | false =>
        obtain ⟨Z4, s4⟩ := s4
        exact ⟨_, _, h4.ff, back s4⟩
    · have e : i = items.length := by omega
      subst e
      exact .inl ⟨stop, k _ _ _ _ (fin e2 acc w2) ⟨Z2, s2.wipeB.sub (List.Sublist.cons_cons _ (List.sublist_cons_self _ _))⟩⟩
theorem pe_dcP (h : PE X e (tDc (tI X.K G it) (tG X.K G (some vs) g) (tQ X.K G t) (tE X.K G fk) (tE X.K G fv) vs)) : PE X e (tE X.K G (pDc it g t fk fv vs)) := h.le dcP
end

/-! ### not x, by truth -/
def pNotT (fa : PEx) : PEx := fun env C => fa env fun p e => match truth e p with
  | some b => C (.dat (.bool (!b))) e
  | none => False
theorem pe_notTP {X : Cx} {G : Gam} {a : Expr} {pos : Pos} {fa : PEx} (ha : PE X a (tE X.K G fa)) : PE X (.UnaryOp .Not a pos) (tE X.K G (pNotT fa)) := (pe_notT ha).le fun σ H Q ⟨env, T, C, s, h, k⟩ => ⟨env, T, _, s, h, fun p e1 v H1 h1 ⟨Z, s1⟩ => by
  split at h1
  · next b eb =>
    refine ⟨b, ?_, k _ _ _ _ h1 ⟨Z, s1.pop.dat rfl⟩⟩
    have go : (itemsOf e1 p).map (fun ds => !ds.isEmpty) = some b → TruV X.K v H1 b := fun eb => by
      obtain ⟨ds, e2, rfl⟩ := Option.map_eq_some_iff.mp eb
      obtain ⟨a, vs, rfl, ha, hx⟩ := s1.seq List.mem_cons_self e2
      have : vs.isEmpty = ds.isEmpty := by
        have := hx.len
        cases vs <;> cases ds <;> first | rfl | cases this
      rcases ha with ha | ha
      · exact .inl ⟨vs, ha, by rw [this]⟩
      · exact .inr (.inl ⟨vs, ha, by rw [this]⟩)
    unfold truth at eb
    split at eb
    · have := s1.topDat
      cases this
      cases eb
      exact rfl
    · have := s1.topDat
      cases this
      cases eb
      exact rfl
    · have := s1.topDat
      cases this
      cases eb
      exact rfl
    · exact go eb
  · exact h1.elim⟩

/-! ### a tuple times 1 or more -/
theorem tuple_mul1 (l : Addr) (items : Array Value) (n : Nat) (dd : Option Addr) (sl : Array (Option Value)) (u : Tok) :
    Meets (Builtin.«tuple.__mul__» ⟨[.ref l, .int 1 u], []⟩) (fun _ R s => s.heap.get? l = some { cls := .type "tuple", dict := dd, data := .seq items n, slots := sl } ∧
      R (.ok (.ret (Value.ref l))) s) :=
  .of_wp fun prog w A R s h => by
    obtain ⟨hp, g, d, tk, os⟩ := s
    obtain ⟨hl, h⟩ := h
    have f1 := AutoSeq1.idx_int
    wp_walk using wpAny_loadPart' hl
    exact ⟨_, rfl, h⟩
def rRepT1 (K : PySem.W.Frag) : R2 := fun x y H Q => ∃ l xs, x = .ref l ∧ y = .int 1 ∧ SqT K H l xs ∧ Q (.ref l) H
theorem op_repT1 {X : Cx} : OpR X (binaryOp .Mult) (rRepT1 X.K) := by
  intro pins s σ H x y v u Q I rx ry h
  obtain ⟨l, xs, rfl, rfl, hT, q⟩ := h
  cases rx
  obtain ⟨t, rfl⟩ := ry
  obtain ⟨its, r, ⟨⟨cls, dd, data, sl⟩, ho, hc, n, hd⟩, hs⟩ := I.tuple hT
  simp only at hc hd
  subst hc hd
  refine wpAny_binaryOp_repeat_ref (T := "tuple") (U := "int") (by decide) ⟨_, ho, rfl⟩ (fun s' => typeIs_int s' 1 t) noFill_tuple_mul F.fills_int_mul F.slot_int_rmul repeat_tuple F.slot_int_index.lookup
    (call_meets F.slot_int_rmul (typeIs_int s 1 t) F.entry_int_rmul (F.args_int_rmul_2 _ _) (int_rmul_tuple 1 t l its.toArray n dd sl)
      ⟨ho, rfl, ⟨_, ho, rfl⟩, call_meets F.slot_tuple_mul ⟨_, ho, rfl⟩ F.entry_tuple_mul (F.args_tuple_mul_2 _ _) (tuple_mul1 l its.toArray n dd sl t) ⟨ho, ?_⟩⟩)
  exact ⟨.ref l, H, I, rfl, q⟩
def pMulT : POp := fun env pa pb C => match pa, pb with
  | .dat (.tuple ds), .dat (.int k) => ds ≠ [] ∧ 1 ≤ k ∧ k ≤ 1000 ∧ ds.length ≤ 1000 ∧ C (.dat (.tuple (List.replicate k.toNat ds).flatten)) env
  | _, _ => False
theorem li_mulT {K : PySem.W.Frag} {G : Gam} : LiftO K G (fun x y H Q => rRepT K x y H Q ∨ rRepT1 K x y H Q) pMulT := by
  intro Z H σ env T x y pa pb C Q s h k
  unfold pMulT at h
  split at h
  · next ds i =>
    obtain ⟨ne, k1, k2, ld, h⟩ := h
    have h1 := s.topDat
    cases h1
    have h2 := s.pop.topDat
    obtain ⟨a, vs, rfl, ha, hx⟩ := h2
    by_cases e : i = 1
    · subst e
      have e2 : (List.replicate (1 : Int).toNat ds).flatten = ds := by
        show (List.replicate 1 ds).flatten = ds
        simp
      rw [e2] at h
      exact .inr ⟨a, vs, rfl, rfl, ha, k _ _ _ _ h ⟨Z, s.pop.pop.dat ⟨a, vs, rfl, ha, hx⟩⟩⟩
    · refine .inl ⟨a, i, vs, rfl, rfl, ha, (fun z => ne ?_), by omega, k2, by rw [hx.len]; exact ld, fun p hp => k _ _ _ _ h ⟨Z, s.pop.pop.newTup hp (rep_da hx _)⟩⟩
      have := hx.len
      rw [z] at this
      exact List.eq_nil_of_length_eq_zero this.symm
  · exact h.elim
theorem op_mulT {X : Cx} : OpR X (binaryOp .Mult) (fun x y H Q => rRepT X.K x y H Q ∨ rRepT1 X.K x y H Q) := opr_or op_repT op_repT1

/-! ### set(texts), a tuple or a list of them; len of it -/
/-- how many different ones stand among the first i -/
def cntS (ws : List Str) : Nat → Nat
  | 0 => 0
  | i + 1 => match ws[i]? with
    | some z => if z ∈ ws.take i then cntS ws i else cntS ws i + 1
    | none => cntS ws i
theorem cntS_le (ws : List Str) : ∀ i, cntS ws i ≤ i
  | 0 => Nat.le_refl _
  | i + 1 => by
    have := cntS_le ws i
    unfold cntS
    split
    · split <;> omega
    · omega
theorem cntS_nodup {ws : List Str} (nd : ws.Nodup) : ∀ i, i ≤ ws.length → cntS ws i = i
  | 0, _ => rfl
  | i + 1, h => by
    have hi : i < ws.length := h
    unfold cntS
    rw [List.getElem?_eq_getElem hi]
    have no : ws[i] ∉ ws.take i := fun z => by
      obtain ⟨j, hj, e⟩ := List.mem_iff_getElem.mp z
      rw [List.length_take] at hj
      rw [List.getElem_take] at e
      exact List.pairwise_iff_getElem.mp nd j i (by omega) hi (by omega) e
    show (if ws[i] ∈ ws.take i then _ else _) = _
    rw [if_neg no, cntS_nodup nd i (Nat.le_of_lt hi)]
abbrev inFirst (ws : List Str) (i : Nat) : Str → Bool := fun k => decide (k ∈ ws.take i)
section
variable {P : Program} {w : World} {A : Around} {E : Value → Shared → Prop} {s : Shared}
theorem sets_stay {h h' : Heap} {a : Addr} {S : Str → Bool} {n : Nat} (R : h.SetOf (PySem.strKind P w) a S n) (k : ∀ o, h.get? a = some o → h'.get? a = some o) : h'.SetOf (PySem.strKind P w) a S n := by
  obtain ⟨o, es, ep, t, ho, r⟩ := R
  exact ⟨o, es, ep, t, k o ho, r⟩
/-- the update's loop over texts -/
theorem strs_in {I : Addr} {fp wr : List Addr} {G : Array GenState → Array GenState → Prop} {n : Nat} {Pv : Nat → Value → Prop} {St : Nat → Shared → Prop} {R : Result → Shared → Prop} (W : WalksS P w A.in1 I fp wr G n Pv St) (S : Addr) (nS : S ∉ fp) (ws : List Str) (hn : n = ws.length) (hb : ws.length + 1 < scanBound)
    (val : ∀ i v, Pv i v → ∃ x t, ws[i]? = some x ∧ v = .str x t) : ∀ (m i : Nat) (s : Shared), n - i = m → i ≤ n → St i s → s.heap.SetOf (PySem.strKind P w) S (inFirst ws i) (cntS ws i) →
      (∀ s', Moved (S :: wr) G s s' → s'.heap.SetOf (PySem.strKind P w) S (inFirst ws n) (cntS ws n) → R (.ok (.ret .none)) s') → codeAny (model P w) A (.builtin "set.update.loop" ⟨[.ref S, .ref I], []⟩) R s := by
  have nW : S ∉ wr := fun h => nS (W.sub _ h)
  have into : ∀ b ∈ wr, b ∈ S :: wr := fun b hb => List.mem_cons_of_mem _ hb
  intro m
  induction m with
  | zero =>
    intro i s hm hi hst hS fin
    obtain rfl : i = n := by omega
    refine codeAny_builtin PyProof.Rows.F.entry_set_update_loop ?_; rw [Around.under_plainId PyProof.Rows.F.plain_set_update_loop _]
    refine wpAny_bind (W.done s _ _ hst fun s' mv => wpAny_pure (fin s' (mv.mono into) (sets_stay hS fun o e => mv.heap S o nW e)))
  | succ m ih =>
    intro i s hm hi hst hS fin
    have lt : i < n := by omega
    refine codeAny_builtin PyProof.Rows.F.entry_set_update_loop ?_; rw [Around.under_plainId PyProof.Rows.F.plain_set_update_loop _]
    refine wpAny_bind (W.item i s _ _ lt hst fun v s' pv hst' mv => ?_)
    obtain ⟨z, t, hz, rfl⟩ := val i v pv
    have hS1 := sets_stay (h' := s'.heap) hS fun o e => mv.heap S o nW e
    refine wpAny_bind (wpAny_holding ?_)
    unfold setAdd
    refine wpAny_holding (wpAny_bind ((PySem.strKind P w).pyHash (k := z) (strKind_is _ _ _ _) ?_))
    have lec := cntS_le ws i
    refine wpAny_setAddHashed_of (knd := PySem.strKind P w) (s := { s' with toks := s'.toks + 1 }) (strKind_is _ _ _ _) rfl hS1 (by omega) fun h' sb hS2 => ?_
    have hS3 : h'.SetOf (PySem.strKind P w) S (inFirst ws (i + 1)) (cntS ws (i + 1)) := by
      refine SetOf_congr hS2 (fun k => ?_) ?_
      · show (decide (k ∈ ws.take i) || decide (k = z)) = decide (k ∈ ws.take (i + 1))
        rw [List.take_add_one, hz]
        simp [List.mem_append]
      · show (if decide (z ∈ ws.take i) = true then _ else _) = _
        show _ = (match ws[i]? with
          | some z => if z ∈ ws.take i then cntS ws i else cntS ws i + 1
          | none => cntS ws i)
        rw [hz]
        by_cases hm : z ∈ ws.take i
        · rw [decide_eq_true hm]
          show cntS ws i = if z ∈ ws.take i then _ else _
          rw [if_pos hm]
        · rw [decide_eq_false hm]
          show cntS ws i + 1 = if z ∈ ws.take i then _ else _
          rw [if_neg hm]
    refine wpAny_pure ⟨plainId_quiet PyProof.Rows.F.plain_set_update_loop _, ih (i + 1) _ (by omega) lt (W.frame _ s' _ _ hst' (Nat.le_succ _) fun b hb o e => (sb.2 b fun z => nS (by rw [← z]; exact hb)).trans e) hS3 fun s2 mv2 hS4 => fin s2 (Moved.trans W.gtrans ((mv.mono into).then_heap (Nat.le_succ _) fun b o hb e => (sb.2 b fun z => hb (by rw [z]; exact List.mem_cons_self)).trans e) mv2) hS4⟩
theorem set_fresh_str {h : Heap} {a : Addr} (ws : List Str) (ho : h.get? a = some (freshSet w)) : h.SetOf (PySem.strKind P w) a (inFirst ws 0) (cntS ws 0) :=
  ⟨_, #[], 0, _, ho, ⟨rfl, rfl, rfl⟩, rfl, (fun e he => by simp at he), (fun k => by simp), (by decide), (by rfl), rfl⟩
/-- what set.__init__ does with a tuple of texts -/
theorem init_strs {S l : Addr} {its : Array Value} (ws : List Str) (hset : s.heap.get? S = some (freshSet w)) (hb : ws.length + 1 < scanBound) {R : Value → Shared → Prop}
    (hl : s.heap.IsTuple l its) (hi : StrsAre its.toList ws) (hS : s.heap.objs.size = S + 1) (hlS : l < S) (hh : A.handled = none)
    (h : ∀ (h' : Heap) (tk : Nat), h'.SetOf (PySem.strKind P w) S (inFirst ws ws.length) (cntS ws ws.length) → (∀ b o, b < S → s.heap.get? b = some o → h'.get? b = some o) → R .none { s with heap := h', toks := tk }) :
    wpAny (model P w) A.in1 (Builtin.«set.__init__» ⟨[.ref S, .ref l], []⟩) (fun fin s' => ∃ v, fin = Fin.done (Flow.ret v) ∧ R v s') E s := by
  have hsz : its.size = ws.length := by rw [← Array.length_toList]; exact StrsAre.len_eq hi
  obtain ⟨ol, hol, hcl, nl, hdl⟩ := id hl
  obtain ⟨c0, d0, data0, sl0⟩ := ol
  simp only at hcl hdl
  subst hcl hdl
  have k3 := PySem.F.sub_tuple_set
  have k4 := PySem.F.sub_tuple_frozenset
  have k6 : (Value.type "tuple" == Value.type "dict") = false := by decide
  have tS : s.TypeIs (.ref S) "set" := ⟨_, hset, rfl⟩
  unfold Builtin.«set.__init__» noKeywords Builtin.Frozenset.updateFrom
  generalize hPI : pyIter = PI
  obtain ⟨hp, gs, dr, tk0, os⟩ := s
  wp_walk
  subst hPI
  refine wpAny_pyIter_tuple ⟨_, hol, rfl, nl, rfl⟩ (wpAny_bind (wpAny_runValue ?_))
  have zS : hp.objs.size = S + 1 := hS
  have nl1 : l ≠ hp.objs.size := fun z => by rw [z, zS] at hlS; exact absurd hlS (Nat.not_lt.mpr (Nat.le_succ _))
  have nS1 : S ≠ hp.objs.size := fun z => by rw [← z] at zS; exact absurd zS (Nat.ne_of_lt (Nat.lt_succ_self _))
  have nS2 : S ≠ l := Nat.ne_of_gt hlS
  refine strs_in ((Walks.tuple (by simp [hh]) hp.objs.size l nl1 its).toS) S (by simp [nS1, nS2]) ws hsz hb (fun i v hv => ?_) its.size 0 _ (by omega) (Nat.zero_le _)
    ⟨⟨_, Heap.get?_push_size _ rfl, rfl, rfl⟩, ⟨_, Heap.get?_push_of_some _ hol, rfl, nl, rfl⟩⟩ (set_fresh_str ws (Heap.get?_push_of_some _ hset)) fun s2 mv hS2 => ?_
  · obtain ⟨y, t, e1, e2⟩ := PyProof.Rows.StrsAre.item hi i v (by rw [Array.getElem?_toList]; exact hv)
    exact ⟨y, t, e2, e1⟩
  · rw [hsz] at hS2
    obtain ⟨hp2, g2, d2, tk2, os2⟩ := s2
    have e1 : g2 = gs := mv.gens
    have e2 : d2 = dr := mv.drawn
    have e3 : os2 = os := mv.os
    subst e1 e2 e3
    show wpAny _ _ _ _ _ _
    refine wpAny_pure ?_
    show wpAny _ _ (ret Value.none) _ _ _
    refine wpAny_pure ⟨_, rfl, h hp2 tk2 hS2 fun b o hb2 e => mv.heap b o ?_ (Heap.get?_push_of_some _ e)⟩
    have n1 : b ≠ S := Nat.ne_of_lt hb2
    have n2 : b ≠ hp.objs.size := fun z => by rw [z, zS] at hb2; exact absurd hb2 (Nat.not_lt.mpr (Nat.le_succ _))
    simp [n1, n2]
end
section
variable {P : Program} {w : World} {A : Around} {E : Value → Shared → Prop} {s : Shared}
theorem set_of_strs {l : Addr} {its : Array Value} (ws : List Str) {Q : Value → Shared → Prop} (hh : A.handled = none) (hl : s.heap.IsTuple l its) (hi : StrsAre its.toList ws) (hb : ws.length + 1 < scanBound)
    (h : ∀ (h' : Heap) (tk : Nat), h'.SetOf (PySem.strKind P w) s.heap.objs.size (inFirst ws ws.length) (cntS ws ws.length) → (∀ b o, s.heap.get? b = some o → h'.get? b = some o) → Q (.ref s.heap.objs.size) { s with heap := h', toks := tk }) :
    wpAny (model P w) A (call (.type "set") [.ref l]) Q E s := by
  have m1 := PySem.F.called_set.mro
  obtain ⟨_, _, m1⟩ := m1
  have m2 := PySem.F.called_set.made
  have m3 := PySem.F.called_set.sub
  have m4 := PySem.F.called_set.notType
  have m5 := PySem.F.called_set.canCreate
  have m6 := PySem.F.typeCall_set_1 (.ref l)
  refine wpAny_call (codeAny_of_tree ?_)
  show wpAny _ _ (callAny (.type "set") _) _ _ _
  refine wpAny_pure ⟨Code.quiet_builtin _ (by decide +kernel), codeAny_builtin PySem.F.entry_type_call ?_⟩
  rw [Around.under_plain (weight_type_call_type "set" [.ref l] []) rfl]
  repeat (any_goals (first | assumption | wp_step))
  have s1S : (s.heap.push (freshSet w)).get? s.heap.objs.size = some (freshSet w) := Heap.get?_push_size _ rfl
  refine codeAny_mono (code_set_led1 (.ref l) (E := E) (Q₁ := fun o t => o = .ref s.heap.objs.size ∧ t = { s with heap := s.heap.push (freshSet w) }) ⟨rfl, rfl⟩) fun r t hr => ?_
  rcases r with e | fl
  · exact hr
  cases fl with
  | ret o =>
    obtain ⟨rfl, rfl⟩ := hr
    have ty : Shared.TypeIs { s with heap := s.heap.push (freshSet w) } (.ref s.heap.objs.size) "set" := ⟨_, s1S, rfl⟩
    have n1 := PySem.F.called_set.init.lookup
    have n2 := PySem.F.called_set.init.bind (.ref s.heap.objs.size)
    repeat (any_goals (first | assumption | wp_step))
    have hlS : l < s.heap.objs.size := let ⟨_, ho, _⟩ := hl; Heap.lt_size ho
    have hl1 : (s.heap.push (freshSet w)).IsTuple l its := let ⟨o, ho, r⟩ := hl; ⟨o, Heap.get?_push_of_some _ ho, r⟩
    let Rr : Value → Shared → Prop := fun v u => v = .none ∧ ∃ h' tk, u = { s with heap := h', toks := tk } ∧ h'.SetOf (PySem.strKind P w) s.heap.objs.size (inFirst ws ws.length) (cntS ws ws.length) ∧ ∀ b o, s.heap.get? b = some o → h'.get? b = some o
    refine codeAny_mono (codeAny_call_builtin (R := wants Rr E) PySem.F.called_set.init.plain PySem.F.entry_set_init (check_set_init_1 ty ?_)) fun r u hr => ?_
    · refine wpAny_mono (init_strs (A := A.in1) (s := { s with heap := s.heap.push (freshSet w) }) (S := s.heap.objs.size) (l := l) (its := its) ws s1S hb hl1 hi (Heap.size_push ..) hlS (by simp [hh])
        (R := Rr) fun h' tk q1 q3 => ⟨rfl, h', tk, rfl, q1, fun b o e => q3 b o (Heap.lt_size e) (Heap.get?_push_of_some _ e)⟩) (fun fin u hf => ?_) fun _ _ e => e
      obtain ⟨v, rfl, hv⟩ := hf
      exact hv
    · rcases r with e | fl
      · exact hr
      cases fl with
      | ret v =>
        obtain ⟨rfl, h', tk, rfl, q1, q3⟩ := hr
        repeat (any_goals (first | assumption | wp_step))
        exact h _ _ q1 q3
      | _ => exact hr.elim
  | _ => exact hr.elim
end
/-- a set of texts at a -/
def SetS (P : Program) (w : World) (a : Addr) (S : Str → Bool) (n : Nat) : HO := .ext fun h => h.SetOf (PySem.strKind P w) a S n
section
variable {X : Cx}
theorem setS_new {w : World} {P : Program} {H : Hp} {h : Heap} {a : Addr} {S : Str → Bool} {n : Nat} (R : h.SetOf (PySem.strKind P w) a S n) : ObjOk P w H h a (SetS P w a S n) := by
  have ⟨o, _, _, _, ho, _⟩ := R
  exact ⟨R, ⟨o, ho⟩, fun h1 h2 p k => sets_stay p k⟩
/-- set(t), t a tuple of texts -/
def rSetStr (K : PySem.W.Frag) (P : Program) (w : World) : List V → Hp → VK → Prop := fun xs H Q => ∃ (l : Addr) (ws : List Str), xs = [V.ref l] ∧ SqT K H l (ws.map V.str) ∧ ws.length ≤ 1000 ∧ ∀ a : Addr, H a = none → Q (.ref a) (upd H a (SetS P w a (inFirst ws ws.length) (cntS ws ws.length)))
theorem cr_setStr (hc : X.calm = true) : CallR X (.type "set") (rSetStr X.K X.prog X.w) := by
  intro pins s σ H xs us Q I r h
  obtain ⟨l, ws, rfl, hl, hn, q⟩ := h
  rw [Vals.ref1 r]
  obtain ⟨its, rv, pl, hz⟩ := I.tuple hl
  have hno : H s.heap.objs.size = none := I.hok.fresh (Nat.le_refl _)
  refine set_of_strs (P := X.prog) (w := X.w) ws (I.ok.hd hc) pl (by have := rv.strs; exact this) (by unfold scanBound; omega) fun h' tk R k => ?_
  exact ⟨.ref s.heap.objs.size, upd H s.heap.objs.size (SetS X.prog X.w s.heap.objs.size (inFirst ws ws.length) (cntS ws ws.length)), I.laid (t' := tk) k (Nat.le_refl _) (setS_new R), rfl, q _ hno⟩
def rLenSetS (P : Program) (w : World) : List V → Hp → VK → Prop := fun xs H Q => ∃ (a : Addr) (S : Str → Bool) (n : Nat), xs = [V.ref a] ∧ H a = some (SetS P w a S n) ∧ Q (.int (n : Int)) H
theorem cr_lenSetS : CallR X (.builtin "len") (rLenSetS X.prog X.w) := by
  intro pins s σ H xs us Q I r h
  obtain ⟨a, S, n, rfl, ha, q⟩ := h
  rw [Vals.ref1 r]
  obtain ⟨o, es, ep, t, ho, hex, hd, hel, hm, hb, hf, hn⟩ := (I.hok a _ ha).1
  refine call_len_set ho hex hd hf (by unfold scanBound at hb; omega) ⟨.int n, H, I.tok _, ⟨_, by rw [hn]⟩, q⟩
end

/-! ### texts: their signs one by one, the sign at a place, a sign in a text -/
def sgns (z : Str) : List PyData := z.cps.toList.map fun c => .str ⟨#[c]⟩
theorem sgns_len (z : Str) : (sgns z).length = z.length := by
  unfold sgns
  rw [List.length_map, Array.length_toList]
  rfl
def pStrIt (f : PEx) : PIt := fun env C => f env fun p e => match p with
  | .dat (.str z) => C (sgns z) e
  | _ => False
def pInSg (neg : Bool) : POp := fun env pa pb C => match pa, pb with
  | .dat (.str x), .dat (.str z) => ∃ c, x = ⟨#[c]⟩ ∧ C (.dat (.bool (cond neg (!decide (c ∈ z.cps.toList)) (decide (c ∈ z.cps.toList))))) env
  | _, _ => False
def pIxS : POp := fun env pa pb C => match pa, pb with
  | .dat (.str z), .dat (.int i) => 0 ≤ i ∧ i < 1000000 ∧ ∃ c, z.cps[i.toNat]? = some c ∧ C (.dat (.str ⟨#[c]⟩)) env
  | _, _ => False
/-- x is True -/
def pIsB (neg : Bool) : POp := fun env pa pb C => match pa, pb with
  | .dat (.bool a), .dat (.bool b) => C (.dat (.bool (cond neg (!decide (a = b)) (decide (a = b))))) env
  | _, _ => False
/-- len(set(t)), t a tuple of texts -/
def pLenSetS (g : PAs) : PEx := fun env C => g env fun ps e => match ps with
  | [.dat (.tuple ds)] => ∃ ws : List Str, ds = ws.map .str ∧ ws.length ≤ 1000 ∧ C (.dat (.int (cntS ws ws.length : Nat))) e
  | _ => False
/-- all([..]) -/
def mAll (ps : List Cel) (env : PEnv) (C : PK) : Prop := match ps with
  | [p] => match lstOf env p with
    | some ds => ∃ bs : List Bool, ds = bs.map .bool ∧ C (.dat (.bool (bs.all id))) env
    | none => False
  | _ => False
/-- [e for x in xs for y in ys] -/
inductive LcOk2 (items : List PyData) (e : PEnv) (g : PTg) (t : PTst) (it1 : PIt) (g1 : PTg) (t1 : PTst) (f : PEx) (vs vs1 : List Nat) (C : PK) : Prop where
  | mk (hf : fgtB e vs = true) (W : Nat → PEnv → List PyData → Prop) (w0 : W 0 (wipeP e vs) []) (turn : ∀ j x e2 acc, items[j]? = some x → W j e2 acc → g x (wipeP e2 vs) fun e3 => t e3 fun b e4 => IfP b (it1 e4 fun items1 e5 => ∃ W1 : Nat → PEnv → List PyData → Prop, W1 0 (wipeP e5 vs1) acc ∧
      (∀ k y e6 acc1, items1[k]? = some y → W1 k e6 acc1 → g1 y (wipeP e6 vs1) fun e7 => t1 e7 fun b e8 => IfP b (f e8 (fun p e9 => match p with
        | .dat d => acc1.length < sizeLine ∧ W1 (k + 1) (wipeP e9 vs1) (acc1 ++ [d])
        | _ => False)) (W1 (k + 1) (wipeP e8 vs1) acc1)) ∧
      ∀ e6 acc1, W1 items1.length e6 acc1 → W (j + 1) (wipeP (wipeP e6 vs1) vs) acc1) (W (j + 1) (wipeP e4 vs) acc)) (fin : ∀ e2 acc, W items.length e2 acc → C (.own acc) (wipeP e2 vs))
def pLc2 (it : PIt) (g : PTg) (t : PTst) (it1 : PIt) (g1 : PTg) (t1 : PTst) (f : PEx) (vs vs1 : List Nat) : PEx := fun env C => it env fun items e => LcOk2 items e g t it1 g1 t1 f vs vs1 C
section
variable {K : PySem.W.Frag} {G : Gam}
theorem walks_str {z : Str} {t : V × Cel} : Walks K G (Its z) t (sgns z) := by
  intro Z H σ env T s ht
  have ls : (sgns z).length = z.cps.size := sgns_len z
  refine ⟨fun i x e => ?_, by show z.cps.size ≤ (sgns z).length; rw [ls]; exact Nat.le_refl _⟩
  have hi := (List.getElem?_eq_some_iff.mp e).1
  rw [ls] at hi
  unfold sgns at e
  rw [List.getElem?_map] at e
  obtain ⟨c, e1, rfl⟩ := Option.map_eq_some_iff.mp e
  rw [Array.getElem?_toList] at e1
  refine ⟨hi, fun xv H' y => ?_⟩
  obtain ⟨rfl, c', e2, rfl⟩ := y
  rw [e1] at e2
  cases e2
  exact s.dat rfl
theorem li_inSg : LiftO K G (fun x y H Q => ∃ (c : Nat) (z : Str), x = .str ⟨#[c]⟩ ∧ y = .str z ∧ Q (.bl (decide (c ∈ z.cps.toList))) H) (pInSg false) := by
  intro Z H σ env T x y pa pb C Q s h k
  unfold pInSg at h
  split at h
  · have h1 := s.topDat
    have h2 := s.pop.topDat
    cases h1
    cases h2
    obtain ⟨c, rfl, h⟩ := h
    exact ⟨c, _, rfl, rfl, k _ _ _ _ h ⟨Z, s.pop.pop.dat rfl⟩⟩
  · exact h.elim
theorem li_ninSg : LiftO K G (fun x y H Q => ∃ (c : Nat) (z : Str), x = .str ⟨#[c]⟩ ∧ y = .str z ∧ Q (.bl (!decide (c ∈ z.cps.toList))) H) (pInSg true) := by
  intro Z H σ env T x y pa pb C Q s h k
  unfold pInSg at h
  split at h
  · have h1 := s.topDat
    have h2 := s.pop.topDat
    cases h1
    cases h2
    obtain ⟨c, rfl, h⟩ := h
    exact ⟨c, _, rfl, rfl, k _ _ _ _ h ⟨Z, s.pop.pop.dat rfl⟩⟩
  · exact h.elim
abbrev rIxStr : R2 := fun x y H Q => ∃ z i c, x = .str z ∧ y = .int i ∧ 0 ≤ i ∧ i < 2 ^ 63 ∧ i < z.length ∧ z.cps[i.toNat]? = some c ∧ Q (.str ⟨#[c]⟩) H
theorem li_ixS : LiftO K G rIxStr pIxS := by
  intro Z H σ env T x y pa pb C Q s h k
  unfold pIxS at h
  split at h
  · have h1 := s.topDat
    have h2 := s.pop.topDat
    cases h1
    cases h2
    obtain ⟨h0, h9, c, hc, h⟩ := h
    have hl := (Array.getElem?_eq_some_iff.mp hc).1
    refine ⟨_, _, c, rfl, rfl, h0, by omega, ?_, hc, k _ _ _ _ h ⟨Z, s.pop.pop.dat rfl⟩⟩
    show _ < (((_ : Str).cps.size : Nat) : Int)
    omega
  · exact h.elim
theorem li_isB : LiftO K G (fun x y H Q => ∃ a b, x = .bl a ∧ y = .bl b ∧ Q (.bl (decide (a = b))) H) (pIsB false) := by
  intro Z H σ env T x y pa pb C Q s h k
  unfold pIsB at h
  split at h
  · have h1 := s.topDat
    have h2 := s.pop.topDat
    cases h1
    cases h2
    exact ⟨_, _, rfl, rfl, k _ _ _ _ h ⟨Z, s.pop.pop.dat rfl⟩⟩
  · exact h.elim
theorem li_nisB : LiftO K G (fun x y H Q => ∃ a b, x = .bl a ∧ y = .bl b ∧ Q (.bl (!decide (a = b))) H) (pIsB true) := by
  intro Z H σ env T x y pa pb C Q s h k
  unfold pIsB at h
  split at h
  · have h1 := s.topDat
    have h2 := s.pop.topDat
    cases h1
    cases h2
    exact ⟨_, _, rfl, rfl, k _ _ _ _ h ⟨Z, s.pop.pop.dat rfl⟩⟩
  · exact h.elim
theorem bools_da {Z : Addr → Prop} {H : Hp} : ∀ {bs : List Bool} {vs : List V}, DaAll K Z H (bs.map .bool) vs → vs = bs.map V.bl
  | [], _, h => h
  | b :: bs, _, ⟨v, r, e, h1, h2⟩ => by
    subst e
    rw [bools_da h2]
    cases h1
    rfl
theorem strs_da {Z : Addr → Prop} {H : Hp} : ∀ {ws : List Str} {vs : List V}, DaAll K Z H (ws.map .str) vs → vs = ws.map V.str
  | [], _, h => h
  | b :: bs, _, ⟨v, r, e, h1, h2⟩ => by
    subst e
    rw [strs_da h2]
    cases h1
    rfl
theorem lc_all : LiftC K G (rAll K) mAll := by
  intro Z H σ env T vs ps C Q s l h k
  unfold mAll at h
  split at h
  · obtain ⟨v, rfl, S⟩ := one_arg s l
    split at h
    · next ds e =>
      obtain ⟨bs, rfl, h⟩ := h
      obtain ⟨a, us, rfl, ha, hx⟩ := S.lst List.mem_cons_self e
      have := bools_da hx
      subst this
      exact ⟨a, bs, rfl, SqL.of ha, k _ _ _ _ h ⟨Z, S.pop.dat rfl⟩⟩
    · exact h.elim
  · exact h.elim
theorem StZ.swap {Z : Addr → Prop} {H : Hp} {σ : L2.St} {env : PEnv} {T : Stk} {t u : V × Cel} (s : StZ K G Z H σ env (t :: u :: T)) : StZ K G Z H σ env (u :: t :: T) := by
  have pm : (t :: u :: T).Perm (u :: t :: T) := List.Perm.swap _ _ _
  have m : ∀ x ∈ u :: t :: T, x ∈ t :: u :: T := fun x hx => pm.mem_iff.mpr hx
  exact { s with tm := fun x hx => s.tm x (m x hx), bo := fun x hx => s.bo x (m x hx), pn := fun x hx => s.pn x (m x hx), pu := (pm.pairwise_iff fun {a b} h i k k' e e' => h i k' k e' e).mp s.pu, s2 := (pm.pairwise_iff fun {a b} h x e e' => h x e' e).mp s.s2, s3 := fun i a x o hx => s.s3 i a x o (m x hx), ta := fun x hx => s.ta x (m x hx) }
end
section
variable {X : Cx} {G : Gam} {e a b c : Expr} {tg l : Expr} {pos : Pos} {f fa fb : PEx} {it it1 : PIt} {g g1 : PTg} {t t1 : PTst} {vs vs1 : List Nat} {ga : PAs}
theorem pi_strP (hl : PE X l (tE X.K G f)) : PI X tg l (tI X.K G (pStrIt f)) := (pi_str hl).le fun σ H R ⟨env, T, C, s, h, k⟩ => ⟨env, T, _, s, h, fun p e1 v H1 h1 ⟨Z, s1⟩ => by
  split at h1
  · have := s1.topDat
    cases this
    exact ⟨_, rfl, k _ _ (.non, .dat .none) _ _ h1 (nb_no (fun _ z => by cases z) (fun _ _ z => by cases z)) ⟨Z, s1.pop.dat rfl⟩ walks_str⟩
  · exact h1.elim⟩
theorem pe_ixSP (ha : PE X a (tE X.K G fa)) (hb : PE X b (tE X.K G fb)) (hs : PlainIxT b) : PE X (.Subscript a b pos) (tE X.K G (pBin pIxS fa fb)) := (pe_item_str ha hb hs).le (binP li_ixS)
theorem pe_lenSetS (h : PE X e (tCB (rLenSetS X.prog X.w) (tCons (tCB (rSetStr X.K X.prog X.w) (tA X.K G ga)) tNil))) : PE X e (tE X.K G (pLenSetS ga)) := h.le fun σ H Q ⟨env, T, C, s, h, k⟩ => ⟨env, T, _, s, h, fun ps e1 vs H1 h1 l1 ⟨Z, s1⟩ => by
  split at h1
  · obtain ⟨v, rfl, S⟩ := one_arg s1 l1
    obtain ⟨ws, rfl, hn, hc⟩ := h1
    obtain ⟨a, us, rfl, ha, hx⟩ := S.topDat
    have := strs_da hx
    subst this
    exact ⟨a, ws, rfl, ha, hn, fun b hb => ⟨b, _, _, rfl, upd_same, k _ _ _ _ hc ⟨Z, (S.pop.alloc _ hb).dat rfl⟩⟩⟩
  · exact h1.elim⟩
theorem lc2P (sub : ∀ i ∈ vs1, i ∈ vs) (σ : L2.St) (H : Hp) (Q : VK) (h : tE X.K G (pLc2 it g t it1 g1 t1 f vs vs1) σ H Q) : tLc2 (tI X.K G it) (tG X.K G (some vs) g) (tQ X.K G t) (tI X.K G it1) (tG X.K G (some vs1) g1) (tQ X.K G t1) (tE X.K G f) vs vs1 σ H Q := by
  obtain ⟨env, T, C, s, h, k⟩ := h
  refine ⟨env, T, _, s, h, fun items e1 u H1 J h1 nbt ⟨Z1, s1⟩ wk => ?_⟩
  obtain ⟨hf, W, w0, turn, fin⟩ := h1
  intro D hD
  have nbv := s1.fgtB hf
  have nbA : ∀ acc, ∀ v ∈ vs, ∀ t ∈ ((V.ref D, Cel.own acc) :: u :: T), t.2 ≠ Cel.bor v ∧ ∀ k, t.2 ≠ Cel.sub v k := fun acc v hv t ht => by
    rcases List.mem_cons.mp ht with rfl | ht
    · exact ⟨(fun z => by cases z), fun k z => by cases z⟩
    · exact nbv v hv t ht
  have ww : wipe (wipe σ vs) vs = wipe σ vs := wipe_wipe vs fun _ h => h
  refine ⟨fun i m H => m = items.length - i ∧ i ≤ items.length ∧ ∃ env acc, W i env acc ∧ StE X.K G H (wipe σ vs) (wipeP env vs) ((.ref D, .own acc) :: u :: T), ⟨_, rfl, Nat.zero_le _, wipeP e1 vs, [], w0, Z1, StZ.wipeA (StZ.wipeS (nbA []) (StZ.wipeS (nbA []) (s1.newLst (ds := []) (vs := []) hD rfl)))⟩, ?_⟩
  rintro i m H2 ⟨rfl, hi, e2, acc, w2, Z2, s2⟩
  obtain ⟨go, stop⟩ := wk Z2 H2 _ _ _ s2 (List.mem_cons_of_mem _ List.mem_cons_self)
  by_cases hlt : i < items.length
  · obtain ⟨go1, go2⟩ := go i _ (List.getElem?_eq_getElem hlt)
    refine .inr ⟨go1, fun H => ∃ env acc, W (i + 1) env acc ∧ StE X.K G H (wipe σ vs) (wipeP env vs) ((.ref D, .own acc) :: u :: T), fun H' x => ⟨items.length - (i + 1), by omega, rfl, hlt, x⟩, fun x H3 y => ?_⟩
    refine ⟨wipeP e2 vs, (.ref D, .own acc) :: u :: T, _, _, (fun z => by cases z), ⟨Z2, go2 x H3 y⟩, turn i _ e2 acc (List.getElem?_eq_getElem hlt) w2, fun e3 σ3 H3 h3 s3 hw => ?_⟩
    have hw3 : wipe σ3 vs = wipe σ vs := (hw vs rfl).trans ww
    refine ⟨hw3, e3, _, _, s3, h3, fun b e4 H4 h4 s4 => ?_⟩
    have back : ∀ {Z H5 e5 acc'}, StZ X.K G Z H5 σ3 e5 ((.ref D, .own acc') :: u :: T) → StE X.K G H5 (wipe σ vs) (wipeP (wipeP e5 vs) vs) ((.ref D, .own acc') :: u :: T) := fun {Z H5 e5 acc'} s5 => by
      have s6 := (StZ.wipeS (nbA acc') (StZ.wipeS (nbA acc') s5)).wipeA
      rw [hw3] at s6
      exact ⟨Z, s6⟩
    cases b with
    | false =>
      obtain ⟨Z4, s4⟩ := s4
      exact ⟨_, _, h4.ff, back s4⟩
    | true =>
      refine ⟨e4, (.ref D, .own acc) :: u :: T, _, s4, h4.tt, fun items1 e5 u1 H5 J1 h5 nb1 ⟨Z5, s5⟩ wk1 => ?_⟩
      obtain ⟨W1, w10, turn1, fin1⟩ := h5
      have nbB : ∀ acc', ∀ v ∈ vs1, ∀ t ∈ (u1 :: (V.ref D, Cel.own acc') :: u :: T), t.2 ≠ Cel.bor v ∧ ∀ k, t.2 ≠ Cel.sub v k := fun acc' v hv t ht => by
        rcases List.mem_cons.mp ht with rfl | ht
        · exact nb1 v
        · exact nbA acc' v (sub v hv) t ht
      have ww1 : wipe (wipe σ3 vs1) vs1 = wipe σ3 vs1 := wipe_wipe vs1 fun _ h => h
      refine ⟨fun j m H => m = items1.length - j ∧ j ≤ items1.length ∧ ∃ env acc', W1 j env acc' ∧ StE X.K G H (wipe σ3 vs1) (wipeP env vs1) (u1 :: (.ref D, .own acc') :: u :: T), ⟨_, rfl, Nat.zero_le _, wipeP e5 vs1, acc, w10, Z5, StZ.wipeA (StZ.wipeS (nbB acc) (StZ.wipeS (nbB acc) s5))⟩, ?_⟩
      rintro j m1 H6 ⟨rfl, hj, e6, acc6, w6, Z6, s6⟩
      obtain ⟨goj, stopj⟩ := wk1 Z6 H6 _ _ _ s6 List.mem_cons_self
      by_cases hlt1 : j < items1.length
      · obtain ⟨gj1, gj2⟩ := goj j _ (List.getElem?_eq_getElem hlt1)
        refine .inr ⟨gj1, fun H => ∃ env acc', W1 (j + 1) env acc' ∧ StE X.K G H (wipe σ3 vs1) (wipeP env vs1) (u1 :: (.ref D, .own acc') :: u :: T), fun H' x => ⟨items1.length - (j + 1), by omega, rfl, hlt1, x⟩, fun x H7 y => ?_⟩
        refine ⟨wipeP e6 vs1, u1 :: (.ref D, .own acc6) :: u :: T, _, _, (fun z => by cases z), ⟨Z6, gj2 x H7 y⟩, turn1 j _ e6 acc6 (List.getElem?_eq_getElem hlt1) w6, fun e7 σ7 H7 h7 s7 hw7 => ?_⟩
        have hw8 : wipe σ7 vs1 = wipe σ3 vs1 := (hw7 vs1 rfl).trans ww1
        refine ⟨hw8, e7, _, _, s7, h7, fun b e8 H8 h8 s8 => ?_⟩
        have back1 : ∀ {Z H9 e9 acc'}, StZ X.K G Z H9 σ7 e9 (u1 :: (.ref D, .own acc') :: u :: T) → StE X.K G H9 (wipe σ3 vs1) (wipeP (wipeP e9 vs1) vs1) (u1 :: (.ref D, .own acc') :: u :: T) := fun {Z H9 e9 acc'} s9 => by
          have s10 := (StZ.wipeS (nbB acc') (StZ.wipeS (nbB acc') s9)).wipeA
          rw [hw8] at s10
          exact ⟨Z, s10⟩
        cases b with
        | false =>
          obtain ⟨Z8, s8⟩ := s8
          exact ⟨_, _, h8.ff, back1 s8⟩
        | true =>
          refine ⟨e8, _, _, s8, h8.tt, fun p e9 v H9 h9 ⟨Z9, s9⟩ => ?_⟩
          cases p with
          | dat d =>
            have sw := s9.pop.swap
            obtain ⟨a, us, e10, k1, k2, _⟩ := sw.topOwn
            cases e10
            exact ⟨us, k1, by rw [k2.len]; exact h9.1, wipeP e9 vs1, acc6 ++ [d], h9.2, back1 (sw.wrT (DaAll.app _ _ _ _ k2 (DaAll.one s9.topDat))).swap⟩
          | _ => exact h9.elim
      · have e : j = items1.length := by omega
        subst e
        exact .inl ⟨stopj, _, _, fin1 e6 acc6 w6, back s6.wipeB.pop⟩
  · have e : i = items.length := by omega
    subst e
    exact .inl ⟨stop, k _ _ _ _ (fin e2 acc w2) ⟨Z2, s2.wipeB.sub (List.Sublist.cons_cons _ (List.sublist_cons_self _ _))⟩⟩
theorem pe_lc2P (sub : ∀ i ∈ vs1, i ∈ vs) (h : PE X e (tLc2 (tI X.K G it) (tG X.K G (some vs) g) (tQ X.K G t) (tI X.K G it1) (tG X.K G (some vs1) g1) (tQ X.K G t1) (tE X.K G f) vs vs1)) : PE X e (tE X.K G (pLc2 it g t it1 g1 t1 f vs vs1)) := h.le (lc2P sub)
theorem ps_setLc2P {st : Stmt} {i : Nat} (sub : ∀ i ∈ vs1, i ∈ vs) (h : PS X st (tAsg (tLc2 (tI X.K G it) (tG X.K G (some vs) g) (tQ X.K G t) (tI X.K G it1) (tG X.K G (some vs1) g1) (tQ X.K G t1) (tE X.K G f) vs vs1) (gName i))) : PS X st (tS X.K G (pSet i (pLc2 it g t it1 g1 t1 f vs vs1))) :=
  ps_setP (h.le fun D σ H q => lc2P sub σ H _ q)
end

/-! ### a <= b <= c <= d of ints -/
def tChain3 (r r' r'' : R2) (ta tb tc td : TE) : TE := fun σ H Q => ta σ H fun x H1 => tb σ H1 fun y H2 => r x y H2 fun z H3 => ∃ k, z = .bl k ∧
  (if k = true then tc σ H3 fun u H4 => r' y u H4 fun z H5 => ∃ k, z = .bl k ∧ (if k = true then td σ H5 fun v H6 => r'' u v H6 Q else Q (.bl false) H5) else Q (.bl false) H3)
theorem pe_chain3 {X : Cx} {a b c d : Expr} {pos : Pos} {ta tb tc td : TE} {op op' op'' : CmpOp} {r r' r'' : R2} (h1 : OpR X (compareOp op) r) (h2 : OpR X (compareOp op') r') (h3 : OpR X (compareOp op'') r'') (ha : PE X a ta) (hb : PE X b tb) (hc : PE X c tc) (hd : PE X d td)
    (hm : lastMarks [op, op', op''] [b, c, d] = false := by with_unfolding_all rfl) : PE X (.Compare a [op, op', op''] [b, c, d] pos) (tChain3 r r' r'' ta tb tc td) := by
  refine ⟨fun pins s σ H Q I h => ?_⟩
  refine Compare_chain (thn (ha.run pins s σ H _ I h) fun v1 s1 ⟨x, H1, I1, r1, q1⟩ => chain_link (thn (hb.run pins s1 σ H1 _ I1 q1) fun v2 s2 ⟨y, H2, I2, r2, q2⟩ => thn (h1 pins s2 σ H2 x y v1 v2 _ I2 r1 r2 q2) fun d1 s3 ⟨z, H3, I3, r3, k, e, q3⟩ => ?_)) hm
  subst e
  cases r3
  refine wpAny_truthy_bool ?_
  cases k with
  | false => exact ite_ff ⟨.bl false, H3, I3, rfl, q3⟩
  | true =>
    refine ite_tt (chain_link (thn (hc.run pins s3 σ H3 _ I3 q3) fun v3 s4 ⟨u, H4, I4, r4, q4⟩ => thn (h2 pins s4 σ H4 y u v2 v3 _ I4 r2 r4 q4) fun d2 s5 ⟨z', H5, I5, r5, k', e', q5⟩ => ?_))
    subst e'
    cases r5
    refine wpAny_truthy_bool ?_
    cases k' with
    | false => exact ite_ff ⟨.bl false, H5, I5, rfl, q5⟩
    | true => exact ite_tt (chain_last (thn (hd.run pins s5 σ H5 _ I5 q5) fun v4 s6 ⟨v, H6, I6, r6, q6⟩ => h3 pins s6 σ H6 u v v3 v4 Q I6 r4 r6 q6))
def pChain3 (o1 o2 o3 : Int → Int → Bool) (fa fb fc fd : PEx) : PEx := fun env C => fa env fun pa e1 => fb e1 fun pb e2 => match pa, pb with
  | .dat (.int a), .dat (.int b) => IfP (o1 a b) (fc e2 fun pc e3 => match pc with
    | .dat (.int c) => IfP (o2 b c) (fd e3 fun pd e4 => match pd with
      | .dat (.int d) => C (.dat (.bool (o3 c d))) e4
      | _ => False) (C (.dat (.bool false)) e3)
    | _ => False) (C (.dat (.bool false)) e2)
  | _, _ => False
theorem pe_chain3P {X : Cx} {G : Gam} {e : Expr} {fa fb fc fd : PEx} {o1 o2 o3 : Int → Int → Bool} (h : PE X e (tChain3 (rI0 fun i j => .bl (o1 i j)) (rI0 fun i j => .bl (o2 i j)) (rI0 fun i j => .bl (o3 i j)) (tE X.K G fa) (tE X.K G fb) (tE X.K G fc) (tE X.K G fd))) : PE X e (tE X.K G (pChain3 o1 o2 o3 fa fb fc fd)) := h.le fun σ H Q h => by
  obtain ⟨env, T, C, s, h, k⟩ := h
  refine ⟨env, T, _, s, h, fun pa e1 x H1 h1 s1 => ⟨e1, _, _, s1, h1, fun pb e2 y H2 h2 s2 => ?_⟩⟩
  split at h2
  · obtain ⟨Z, s2⟩ := s2
    have g1 := s2.topDat
    have g2 := s2.pop.topDat
    cases g1
    cases g2
    refine ⟨_, _, rfl, rfl, _, rfl, ?_⟩
    cases h2 with
    | f hf h2 =>
      rw [if_neg (by rw [hf]; decide)]
      exact k _ _ _ _ h2 ⟨Z, s2.pop.pop.dat rfl⟩
    | t ht h2 =>
      rw [if_pos ht]
      refine ⟨e2, _, _, ⟨Z, s2⟩, h2, fun pc e3 w H3 h3 ⟨Z3, s3⟩ => ?_⟩
      split at h3
      · have g3 := s3.topDat
        cases g3
        refine ⟨_, _, rfl, rfl, _, rfl, ?_⟩
        cases h3 with
        | f hf h3 =>
          rw [if_neg (by rw [hf]; decide)]
          exact k _ _ _ _ h3 ⟨Z3, s3.pop.pop.pop.dat rfl⟩
        | t ht h3 =>
          rw [if_pos ht]
          refine ⟨e3, _, _, ⟨Z3, s3⟩, h3, fun pd e4 w H4 h4 ⟨Z4, s4⟩ => ?_⟩
          split at h4
          · have g4 := s4.topDat
            cases g4
            exact ⟨_, _, rfl, rfl, k _ _ _ _ h4 ⟨Z4, s4.pop.pop.pop.pop.dat rfl⟩⟩
          · exact h4.elim
      · exact h3.elim
  · exact h2.elim
theorem da_strs {K : PySem.W.Frag} {Z : Addr → Prop} {H : Hp} : ∀ ns : List Str, DaAll K Z H (ns.map PyData.str) (ns.map V.str)
  | [] => rfl
  | n :: ns => ⟨_, _, rfl, rfl, da_strs ns⟩
/-! ### tuple(range(a, b)) -/
def pTupR2 (f h : PEx) : PEx := fun env C => f env fun p e => h e fun q e2 => match p, q with
  | .dat (.int m), .dat (.int n) => RgOk m n ∧ C (.dat (.tuple (rangeP m n))) e2
  | _, _ => False
theorem pe_tupR2P {X : Cx} {G : Gam} {e : Expr} {f f2 : PEx} (h : PE X e (tTupRg (tRg2 (tE X.K G f) (tE X.K G f2)))) : PE X e (tE X.K G (pTupR2 f f2)) := h.le fun σ H Q ⟨env, T, C, s, h, k⟩ => ⟨env, T, _, s, h, fun p e1 v H1 h1 s1 => ⟨e1, _, _, s1, h1, fun p2 e2 v2 H2 h2 ⟨Z, s2⟩ => by
  split at h2
  · have h3 := s2.topDat
    have h4 := s2.pop.topDat
    cases h3
    cases h4
    exact ⟨_, _, rfl, rfl, h2.1, fun q hq => k _ _ _ _ h2.2 ⟨Z, s2.pop.pop.newTup hq (da_rg _ _)⟩⟩
  · exact h2.elim⟩⟩

/-! ### a comprehension over a list that is held by a name -/
inductive LcOkB (j : Nat) (items : List PyData) (e : PEnv) (g : PTg) (t : PTst) (f : PEx) (vs : List Nat) (C : PK) : Prop where
  | mk (hf : fgtB e vs = true) (nj : j ∉ vs) (W : Nat → PEnv → List PyData → Prop) (w0 : W 0 (wipeP e vs) []) (keep : ∀ i e2 acc, W i e2 acc → (wipeP e2 vs)[j]? = some (.own items)) (turn : ∀ i x e2 acc, items[i]? = some x → W i e2 acc → g x (wipeP e2 vs) fun e3 => t e3 fun b e4 => IfP b (f e4 (fun p e5 => match p with
      | .dat d => acc.length < sizeLine ∧ W (i + 1) (wipeP e5 vs) (acc ++ [d])
      | _ => False)) (W (i + 1) (wipeP e4 vs) acc)) (fin : ∀ e2 acc, W items.length e2 acc → C (.own acc) (wipeP e2 vs))
def pLcB (j : Nat) (g : PTg) (t : PTst) (f : PEx) (vs : List Nat) : PEx := fun env C => match env[j]? with
  | some (.own items) => LcOkB j items env g t f vs C
  | _ => False
section
variable {X : Cx} {G : Gam} {e : Expr} {g : PTg} {t : PTst} {f : PEx} {vs : List Nat}
theorem lcBP {j : Nat} (σ : L2.St) (H : Hp) (Q : VK) (h : tE X.K G (pLcB j g t f vs) σ H Q) : tLc (iSeqP X.K (tVar j)) (tG X.K G (some vs) g) (tQ X.K G t) (tE X.K G f) vs σ H Q := by
  obtain ⟨env, T, C, s, h, k⟩ := h
  unfold pLcB at h
  split at h
  · next items ej =>
    obtain ⟨hf, nj, W, w0, keep, turn, fin⟩ := h
    obtain ⟨Z1, s1⟩ := s
    obtain ⟨ov, eσ, a, us, rfl, ha, hx, _⟩ := s1.sl j _ ej
    have eσw : (wipe σ vs)[j]? = some (some (V.ref a)) := by rw [wipe_out nj]; exact eσ
    refine ⟨.ref a, eσ, a, rfl, .inl ⟨us, SqL.of ha, ?_⟩⟩
    intro D hD
    have nbv := s1.fgtB hf
    have sD := (s1.newLst (ds := []) (vs := []) hD rfl)
    have nbA : ∀ acc, ∀ v ∈ vs, ∀ t ∈ ((V.ref D, Cel.own acc) :: T), t.2 ≠ Cel.bor v ∧ ∀ k, t.2 ≠ Cel.sub v k := fun acc v hv t ht => by
      rcases List.mem_cons.mp ht with rfl | ht
      · exact ⟨(fun z => by cases z), fun k z => by cases z⟩
      · exact nbv v hv t ht
    have ww : wipe (wipe σ vs) vs = wipe σ vs := wipe_wipe vs fun _ h => h
    refine ⟨fun i m H => m = items.length - i ∧ i ≤ items.length ∧ ∃ env acc, W i env acc ∧ StE X.K G H (wipe σ vs) (wipeP env vs) ((.ref D, .own acc) :: T), ⟨_, rfl, Nat.zero_le _, wipeP env vs, [], w0, Z1, ?_⟩, ?_⟩
    · exact StZ.wipeA (StZ.wipeS (nbA []) (StZ.wipeS (nbA []) sD))
    · rintro i m H2 ⟨rfl, hi, e2, acc, w2, Z2, s2⟩
      obtain ⟨ov2, eσ2, a2, us2, rfl, ha2, hx2, _⟩ := s2.sl j _ (keep i e2 acc w2)
      rw [eσw] at eσ2
      cases eσ2
      by_cases hlt : i < items.length
      · obtain ⟨v, e1, hv⟩ := DaAll.at i items us2 _ hx2 (List.getElem?_eq_getElem hlt)
        refine .inr ⟨⟨us2, v, SqL.of ha2, e1⟩, fun H => ∃ env acc, W (i + 1) env acc ∧ StE X.K G H (wipe σ vs) (wipeP env vs) ((.ref D, .own acc) :: T), fun H' x => ⟨items.length - (i + 1), by omega, rfl, hlt, x⟩, fun x H3 y => ?_⟩
        obtain ⟨rfl, y⟩ := y
        have := y us2 (SqL.of ha2)
        rw [e1] at this
        cases this
        refine ⟨wipeP e2 vs, (.ref D, .own acc) :: T, _, _, (fun z => by cases z), ⟨Z2, s2.dat hv⟩, turn i _ e2 acc (List.getElem?_eq_getElem hlt) w2, fun e3 σ3 H3 h3 s3 hw => ?_⟩
        have hw3 : wipe σ3 vs = wipe σ vs := (hw vs rfl).trans ww
        refine ⟨hw3, e3, _, _, s3, h3, fun b e4 H4 h4 s4 => ?_⟩
        have back : ∀ {Z H5 e5 acc'}, StZ X.K G Z H5 σ3 e5 ((.ref D, .own acc') :: T) → StE X.K G H5 (wipe σ vs) (wipeP (wipeP e5 vs) vs) ((.ref D, .own acc') :: T) := fun {Z H5 e5 acc'} s5 => by
          have s6 := (StZ.wipeS (nbA acc') (StZ.wipeS (nbA acc') s5)).wipeA
          rw [hw3] at s6
          exact ⟨Z, s6⟩
        cases b with
        | true =>
          refine ⟨e4, _, _, s4, h4.tt, fun p e5 v H5 h5 ⟨Z5, s5⟩ => ?_⟩
          cases p with
          | dat d =>
            obtain ⟨a, us, e6, k1, k2, _⟩ := s5.pop.topOwn
            cases e6
            exact ⟨us, k1, by rw [k2.len]; exact h5.1, wipeP e5 vs, acc ++ [d], h5.2, back (s5.pop.wrT (DaAll.app _ _ _ _ k2 (DaAll.one s5.topDat)))⟩
          | _ => exact h5.elim
        | false =>
          obtain ⟨Z4, s4⟩ := s4
          exact ⟨_, _, h4.ff, back s4⟩
      · have e : i = items.length := by omega
        subst e
        exact .inl ⟨⟨us2, SqL.of ha2, by rw [hx2.len]; exact Nat.le_refl _⟩, k _ _ _ _ (fin e2 acc w2) ⟨Z2, s2.wipeB⟩⟩
  · exact h.elim
theorem pe_lcBP {j : Nat} (h : PE X e (tLc (iSeqP X.K (tVar j)) (tG X.K G (some vs) g) (tQ X.K G t) (tE X.K G f) vs)) : PE X e (tE X.K G (pLcB j g t f vs)) := h.le lcBP
end
section
variable {α : Type} {l : List α} {e : α → PyData} {env : PEnv} {g : PTg} {t : PTst} {f : PEx} {vs : List Nat} {C : PK}
theorem lc_mapB {j : Nat} (F : α → PyData) (hl : l.length < sizeLine) (hb : ∀ (i : Nat) (a : α), l[i]? = some a → ∀ Q : Option PyData → PEnv → Prop, Q (some (F a)) (wipeP env vs) → g (e a) (wipeP env vs) fun e3 => t e3 fun b e4 => IfP b (f e4 (fun p e5 => match p with
      | .dat d => Q (some d) (wipeP e5 vs)
      | _ => False)) (Q none (wipeP e4 vs))) (hc : C (.own (l.map F)) (wipeP env vs)) (hf : fgtB env vs = true := by rfl) (nj : j ∉ vs := by decide) (hk : (wipeP env vs)[j]? = some (.own (l.map e)) := by rfl) : LcOkB j (l.map e) env g t f vs C := by
  refine ⟨hf, nj, fun i e2 acc => e2 = wipeP env vs ∧ acc = (l.take i).map F, ⟨rfl, rfl⟩, ?_, ?_, ?_⟩
  · rintro i e2 acc ⟨rfl, _⟩
    rw [wipeP_idem]
    exact hk
  · rintro i x e2 acc hx ⟨rfl, rfl⟩
    rw [List.getElem?_map] at hx
    obtain ⟨a, ha, rfl⟩ := Option.map_eq_some_iff.mp hx
    rw [wipeP_idem]
    have tk : l.take (i + 1) = l.take i ++ [a] := by rw [List.take_succ, ha]; rfl
    refine hb i a ha (fun od e' => match od with
      | some d => ((l.take i).map F).length < sizeLine ∧ e' = wipeP env vs ∧ (l.take i).map F ++ [d] = (l.take (i + 1)).map F
      | none => e' = wipeP env vs ∧ (l.take i).map F = (l.take (i + 1)).map F) ?_
    exact ⟨by rw [List.length_map, List.length_take]; omega, rfl, by rw [tk, List.map_append]; rfl⟩
  · rintro e2 acc ⟨rfl, rfl⟩
    rw [List.length_map, List.take_length, wipeP_idem]
    exact hc
end

/-! ### collect of a list or a tuple -/
section
variable {P : Program} {w : World} {A : Around} {E : Value → Shared → Prop} {s : Shared}
theorem collect_seqX {l : Addr} {T : String} {o : Obj} {xs : Array Value} {n : Nat} {Q : List Value → Shared → Prop} (hT : T = "list" ∨ T = "tuple") (ho : s.heap.get? l = some o) (hc : o.cls = .type T) (hd : o.data = .seq xs n) (hsz : xs.size ≤ sizeLine)
    (hQ : ∀ h', h'.objs.size = s.heap.objs.size + 1 → (∀ b u, s.heap.get? b = some u → h'.get? b = some u) → Q xs.toList { s with heap := h' }) : wpAny (model P w) A (collect (.ref l)) Q E s := by
  have at0 : (s.heap.push (seqObj "list" #[] 0)).get? s.heap.objs.size = some (seqObj "list" #[] 0) := Heap.get?_push_size _ rfl
  have at1 := Heap.get?_update_self (Obj.mapSeq (· ++ xs)) at0 rfl
  unfold collect
  refine wpAny_bind (wpAny_runValue (codeAny_builtin F.entry_proto_collect ?_))
  rw [Around.under_plainId F.plain_proto_collect _]
  refine wpAny_bind (wpAny_newObj_type (wpAny_pure ⟨plainId_quiet F.plain_list_iadd _, codeAny_builtin F.entry_list_iadd ?_⟩))
  rw [Around.under_plainId F.plain_list_iadd _]
  have last : wpAny (model P w) A (load s.heap.objs.size >>= fun u => match u.data with
      | Data.seq ys _ => pure ys.toList
      | _ => unsupported "internal:collect") Q E { s with heap := (s.heap.push (seqObj "list" #[] 0)).update s.heap.objs.size (Obj.mapSeq (· ++ xs)) } := by
    refine wpAny_bind (wpAny_load at1 (wpAny_pure ?_))
    have e : ((#[] : Array Value) ++ xs).toList = xs.toList := by simp
    show Q ((#[] : Array Value) ++ xs).toList _
    rw [e]
    exact hQ _ (by rw [Heap.size_update, size_push']) fun b u hb => (Heap.get?_update_other _ _ (Nat.ne_of_gt (Heap.lt_size hb))).trans (Heap.get?_push_of_some _ hb)
  refine wpAny_mono (wpAny_extend_seq (hsz := hsz) (A := A) (R := fun r s' => r = .ok (.ret (.ref s.heap.objs.size)) ∧ s' = { s with heap := (s.heap.push (seqObj "list" #[] 0)).update s.heap.objs.size (Obj.mapSeq (· ++ xs)) }) (s := { s with heap := s.heap.push (seqObj "list" #[] 0) }) _ l _ 0 hT at0 (Heap.get?_push_of_some _ ho) hc hd ⟨rfl, rfl⟩) (fun fin s' h => ?_) (fun e s' h => ?_)
  · cases fin with
    | done f =>
      obtain ⟨z, rfl⟩ := h
      cases z
      exact last
    | again c' => exact ⟨h.1, codeAny_mono h.2 fun r s2 hr => by
        obtain ⟨rfl, rfl⟩ := hr
        exact last⟩
  · exact absurd h.1 (by simp)
end

/-! ### tables: an entry read, a function called; bits; defaults and keywords -/
def scD : V → Option PyData
  | .non => some .none
  | .int i => some (.int i)
  | .bl b => some (.bool b)
  | .str s => some (.str s)
  | _ => none
def pTabIx (tab : List (Str × V)) (f : PEx) : PEx := fun env C => f env fun p e => ∃ w v x, p = .dat (.str w) ∧ (w, v) ∈ tab ∧ scD v = some x ∧ C (.dat x) e
theorem scD_da {K : PySem.W.Frag} {Z : Addr → Prop} {H : Hp} {v : V} {x : PyData} (h : scD v = some x) : Da K Z H x v := by
  unfold scD at h
  split at h <;> first | (cases h; rfl) | cases h
theorem pe_tabIxP {X : Cx} {G : Gam} {e : Expr} {D : Addr} {tab : List (Str × V)} {f : PEx} (kd : ∀ q ∈ tab, KDct X.K X.w D q.1 q.2) (h : PE X e (tOp (rIxD X.K X.w) (tC (.ref D)) (tE X.K G f))) : PE X e (tE X.K G (pTabIx tab f)) :=
  h.le fun σ H Q ⟨env, T, C, s, h, k⟩ => ⟨env, T, _, s, h, fun p e1 v H1 ⟨w, u, x, e2, hm, hx, hc⟩ ⟨Z, s1⟩ => by
    subst e2
    have := s1.topDat
    cases this
    exact ⟨D, w, u, rfl, rfl, kd _ hm, k _ _ _ _ hc ⟨Z, s1.pop.dat (scD_da hx)⟩⟩⟩
def FnLk (K : PySem.W.Frag) (f : Addr) (fd : FuncData) : Prop := ∃ oc od osl, List.lookup f K = some ⟨oc, od, .func fd, osl⟩
theorem fnLk {K : PySem.W.Frag} {x qual : Str} {params : Arguments} {body : List Stmt} {scope : Scope} {dvs : List V} {kws : List (Str × V)} {f : Addr} {fd : FuncData} (F : FunD K x qual params body scope dvs kws f fd) : FnLk K f fd := by
  obtain ⟨oc, od, dV, kV, doc, pm, an, cdv, ct, osl, rfl, lk, _⟩ := F.ex
  exact ⟨oc, od, osl, lk⟩
structure FnAt (P : Program) (w : World) (K : PySem.W.Frag) (mg : Str → Option Value) (base : Heap) (k : Nat) (tbs : List Addr) (n : Nat) (ps : List Str) (D : Addr) (z : Str) (R : PR) : Prop where
  ex : ∃ f fd j, KDct K w D z (.ref f) ∧ FnLk K f fd ∧ PySem.W.keepIn K (.ref f) = true ∧ j ≤ k ∧ FnOk P w K mg base CX0 j f fd ps (spP K tbs n R) ∧ L2.Binds K fd ps []
def allSp (P : Program) (w : World) (K : PySem.W.Frag) (mg : Str → Option Value) (base : Heap) (k : Nat) (ps : List Str) (f : Addr) : Sp := fun vs H Q E => ∃ fd j sp, FnLk K f fd ∧ j ≤ k ∧ FnOk P w K mg base CX0 j f fd ps sp ∧ sp vs H Q E
open Classical in
noncomputable def allS (P : Program) (w : World) (K : PySem.W.Frag) (mg : Str → Option Value) (base : Heap) (k : Nat) (ps : List Str) : Addr → Option Sp := fun f =>
  if ∃ fd, FnLk K f fd ∧ PySem.W.keepIn K (.ref f) = true ∧ L2.Binds K fd ps [] then some (allSp P w K mg base k ps f) else none
theorem allS_held {P : Program} {w : World} {K : PySem.W.Frag} {mg : Str → Option Value} {base : Heap} {k : Nat} {ps : List Str} : ∀ f sp, allS P w K mg base k ps f = some sp → Held P w K mg base k f sp := by
  intro f sp h
  unfold allS at h
  split at h
  · next hx =>
    obtain ⟨fd, lk, kp, b⟩ := hx
    cases h
    refine ⟨⟨fd, ps, ⟨fun vs H Q E ⟨_, _, _, _, _, F, h⟩ => F.len _ _ _ _ h, fun A outer s H args us vs Q E hr he hb hv ⟨fd', j, sp, lk', hj, F, h⟩ => ?_⟩, kp, b⟩⟩
    have e : fd' = fd := by
      obtain ⟨_, _, _, l1⟩ := lk
      obtain ⟨_, _, _, l2⟩ := lk'
      rw [l1] at l2
      cases l2
      rfl
    subst e
    exact F.run A outer s H args us vs Q E (hr.mono hj) he hb hv h
  · cases h
def pFn (i n : Nat) (F : Str → Option PR) (fk : PEx) (g : PAs) : PSt := fun E env => fk env fun p e => ∃ z R, p = .dat (.str z) ∧ F z = some R ∧ i < e.length ∧ g (e.set i .no) fun ps e' => match asOf e' ps, (borOk ps && ps.length == n) with
  | some as, true => R as fun r as' => E.rt r (putB e' ps as')
  | _, _ => False
theorem pss_fnP {X : Cx} {G : Gam} {st1 st2 : Stmt} {tbs : List Addr} {k i n : Nat} {ps : List Str} {D : Addr} {F : Str → Option PR} {fk : PEx} {g : PAs} (hG : G.tbs = tbs)
    (hF : ∀ z R, F z = some R → FnAt X.prog X.w X.K X.mg X.base k tbs n ps D z R)
    (h1 : PS X st1 (tAsg (tOp (rIxD X.K X.w) (tC (.ref D)) (tE X.K G fk)) (gName i)))
    (h2 : PS X st2 (tRet (tCallA i (allS X.prog X.w X.K X.mg X.base k ps) (tA X.K G g)))) : PSs X [st1, st2] (tS X.K G (pFn i n F fk g)) := (pss_cons h1 (pss_one h2)).le fun D' σ H ⟨env, T, E, nb, s, h, kk⟩ =>
  ⟨env, T, _, s, h, fun p e1 v H1 ⟨z, R, e2, hz, hi, hc⟩ ⟨Z, s1⟩ => by
    subst e2
    obtain ⟨f, fd, j, kd, lk, kp, hj, Fo, hb⟩ := (hF z R hz).ex
    have := s1.topDat
    cases this
    refine ⟨D, z, .ref f, rfl, rfl, kd, ?_⟩
    have s2 : StZ X.K G Z H1 (σ.set i (some (.ref f))) (e1.set i .no) T := s1.pop.put hi trivial (fun _ z => by cases z) (fun t ht => nb t ht i) fun a ha => by cases ha
    have hs : i < σ.length := by
      obtain ⟨ov, e, _⟩ := s1.sl i _ (List.getElem?_eq_getElem hi)
      exact (List.getElem?_eq_some_iff.mp e).1
    refine ⟨f, allSp X.prog X.w X.K X.mg X.base k ps f, List.getElem?_set_self hs, if_pos ⟨fd, lk, kp, hb⟩, e1.set i .no, T, _, ⟨Z, s2⟩, hc, fun qs e2 vs H2 h2 l2 ⟨Z2, s3⟩ => ?_⟩
    split at h2
    · next as ha hb' =>
      rw [Bool.and_eq_true] at hb'
      have hl : as.length = n := by rw [(asOf_at qs e2 as ha).1]; exact beq_iff_eq.mp hb'.2
      exact ⟨fd, j, _, lk, hj, Fo, G.dc, Z2, as, _, hl, hG ▸ args_ok s3 l2 ha hb'.1, h2, fun r as' v H' Z' hc po => kk.rt _ _ _ _ _ hc ⟨Z', call_back s3 l2 ha hb'.1 po⟩⟩
    · exact h2.elim⟩
/-! bits -/
def pBits (g : Int → Int → Int) : POp := pInt0 fun i j => .int (g i j)
theorem li_and {K : PySem.W.Frag} {G : Gam} : LiftO K G (rI0 fun i j => .int (Builtin.bitAnd i j)) (pBits Builtin.bitAnd) := li_int0
theorem li_or {K : PySem.W.Frag} {G : Gam} : LiftO K G (rI0 fun i j => .int (Builtin.bitOr i j)) (pBits Builtin.bitOr) := li_int0
theorem li_xor {K : PySem.W.Frag} {G : Gam} : LiftO K G (rI0 fun i j => .int (Builtin.bitXor i j)) (pBits Builtin.bitXor) := li_int0
/-! a call that leaves the last parameter to its default None; one that names it -/
theorem psh_snoc : ∀ (vs : List V) (ps : List Cel) (T : Stk) (v : V) (p : Cel), vs.length = ps.length → psh T (vs ++ [v]) (ps ++ [p]) = (v, p) :: psh T vs ps
  | [], [], _, _, _, _ => rfl
  | [], _ :: _, _, _, _, l => by cases l
  | _ :: _, [], _, _, _, l => by cases l
  | u :: vs, q :: ps, T, v, p, l => psh_snoc vs ps ((u, q) :: T) v p (Nat.succ.inj l)
theorem psh_app : ∀ (vs us : List V) (ps qs : List Cel) (T : Stk), vs.length = ps.length → psh T (vs ++ us) (ps ++ qs) = psh (psh T vs ps) us qs
  | [], _, [], _, _, _ => rfl
  | [], _, _ :: _, _, _, l => by cases l
  | _ :: _, _, [], _, _, l => by cases l
  | u :: vs, us, q :: ps, qs, T, l => psh_app vs us ps qs ((u, q) :: T) (Nat.succ.inj l)
/-- the call with one more argument, None -/
def pCallD (n : Nat) (R : PR) (g : PAs) : PEx := fun env C => g env fun ps e => match asOf e (ps ++ [.dat .none]), (borOk (ps ++ [.dat .none]) && (ps ++ [Cel.dat .none]).length == n) with
  | some as, true => R as fun r as' => C r (putB e (ps ++ [.dat .none]) as')
  | _, _ => False
theorem pe_callDP {X : Cx} {G : Gam} {e : Expr} {n : Nat} {R : PR} {g : PAs} {E : XK} {tbs : List Addr} (hG : G.tbs = tbs) (h : PE X e (tCall (spP X.K tbs n R) [V.non] E (tA X.K G g))) : PE X e (tE X.K G (pCallD n R g)) := h.le fun σ H Q ⟨env, T, C, s, h, k⟩ => ⟨env, T, _, s, h, fun ps e1 vs H1 h1 l1 ⟨Z, s1⟩ => by
  split at h1
  · next as ha hb =>
    rw [Bool.and_eq_true] at hb
    have hl : as.length = n := by rw [(asOf_at _ e1 as ha).1]; exact beq_iff_eq.mp hb.2
    have s2 : StZ X.K G Z H1 σ e1 (psh T (vs ++ [V.non]) (ps ++ [.dat .none])) := by
      rw [psh_snoc _ _ _ _ _ l1]
      exact s1.dat rfl
    have l2 : (vs ++ [V.non]).length = (ps ++ [Cel.dat .none]).length := by simp [l1]
    exact ⟨G.dc, Z, as, _, hl, hG ▸ args_ok s2 l2 ha hb.1, h1, fun r as' v H' Z' hc po => k _ _ _ _ hc ⟨Z', call_back s2 l2 ha hb.1 po⟩⟩
  · exact h1.elim⟩
/-- the call with keywords behind, in the parameters' order -/
def pCallN (n a b : Nat) (R : PR) (g gk : PAs) : PEx := fun env C => g env fun ps e => ps.length = a ∧ gk e fun qs e' => qs.length = b ∧ match asOf e' (ps ++ qs), (borOk (ps ++ qs) && (ps ++ qs).length == n) with
  | some as, true => R as fun r as' => C r (putB e' (ps ++ qs) as')
  | _, _ => False
theorem pe_callNP {X : Cx} {G : Gam} {e : Expr} {n a b : Nat} {R : PR} {g gk : PAs} {E : XK} {tbs : List Addr} (hG : G.tbs = tbs)
    (h : PE X e (tCallN a b (spP X.K tbs n R) (fun vs zs => vs ++ zs) E (tA X.K G g) (tA X.K G gk))) : PE X e (tE X.K G (pCallN n a b R g gk)) := h.le fun σ H Q ⟨env, T, C, s, h, k⟩ => ⟨env, T, _, s, h, fun ps e1 vs H1 ⟨a1, h1⟩ l1 s1 => ⟨e1, _, _, s1, h1, fun qs e2 us H2 ⟨a2, h2⟩ l2 ⟨Z, s2⟩ => by
  refine ⟨by rw [l1, a1], by rw [l2, a2], ?_⟩
  split at h2
  · next as hh hb =>
    rw [Bool.and_eq_true] at hb
    have hl : as.length = n := by rw [(asOf_at _ e2 as hh).1]; exact beq_iff_eq.mp hb.2
    rw [← psh_app _ _ _ _ _ l1] at s2
    have l3 : (vs ++ us).length = (ps ++ qs).length := by rw [List.length_append, List.length_append, l1, l2]
    exact ⟨G.dc, Z, as, _, hl, hG ▸ args_ok s2 l3 hh hb.1, h2, fun r as' v H' Z' hc po => k _ _ _ _ hc ⟨Z', call_back s2 l3 hh hb.1 po⟩⟩
  · exact h2.elim⟩⟩
theorem pk_consP {X : Cx} {G : Gam} {kpos : Pos} {e : Expr} {kws : List Keyword} {f : PEx} {g : PAs} {nm : Option Str} (ha : PE X e (tE X.K G f)) (hr : L2.PK X kws (tA X.K G g)) : L2.PK X ({ arg := nm, value := e, pos := kpos } :: kws) (tA X.K G (pCons f g)) :=
  ⟨fun pos pins s σ H Q I q => (pk_cons ha hr).run pos pins s σ H Q I (by
    obtain ⟨env, T, C, s, h, k⟩ := q
    exact ⟨env, T, _, s, h, fun p e1 v H1 h1 s1 => ⟨e1, (v, p) :: T, _, s1, h1, fun ps e2 vs H2 h2 l2 s2 => k (p :: ps) e2 (v :: vs) H2 h2 (congrArg Nat.succ l2) s2⟩⟩)⟩
theorem pk_nilP {X : Cx} {G : Gam} : L2.PK X [] (tA X.K G pNil) :=
  ⟨fun pos pins s σ H Q I q => (pk_nil (X := X)).run pos pins s σ H Q I (by
    obtain ⟨env, T, C, s, h, k⟩ := q
    exact k [] env [] H h rfl s)⟩
/-- a positional parameter with a default, called by its keyword -/
theorem bindsKw {K : PySem.W.Frag} {x qual : Str} {params : Arguments} {body : List Stmt} {scope : Scope} {dvs : List V} {kws : List (Str × V)} {f : Addr} {fd : FuncData} {ps : List Str} (F : FunD K x qual params body scope dvs kws f fd) (n : Nat) (ks : List Str) (hd : dvs ≠ [])
    (h : ∀ (T : Addr) (kV doc pm : Value) (an : Option Addr) (cdv ct : Value) (us its ws : List Value), us.length = n → its.length = dvs.length → ws.length = ks.length → ∃ k, bindArgs (PySem.W.fnOf x qual params body scope (.ref T) kV doc pm an cdv ct) ⟨us, ks.zip ws⟩ = seqItems? (.ref T) >>= k ∧ k (some its.toArray) = pure (ps.zip (us ++ ws))) :
    KBn K fd ps n ks (fun us ws => us ++ ws) (fun vs zs => vs ++ zs) := by
  obtain ⟨oc, od, dV, kV, doc, pm, an, cdv, ct, osl, rfl, lk, hcd, dfl, _⟩ := F.ex
  obtain ⟨z, _⟩ | ⟨_, T, o, its, m, rfl, lT, hda, hv⟩ := dfl
  · exact absurd z hd
  refine ⟨fun s us ws hK l1 l2 => ?_, fun a b => a.append b⟩
  obtain ⟨k, e1, e2⟩ := h T kV doc pm an cdv ct us its ws l1 hv.length.symm l2
  intro M A E Q hq
  rw [e1]
  refine wpAny_bind (wpAny_seqItems (hK _ _ lT) hda ?_)
  rw [e2]
  exact wpAny_pure hq
/-! a word that is not in a table; a floor division by any number -/
def pNinTab (keys nots : List Str) (f : PEx) : PTst := fun env C => f env fun p e => match p with
  | .dat (.str z) => (z ∈ keys ∧ C false e) ∨ (z ∈ nots ∧ C true e)
  | _ => False
theorem pt_ninTabP {X : Cx} {G : Gam} {e : Expr} {f : PEx} {keys nots : List Str} {d : Addr} (hk : ∀ z ∈ keys, ∃ r, PySem.W.nsIn X.K d z = some (some r)) (hn : ∀ z ∈ nots, PySem.W.nsIn X.K d z = some none)
    (h : PT X e (tTest (tOp (fun x y H Q => ∃ (z : Str) (r : Option Value), x = .str z ∧ y = .ref d ∧ PySem.W.nsIn X.K d z = some r ∧ Q (.bl (!r.isSome)) H) (tE X.K G f) (tC (.ref d))))) : PT X e (tQ X.K G (pNinTab keys nots f)) := h.le fun σ H Q ⟨env, T, C, s, h, k⟩ => ⟨env, T, _, s, h, fun p e1 v H1 h1 ⟨Z, s1⟩ => by
  split at h1
  · have := s1.topDat
    cases this
    rcases h1 with ⟨m, h1⟩ | ⟨m, h1⟩
    · obtain ⟨r, hr⟩ := hk _ m
      exact ⟨_, some r, rfl, rfl, hr, _, rfl, k _ _ _ h1 ⟨Z, s1.pop⟩⟩
    · exact ⟨_, none, rfl, rfl, hn _ m, _, rfl, k _ _ _ h1 ⟨Z, s1.pop⟩⟩
  · exact h1.elim⟩
theorem li_fdivN {K : PySem.W.Frag} {G : Gam} : LiftO K G (rI CDivN fun i j => .int (i.fdiv j)) (pInt (fun i j => .int (i.fdiv j)) CDivN) := li_int

/-! ### min and sorted of a tuple of ints -/
section
variable {P : Program} {w : World} {A : Around} {E : Value → Shared → Prop} {s : Shared}
theorem min_tup {l : Addr} {its : List Value} {ns : List Int} {Q : Value → Shared → Prop} (hh : A.handled = none) (hl : s.heap.IsTuple l its.toArray) (hi : IntsAre its ns) (hne : 0 < ns.length)
    (h : ∀ h' tk M t', (∀ b o, s.heap.get? b = some o → h'.get? b = some o) → M ∈ ns → (∀ a, a ∈ ns → M ≤ a) → Q (.int M t') { s with heap := h', toks := tk }) : wpAny (model P w) A (call (.builtin "min") [.ref l]) Q E s := by
  obtain ⟨xs, e⟩ := hi.allInts.items
  have hn : numsOf (intItems xs).toList = ns := by
    rw [← e]
    exact hi.numsOf
  rw [nums_intItems] at hn
  subst hn
  rw [e] at hl
  have hsz : 0 < xs.size := by simpa using hne
  refine call_min_walk (tup_walk (A := A.in1) hh hl fun I s2 St W st hlt back => ?_)
  refine ⟨I, [I, l], [I], _, _, St, _, rfl, W, st, hlt, by simpa [intItems] using hsz, CmpOf.ints_lt (numAt xs) (fun _ _ => intItems_at), fun v h' tk hv k => ?_⟩
  obtain ⟨h'', tk', e2, k2⟩ := back h' tk k
  rw [e2]
  have hv : (intItems xs)[argBest (fun i j => decide (numAt xs i < numAt xs j)) (xs.size - 1)]? = some v := by simpa [intItems] using hv
  obtain ⟨t, rfl⟩ := intItems_at hv
  obtain ⟨h1, h2⟩ := argBest_lt (numAt xs) (xs.size - 1)
  refine h h'' tk' _ t k2 ?_ fun a ha => ?_
  · rw [numAt_eq]
    exact PySem.getD_mem (by rw [List.length_map, Array.length_toList]; omega)
  · obtain ⟨j, hj, rfl⟩ := PySem.mem_getD ha
    rw [List.length_map, Array.length_toList] at hj
    rw [← numAt_eq]
    exact h2 j (by omega)
theorem sort_tup {a : Addr} {its : List Value} {ns : List Int} {Q : Value → Shared → Prop} (ha : s.heap.IsTuple a its.toArray) (hi : IntsAre its ns) (hz : its.length ≤ sizeLine)
    (hQ : ∀ (s' : Shared) (p : Addr) (out : List Value) (c : Nat) (ms : List Int), (∀ b o, s.heap.get? b = some o → s'.heap.get? b = some o) → s'.gens = s.gens → s'.os = s.os → s.heap.objs.size ≤ p → s'.heap.get? p = some (seqObj "list" out.toArray c) → IntsAre out ms → ms.Pairwise (· ≤ ·) → ms.Perm ns → Q (.ref p) s') : wpAny (model P w) A (call (.builtin "sorted") [.ref a]) Q E s := by
  obtain ⟨o, ho, hc, n, hd⟩ := ha
  refine Calls.call_function_entry kind_sorted plain_sorted entry_sorted (args_sorted1 _) ?_
  unfold Builtin.«sorted»
  refine wpAny_bind (m := checkCount "sorted" 1 1 _) (wpAny_pure ?_)
  refine wpAny_bind (collect_seqX (.inr rfl) ho hc hd (by rw [List.size_toArray]; exact hz) fun h1 z1 k1 => ?_)
  have allI : ∀ v ∈ its, ∃ k t, v = Value.int k t := fun v hv => by
    obtain ⟨xs, e⟩ := hi.allInts.items
    have e : its = (intItems xs).toList := by
      have := congrArg Array.toList e
      simpa using this
    rw [e] at hv
    obtain ⟨j, hj, hjv⟩ := List.mem_iff_getElem.mp hv
    have : (intItems xs)[j]? = some v := by
      rw [← Array.getElem?_toList, List.getElem?_eq_getElem hj, hjv]
    obtain ⟨t, rfl⟩ := intItems_at this
    exact ⟨_, _, rfl⟩
  have hI := SrtO.ints_iv allI
  have eN : its.map SrtO.iv = ns := by
    have h1 := hI.numsOf
    rw [hi.numsOf] at h1
    exact h1.symm
  refine wpAny_bind (wpAny_newList ?_ hz)
  have at_ : (h1.push (seqObj "list" its.toArray 0)).get? h1.objs.size = some (seqObj "list" its.toArray 0) := Heap.get?_push_size _ rfl
  refine wpAny_bind (wpAny_holding (wpAny_call_entry slot_list_sort ⟨_, at_, rfl⟩ entry_list_sort (SrtO.list_sort_ord SrtO.swo_int at_ hz (fun h2 => SrtO.ints_sortable hI h2) fun out a1 a2 => ⟨_, rfl, ?_⟩) (args_list_sort _)))
  obtain ⟨b1, b2, b3⟩ := SrtO.ints_out hI a1 a2
  obtain ⟨c, hc⟩ := sortedHeap_at (vs := its) (out := out.toArray) at_
  refine wpAny_pure ⟨_, rfl, hQ _ h1.objs.size out c (out.map SrtO.iv) (fun b u e => ?_) rfl rfl (by omega) hc b1 b3 (eN ▸ b2)⟩
  have q := k1 b u e
  have hlt := Heap.lt_size q
  refine (sortedHeap_old (Nat.ne_of_lt hlt) (by rw [size_push']; exact Nat.lt_succ_of_lt hlt)).trans (Heap.get?_push_of_some _ q)
end
section
variable {X : Cx}
def rMinT (K : PySem.W.Frag) : List V → Hp → VK → Prop := fun vs H Q => ∃ (a : Addr) (ns : List Int), vs = [V.ref a] ∧ SqT K H a (ns.map V.int) ∧ 0 < ns.length ∧ ∀ m, m ∈ ns → (∀ y, y ∈ ns → m ≤ y) → Q (.int m) H
theorem cr_minT (hc : X.calm = true) : CallR X (.builtin "min") (rMinT X.K) := by
  intro pins s σ H vs us Q I r h
  obtain ⟨a, ns, rfl, hs, hne, q⟩ := h
  obtain ⟨its, rv, hl, _⟩ := I.tuple hs
  rw [Vals.ref1 r]
  exact min_tup (I.ok.hd hc) hl rv.ints hne fun h' tk m t' hk h1 h2 => ⟨.int _, H, I.kept hk, ⟨_, rfl⟩, q m h1 h2⟩
def rSortTup (K : PySem.W.Frag) : List V → Hp → VK → Prop := fun vs H Q => ∃ (a : Addr) (ns : List Int), vs = [V.ref a] ∧ SqT K H a (ns.map V.int) ∧ ∀ (ms : List Int) (p : Addr), ms.Perm ns → ms.Pairwise (· ≤ ·) → H p = none → Q (.ref p) (upd H p (.lst (ms.map V.int)))
theorem cr_sortTup : CallR X (.builtin "sorted") (rSortTup X.K) := by
  intro pins s σ H vs us Q I r h
  obtain ⟨a, ns, rfl, ha, q⟩ := h
  rw [Vals.ref1 r]
  obtain ⟨its, rv, hl, hz⟩ := I.tuple ha
  have ln : its.length = ns.length := by rw [← rv.length, List.length_map]
  refine sort_tup hl rv.ints (by rw [ln]; simpa using hz) fun s' p out c ms k g o hp hg hi hs hm => ?_
  have hn : H p = none := I.hok.fresh hp
  have J : Inv X pins σ (upd H p (.lst (ms.map V.int))) { s with heap := s'.heap, gens := s'.gens, drawn := s'.drawn, toks := s'.toks } :=
    I.call (ch := []) (Un.laid k hp hn) (I.hok.laid k hp ⟨by rw [List.length_map, hm.length_eq]; simpa using hz, out, c, vals_of_ints hi, hg⟩) (by rw [g]; exact I.bare) (fun _ z => nomatch z)
  rw [GxR.sh_eta s s' o] at J
  exact ⟨.ref p, _, J, rfl, q ms p hm hs hn⟩
end
def mMinT (ps : List Cel) (env : PEnv) (C : PK) : Prop := match ps with
  | [p] => match itemsOf env p with
    | some ds => ∃ ns : List Int, ds = ns.map .int ∧ 0 < ns.length ∧ ∀ m, m ∈ ns → (∀ y, y ∈ ns → m ≤ y) → C (.dat (.int m)) env
    | none => False
  | _ => False
/-- sorted of a list or a tuple -/
def mSortA (ps : List Cel) (env : PEnv) (C : PK) : Prop := match ps with
  | [p] => match itemsOf env p with
    | some ds => ∃ ns : List Int, ds = ns.map .int ∧ ∀ ms : List Int, ms.Perm ns → ms.Pairwise (· ≤ ·) → C (.own (ms.map .int)) env
    | none => False
  | _ => False
section
variable {X : Cx} {K : PySem.W.Frag} {G : Gam}
def rMinA (K : PySem.W.Frag) : List V → Hp → VK → Prop := fun xs H Q => rMin K xs H Q ∨ rMinT K xs H Q
theorem call_minA (hc : X.calm = true) : CallR X (.builtin "min") (rMinA X.K) := CallR.or (cr_min hc) (cr_minT hc)
theorem lc_minT : LiftC K G (rMinA K) mMinT := by
  intro Z H σ env T vs ps C Q s l h k
  unfold mMinT at h
  split at h
  · obtain ⟨v, rfl, S⟩ := one_arg s l
    split at h
    · next ds e =>
      obtain ⟨ns, rfl, hn, h⟩ := h
      obtain ⟨a, us, rfl, ha, hx⟩ := S.seq List.mem_cons_self e
      have := ints_da hx
      subst this
      rcases ha with ha | ha
      · exact .inl ⟨a, ns, rfl, ha, hn, fun m h1 h2 => k _ _ _ _ (h m h1 h2) ⟨Z, S.pop.dat rfl⟩⟩
      · exact .inr ⟨a, ns, rfl, ha, hn, fun m h1 h2 => k _ _ _ _ (h m h1 h2) ⟨Z, S.pop.dat rfl⟩⟩
    · exact h.elim
  · exact h.elim
def rSortA (K : PySem.W.Frag) : List V → Hp → VK → Prop := fun xs H Q => rSortedI K xs H Q ∨ rSortTup K xs H Q
theorem call_sortA : CallR X (.builtin "sorted") (rSortA X.K) := CallR.or cr_sortedI cr_sortTup
theorem lc_sortA : LiftC K G (rSortA K) mSortA := by
  intro Z H σ env T vs ps C Q s l h k
  unfold mSortA at h
  split at h
  · obtain ⟨v, rfl, S⟩ := one_arg s l
    split at h
    · next ds e =>
      obtain ⟨ns, rfl, h⟩ := h
      obtain ⟨a, us, rfl, ha, hx⟩ := S.seq List.mem_cons_self e
      have := ints_da hx
      subst this
      rcases ha with ha | ha
      · exact .inl ⟨a, ns, rfl, ha, fun ns' p h1 h2 hp => k _ _ _ _ (h ns' h1 h2) ⟨Z, S.pop.newLst hp (da_ints ns')⟩⟩
      · exact .inr ⟨a, ns, rfl, ha, fun ns' p h1 h2 hp => k _ _ _ _ (h ns' h1 h2) ⟨Z, S.pop.newLst hp (da_ints ns')⟩⟩
    · exact h.elim
  · exact h.elim
end

theorem plain_of : ∀ {ds : List PyData}, (∀ d ∈ ds, plainD d = true) → plainAll ds = true
  | [], _ => rfl
  | d :: ds, h => by
    show (plainD d && plainAll ds) = true
    rw [h d List.mem_cons_self, plain_of fun e he => h e (List.mem_cons_of_mem _ he)]
    rfl
theorem depth_of {n : Nat} : ∀ {ds : List PyData}, (∀ d ∈ ds, d.depth ≤ n) → PyData.depthAll ds ≤ n
  | [], _ => Nat.zero_le _
  | d :: ds, h => by
    show max d.depth (PyData.depthAll ds) ≤ n
    exact Nat.max_le.mpr ⟨h d List.mem_cons_self, depth_of fun e he => h e (List.mem_cons_of_mem _ he)⟩

/-! ### kinds -/
inductive Kd where
  | bool
  | mode (ns : List Str)
  | num (lo hi per : Int) (how : Str)
deriving DecidableEq
def Kd.ds : Kd → List PyData
  | .bool => [.str "bool"]
  | .mode ns => [.str "mode", .tuple (ns.map PyData.str)]
  | .num lo hi per how => [.str "num", .int lo, .int hi, .int per, .str how]
@[reducible] def Kd.d (k : Kd) : PyData := .tuple k.ds
def Kd.ok : Kd → Prop
  | .bool => True
  | .mode ns => 2 ≤ ns.length ∧ ns.length ≤ 3 ∧ ∀ n ∈ ns, PyData.strOk n = true
  | .num lo hi per how => -1000 ≤ lo ∧ lo ≤ hi ∧ hi ≤ 1000 ∧ hi - lo < 200 ∧ 1 ≤ per ∧ per ≤ 100 ∧ (how = "wrap" ∨ how = "hold")
def Kd.lo : Kd → Int
  | .num lo _ _ _ => lo
  | _ => 0
def Kd.hi : Kd → Int
  | .bool => 1
  | .mode ns => (ns.length : Int) - 1
  | .num _ hi _ _ => hi
def Kd.per : Kd → Int
  | .num _ _ p _ => p
  | _ => 1
def Kd.isn : Kd → Bool
  | .num _ _ _ _ => true
  | _ => false
theorem Kd.ok.ends {k : Kd} (h : k.ok) : k.lo ≤ k.hi ∧ -1000 ≤ k.lo ∧ k.hi ≤ 1000 ∧ k.hi - k.lo < 200 ∧ 1 ≤ k.per ∧ k.per ≤ 100 := by
  cases k with
  | bool => exact ⟨by decide, by decide, by decide, by decide, by decide, by decide⟩
  | mode ns =>
    obtain ⟨h1, h2, _⟩ := h
    show (0 : Int) ≤ (ns.length : Int) - 1 ∧ (-1000 : Int) ≤ 0 ∧ (ns.length : Int) - 1 ≤ 1000 ∧ (ns.length : Int) - 1 - 0 < 200 ∧ (1 : Int) ≤ 1 ∧ (1 : Int) ≤ 100
    omega
  | num lo hi per how =>
    obtain ⟨h1, h2, h3, h4, h5, h6, _⟩ := h
    exact ⟨h2, h1, h3, h4, h5, h6⟩
/-- a plain kind, or a row of one -/
inductive Rk where
  | p (k : Kd)
  | r (k : Kd) (n : Nat)
deriving DecidableEq
def Rk.ds : Rk → List PyData
  | .p k => k.ds
  | .r k n => [.str "row", k.d, .int (n : Int)]
@[reducible] def Rk.d (r : Rk) : PyData := .tuple r.ds
def Rk.k : Rk → Kd
  | .p k => k
  | .r k _ => k
def Rk.ok : Rk → Prop
  | .p k => k.ok
  | .r k n => k.ok ∧ 1 ≤ n ∧ n ≤ 6
theorem Rk.ok.k {r : Rk} (h : r.ok) : r.k.ok := by
  cases r with
  | p k => exact h
  | r k n => exact h.1
def Kd.w : Kd → Str
  | .bool => "bool"
  | .mode _ => "mode"
  | .num _ _ _ _ => "num"
def Rk.w : Rk → Str
  | .p k => k.w
  | .r _ _ => "row"
def Rk.isn : Rk → Bool
  | .p k => k.isn
  | .r _ _ => false
def Rk.isr : Rk → Bool
  | .p _ => false
  | .r _ _ => true
theorem Kd.at0 (k : Kd) : k.ds[0]? = some (.str k.w) := by cases k <;> rfl
theorem Rk.at0 (r : Rk) : r.ds[0]? = some (.str r.w) := by
  cases r with
  | p k => exact k.at0
  | r k n => rfl
theorem wd {a b : Str} {c : Bool} (h : decide (a = b) = c := by decide +kernel) : decide (a = b) = c := h
theorem Rk.w_num : ∀ r : Rk, decide (r.w = "num") = r.isn
  | .p .bool => wd (a := "bool") (b := "num") (c := false)
  | .p (.mode _) => wd (a := "mode") (b := "num") (c := false)
  | .p (.num _ _ _ _) => wd (a := "num") (b := "num") (c := true)
  | .r _ _ => wd (a := "row") (b := "num") (c := false)
theorem Rk.w_row : ∀ r : Rk, decide (r.w = "row") = r.isr
  | .p .bool => wd (a := "bool") (b := "row") (c := false)
  | .p (.mode _) => wd (a := "mode") (b := "row") (c := false)
  | .p (.num _ _ _ _) => wd (a := "num") (b := "row") (c := false)
  | .r _ _ => wd (a := "row") (b := "row") (c := true)
theorem str_inj {a b : Str} (h : PyData.str a = .str b) : a = b := PyData.str.inj h
theorem map_str_inj : ∀ {a b : List Str}, a.map PyData.str = b.map PyData.str → a = b
  | [], [], _ => rfl
  | [], _ :: _, h => by cases h
  | _ :: _, [], h => by cases h
  | x :: a, y :: b, h => by
    obtain ⟨h1, h2⟩ := List.cons.inj h
    rw [PyData.str.inj h1, map_str_inj h2]
theorem Kd.ds_inj {a b : Kd} (h : a.ds = b.ds) : a = b := by
  rcases a with _ | as | ⟨l, i, p, w⟩ <;> rcases b with _ | bs | ⟨l', i', p', w'⟩
  · rfl
  · obtain ⟨_, h⟩ := List.cons.inj h
    cases h
  · obtain ⟨_, h⟩ := List.cons.inj h
    cases h
  · obtain ⟨_, h⟩ := List.cons.inj h
    cases h
  · obtain ⟨_, h⟩ := List.cons.inj h
    obtain ⟨h, _⟩ := List.cons.inj h
    rw [map_str_inj (PyData.tuple.inj h)]
  · obtain ⟨_, h⟩ := List.cons.inj h
    obtain ⟨_, h⟩ := List.cons.inj h
    cases h
  · obtain ⟨_, h⟩ := List.cons.inj h
    cases h
  · obtain ⟨_, h⟩ := List.cons.inj h
    obtain ⟨_, h⟩ := List.cons.inj h
    cases h
  · obtain ⟨_, h⟩ := List.cons.inj h
    obtain ⟨h1, h⟩ := List.cons.inj h
    obtain ⟨h2, h⟩ := List.cons.inj h
    obtain ⟨h3, h⟩ := List.cons.inj h
    obtain ⟨h4, _⟩ := List.cons.inj h
    cases h1
    cases h2
    cases h3
    cases h4
    rfl
theorem Rk.ds_inj {a b : Rk} (h : a.ds = b.ds) : a = b := by
  have w : a.w = b.w := by
    have h1 := a.at0
    rw [h, b.at0] at h1
    exact (PyData.str.inj (Option.some.inj h1)).symm
  rcases a with a | ⟨a, n⟩ <;> rcases b with b | ⟨b, m⟩
  · rw [Kd.ds_inj h]
  · have h1 := Rk.w_row (.p a)
    rw [w] at h1
    exact absurd (h1.symm.trans (Rk.w_row (.r b m))) (by show ¬ false = true; decide)
  · have h1 := Rk.w_row (.r a n)
    rw [w] at h1
    exact absurd (h1.symm.trans (Rk.w_row (.p b))) (by show ¬ true = false; decide)
  · obtain ⟨_, h⟩ := List.cons.inj h
    obtain ⟨h1, h⟩ := List.cons.inj h
    obtain ⟨h2, _⟩ := List.cons.inj h
    rw [Kd.ds_inj (PyData.tuple.inj h1), Int.ofNat.inj (PyData.int.inj h2)]
theorem plainCons {d : PyData} {ds : List PyData} (h1 : plainD d = true) (h2 : plainAll ds = true) : plainAll (d :: ds) = true := by
  show (plainD d && plainAll ds) = true
  rw [h1, h2]
  rfl
theorem Kd.ok.plain {k : Kd} (h : k.ok) : plainD k.d = true := by
  rcases k with _ | ns | ⟨lo, hi, per, how⟩
  · decide +kernel
  · refine plainCons (d := .str "mode") (by decide +kernel) (plainCons (plain_of fun d hd => ?_) rfl)
    obtain ⟨s, hs, rfl⟩ := List.mem_map.mp hd
    exact h.2.2 s hs
  · have sw : PyData.strOk how = true := by rcases h.2.2.2.2.2.2 with rfl | rfl <;> decide +kernel
    exact plainCons (d := .str "num") (by decide +kernel) (plainCons rfl (plainCons rfl (plainCons rfl (plainCons sw rfl))))
theorem Kd.depth (k : Kd) : k.d.depth ≤ 2 := by
  rcases k with _ | ns | ⟨lo, hi, per, how⟩
  · decide
  · show max 0 (max (PyData.depthAll (ns.map PyData.str) + 1) 0) + 1 ≤ 2
    have := depth_of (n := 0) (ds := ns.map PyData.str) fun d hd => by
      obtain ⟨s, _, rfl⟩ := List.mem_map.mp hd
      exact Nat.le_refl 0
    omega
  · show max 0 (max 0 (max 0 (max 0 (max 0 0)))) + 1 ≤ 2
    decide
theorem Rk.ok.plain {r : Rk} (h : r.ok) : plainD r.d = true := by
  cases r with
  | p k => exact Kd.ok.plain h
  | r k n => exact plainCons (d := .str "row") (by decide +kernel) (plainCons (Kd.ok.plain h.1) (plainCons rfl rfl))
theorem Rk.depth (r : Rk) : r.d.depth ≤ 3 := by
  cases r with
  | p k => exact Nat.le_trans k.depth (by decide)
  | r k n =>
    have := k.depth
    show max 0 (max k.d.depth (max 0 0)) + 1 ≤ 3
    omega
theorem shaped_of {d : PyData} (h : plainD d = true) (h2 : d.depth ≤ 64) : SeqAt.shaped d = true := by
  unfold SeqAt.shaped
  rw [plain_lay d h, decide_eq_true h2]
  rfl
theorem Rk.ok.shaped {r : Rk} (h : r.ok) : SeqAt.shaped r.d = true := shaped_of h.plain (Nat.le_trans r.depth (by decide))
theorem Rk.eqv {a b : Rk} (ha : a.ok) (hb : b.ok) : PyData.eqv a.d b.d = decide (a = b) := by
  rw [Bool.eq_iff_iff, eqv_iff ha.plain hb.plain, decide_eq_true_eq]
  exact ⟨fun h => Rk.ds_inj (PyData.tuple.inj h), fun h => by rw [h]⟩
/-- BOOL, as the program's constant -/
theorem bool_d : (Rk.p .bool).d = .tuple (([("bool" : Str)] : List Str).map .str) := rfl
theorem bool_ok : (Rk.p .bool).ok := trivial
def isInt : PyData → Bool
  | .int _ => true
  | _ => false
def isTup (n : Int) : PyData → Bool
  | .tuple ds => decide ((ds.length : Int) = n)
  | _ => false
def Askd : PyData → Bool
  | .none => true
  | .int _ => true
  | .str _ => true
  | .tuple _ => true
  | _ => false
def inB (lo hi : Int) : PyData → Bool
  | .int i => decide (lo ≤ i) && decide (i ≤ hi)
  | _ => false
def R_is_int : PR := fun as C => ∃ x, as = [.dat x] ∧ Askd x = true ∧ C (.dat (.bool (isInt x))) as
def R_is_within : PR := fun as C => ∃ (x : PyData) (lo hi : Int), as = [.dat x, .dat (.int lo), .dat (.int hi)] ∧ Askd x = true ∧ C (.dat (.bool (inB lo hi x))) as
def R_is_tuple_of : PR := fun as C => ∃ (x : PyData) (n : Int), as = [.dat x, .dat (.int n)] ∧ Askd x = true ∧ C (.dat (.bool (isTup n x))) as
def R_is_row : PR := fun as C => ∃ r : Rk, as = [.dat r.d] ∧ C (.dat (.bool r.isr)) as
def R_is_num : PR := fun as C => ∃ r : Rk, as = [.dat r.d] ∧ r.ok ∧ C (.dat (.bool r.isn)) as
section
variable {P : Program} {w : World} {K : PySem.W.Frag} {mg : Str → Option Value} {base : Heap}
theorem okp_is_int (T : Tx K mg w base) : FnOk P w K mg base CX0 1 T.f_is_int T.fd_is_int ["thing"] (spP K T.tbs 1 R_is_int) := by
  refine okP T.F_is_int sc_is_int rfl fun cdv A outer s H E G hG hcd hr => ⟨_, (pss_oneP (ps_retP (pe_andP (pe_isiP (by simp) (pe_callB call_isi (by rfl) T.z_isinstance (by decide +kernel) (pa_cons (pe_borP (pv 0)) (pa_cons (pe_bltn (v := .ty "int") rfl T.z_int (by decide +kernel) rfl) pa_nil)))) (pe_oneP (pe_notP (pe_isiP (by simp) (pe_callB call_isi (by rfl) T.z_isinstance (by decide +kernel) (pa_cons (pe_borP (pv 0)) (pa_cons (pe_bltn (v := .ty "bool") rfl T.z_bool (by decide +kernel) rfl) pa_nil))))))))), fun as C hl h => ?_⟩
  obtain ⟨x, rfl, a, q⟩ := h
  cases x <;> first | cases a; done | exact .t rfl q | exact .f rfl q
theorem okp_is_within (T : Tx K mg w base) : FnOk P w K mg base CX0 2 T.f_is_within T.fd_is_within ["thing", "low", "high"] (spP K T.tbs 3 R_is_within) := by
  refine okP T.F_is_within sc_is_within rfl fun cdv A outer s H E G hG hcd hr => ⟨_, (pss_oneP (ps_retP (pe_andP (pe_callP hG (pe_call (okp_is_int T) (hr.mono (by decide)) rfl T.m_is_int T.F_is_int.kp T.b_is_int .nil pass0 (pa_consP (pe_borP (pv 0)) pa_nilP))) (pe_oneP (pe_chainP (pe_chain op_le op_le (pe_borP (pv 1)) (pe_borP (pv 0)) (pe_borP (pv 2)))))))), fun as C hl h => ?_⟩
  obtain ⟨x, lo, hi, rfl, a, q⟩ := h
  refine ⟨x, rfl, a, ?_⟩
  cases x with
  | int i =>
    refine .t rfl (IfP.both (fun h1 => ?_) fun h1 => ?_)
    · have q : C (.dat (.bool (decide (lo ≤ i) && decide (i ≤ hi)))) _ := q
      rw [show decide (lo ≤ i) = true from h1] at q
      exact q
    · have q : C (.dat (.bool (decide (lo ≤ i) && decide (i ≤ hi)))) _ := q
      rw [show decide (lo ≤ i) = false from h1] at q
      exact q
  | _ => first | cases a; done | exact .f rfl q
theorem okp_is_tuple_of (T : Tx K mg w base) : FnOk P w K mg base CX0 1 T.f_is_tuple_of T.fd_is_tuple_of ["thing", "size"] (spP K T.tbs 2 R_is_tuple_of) := by
  refine okP T.F_is_tuple_of sc_is_tuple_of rfl fun cdv A outer s H E G hG hcd hr => ⟨_, (pss_oneP (ps_retP (pe_andP (pe_isiP (by simp) (pe_callB call_isi (by rfl) T.z_isinstance (by decide +kernel) (pa_cons (pe_borP (pv 0)) (pa_cons (pe_bltn (v := .ty "tuple") rfl T.z_tuple (by decide +kernel) rfl) pa_nil)))) (pe_oneP (pe_cmpP (op_eqP hr.units) li_eq (pe_cbP lc_len (pe_callB call_lenP (by rfl) T.z_len (by decide +kernel) (pa_consP (pe_borP (pv 0)) pa_nilP))) (pe_borP (pv 1)) (nomark _)))))), fun as C hl h => ?_⟩
  obtain ⟨x, n, rfl, a, q⟩ := h
  cases x with
  | tuple ds => exact .t rfl q
  | _ => first | cases a; done | exact .f rfl q
theorem okp_is_row (T : Tx K mg w base) : FnOk P w K mg base CX0 1 T.f_is_row T.fd_is_row ["kind"] (spP K T.tbs 1 R_is_row) := by
  refine okP T.F_is_row sc_is_row rfl fun cdv A outer s H E G hG hcd hr => ⟨_, (pss_oneP (ps_retP (pe_cmpP (op_eqP hr.units) li_eq (pe_ixP (pe_borP (pv 0)) (pe_cP (d := .int 0) pe_int) (fun _ _ => rfl) li_ix) (pe_cP (d := .str "row") pe_str) (nomark _)))), fun as C hl h => ?_⟩
  obtain ⟨r, rfl, q⟩ := h
  rw [← r.w_row] at q
  exact ⟨_, atD 0 r.at0, q⟩
theorem okp_is_num (T : Tx K mg w base) : FnOk P w K mg base CX0 3 T.f_is_num T.fd_is_num ["thing"] (spP K T.tbs 1 R_is_num) := by
  refine okP T.F_is_num sc_is_num rfl fun cdv A outer s H E G hG hcd hr => ⟨_, (pss_consP (ps_ifP (PW.pt (pw_orP (pt_notP (pt_truP (pe_callP hG (pe_call (okp_is_tuple_of T) (hr.mono (by decide)) rfl T.m_is_tuple_of T.F_is_tuple_of.kp T.b_is_tuple_of .nil pass0 (pa_consP (pe_borP (pv 0)) (pa_consP (pe_cP (d := .int 5) pe_int) pa_nilP)))))) (pw_or1P (pt_cmpP (op_neP hr.units) li_ne (pe_ixP (pe_borP (pv 0)) (pe_cP (d := .int 0) pe_int) (fun _ _ => rfl) li_ix) (pe_cP (d := .str "num") pe_str) (nomark _))))) (pss_oneP (ps_retP (pe_cP (d := .bool false) pe_bl))) pss_nilP)
      (pss_consP (ps_asgP (ps_asg (pe_sliceP (pe_borP (pv 0)) (po_someP (pe_cP (d := .int 1) pe_int)) po_noneP) (pg_tupP (n := 4) rfl (pgs_consP (pg_nameP (pg_name (i := 1) sc_is_num.nd rfl (Or.inl rfl))) (pgs_consP (pg_nameP (pg_name (i := 2) sc_is_num.nd rfl (Or.inl rfl))) (pgs_consP (pg_nameP (pg_name (i := 3) sc_is_num.nd rfl (Or.inl rfl))) (pgs_consP (pg_nameP (pg_name (i := 4) sc_is_num.nd rfl (Or.inl rfl))) pgs_nilP)))))))
      (pss_consP (ps_setP (ps_set (i := 5) sc_is_num.nd rfl (Or.inl rfl) (pe_andP (pe_callP hG (pe_call (okp_is_within T) (hr.mono (by decide)) rfl T.m_is_within T.F_is_within.kp T.b_is_within .nil pass0 (pa_consP (pe_borP (pv 1)) (pa_consP (pe_negP (pe_cP (d := .int 1000) pe_int)) (pa_consP (pe_cP (d := .int 1000) pe_int) pa_nilP))))) (pe_andP (pe_callP hG (pe_call (okp_is_within T) (hr.mono (by decide)) rfl T.m_is_within T.F_is_within.kp T.b_is_within .nil pass0 (pa_consP (pe_borP (pv 2)) (pa_consP (pe_negP (pe_cP (d := .int 1000) pe_int)) (pa_consP (pe_cP (d := .int 1000) pe_int) pa_nilP))))) (pe_oneP (pe_cmpP op_le li_le (pe_borP (pv 1)) (pe_borP (pv 2)) (nomark _)))))))
      (pss_oneP (ps_retP (pe_andP (pe_borP (pv 5)) (pe_andP (pe_callP hG (pe_call (okp_is_within T) (hr.mono (by decide)) rfl T.m_is_within T.F_is_within.kp T.b_is_within .nil pass0 (pa_consP (pe_borP (pv 3)) (pa_consP (pe_cP (d := .int 1) pe_int) (pa_consP (pe_cP (d := .int 100) pe_int) pa_nilP))))) (pe_oneP (pe_cmpP (op_inP hr.u65) li_in (pe_borP (pv 4)) (pe_tupP (pa_consP (pe_cP (d := .str "wrap") pe_str) (pa_consP (pe_cP (d := .str "hold") pe_str) pa_nilP))) (by rfl)))))))))), fun as C hl h => ?_⟩
  obtain ⟨x, rfl, ok, q⟩ := h
  refine ⟨_, _, rfl, rfl, ?_⟩
  rcases x with k | ⟨k, n⟩
  · rcases k with _ | ns | ⟨lo, hi, per, how⟩
    · exact .t rfl (.t rfl q)
    · exact .t rfl (.t rfl q)
    · obtain ⟨h1, h2, h3, h4, h5, h6, hw⟩ := ok
      refine .f rfl ⟨_, atD 0 rfl, .f rfl ⟨rfl, _, _, _, rfl, rfl, ?_⟩⟩
      refine .t (by show (decide (-1000 ≤ lo) && decide (lo ≤ 1000)) = true; rw [decide_eq_true h1, decide_eq_true (by omega)]; rfl) ⟨_, _, _, rfl, rfl, ?_⟩
      refine .t (by show (decide (-1000 ≤ hi) && decide (hi ≤ 1000)) = true; rw [decide_eq_true (by omega), decide_eq_true h3]; rfl) ?_
      refine .t (decide_eq_true h2) ⟨_, _, _, rfl, rfl, ?_⟩
      refine .t (by show (decide (1 ≤ per) && decide (per ≤ 100)) = true; rw [decide_eq_true h5, decide_eq_true h6]; rfl) ?_
      refine ⟨szr, .inl ⟨rfl, flat_strs ["wrap", "hold"]⟩, ?_⟩
      rw [show (false ^^ (([.str "wrap", .str "hold"] : List PyData).any fun z => PyData.eqv z (.str how))) = decide (how ∈ (["wrap", "hold"] : List Str)) from inS how ["wrap", "hold"]]
      rw [decide_eq_true (by rcases hw with rfl | rfl <;> decide +kernel)]
      exact q
  · exact .t rfl (.t rfl q)
end

/-! ### operations; the kinds they take -/
inductive Op where
  | nt | an | orr | xr | eq | ne | lt | le | ng | ad | sb | ml | dv | mn | mx | md | ass | pk | vt | rw | att | pt | sm | ay | al
def Op.s : Op → Str
  | .nt => "not" | .an => "and" | .orr => "or" | .xr => "xor" | .eq => "eq" | .ne => "ne" | .lt => "lt" | .le => "le" | .ng => "neg" | .ad => "add" | .sb => "sub" | .ml => "mul" | .dv => "div"
  | .mn => "min" | .mx => "max" | .md => "mid" | .ass => "as" | .pk => "pick" | .vt => "vote" | .rw => "row" | .att => "at" | .pt => "put" | .sm => "sum" | .ay => "any" | .al => "all"
def Op.cnt : Op → Option Nat
  | .nt | .ng | .ass | .sm | .ay | .al => some 1
  | .md | .pk | .vt | .pt => some 3
  | .rw => none
  | _ => some 2
def allEq : List Rk → Bool
  | [] => true
  | k :: r => (k :: r).all fun j => decide (j = k)
def okD : Option Rk → PyData
  | none => .none
  | some r => r.d
def toldD : Option Kd → PyData
  | none => .none
  | some k => k.d
abbrev Rule := List Rk → Option Kd → Option Rk
def hd0 : List Rk → Rk
  | [] => .p .bool
  | k :: _ => k
def logicK : Rule := fun ks _ => if decide (hd0 ks = .p .bool) && allEq ks then some (.p .bool) else none
def equalK : Rule := fun ks _ => if allEq ks then some (.p .bool) else none
def orderK : Rule := fun ks _ => if (hd0 ks).isn && allEq ks then some (.p .bool) else none
def numberK : Rule := fun ks _ => if (hd0 ks).isn && allEq ks then some (hd0 ks) else none
def voteK : Rule := fun ks _ => if allEq ks then some (hd0 ks) else none
def rowK : Rule := fun ks _ => match hd0 ks with
  | .r _ _ => none
  | .p k => if allEq ks && decide (ks.length ≤ 6) then some (.r k ks.length) else none
def asK : Rule := fun ks told => match told with
  | none => none
  | some g => if (hd0 ks).isn && g.isn then some (.p g) else none
def pickK : Rule := fun ks _ => match ks with
  | [a, b, c] => if decide (a = .p .bool) && decide (b = c) then some b else none
  | _ => none
def atK : Rule := fun ks _ => match ks with
  | .r k _ :: i :: _ => if i.isn then some (.p k) else none
  | _ => none
def putK : Rule := fun ks _ => match ks with
  | [.r k n, i, v] => if i.isn && decide (Rk.p k = v) then some (.r k n) else none
  | _ => none
def sumK : Rule := fun ks _ => match ks with
  | [.r k _] => if k.isn then some (.p k) else none
  | _ => none
def someK : Rule := fun ks _ => match ks with
  | [.r k _] => if decide (k = .bool) then some (.p .bool) else none
  | _ => none
def Op.rule : Op → Rule
  | .nt | .an | .orr | .xr => logicK
  | .eq | .ne => equalK
  | .lt | .le => orderK
  | .ass => asK
  | .pk => pickK
  | .vt => voteK
  | .rw => rowK
  | .att => atK
  | .pt => putK
  | .sm => sumK
  | .ay | .al => someK
  | _ => numberK
def Op.fits (op : Op) (ks : List Rk) : Bool := match op.cnt with
  | some n => decide (ks.length = n)
  | none => true
def kindOf (op : Op) (ks : List Rk) (told : Option Kd) : Option Rk := if op.fits ks then op.rule ks told else none
/-- what a rule is asked of -/
def KsOk (ks : List Rk) : Prop := ks ≠ [] ∧ ks.length ≤ 20 ∧ ∀ k ∈ ks, k.ok
def ToldOk : Option Kd → Prop
  | none => True
  | some g => g.ok
@[reducible] def ksD (ks : List Rk) : PyData := .tuple (ks.map Rk.d)
def R_alike : PR := fun as C => ∃ ks : List Rk, as = [.dat (ksD ks)] ∧ KsOk ks ∧ C (.dat (.bool (allEq ks))) as
def R_like_nums : PR := fun as C => ∃ ks : List Rk, as = [.dat (ksD ks)] ∧ KsOk ks ∧ C (.dat (.bool ((hd0 ks).isn && allEq ks))) as
/-- the answer of a rule, for rows of kinds of which g holds -/
def RRule (g : List Rk → Option Kd → Prop) (f : Rule) : PR := fun as C => ∃ (ks : List Rk) (told : Option Kd), as = [.dat (ksD ks), .dat (toldD told)] ∧ KsOk ks ∧ ToldOk told ∧ g ks told ∧ C (.dat (okD (f ks told))) as
def gAny (_ : List Rk) (_ : Option Kd) : Prop := True
def gLen (n : Nat) (ks : List Rk) (_ : Option Kd) : Prop := ks.length = n
def R_logic_kind : PR := RRule gAny logicK
def R_equal_kind : PR := RRule gAny equalK
def R_order_kind : PR := RRule gAny orderK
def R_number_kind : PR := RRule gAny numberK
def R_as_kind : PR := RRule (fun _ told => ∃ g, told = some g) asK
def R_pick_kind : PR := RRule (gLen 3) pickK
def R_vote_kind : PR := RRule gAny voteK
def R_p_row_kind : PR := RRule gAny rowK
def R_at_kind : PR := RRule (fun ks _ => 2 ≤ ks.length) atK
def R_put_kind : PR := RRule (gLen 3) putK
def R_sum_kind : PR := RRule (gLen 1) sumK
def R_p_some_kind : PR := RRule (gLen 1) someK
theorem ks_at {ks : List Rk} {i : Nat} {k : Rk} (h : ks[i]? = some k) : (ks.map Rk.d)[i]? = some k.d := by
  rw [List.getElem?_map, h]
  rfl
theorem ks_hd {ks : List Rk} (h : ks ≠ []) : ks[0]? = some (hd0 ks) := by
  cases ks with
  | nil => exact absurd rfl h
  | cons k r => rfl
theorem hd_ok {ks : List Rk} (h : KsOk ks) : (hd0 ks).ok := h.2.2 _ (List.mem_of_getElem? (ks_hd h.1))
theorem allEq_eq {ks : List Rk} (h : ks ≠ []) : allEq ks = ks.all fun j => decide (j = hd0 ks) := by
  cases ks with
  | nil => exact absurd rfl h
  | cons k r => rfl
theorem takeN {α : Type} {l : List α} {i : Nat} {a : α} (h : l[i]? = some a) : l.take (i + 1) = l.take i ++ [a] := by
  rw [List.take_succ, h]
  rfl
theorem all_take {α : Type} {p : α → Bool} {l : List α} {j : Nat} {c : α} (h : l[j]? = some c) : (l.take (j + 1)).all p = ((l.take j).all p && p c) := by
  rw [takeN h, List.all_append]
  simp
theorem all_false {α : Type} {p : α → Bool} {l : List α} {j : Nat} {c : α} (h : l[j]? = some c) (hc : p c = false) : l.all p = false := by
  refine Bool.eq_false_iff.mpr fun z => ?_
  rw [List.all_eq_true.mp z c (List.mem_of_getElem? h)] at hc
  cases hc
/-- == of kinds, asked -/
theorem IfP.kinds {a b : Rk} {A B : Prop} (ha : a.ok) (hb : b.ok) (h1 : a = b → A) (h2 : a ≠ b → B) : IfP (PyData.eqv a.d b.d) A B := by
  rw [Rk.eqv ha hb]
  by_cases e : a = b
  · exact .t (decide_eq_true e) (h1 e)
  · exact .f (decide_eq_false e) (h2 e)
section
variable {P : Program} {w : World} {K : PySem.W.Frag} {mg : Str → Option Value} {base : Heap}
theorem okp_alike (T : Tx K mg w base) : FnOk P w K mg base CX0 2 T.f_alike T.fd_alike ["kinds"] (spP K T.tbs 1 R_alike) := by
  refine okP T.F_alike sc_alike rfl fun cdv A outer s H E G hG hcd hr => ⟨_, (pss_oneP (ps_retP (pe_allP (vs := [1]) (P := T.P_alike) (by rw [hG]; simp [Tx.tbs]) (pe_allG (own := [("kind", 1)]) hr rfl sc_alike.nd rfl T.z_all T.TB_alike (hcd.symm.trans T.cd_alike) ⟨blkOk_by (N := ["kinds", "kind"]) (sc := defScope s_alike) (by decide +kernel), rfl, by decide +kernel, rfl⟩ (pi_itemsP (pe_varP (pv 0))) (fun _ _ _ _ _ _ _ => (pg_compP (vs := [1]) (pg_name (i := 1) sc_alike.nd rfl (Or.inl rfl)))) (fun _ _ _ _ _ _ _ => pts_nilP) (fun _ _ _ _ _ _ _ => (pe_cmpP (op_eqP (room_gen hr).units) li_eq (pe_borP (pv 1)) (pe_ixP (pe_borP (pv 0)) (pe_cP (d := .int 0) pe_int) (fun _ _ => rfl) li_ix) (nomark _))))))), fun as C hl h => ?_⟩
  obtain ⟨ks, rfl, ⟨n0, l10, ok⟩, q⟩ := h
  rw [allEq_eq n0] at q
  have h0 := ks_hd n0
  refine ⟨rfl, fun i env => env = [.dat (ksD ks), .no] ∧ (ks.take i).all (fun j => decide (j = hd0 ks)) = true, ⟨rfl, rfl⟩, ?_, ?_⟩
  · rintro j x e2 hx ⟨rfl, ha⟩
    rw [List.getElem?_map] at hx
    obtain ⟨k, hk, rfl⟩ := Option.map_eq_some_iff.mp hx
    have ok1 := ok _ (List.mem_of_getElem? hk)
    have ok0 := ok _ (List.mem_of_getElem? h0)
    refine .t rfl ⟨_, atD 0 (ks_at h0), ok1.shaped, ok0.shaped, ?_⟩
    rw [Rk.eqv ok1 ok0]
    refine ⟨fun z => ⟨rfl, ?_⟩, fun z => ?_⟩
    · rw [all_take hk, ha, z]
      rfl
    · have z : decide (k = hd0 ks) = false := Bool.eq_false_iff.mpr z
      rw [all_false (p := fun j => decide (j = hd0 ks)) hk z] at q
      rw [z]
      exact q
  · rintro env ⟨rfl, ha⟩
    rw [List.length_map, List.take_length] at ha
    rw [ha] at q
    exact q
theorem okp_like_nums (T : Tx K mg w base) : FnOk P w K mg base CX0 4 T.f_like_nums T.fd_like_nums ["kinds"] (spP K T.tbs 1 R_like_nums) := by
  refine okP T.F_like_nums sc_like_nums rfl fun cdv A outer s H E G hG hcd hr => ⟨_, (pss_oneP (ps_retP (pe_andP (pe_callP hG (pe_call (okp_is_num T) (hr.mono (by decide)) rfl T.m_is_num T.F_is_num.kp T.b_is_num .nil pass0 (pa_consP (pe_ixP (pe_borP (pv 0)) (pe_cP (d := .int 0) pe_int) (fun _ _ => rfl) li_ix) pa_nilP))) (pe_oneP (pe_callP hG (pe_call (okp_alike T) (hr.mono (by decide)) rfl T.m_alike T.F_alike.kp T.b_alike .nil pass0 (pa_consP (pe_borP (pv 0)) pa_nilP))))))), fun as C hl h => ?_⟩
  obtain ⟨ks, rfl, ok, q⟩ := h
  refine ⟨_, atD 0 (ks_at (ks_hd ok.1)), hd0 ks, rfl, hd_ok ok, IfP.both (fun h1 => ?_) fun h1 => ?_⟩
  · rw [show (hd0 ks).isn = true from h1] at q
    exact ⟨ks, rfl, ok, q⟩
  · rw [show (hd0 ks).isn = false from h1] at q
    exact q
end

/-! ### the rules of kinds -/
theorem rk_split {r : Rk} (h : r.isr = true) : ∃ k n, r = .r k n := by
  cases r with
  | p k => cases h
  | r k n => exact ⟨k, n, rfl⟩
theorem rk_plain {r : Rk} (h : r.isr = false) : ∃ k, r = .p k := by
  cases r with
  | p k => exact ⟨k, rfl⟩
  | r k n => cases h
theorem len1 {α : Type} {l : List α} (h : l.length = 1) : ∃ a, l = [a] := by
  match l, h with
  | [a], _ => exact ⟨a, rfl⟩
theorem len2 {α : Type} {l : List α} (h : l.length = 2) : ∃ a b, l = [a, b] := by
  match l, h with
  | [a, b], _ => exact ⟨a, b, rfl⟩
theorem len3 {α : Type} {l : List α} (h : l.length = 3) : ∃ a b c, l = [a, b, c] := by
  match l, h with
  | [a, b, c], _ => exact ⟨a, b, c, rfl⟩
theorem ok1 {a : Rk} {l : List Rk} (h : KsOk (a :: l)) : a.ok := h.2.2 a List.mem_cons_self
theorem ok2 {a b : Rk} {l : List Rk} (h : KsOk (a :: b :: l)) : b.ok := h.2.2 b (List.mem_cons_of_mem _ List.mem_cons_self)
theorem ok3 {a b c : Rk} {l : List Rk} (h : KsOk (a :: b :: c :: l)) : c.ok := h.2.2 c (List.mem_cons_of_mem _ (List.mem_cons_of_mem _ List.mem_cons_self))
section
variable {P : Program} {w : World} {K : PySem.W.Frag} {mg : Str → Option Value} {base : Heap}
theorem okp_logic_kind (T : Tx K mg w base) : FnOk P w K mg base CX0 3 T.f_logic_kind T.fd_logic_kind ["kinds", "told"] (spP K T.tbs 2 R_logic_kind) := by
  refine okP T.F_logic_kind sc_logic_kind rfl fun cdv A outer s H E G hG hcd hr => ⟨_, (pss_oneP (ps_retP (pe_ifP (PW.pt (pw_andP (pt_cmpP (op_eqP hr.units) li_eq (pe_ixP (pe_borP (pv 0)) (pe_cP (d := .int 0) pe_int) (fun _ _ => rfl) li_ix) (pe_cP' (.tuple ((["bool"] : List Str).map .str)) (pe_glob (v := .ref (He.ga K "BOOL")) rfl T.mg_BOOL rfl) (fun _ H => ⟨_, _, rfl, T.tp_BOOL H, da_strs _⟩)) (nomark _)) (pw_and1P (pt_truP (pe_callP hG (pe_call (okp_alike T) (hr.mono (by decide)) rfl T.m_alike T.F_alike.kp T.b_alike .nil pass0 (pa_consP (pe_borP (pv 0)) pa_nilP))))))) (pe_cP' (.tuple ((["bool"] : List Str).map .str)) (pe_glob (v := .ref (He.ga K "BOOL")) rfl T.mg_BOOL rfl) (fun _ H => ⟨_, _, rfl, T.tp_BOOL H, da_strs _⟩)) (pe_cP (d := .none) pe_non)))), fun as C hl h => ?_⟩
  obtain ⟨ks, told, rfl, ok, tk, -, q⟩ := h
  unfold logicK at q
  refine ⟨_, atD 0 (ks_at (ks_hd ok.1)), (hd_ok ok).shaped, bool_ok.shaped, IfP.kinds (hd_ok ok) bool_ok (fun h1 => ?_) fun h1 => ?_⟩
  · rw [decide_eq_true h1, Bool.true_and] at q
    refine ⟨ks, rfl, ok, IfP.both (fun h2 => ?_) fun h2 => ?_⟩
    · rw [show allEq ks = true from h2] at q
      exact q
    · rw [show allEq ks = false from h2] at q
      exact q
  · rw [decide_eq_false h1] at q
    exact .f rfl q
theorem okp_equal_kind (T : Tx K mg w base) : FnOk P w K mg base CX0 3 T.f_equal_kind T.fd_equal_kind ["kinds", "told"] (spP K T.tbs 2 R_equal_kind) := by
  refine okP T.F_equal_kind sc_equal_kind rfl fun cdv A outer s H E G hG hcd hr => ⟨_, (pss_oneP (ps_retP (pe_ifP (pt_truP (pe_callP hG (pe_call (okp_alike T) (hr.mono (by decide)) rfl T.m_alike T.F_alike.kp T.b_alike .nil pass0 (pa_consP (pe_borP (pv 0)) pa_nilP)))) (pe_cP' (.tuple ((["bool"] : List Str).map .str)) (pe_glob (v := .ref (He.ga K "BOOL")) rfl T.mg_BOOL rfl) (fun _ H => ⟨_, _, rfl, T.tp_BOOL H, da_strs _⟩)) (pe_cP (d := .none) pe_non)))), fun as C hl h => ?_⟩
  obtain ⟨ks, told, rfl, ok, tk, -, q⟩ := h
  unfold equalK at q
  refine ⟨ks, rfl, ok, IfP.both (fun h2 => ?_) fun h2 => ?_⟩
  · rw [show allEq ks = true from h2] at q
    exact q
  · rw [show allEq ks = false from h2] at q
    exact q
theorem okp_order_kind (T : Tx K mg w base) : FnOk P w K mg base CX0 5 T.f_order_kind T.fd_order_kind ["kinds", "told"] (spP K T.tbs 2 R_order_kind) := by
  refine okP T.F_order_kind sc_order_kind rfl fun cdv A outer s H E G hG hcd hr => ⟨_, (pss_oneP (ps_retP (pe_ifP (pt_truP (pe_callP hG (pe_call (okp_like_nums T) (hr.mono (by decide)) rfl T.m_like_nums T.F_like_nums.kp T.b_like_nums .nil pass0 (pa_consP (pe_borP (pv 0)) pa_nilP)))) (pe_cP' (.tuple ((["bool"] : List Str).map .str)) (pe_glob (v := .ref (He.ga K "BOOL")) rfl T.mg_BOOL rfl) (fun _ H => ⟨_, _, rfl, T.tp_BOOL H, da_strs _⟩)) (pe_cP (d := .none) pe_non)))), fun as C hl h => ?_⟩
  obtain ⟨ks, told, rfl, ok, tk, -, q⟩ := h
  unfold orderK at q
  refine ⟨ks, rfl, ok, IfP.both (fun h2 => ?_) fun h2 => ?_⟩
  · rw [show ((hd0 ks).isn && allEq ks) = true from h2] at q
    exact q
  · rw [show ((hd0 ks).isn && allEq ks) = false from h2] at q
    exact q
theorem okp_number_kind (T : Tx K mg w base) : FnOk P w K mg base CX0 5 T.f_number_kind T.fd_number_kind ["kinds", "told"] (spP K T.tbs 2 R_number_kind) := by
  refine okP T.F_number_kind sc_number_kind rfl fun cdv A outer s H E G hG hcd hr => ⟨_, (pss_oneP (ps_retP (pe_ifP (pt_truP (pe_callP hG (pe_call (okp_like_nums T) (hr.mono (by decide)) rfl T.m_like_nums T.F_like_nums.kp T.b_like_nums .nil pass0 (pa_consP (pe_borP (pv 0)) pa_nilP)))) (pe_ixP (pe_borP (pv 0)) (pe_cP (d := .int 0) pe_int) (fun _ _ => rfl) li_ix) (pe_cP (d := .none) pe_non)))), fun as C hl h => ?_⟩
  obtain ⟨ks, told, rfl, ok, tk, -, q⟩ := h
  unfold numberK at q
  refine ⟨ks, rfl, ok, IfP.both (fun h2 => ?_) fun h2 => ?_⟩
  · rw [show ((hd0 ks).isn && allEq ks) = true from h2] at q
    exact ⟨_, atD 0 (ks_at (ks_hd ok.1)), q⟩
  · rw [show ((hd0 ks).isn && allEq ks) = false from h2] at q
    exact q
theorem okp_as_kind (T : Tx K mg w base) : FnOk P w K mg base CX0 4 T.f_as_kind T.fd_as_kind ["kinds", "told"] (spP K T.tbs 2 R_as_kind) := by
  refine okP T.F_as_kind sc_as_kind rfl fun cdv A outer s H E G hG hcd hr => ⟨_, (pss_oneP (ps_retP (pe_ifP (PW.pt (pw_andP (pt_truP (pe_callP hG (pe_call (okp_is_num T) (hr.mono (by decide)) rfl T.m_is_num T.F_is_num.kp T.b_is_num .nil pass0 (pa_consP (pe_ixP (pe_borP (pv 0)) (pe_cP (d := .int 0) pe_int) (fun _ _ => rfl) li_ix) pa_nilP)))) (pw_and1P (pt_truP (pe_callP hG (pe_call (okp_is_num T) (hr.mono (by decide)) rfl T.m_is_num T.F_is_num.kp T.b_is_num .nil pass0 (pa_consP (pe_borP (pv 1)) pa_nilP))))))) (pe_varP (pv 1)) (pe_cP (d := .none) pe_non)))), fun as C hl h => ?_⟩
  obtain ⟨ks, told, rfl, ok, tk, ⟨g, rfl⟩, q⟩ := h
  have q : C (.dat (okD (if (hd0 ks).isn && g.isn then some (.p g) else none))) _ := q
  refine ⟨_, atD 0 (ks_at (ks_hd ok.1)), hd0 ks, rfl, hd_ok ok, IfP.both (fun h2 => ?_) fun h2 => ?_⟩
  · rw [show (hd0 ks).isn = true from h2, Bool.true_and] at q
    refine ⟨.p g, rfl, tk, IfP.both (fun h3 => ?_) fun h3 => ?_⟩
    · rw [show g.isn = true from h3] at q
      exact q
    · rw [show g.isn = false from h3] at q
      exact q
  · rw [show (hd0 ks).isn = false from h2] at q
    exact .f rfl q
theorem okp_pick_kind (T : Tx K mg w base) : FnOk P w K mg base CX0 1 T.f_pick_kind T.fd_pick_kind ["kinds", "told"] (spP K T.tbs 2 R_pick_kind) := by
  refine okP T.F_pick_kind sc_pick_kind rfl fun cdv A outer s H E G hG hcd hr => ⟨_, (pss_oneP (ps_retP (pe_ifP (PW.pt (pw_andP (pt_cmpP (op_eqP hr.units) li_eq (pe_ixP (pe_borP (pv 0)) (pe_cP (d := .int 0) pe_int) (fun _ _ => rfl) li_ix) (pe_cP' (.tuple ((["bool"] : List Str).map .str)) (pe_glob (v := .ref (He.ga K "BOOL")) rfl T.mg_BOOL rfl) (fun _ H => ⟨_, _, rfl, T.tp_BOOL H, da_strs _⟩)) (nomark _)) (pw_and1P (pt_cmpP (op_eqP hr.units) li_eq (pe_ixP (pe_borP (pv 0)) (pe_cP (d := .int 1) pe_int) (fun _ _ => rfl) li_ix) (pe_ixP (pe_borP (pv 0)) (pe_cP (d := .int 2) pe_int) (fun _ _ => rfl) li_ix) (nomark _))))) (pe_ixP (pe_borP (pv 0)) (pe_cP (d := .int 1) pe_int) (fun _ _ => rfl) li_ix) (pe_cP (d := .none) pe_non)))), fun as C hl h => ?_⟩
  obtain ⟨ks, told, rfl, ok, tk, l3, q⟩ := h
  obtain ⟨a, b, c, rfl⟩ := len3 l3
  have q : C (.dat (okD (if decide (a = .p .bool) && decide (b = c) then some b else none))) _ := q
  refine ⟨_, atD 0 rfl, (ok1 ok).shaped, bool_ok.shaped, IfP.kinds (ok1 ok) bool_ok (fun h1 => ?_) fun h1 => ?_⟩
  · rw [decide_eq_true h1, Bool.true_and] at q
    refine ⟨_, atD 1 rfl, _, atD 2 rfl, (ok2 ok).shaped, (ok3 ok).shaped, IfP.kinds (ok2 ok) (ok3 ok) (fun h1 => ?_) fun h1 => ?_⟩
    · rw [decide_eq_true h1] at q
      exact ⟨_, atD 1 rfl, q⟩
    · rw [decide_eq_false h1] at q
      exact q
  · rw [decide_eq_false h1] at q
    exact .f rfl q
theorem okp_vote_kind (T : Tx K mg w base) : FnOk P w K mg base CX0 3 T.f_vote_kind T.fd_vote_kind ["kinds", "told"] (spP K T.tbs 2 R_vote_kind) := by
  refine okP T.F_vote_kind sc_vote_kind rfl fun cdv A outer s H E G hG hcd hr => ⟨_, (pss_oneP (ps_retP (pe_ifP (pt_truP (pe_callP hG (pe_call (okp_alike T) (hr.mono (by decide)) rfl T.m_alike T.F_alike.kp T.b_alike .nil pass0 (pa_consP (pe_borP (pv 0)) pa_nilP)))) (pe_ixP (pe_borP (pv 0)) (pe_cP (d := .int 0) pe_int) (fun _ _ => rfl) li_ix) (pe_cP (d := .none) pe_non)))), fun as C hl h => ?_⟩
  obtain ⟨ks, told, rfl, ok, tk, -, q⟩ := h
  unfold voteK at q
  refine ⟨ks, rfl, ok, IfP.both (fun h2 => ?_) fun h2 => ?_⟩
  · rw [show allEq ks = true from h2] at q
    exact ⟨_, atD 0 (ks_at (ks_hd ok.1)), q⟩
  · rw [show allEq ks = false from h2] at q
    exact q
theorem okp_p_row_kind (T : Tx K mg w base) : FnOk P w K mg base CX0 3 T.f_p_row_kind T.fd_p_row_kind ["kinds", "told"] (spP K T.tbs 2 R_p_row_kind) := by
  refine okP T.F_p_row_kind sc_p_row_kind rfl fun cdv A outer s H E G hG hcd hr => ⟨_, (pss_consP (ps_ifP (PW.pt (pw_orP (pt_truP (pe_callP hG (pe_call (okp_is_row T) (hr.mono (by decide)) rfl T.m_is_row T.F_is_row.kp T.b_is_row .nil pass0 (pa_consP (pe_ixP (pe_borP (pv 0)) (pe_cP (d := .int 0) pe_int) (fun _ _ => rfl) li_ix) pa_nilP)))) (pw_orP (pt_notP (pt_truP (pe_callP hG (pe_call (okp_alike T) (hr.mono (by decide)) rfl T.m_alike T.F_alike.kp T.b_alike .nil pass0 (pa_consP (pe_borP (pv 0)) pa_nilP))))) (pw_or1P (pt_cmpP op_gt li_gt (pe_cbP lc_len (pe_callB call_lenP (by rfl) T.z_len (by decide +kernel) (pa_consP (pe_borP (pv 0)) pa_nilP))) (pe_cP' (.int 6) (pe_glob (v := .int 6) rfl T.mg_MOST_ENTRIES ⟨_, rfl⟩) (fun _ _ => rfl)) (nomark _)))))) (pss_oneP (ps_retP (pe_cP (d := .none) pe_non))) pss_nilP)
      (pss_oneP (ps_retP (pe_tupP (pa_consP (pe_cP (d := .str "row") pe_str) (pa_consP (pe_ixP (pe_borP (pv 0)) (pe_cP (d := .int 0) pe_int) (fun _ _ => rfl) li_ix) (pa_consP (pe_frzP (pe_cbP lc_len (pe_callB call_lenP (by rfl) T.z_len (by decide +kernel) (pa_consP (pe_borP (pv 0)) pa_nilP)))) pa_nilP))))))), fun as C hl h => ?_⟩
  obtain ⟨ks, told, rfl, ok, tk, -, q⟩ := h
  unfold rowK at q
  have h0 := ks_hd ok.1
  refine ⟨_, atD 0 (ks_at h0), hd0 ks, rfl, ?_⟩
  generalize eh : hd0 ks = r at q h0
  cases r with
  | r k n => exact .t rfl (.t rfl q)
  | p k =>
    refine .f rfl ⟨ks, rfl, ok, ?_⟩
    have q : C (.dat (okD (if allEq ks && decide (ks.length ≤ 6) then some (.r k ks.length) else none))) _ := q
    generalize allEq ks = b at q
    cases b with
    | false => exact .t rfl (.t rfl q)
    | true =>
      rw [Bool.true_and] at q
      have ln : (ks.map Rk.d).length = ks.length := List.length_map _
      refine .f rfl (IfP.both (fun h3 => ?_) fun h3 => ?_)
      · have h3 : 6 < (((ks.map Rk.d).length : Nat) : Int) := of_decide_eq_true h3
        rw [decide_eq_false (by omega)] at q
        exact q
      · have h3 : ¬ 6 < (((ks.map Rk.d).length : Nat) : Int) := of_decide_eq_false h3
        rw [decide_eq_true (by omega)] at q
        refine ⟨_, atD 0 (ks_at h0), szr, ?_⟩
        rw [ln]
        exact q
theorem okp_at_kind (T : Tx K mg w base) : FnOk P w K mg base CX0 4 T.f_at_kind T.fd_at_kind ["kinds", "told"] (spP K T.tbs 2 R_at_kind) := by
  refine okP T.F_at_kind sc_at_kind rfl fun cdv A outer s H E G hG hcd hr => ⟨_, (pss_oneP (ps_retP (pe_ifP (PW.pt (pw_andP (pt_truP (pe_callP hG (pe_call (okp_is_row T) (hr.mono (by decide)) rfl T.m_is_row T.F_is_row.kp T.b_is_row .nil pass0 (pa_consP (pe_ixP (pe_borP (pv 0)) (pe_cP (d := .int 0) pe_int) (fun _ _ => rfl) li_ix) pa_nilP)))) (pw_and1P (pt_truP (pe_callP hG (pe_call (okp_is_num T) (hr.mono (by decide)) rfl T.m_is_num T.F_is_num.kp T.b_is_num .nil pass0 (pa_consP (pe_ixP (pe_borP (pv 0)) (pe_cP (d := .int 1) pe_int) (fun _ _ => rfl) li_ix) pa_nilP))))))) (pe_ixP (pe_ixP (pe_borP (pv 0)) (pe_cP (d := .int 0) pe_int) (fun _ _ => rfl) li_ix) (pe_cP (d := .int 1) pe_int) (fun _ _ => rfl) li_ix) (pe_cP (d := .none) pe_non)))), fun as C hl h => ?_⟩
  obtain ⟨ks, told, rfl, ok, tk, l2, q⟩ := h
  match ks, l2, ok, q with
  | .p k :: b :: r, _, ok, q => exact ⟨_, atD 0 rfl, .p k, rfl, .f rfl (.f rfl q)⟩
  | .r k n :: b :: r, _, ok, q =>
    have q : C (.dat (okD (if b.isn then some (.p k) else none))) _ := q
    refine ⟨_, atD 0 rfl, .r k n, rfl, .t rfl ⟨_, atD 1 rfl, b, rfl, ok2 ok, IfP.both (fun h1 => ?_) fun h1 => ?_⟩⟩
    · rw [show b.isn = true from h1] at q
      exact ⟨_, atD 0 rfl, _, atD 1 rfl, q⟩
    · rw [show b.isn = false from h1] at q
      exact q
theorem okp_put_kind (T : Tx K mg w base) : FnOk P w K mg base CX0 5 T.f_put_kind T.fd_put_kind ["kinds", "told"] (spP K T.tbs 2 R_put_kind) := by
  refine okP T.F_put_kind sc_put_kind rfl fun cdv A outer s H E G hG hcd hr => ⟨_, (pss_consP (ps_setP (ps_set (i := 2) sc_put_kind.nd rfl (Or.inl rfl) (pe_callP hG (pe_call (okp_at_kind T) (hr.mono (by decide)) rfl T.m_at_kind T.F_at_kind.kp T.b_at_kind .nil pass0 (pa_consP (pe_borP (pv 0)) (pa_consP (pe_borP (pv 1)) pa_nilP))))))
      (pss_oneP (ps_retP (pe_ifP (PW.pt (pw_andP (pt_cmpP op_nisP li_is (pe_borP (pv 2)) (pe_cP (d := .none) pe_non) (nomark _)) (pw_and1P (pt_cmpP (op_eqP hr.units) li_eq (pe_borP (pv 2)) (pe_ixP (pe_borP (pv 0)) (pe_cP (d := .int 2) pe_int) (fun _ _ => rfl) li_ix) (nomark _))))) (pe_ixP (pe_borP (pv 0)) (pe_cP (d := .int 0) pe_int) (fun _ _ => rfl) li_ix) (pe_cP (d := .none) pe_non))))), fun as C hl h => ?_⟩
  obtain ⟨ks, told, rfl, ok, tk, l3, q⟩ := h
  obtain ⟨a, b, c, rfl⟩ := len3 l3
  refine ⟨[a, b, c], told, rfl, ok, tk, by show 2 ≤ 3; decide, ?_⟩
  cases a with
  | p k => exact .f rfl (.f rfl q)
  | r k n =>
    have q : C (.dat (okD (if b.isn && decide (Rk.p k = c) then some (.r k n) else none))) _ := q
    generalize eb : b.isn = bb at q
    have e : atK [.r k n, b, c] told = if bb then some (.p k) else none := by rw [← eb]; rfl
    rw [e]
    cases bb with
    | false => exact .f rfl (.f rfl q)
    | true =>
      rw [Bool.true_and] at q
      refine .t rfl ⟨_, atD 2 rfl, Rk.ok.shaped (r := .p k) (ok1 ok).1, (ok3 ok).shaped, IfP.kinds (a := .p k) (ok1 ok).1 (ok3 ok) (fun h1 => ?_) fun h1 => ?_⟩
      · rw [decide_eq_true h1] at q
        exact ⟨_, atD 0 rfl, q⟩
      · rw [decide_eq_false h1] at q
        exact q
theorem okp_sum_kind (T : Tx K mg w base) : FnOk P w K mg base CX0 4 T.f_sum_kind T.fd_sum_kind ["kinds", "told"] (spP K T.tbs 2 R_sum_kind) := by
  refine okP T.F_sum_kind sc_sum_kind rfl fun cdv A outer s H E G hG hcd hr => ⟨_, (pss_oneP (ps_retP (pe_ifP (PW.pt (pw_andP (pt_truP (pe_callP hG (pe_call (okp_is_row T) (hr.mono (by decide)) rfl T.m_is_row T.F_is_row.kp T.b_is_row .nil pass0 (pa_consP (pe_ixP (pe_borP (pv 0)) (pe_cP (d := .int 0) pe_int) (fun _ _ => rfl) li_ix) pa_nilP)))) (pw_and1P (pt_truP (pe_callP hG (pe_call (okp_is_num T) (hr.mono (by decide)) rfl T.m_is_num T.F_is_num.kp T.b_is_num .nil pass0 (pa_consP (pe_ixP (pe_ixP (pe_borP (pv 0)) (pe_cP (d := .int 0) pe_int) (fun _ _ => rfl) li_ix) (pe_cP (d := .int 1) pe_int) (fun _ _ => rfl) li_ix) pa_nilP))))))) (pe_ixP (pe_ixP (pe_borP (pv 0)) (pe_cP (d := .int 0) pe_int) (fun _ _ => rfl) li_ix) (pe_cP (d := .int 1) pe_int) (fun _ _ => rfl) li_ix) (pe_cP (d := .none) pe_non)))), fun as C hl h => ?_⟩
  obtain ⟨ks, told, rfl, ok, tk, l1, q⟩ := h
  obtain ⟨a, rfl⟩ := len1 l1
  refine ⟨_, atD 0 rfl, a, rfl, ?_⟩
  cases a with
  | p k => exact .f rfl (.f rfl q)
  | r k n =>
    have q : C (.dat (okD (if k.isn then some (.p k) else none))) _ := q
    refine .t rfl ⟨_, atD 0 rfl, _, atD 1 rfl, .p k, rfl, (ok1 ok).1, IfP.both (fun h1 => ?_) fun h1 => ?_⟩
    · rw [show k.isn = true from h1] at q
      exact ⟨_, atD 0 rfl, _, atD 1 rfl, q⟩
    · rw [show k.isn = false from h1] at q
      exact q
theorem okp_p_some_kind (T : Tx K mg w base) : FnOk P w K mg base CX0 2 T.f_p_some_kind T.fd_p_some_kind ["kinds", "told"] (spP K T.tbs 2 R_p_some_kind) := by
  refine okP T.F_p_some_kind sc_p_some_kind rfl fun cdv A outer s H E G hG hcd hr => ⟨_, (pss_oneP (ps_retP (pe_ifP (PW.pt (pw_andP (pt_truP (pe_callP hG (pe_call (okp_is_row T) (hr.mono (by decide)) rfl T.m_is_row T.F_is_row.kp T.b_is_row .nil pass0 (pa_consP (pe_ixP (pe_borP (pv 0)) (pe_cP (d := .int 0) pe_int) (fun _ _ => rfl) li_ix) pa_nilP)))) (pw_and1P (pt_cmpP (op_eqP hr.units) li_eq (pe_ixP (pe_ixP (pe_borP (pv 0)) (pe_cP (d := .int 0) pe_int) (fun _ _ => rfl) li_ix) (pe_cP (d := .int 1) pe_int) (fun _ _ => rfl) li_ix) (pe_cP' (.tuple ((["bool"] : List Str).map .str)) (pe_glob (v := .ref (He.ga K "BOOL")) rfl T.mg_BOOL rfl) (fun _ H => ⟨_, _, rfl, T.tp_BOOL H, da_strs _⟩)) (nomark _))))) (pe_cP' (.tuple ((["bool"] : List Str).map .str)) (pe_glob (v := .ref (He.ga K "BOOL")) rfl T.mg_BOOL rfl) (fun _ H => ⟨_, _, rfl, T.tp_BOOL H, da_strs _⟩)) (pe_cP (d := .none) pe_non)))), fun as C hl h => ?_⟩
  obtain ⟨ks, told, rfl, ok, tk, l1, q⟩ := h
  obtain ⟨a, rfl⟩ := len1 l1
  refine ⟨_, atD 0 rfl, a, rfl, ?_⟩
  cases a with
  | p k => exact .f rfl (.f rfl q)
  | r k n =>
    have q : C (.dat (okD (if decide (k = .bool) then some (.p .bool) else none))) _ := q
    refine .t rfl ⟨_, atD 0 rfl, _, atD 1 rfl, Rk.ok.shaped (r := .p k) (ok1 ok).1, bool_ok.shaped, IfP.kinds (a := .p k) (ok1 ok).1 bool_ok (fun h1 => ?_) fun h1 => ?_⟩
    · rw [decide_eq_true (Rk.p.inj h1)] at q
      exact q
    · rw [decide_eq_false fun z => h1 (by rw [z])] at q
      exact q
end

/-! ### the kind of an operation's value -/
def R_result_kind : PR := fun as C => ∃ (op : Op) (ks : List Rk) (told : Option Kd), as = [.dat (.str op.s), .dat (ksD ks), .dat (toldD told)] ∧ (ks = [] ∨ KsOk ks) ∧ ToldOk told ∧ (op = .ass → ∃ g, told = some g) ∧ C (.dat (if ks = [] then .none else okD (kindOf op ks told))) as
section
variable {P : Program} {w : World} {K : PySem.W.Frag} {mg : Str → Option Value} {base : Heap}
def ft_KIND_RULES : List (Str × PR) := [("not", R_logic_kind), ("and", R_logic_kind), ("or", R_logic_kind), ("xor", R_logic_kind), ("eq", R_equal_kind), ("ne", R_equal_kind), ("lt", R_order_kind), ("le", R_order_kind), ("neg", R_number_kind), ("add", R_number_kind), ("sub", R_number_kind), ("mul", R_number_kind), ("div", R_number_kind), ("min", R_number_kind), ("max", R_number_kind), ("mid", R_number_kind), ("as", R_as_kind), ("pick", R_pick_kind), ("vote", R_vote_kind), ("row", R_p_row_kind), ("at", R_at_kind), ("put", R_put_kind), ("sum", R_sum_kind), ("any", R_p_some_kind), ("all", R_p_some_kind)]
theorem fa_KIND_RULES (T : Tx K mg w base) : ∀ z R, ft_KIND_RULES.lookup z = some R → FnAt P w K mg base 5 T.tbs 2 ["kinds", "told"] (He.ga K "KIND_RULES") z R := fun z R h => by
  have hm : (z, R) ∈ ft_KIND_RULES := PySem.mem_of_lookup h
  simp only [ft_KIND_RULES, List.mem_cons, List.not_mem_nil, or_false, Prod.mk.injEq] at hm
  rcases hm with ⟨rfl, rfl⟩ | ⟨rfl, rfl⟩ | ⟨rfl, rfl⟩ | ⟨rfl, rfl⟩ | ⟨rfl, rfl⟩ | ⟨rfl, rfl⟩ | ⟨rfl, rfl⟩ | ⟨rfl, rfl⟩ | ⟨rfl, rfl⟩ | ⟨rfl, rfl⟩ | ⟨rfl, rfl⟩ | ⟨rfl, rfl⟩ | ⟨rfl, rfl⟩ | ⟨rfl, rfl⟩ | ⟨rfl, rfl⟩ | ⟨rfl, rfl⟩ | ⟨rfl, rfl⟩ | ⟨rfl, rfl⟩ | ⟨rfl, rfl⟩ | ⟨rfl, rfl⟩ | ⟨rfl, rfl⟩ | ⟨rfl, rfl⟩ | ⟨rfl, rfl⟩ | ⟨rfl, rfl⟩ | ⟨rfl, rfl⟩
  · exact ⟨⟨_, _, _, T.kd_KIND_RULES_not, fnLk T.F_logic_kind, T.F_logic_kind.kp, by decide, okp_logic_kind T, T.b_logic_kind⟩⟩
  · exact ⟨⟨_, _, _, T.kd_KIND_RULES_and, fnLk T.F_logic_kind, T.F_logic_kind.kp, by decide, okp_logic_kind T, T.b_logic_kind⟩⟩
  · exact ⟨⟨_, _, _, T.kd_KIND_RULES_or, fnLk T.F_logic_kind, T.F_logic_kind.kp, by decide, okp_logic_kind T, T.b_logic_kind⟩⟩
  · exact ⟨⟨_, _, _, T.kd_KIND_RULES_xor, fnLk T.F_logic_kind, T.F_logic_kind.kp, by decide, okp_logic_kind T, T.b_logic_kind⟩⟩
  · exact ⟨⟨_, _, _, T.kd_KIND_RULES_eq, fnLk T.F_equal_kind, T.F_equal_kind.kp, by decide, okp_equal_kind T, T.b_equal_kind⟩⟩
  · exact ⟨⟨_, _, _, T.kd_KIND_RULES_ne, fnLk T.F_equal_kind, T.F_equal_kind.kp, by decide, okp_equal_kind T, T.b_equal_kind⟩⟩
  · exact ⟨⟨_, _, _, T.kd_KIND_RULES_lt, fnLk T.F_order_kind, T.F_order_kind.kp, by decide, okp_order_kind T, T.b_order_kind⟩⟩
  · exact ⟨⟨_, _, _, T.kd_KIND_RULES_le, fnLk T.F_order_kind, T.F_order_kind.kp, by decide, okp_order_kind T, T.b_order_kind⟩⟩
  · exact ⟨⟨_, _, _, T.kd_KIND_RULES_neg, fnLk T.F_number_kind, T.F_number_kind.kp, by decide, okp_number_kind T, T.b_number_kind⟩⟩
  · exact ⟨⟨_, _, _, T.kd_KIND_RULES_add, fnLk T.F_number_kind, T.F_number_kind.kp, by decide, okp_number_kind T, T.b_number_kind⟩⟩
  · exact ⟨⟨_, _, _, T.kd_KIND_RULES_sub, fnLk T.F_number_kind, T.F_number_kind.kp, by decide, okp_number_kind T, T.b_number_kind⟩⟩
  · exact ⟨⟨_, _, _, T.kd_KIND_RULES_mul, fnLk T.F_number_kind, T.F_number_kind.kp, by decide, okp_number_kind T, T.b_number_kind⟩⟩
  · exact ⟨⟨_, _, _, T.kd_KIND_RULES_div, fnLk T.F_number_kind, T.F_number_kind.kp, by decide, okp_number_kind T, T.b_number_kind⟩⟩
  · exact ⟨⟨_, _, _, T.kd_KIND_RULES_min, fnLk T.F_number_kind, T.F_number_kind.kp, by decide, okp_number_kind T, T.b_number_kind⟩⟩
  · exact ⟨⟨_, _, _, T.kd_KIND_RULES_max, fnLk T.F_number_kind, T.F_number_kind.kp, by decide, okp_number_kind T, T.b_number_kind⟩⟩
  · exact ⟨⟨_, _, _, T.kd_KIND_RULES_mid, fnLk T.F_number_kind, T.F_number_kind.kp, by decide, okp_number_kind T, T.b_number_kind⟩⟩
  · exact ⟨⟨_, _, _, T.kd_KIND_RULES_as, fnLk T.F_as_kind, T.F_as_kind.kp, by decide, okp_as_kind T, T.b_as_kind⟩⟩
  · exact ⟨⟨_, _, _, T.kd_KIND_RULES_pick, fnLk T.F_pick_kind, T.F_pick_kind.kp, by decide, okp_pick_kind T, T.b_pick_kind⟩⟩
  · exact ⟨⟨_, _, _, T.kd_KIND_RULES_vote, fnLk T.F_vote_kind, T.F_vote_kind.kp, by decide, okp_vote_kind T, T.b_vote_kind⟩⟩
  · exact ⟨⟨_, _, _, T.kd_KIND_RULES_row, fnLk T.F_p_row_kind, T.F_p_row_kind.kp, by decide, okp_p_row_kind T, T.b_p_row_kind⟩⟩
  · exact ⟨⟨_, _, _, T.kd_KIND_RULES_at, fnLk T.F_at_kind, T.F_at_kind.kp, by decide, okp_at_kind T, T.b_at_kind⟩⟩
  · exact ⟨⟨_, _, _, T.kd_KIND_RULES_put, fnLk T.F_put_kind, T.F_put_kind.kp, by decide, okp_put_kind T, T.b_put_kind⟩⟩
  · exact ⟨⟨_, _, _, T.kd_KIND_RULES_sum, fnLk T.F_sum_kind, T.F_sum_kind.kp, by decide, okp_sum_kind T, T.b_sum_kind⟩⟩
  · exact ⟨⟨_, _, _, T.kd_KIND_RULES_any, fnLk T.F_p_some_kind, T.F_p_some_kind.kp, by decide, okp_p_some_kind T, T.b_p_some_kind⟩⟩
  · exact ⟨⟨_, _, _, T.kd_KIND_RULES_all, fnLk T.F_p_some_kind, T.F_p_some_kind.kp, by decide, okp_p_some_kind T, T.b_p_some_kind⟩⟩
def cntV (op : Op) : V := match op.cnt with
  | some n => .int (n : Int)
  | none => .non
theorem cnt_tab : ∀ op : Op, (op.s, cntV op) ∈ tab_COUNTS := fun op => by cases op <;> decide +kernel
theorem cnt_key : ∀ op : Op, op.s ∈ tab_COUNTS.map (·.1) := fun op => List.mem_map.mpr ⟨_, cnt_tab op, rfl⟩
def cntD (op : Op) : PyData := match op.cnt with
  | some n => .int (n : Int)
  | none => .none
theorem cnt_d (op : Op) : scD (cntV op) = some (cntD op) := by cases op <;> rfl
theorem okp_result_kind (T : Tx K mg w base) : FnOk P w K mg base CX0 6 T.f_result_kind T.fd_result_kind ["op", "kinds", "told"] (spP K T.tbs 3 R_result_kind) := by
  refine okP T.F_result_kind sc_result_kind rfl fun cdv A outer s H E G hG hcd hr => ⟨_, (pss_consP (ps_ifP (PW.pt (pw_orP (pt_ninTabP (keys := tab_COUNTS.map (·.1)) (nots := not_COUNTS) (tab_in T.kd_COUNTS) T.no_COUNTS (pt_cmpR (op_notIn_kd T.kx_COUNTS) (pe_borP (pv 0)) (pe_glob (v := .ref (He.ga K "COUNTS")) rfl T.mg_COUNTS rfl) (by rfl))) (pw_or1P (pt_notP (pt_truP (pe_borP (pv 1))))))) (pss_oneP (ps_retP (pe_cP (d := .none) pe_non))) pss_nilP)
      (pss_cutP (ps_ifP (PW.pt (pw_andP (pt_cmpP op_nisP li_is (pe_tabIxP (tab := tab_COUNTS) T.kd_COUNTS (pe_ix ix_kdict (pe_glob (v := .ref (He.ga K "COUNTS")) rfl T.mg_COUNTS rfl) (pe_borP (pv 0)) (fun _ _ => rfl))) (pe_cP (d := .none) pe_non) (nomark _)) (pw_and1P (pt_cmpP (op_neP hr.units) li_ne (pe_cbP lc_len (pe_callB call_lenP (by rfl) T.z_len (by decide +kernel) (pa_consP (pe_borP (pv 1)) pa_nilP))) (pe_tabIxP (tab := tab_COUNTS) T.kd_COUNTS (pe_ix ix_kdict (pe_glob (v := .ref (He.ga K "COUNTS")) rfl T.mg_COUNTS rfl) (pe_borP (pv 0)) (fun _ _ => rfl))) (nomark _))))) (pss_oneP (ps_retP (pe_cP (d := .none) pe_non))) pss_nilP)
      (pss_fnP hG (fa_KIND_RULES T) (ps_set (i := 3) sc_result_kind.nd rfl (Or.inl rfl) (pe_ix ix_kdict (pe_glob (v := .ref (He.ga K "KIND_RULES")) rfl T.mg_KIND_RULES rfl) (pe_borP (pv 0)) (fun _ _ => rfl))) (ps_ret (pe_callA allS_held (hr.mono (by decide)) rfl (Or.inl rfl) (pa_consP (pe_borP (pv 1)) (pa_consP (pe_borP (pv 2)) pa_nilP))))))), fun as C hl h => ?_⟩
  obtain ⟨op, ks, told, rfl, ok, tk, ho, q⟩ := h
  refine .inl ⟨cnt_key op, ?_⟩
  have ln : (ks.map Rk.d).length = ks.length := List.length_map _
  rcases ok with rfl | ok
  · exact .f rfl (.t rfl q)
  rw [if_neg ok.1] at q
  have tr : (!(!(ks.map Rk.d).isEmpty)) = false := by
    cases ks with
    | nil => exact absurd rfl ok.1
    | cons a r => rfl
  refine .f rfl (.f tr ?_)
  have e : kindOf op ks told = if op.fits ks then op.rule ks told else none := rfl
  rw [e] at q
  refine ⟨fun env => env = [.dat (.str op.s), .dat (ksD ks), .dat (toldD told), .no] ∧ op.fits ks = true, ⟨op.s, cntV op, cntD op, rfl, cnt_tab op, cnt_d op, ?_⟩, ?_⟩
  · cases hc : op.cnt with
    | none =>
      rw [show cntD op = .none by unfold cntD; rw [hc]]
      exact .f rfl (.f rfl ⟨rfl, by unfold Op.fits; rw [hc]⟩)
    | some n =>
      have ed : cntD op = .int (n : Int) := by unfold cntD; rw [hc]
      rw [ed]
      refine .t rfl ⟨op.s, cntV op, cntD op, rfl, cnt_tab op, cnt_d op, ?_⟩
      rw [ed]
      refine IfP.both (fun h1 => ?_) fun h1 => ⟨rfl, ?_⟩
      · have h1 : (!decide ((((ks.map Rk.d).length : Nat) : Int) = (n : Int))) = true := h1
        have hf : op.fits ks = false := by
          unfold Op.fits
          rw [hc]
          refine decide_eq_false fun z => ?_
          rw [ln, z] at h1
          simp at h1
        rw [hf] at q
        exact q
      · have h1 : (!decide ((((ks.map Rk.d).length : Nat) : Int) = (n : Int))) = false := h1
        unfold Op.fits
        rw [hc]
        refine decide_eq_true ?_
        rw [ln] at h1
        have : ((ks.length : Nat) : Int) = (n : Int) := by simpa using h1
        exact Int.ofNat.inj this
  rintro env ⟨rfl, hf⟩
  rw [hf] at q
  have fn : ∀ n, op.cnt = some n → ks.length = n := fun n hn => by
    unfold Op.fits at hf
    rw [hn] at hf
    exact of_decide_eq_true hf
  have q : C (.dat (okD (op.rule ks told))) [.dat (.str op.s), .dat (ksD ks), .dat (toldD told)] := q
  have say : ∀ (g : List Rk → Option Kd → Prop) (f : Rule), ft_KIND_RULES.lookup op.s = some (RRule g f) → op.rule = f → g ks told → pFn 3 2 (fun z => List.lookup z ft_KIND_RULES) (pBor 0) (pCons (pBor 1) (pCons (pBor 2) pNil)) (endsP [.dat (.str op.s), .dat (ksD ks), .dat (toldD told)] C) [.dat (.str op.s), .dat (ksD ks), .dat (toldD told), .no] := fun g f h1 h2 h3 => by
    refine ⟨op.s, _, rfl, h1, by show 3 < 4; decide, ks, told, rfl, ok, tk, h3, ?_⟩
    rw [← h2]
    exact q
  cases op with
  | nt => exact say _ _ rfl rfl trivial
  | an => exact say _ _ rfl rfl trivial
  | orr => exact say _ _ rfl rfl trivial
  | xr => exact say _ _ rfl rfl trivial
  | eq => exact say _ _ rfl rfl trivial
  | ne => exact say _ _ rfl rfl trivial
  | lt => exact say _ _ rfl rfl trivial
  | le => exact say _ _ rfl rfl trivial
  | ng => exact say _ _ rfl rfl trivial
  | ad => exact say _ _ rfl rfl trivial
  | sb => exact say _ _ rfl rfl trivial
  | ml => exact say _ _ rfl rfl trivial
  | dv => exact say _ _ rfl rfl trivial
  | mn => exact say _ _ rfl rfl trivial
  | mx => exact say _ _ rfl rfl trivial
  | md => exact say _ _ rfl rfl trivial
  | ass => exact say _ _ rfl rfl (ho rfl)
  | pk => exact say _ _ rfl rfl (fn 3 rfl)
  | vt => exact say _ _ rfl rfl trivial
  | rw => exact say _ _ rfl rfl trivial
  | att => exact say _ _ rfl rfl (by have := fn 2 rfl; show 2 ≤ ks.length; omega)
  | pt => exact say _ _ rfl rfl (fn 3 rfl)
  | sm => exact say _ _ rfl rfl (fn 1 rfl)
  | ay => exact say _ _ rfl rfl (fn 1 rfl)
  | al => exact say _ _ rfl rfl (fn 1 rfl)
end

/-! ### the law's kind of an operation's value -/
@[reducible] def ksL (ks : List Rk) : PyData := .list (ks.map Rk.d)
def R_op_kind : PR := fun as C => ∃ (op : Op) (ks : List Rk) (g : Kd), as = [.dat (.str op.s), .dat (ksL ks), .dat g.d] ∧ KsOk ks ∧ g.ok ∧ C (.dat (okD (kindOf op ks (some g)))) as
def Op.late (op : Op) : Prop := op = .att ∨ op = .pt ∨ op = .sm ∨ op = .ay ∨ op = .al
def R_row_kind : PR := fun as C => ∃ (op : Op) (ks : List Rk), as = [.dat (.str op.s), .dat (ksL ks)] ∧ op.late ∧ KsOk ks ∧ C (.dat (okD (kindOf op ks none))) as
theorem odd_empty {ks : List Rk} (h : ks ≠ []) : (ks.filter fun k => decide (k ≠ hd0 ks)).isEmpty = allEq ks := by
  rw [allEq_eq h]
  generalize hd0 ks = a
  induction ks with
  | nil => rfl
  | cons k r ih =>
    cases r with
    | nil => by_cases e : k = a <;> simp [e]
    | cons k2 r =>
      have ih := ih (by simp)
      rw [List.filter_cons, List.all_cons]
      by_cases e : k = a
      · rw [if_neg (by simp [e]), ih, decide_eq_true e, Bool.true_and]
      · rw [if_pos (by simp [e]), decide_eq_false e, Bool.false_and]
        rfl
theorem all_bool {ks : List Rk} (h : ks ≠ []) : decide ((ks.filter fun k => decide (k = .p .bool)).length = ks.length) = (decide (hd0 ks = .p .bool) && allEq ks) := by
  rw [allEq_eq h, Bool.eq_iff_iff, decide_eq_true_eq, Bool.and_eq_true, decide_eq_true_eq, List.length_filter_eq_length_iff, List.all_eq_true]
  constructor
  · intro z
    have h0 : hd0 ks = .p .bool := of_decide_eq_true (z _ (List.mem_of_getElem? (ks_hd h)))
    refine ⟨h0, fun k hk => ?_⟩
    rw [h0]
    exact z k hk
  · rintro ⟨h0, z⟩ k hk
    have := z k hk
    rw [h0] at this
    exact this
theorem ninS (w : Str) (ns : List Str) : (true ^^ ((ns.map PyData.str).any fun z => PyData.eqv z (.str w))) = !decide (w ∈ ns) := by
  rw [in_strs]
  cases decide (w ∈ ns) <;> rfl
theorem IfP.nei {a b : Int} {A B : Prop} (h1 : a ≠ b → A) (h2 : a = b → B) : IfP (!decide (a = b)) A B := by
  by_cases e : a = b
  · exact .f (by rw [decide_eq_true e]; rfl) (h2 e)
  · exact .t (by rw [decide_eq_false e]; rfl) (h1 e)
theorem IfP.eqi {a b : Int} {A B : Prop} (h1 : a = b → A) (h2 : a ≠ b → B) : IfP (decide (a = b)) A B := by
  by_cases e : a = b
  · exact .t (decide_eq_true e) (h1 e)
  · exact .f (decide_eq_false e) (h2 e)
theorem IfP.bb {b : Bool} {A B : Prop} (h1 : b = true → A) (h2 : b = false → B) : IfP b A B := IfP.both h1 h2
theorem IfP.nb {b : Bool} {A B : Prop} (h1 : b = false → A) (h2 : b = true → B) : IfP (!b) A B := by
  cases b with
  | true => exact .f rfl (h2 rfl)
  | false => exact .t rfl (h1 rfl)
/-- the word of a kind, asked -/
theorem IfP.wnum {r : Rk} {A B : Prop} (h1 : r.isn = true → A) (h2 : r.isn = false → B) : IfP (decide (r.w = "num")) A B := IfP.as r.w_num (IfP.bb h1 h2)
theorem IfP.wnnum {r : Rk} {A B : Prop} (h1 : r.isn = false → A) (h2 : r.isn = true → B) : IfP (!decide (r.w = "num")) A B := IfP.as (congrArg (!·) r.w_num) (IfP.nb h1 h2)
theorem IfP.wrow {r : Rk} {A B : Prop} (h1 : r.isr = true → A) (h2 : r.isr = false → B) : IfP (decide (r.w = "row")) A B := IfP.as r.w_row (IfP.bb h1 h2)
theorem IfP.wnrow {r : Rk} {A B : Prop} (h1 : r.isr = false → A) (h2 : r.isr = true → B) : IfP (!decide (r.w = "row")) A B := IfP.as (congrArg (!·) r.w_row) (IfP.nb h1 h2)
section
variable {P : Program} {w : World} {K : PySem.W.Frag} {mg : Str → Option Value} {base : Heap}
theorem okp_row_kind (T : Tx K mg w base) : FnOk P w K mg base CX0 1 T.f_row_kind T.fd_row_kind ["_law_op_here", "_law_kinds"] (spP K T.tbs 2 R_row_kind) := by
  refine okP T.F_row_kind sc_row_kind rfl fun cdv A outer s H E G hG hcd hr => ⟨_, (pss_consP (ps_setP (ps_set (i := 2) sc_row_kind.nd rfl (Or.inl rfl) (pe_cbP lc_len (pe_callB call_lenP (by rfl) T.z_len (by decide +kernel) (pa_consP (pe_borP (pv 1)) pa_nilP)))))
      (pss_consP (ps_setP (ps_set (i := 3) sc_row_kind.nd rfl (Or.inl rfl) (pe_ifP (pt_cmpP (op_inP hr.u65) li_in (pe_borP (pv 0)) (pe_tupP (pa_consP (pe_cP (d := .str "sum") pe_str) (pa_consP (pe_cP (d := .str "any") pe_str) (pa_consP (pe_cP (d := .str "all") pe_str) pa_nilP)))) (by rfl)) (pe_cP (d := .int 1) pe_int) (pe_ifP (pt_cmpP (op_eqP hr.units) li_eq (pe_borP (pv 0)) (pe_cP (d := .str "at") pe_str) (nomark _)) (pe_cP (d := .int 2) pe_int) (pe_cP (d := .int 3) pe_int)))))
      (pss_consP (ps_ifP (PW.pt (pw_orP (pt_cmpP (op_ninP hr.u65) li_in (pe_borP (pv 0)) (pe_tupP (pa_consP (pe_cP (d := .str "sum") pe_str) (pa_consP (pe_cP (d := .str "any") pe_str) (pa_consP (pe_cP (d := .str "all") pe_str) (pa_consP (pe_cP (d := .str "at") pe_str) (pa_consP (pe_cP (d := .str "put") pe_str) pa_nilP)))))) (by rfl)) (pw_orP (pt_cmpP (op_neP hr.units) li_ne (pe_borP (pv 2)) (pe_borP (pv 3)) (nomark _)) (pw_or1P (pt_cmpP (op_neP hr.units) li_ne (pe_ixP (pe_ixP (pe_borP (pv 1)) (pe_cP (d := .int 0) pe_int) (fun _ _ => rfl) li_ix) (pe_cP (d := .int 0) pe_int) (fun _ _ => rfl) li_ix) (pe_cP (d := .str "row") pe_str) (nomark _)))))) (pss_oneP (ps_retP (pe_cP (d := .none) pe_non))) pss_nilP)
      (pss_consP (ps_setP (ps_set (i := 4) sc_row_kind.nd rfl (Or.inl rfl) (pe_ixP (pe_ixP (pe_borP (pv 1)) (pe_cP (d := .int 0) pe_int) (fun _ _ => rfl) li_ix) (pe_cP (d := .int 1) pe_int) (fun _ _ => rfl) li_ix)))
      (pss_consP (ps_ifP (pt_cmpP (op_eqP hr.units) li_eq (pe_borP (pv 0)) (pe_cP (d := .str "sum") pe_str) (nomark _)) (pss_oneP (ps_retP (pe_ifP (pt_cmpP (op_eqP hr.units) li_eq (pe_ixP (pe_borP (pv 4)) (pe_cP (d := .int 0) pe_int) (fun _ _ => rfl) li_ix) (pe_cP (d := .str "num") pe_str) (nomark _)) (pe_varP (pv 4)) (pe_cP (d := .none) pe_non)))) pss_nilP)
      (pss_consP (ps_ifP (pt_cmpP (op_inP hr.u65) li_in (pe_borP (pv 0)) (pe_tupP (pa_consP (pe_cP (d := .str "any") pe_str) (pa_consP (pe_cP (d := .str "all") pe_str) pa_nilP))) (by rfl)) (pss_oneP (ps_retP (pe_ifP (pt_cmpP (op_eqP hr.units) li_eq (pe_borP (pv 4)) (pe_tupP (pa_consP (pe_cP (d := .str "bool") pe_str) pa_nilP)) (nomark _)) (pe_varP (pv 4)) (pe_cP (d := .none) pe_non)))) pss_nilP)
      (pss_consP (ps_ifP (pt_cmpP (op_neP hr.units) li_ne (pe_ixP (pe_ixP (pe_borP (pv 1)) (pe_cP (d := .int 1) pe_int) (fun _ _ => rfl) li_ix) (pe_cP (d := .int 0) pe_int) (fun _ _ => rfl) li_ix) (pe_cP (d := .str "num") pe_str) (nomark _)) (pss_oneP (ps_retP (pe_cP (d := .none) pe_non))) pss_nilP)
      (pss_consP (ps_ifP (pt_cmpP (op_eqP hr.units) li_eq (pe_borP (pv 0)) (pe_cP (d := .str "at") pe_str) (nomark _)) (pss_oneP (ps_retMvP (pv 4))) pss_nilP)
      (pss_oneP (ps_retP (pe_ifP (pt_cmpP (op_eqP hr.units) li_eq (pe_ixP (pe_borP (pv 1)) (pe_cP (d := .int 2) pe_int) (fun _ _ => rfl) li_ix) (pe_borP (pv 4)) (nomark _)) (pe_ixP (pe_borP (pv 1)) (pe_cP (d := .int 0) pe_int) (fun _ _ => rfl) li_ix) (pe_cP (d := .none) pe_non)))))))))))), fun as C hl h => ?_⟩
  obtain ⟨op, ks, rfl, lt, ok, q⟩ := h
  have ln : (ks.map Rk.d).length = ks.length := List.length_map _
  have h0 := ks_hd ok.1
  rcases lt with rfl | rfl | rfl | rfl | rfl
  · refine ⟨szr, .inl ⟨rfl, flat_strs ["sum", "any", "all"]⟩, IfP.as (inS _ ["sum", "any", "all"]) (.f (by decide +kernel) (.t (by decide +kernel) ?_))⟩
    refine ⟨szr, .inl ⟨rfl, flat_strs ["sum", "any", "all", "at", "put"]⟩, IfP.as (ninS _ ["sum", "any", "all", "at", "put"]) (.f (by decide +kernel) (IfP.nei (fun h1 => ?_) fun h1 => ?_))⟩
    · rw [ln] at h1
      rw [show kindOf .att ks none = none from if_neg fun z => h1 (by have : ks.length = 2 := of_decide_eq_true z; omega)] at q
      exact .t rfl q
    · rw [ln] at h1
      obtain ⟨a, b, rfl⟩ := len2 (l := ks) (by omega)
      refine ⟨_, atD 0 rfl, _, atD 0 a.at0, IfP.wnrow (fun h2 => ?_) fun h2 => ?_⟩
      · obtain ⟨k, rfl⟩ := rk_plain h2
        exact q
      · obtain ⟨k, n, rfl⟩ := rk_split h2
        have q : C (.dat (okD (if b.isn then some (.p k) else none))) _ := q
        refine ⟨_, atD 0 rfl, _, atD 1 rfl, .f (by decide +kernel) ⟨szr, .inl ⟨rfl, flat_strs ["any", "all"]⟩, IfP.as (inS _ ["any", "all"]) (.f (by decide +kernel) ⟨_, atD 1 rfl, _, atD 0 b.at0, IfP.wnnum (fun h3 => ?_) fun h3 => ?_⟩)⟩⟩
        · rw [h3] at q
          exact q
        · rw [h3] at q
          exact .t (by decide +kernel) q
  · refine ⟨szr, .inl ⟨rfl, flat_strs ["sum", "any", "all"]⟩, IfP.as (inS _ ["sum", "any", "all"]) (.f (by decide +kernel) (.f (by decide +kernel) ?_))⟩
    refine ⟨szr, .inl ⟨rfl, flat_strs ["sum", "any", "all", "at", "put"]⟩, IfP.as (ninS _ ["sum", "any", "all", "at", "put"]) (.f (by decide +kernel) (IfP.nei (fun h1 => ?_) fun h1 => ?_))⟩
    · rw [ln] at h1
      rw [show kindOf .pt ks none = none from if_neg fun z => h1 (by have : ks.length = 3 := of_decide_eq_true z; omega)] at q
      exact .t rfl q
    · rw [ln] at h1
      obtain ⟨a, b, c, rfl⟩ := len3 (l := ks) (by omega)
      refine ⟨_, atD 0 rfl, _, atD 0 a.at0, IfP.wnrow (fun h2 => ?_) fun h2 => ?_⟩
      · obtain ⟨k, rfl⟩ := rk_plain h2
        exact q
      · obtain ⟨k, n, rfl⟩ := rk_split h2
        have q : C (.dat (okD (if b.isn && decide (Rk.p k = c) then some (.r k n) else none))) _ := q
        refine ⟨_, atD 0 rfl, _, atD 1 rfl, .f (by decide +kernel) ⟨szr, .inl ⟨rfl, flat_strs ["any", "all"]⟩, IfP.as (inS _ ["any", "all"]) (.f (by decide +kernel) ⟨_, atD 1 rfl, _, atD 0 b.at0, IfP.wnnum (fun h3 => ?_) fun h3 => ?_⟩)⟩⟩
        · rw [h3] at q
          exact q
        · rw [h3, Bool.true_and] at q
          refine .f (by decide +kernel) ⟨_, atD 2 rfl, (ok3 ok).shaped, Rk.ok.shaped (r := .p k) (ok1 ok).1, IfP.kinds (b := .p k) (ok3 ok) (ok1 ok).1 (fun h1 => ?_) fun h1 => ?_⟩
          · rw [decide_eq_true h1.symm] at q
            exact ⟨_, atD 0 rfl, q⟩
          · rw [decide_eq_false fun z => h1 z.symm] at q
            exact q
  · refine ⟨szr, .inl ⟨rfl, flat_strs ["sum", "any", "all"]⟩, IfP.as (inS _ ["sum", "any", "all"]) (.t (by decide +kernel) ?_)⟩
    refine ⟨szr, .inl ⟨rfl, flat_strs ["sum", "any", "all", "at", "put"]⟩, IfP.as (ninS _ ["sum", "any", "all", "at", "put"]) (.f (by decide +kernel) (IfP.nei (fun h1 => ?_) fun h1 => ?_))⟩
    · rw [ln] at h1
      rw [show kindOf .sm ks none = none from if_neg fun z => h1 (by have : ks.length = 1 := of_decide_eq_true z; omega)] at q
      exact .t rfl q
    · rw [ln] at h1
      obtain ⟨a, rfl⟩ := len1 (l := ks) (by omega)
      refine ⟨_, atD 0 rfl, _, atD 0 a.at0, IfP.wnrow (fun h2 => ?_) fun h2 => ?_⟩
      · obtain ⟨k, rfl⟩ := rk_plain h2
        exact q
      · obtain ⟨k, n, rfl⟩ := rk_split h2
        have q : C (.dat (okD (if k.isn then some (.p k) else none))) _ := q
        refine ⟨_, atD 0 rfl, _, atD 1 rfl, .t (by decide +kernel) ⟨_, atD 0 k.at0, IfP.wnum (r := .p k) (fun h3 => ?_) fun h3 => ?_⟩⟩
        · rw [show k.isn = true from h3] at q
          exact q
        · rw [show k.isn = false from h3] at q
          exact q
  all_goals
    refine ⟨szr, .inl ⟨rfl, flat_strs ["sum", "any", "all"]⟩, IfP.as (inS _ ["sum", "any", "all"]) (.t (by decide +kernel) ?_)⟩
    refine ⟨szr, .inl ⟨rfl, flat_strs ["sum", "any", "all", "at", "put"]⟩, IfP.as (ninS _ ["sum", "any", "all", "at", "put"]) (.f (by decide +kernel) (IfP.nei (fun h1 => ?_) fun h1 => ?_))⟩
    · rw [ln] at h1
      have e : (if decide (ks.length = 1) then someK ks none else none) = none := if_neg fun z => h1 (by have : ks.length = 1 := of_decide_eq_true z; omega)
      have q : C (.dat (okD (if decide (ks.length = 1) then someK ks none else none))) _ := q
      rw [e] at q
      exact .t rfl q
    · rw [ln] at h1
      obtain ⟨a, rfl⟩ := len1 (l := ks) (by omega)
      refine ⟨_, atD 0 rfl, _, atD 0 a.at0, IfP.wnrow (fun h2 => ?_) fun h2 => ?_⟩
      · obtain ⟨k, rfl⟩ := rk_plain h2
        exact q
      · obtain ⟨k, n, rfl⟩ := rk_split h2
        have q : C (.dat (okD (if decide (k = .bool) then some (.p .bool) else none))) _ := q
        refine ⟨_, atD 0 rfl, _, atD 1 rfl, .f (by decide +kernel) ⟨szr, .inl ⟨rfl, flat_strs ["any", "all"]⟩, IfP.as (inS _ ["any", "all"]) (.t (by decide +kernel) ⟨szr, Rk.ok.shaped (r := .p k) (ok1 ok).1, bool_ok.shaped, IfP.kinds (a := .p k) (b := .p .bool) (ok1 ok).1 bool_ok (fun h3 => ?_) fun h3 => ?_⟩)⟩⟩
        · obtain rfl := Rk.p.inj h3
          exact q
        · rw [decide_eq_false fun z => h3 (by rw [z])] at q
          exact q
theorem okp_op_kind (T : Tx K mg w base) : FnOk P w K mg base CX0 2 T.f_op_kind T.fd_op_kind ["_law_op_here", "_law_kinds", "_law_told"] (spP K T.tbs 3 R_op_kind) := by
  refine okP T.F_op_kind sc_op_kind rfl fun cdv A outer s H E G hG hcd hr => ⟨_, (pss_consP (ps_setP (ps_set (i := 3) sc_op_kind.nd rfl (Or.inl rfl) (pe_cbP lc_len (pe_callB call_lenP (by rfl) T.z_len (by decide +kernel) (pa_consP (pe_borP (pv 1)) pa_nilP)))))
      (pss_consP (ps_setLcP (i := 4) (vs := [6]) (ps_setLc (i := 4) (own := [("_law_kind", 6)]) rfl sc_op_kind.nd rfl rfl (sw_true rfl rfl rfl (by decide +kernel)) (pi_itemsP (pe_varP (pv 1))) (blkOk_by (N := ["_law_op_here", "_law_kinds", "_law_told", "_law_many", "_law_bools", "_law_due", "_law_kind"]) (sc := defScope s_op_kind) (by decide +kernel)) (fun _ _ _ _ _ => (pg_compP (vs := [6]) (pg_name (i := 6) sc_op_kind.nd rfl (Or.inl rfl)))) (fun _ _ _ _ _ => (pts_one (pt_cmpP (op_eqP hr.units) li_eq (pe_borP (pv 6)) (pe_tupP (pa_consP (pe_cP (d := .str "bool") pe_str) pa_nilP)) (nomark _)))) (fun _ _ _ _ _ => (pe_varP (pv 6)))))
      (pss_consP (ps_ifP (pt_cmpP (op_eqP hr.units) li_eq (pe_borP (pv 0)) (pe_cP (d := .str "row") pe_str) (nomark _)) (pss_consP (ps_ifP (PW.pt (pw_orP (pt_cmpP op_lt li_lt (pe_borP (pv 3)) (pe_cP (d := .int 1) pe_int) (nomark _)) (pw_orP (pt_cmpP op_gt li_gt (pe_borP (pv 3)) (pe_cP (d := .int 6) pe_int) (nomark _)) (pw_orP (pt_cmpP (op_eqP hr.units) li_eq (pe_ixP (pe_ixP (pe_borP (pv 1)) (pe_cP (d := .int 0) pe_int) (fun _ _ => rfl) li_ix) (pe_cP (d := .int 0) pe_int) (fun _ _ => rfl) li_ix) (pe_cP (d := .str "row") pe_str) (nomark _)) (pw_or1P (pt_truP (pe_lcP (vs := [6]) (pe_lc (own := [("_law_kind", 6)]) rfl sc_op_kind.nd (pi_itemsP (pe_varP (pv 1))) (blkOk_by (N := ["_law_op_here", "_law_kinds", "_law_told", "_law_many", "_law_bools", "_law_due", "_law_kind"]) (sc := defScope s_op_kind) (by decide +kernel)) (fun _ _ _ _ _ => (pg_compP (vs := [6]) (pg_name (i := 6) sc_op_kind.nd rfl (Or.inl rfl)))) (fun _ _ _ _ _ => (pts_one (pt_cmpP (op_neP hr.units) li_ne (pe_borP (pv 6)) (pe_ixP (pe_borP (pv 1)) (pe_cP (d := .int 0) pe_int) (fun _ _ => rfl) li_ix) (nomark _)))) (fun _ _ _ _ _ => (pe_varP (pv 6))))))))))) (pss_oneP (ps_retP (pe_cP (d := .none) pe_non))) pss_nilP)
      (pss_oneP (ps_retP (pe_tupP (pa_consP (pe_cP (d := .str "row") pe_str) (pa_consP (pe_ixP (pe_borP (pv 1)) (pe_cP (d := .int 0) pe_int) (fun _ _ => rfl) li_ix) (pa_consP (pe_varP (pv 3)) pa_nilP))))))) pss_nilP)
      (pss_consP (ps_ifP (pt_cmpP (op_inP hr.u65) li_in (pe_borP (pv 0)) (pe_tupP (pa_consP (pe_cP (d := .str "not") pe_str) (pa_consP (pe_cP (d := .str "and") pe_str) (pa_consP (pe_cP (d := .str "or") pe_str) (pa_consP (pe_cP (d := .str "xor") pe_str) pa_nilP))))) (by rfl)) (pss_oneP (ps_retP (pe_ifP (PW.pt (pw_andP (pt_cmpP (op_eqP hr.units) li_eq (pe_borP (pv 3)) (pe_ifP (pt_cmpP (op_eqP hr.units) li_eq (pe_borP (pv 0)) (pe_cP (d := .str "not") pe_str) (nomark _)) (pe_cP (d := .int 1) pe_int) (pe_cP (d := .int 2) pe_int)) (nomark _)) (pw_and1P (pt_cmpP (op_eqP hr.units) li_eq (pe_cbP lc_len (pe_callB call_lenP (by rfl) T.z_len (by decide +kernel) (pa_consP (pe_borP (pv 4)) pa_nilP))) (pe_borP (pv 3)) (nomark _))))) (pe_tupP (pa_consP (pe_cP (d := .str "bool") pe_str) pa_nilP)) (pe_cP (d := .none) pe_non)))) pss_nilP)
      (pss_consP (ps_ifP (pt_cmpP (op_inP hr.u65) li_in (pe_borP (pv 0)) (pe_tupP (pa_consP (pe_cP (d := .str "eq") pe_str) (pa_consP (pe_cP (d := .str "ne") pe_str) pa_nilP))) (by rfl)) (pss_oneP (ps_retP (pe_ifP (PW.pt (pw_andP (pt_cmpP (op_eqP hr.units) li_eq (pe_borP (pv 3)) (pe_cP (d := .int 2) pe_int) (nomark _)) (pw_and1P (pt_cmpP (op_eqP hr.units) li_eq (pe_ixP (pe_borP (pv 1)) (pe_cP (d := .int 0) pe_int) (fun _ _ => rfl) li_ix) (pe_ixP (pe_borP (pv 1)) (pe_cP (d := .int 1) pe_int) (fun _ _ => rfl) li_ix) (nomark _))))) (pe_tupP (pa_consP (pe_cP (d := .str "bool") pe_str) pa_nilP)) (pe_cP (d := .none) pe_non)))) pss_nilP)
      (pss_consP (ps_ifP (pt_cmpP (op_inP hr.u65) li_in (pe_borP (pv 0)) (pe_tupP (pa_consP (pe_cP (d := .str "lt") pe_str) (pa_consP (pe_cP (d := .str "le") pe_str) pa_nilP))) (by rfl)) (pss_oneP (ps_retP (pe_ifP (PW.pt (pw_andP (pt_cmpP (op_eqP hr.units) li_eq (pe_borP (pv 3)) (pe_cP (d := .int 2) pe_int) (nomark _)) (pw_andP (pt_cmpP (op_eqP hr.units) li_eq (pe_ixP (pe_borP (pv 1)) (pe_cP (d := .int 0) pe_int) (fun _ _ => rfl) li_ix) (pe_ixP (pe_borP (pv 1)) (pe_cP (d := .int 1) pe_int) (fun _ _ => rfl) li_ix) (nomark _)) (pw_and1P (pt_cmpP (op_eqP hr.units) li_eq (pe_ixP (pe_ixP (pe_borP (pv 1)) (pe_cP (d := .int 0) pe_int) (fun _ _ => rfl) li_ix) (pe_cP (d := .int 0) pe_int) (fun _ _ => rfl) li_ix) (pe_cP (d := .str "num") pe_str) (nomark _)))))) (pe_tupP (pa_consP (pe_cP (d := .str "bool") pe_str) pa_nilP)) (pe_cP (d := .none) pe_non)))) pss_nilP)
      (pss_consP (ps_ifP (pt_cmpP (op_inP hr.u65) li_in (pe_borP (pv 0)) (pe_tupP (pa_consP (pe_cP (d := .str "neg") pe_str) (pa_consP (pe_cP (d := .str "add") pe_str) (pa_consP (pe_cP (d := .str "sub") pe_str) (pa_consP (pe_cP (d := .str "mul") pe_str) (pa_consP (pe_cP (d := .str "div") pe_str) (pa_consP (pe_cP (d := .str "min") pe_str) (pa_consP (pe_cP (d := .str "max") pe_str) (pa_consP (pe_cP (d := .str "mid") pe_str) pa_nilP))))))))) (by rfl)) (pss_cutP (ps_setP (ps_set (i := 5) sc_op_kind.nd rfl (Or.inl rfl) (pe_ifP (pt_cmpP (op_eqP hr.units) li_eq (pe_borP (pv 0)) (pe_cP (d := .str "neg") pe_str) (nomark _)) (pe_cP (d := .int 1) pe_int) (pe_ifP (pt_cmpP (op_eqP hr.units) li_eq (pe_borP (pv 0)) (pe_cP (d := .str "mid") pe_str) (nomark _)) (pe_cP (d := .int 3) pe_int) (pe_cP (d := .int 2) pe_int)))))
      (pss_consP (ps_ifP (PW.pt (pw_orP (pt_cmpP (op_neP hr.units) li_ne (pe_borP (pv 3)) (pe_borP (pv 5)) (nomark _)) (pw_orP (pt_cmpP (op_neP hr.units) li_ne (pe_ixP (pe_ixP (pe_borP (pv 1)) (pe_cP (d := .int 0) pe_int) (fun _ _ => rfl) li_ix) (pe_cP (d := .int 0) pe_int) (fun _ _ => rfl) li_ix) (pe_cP (d := .str "num") pe_str) (nomark _)) (pw_or1P (pt_truP (pe_lcP (vs := [6]) (pe_lc (own := [("_law_kind", 6)]) rfl sc_op_kind.nd (pi_itemsP (pe_varP (pv 1))) (blkOk_by (N := ["_law_op_here", "_law_kinds", "_law_told", "_law_many", "_law_bools", "_law_due", "_law_kind"]) (sc := defScope s_op_kind) (by decide +kernel)) (fun _ _ _ _ _ => (pg_compP (vs := [6]) (pg_name (i := 6) sc_op_kind.nd rfl (Or.inl rfl)))) (fun _ _ _ _ _ => (pts_one (pt_cmpP (op_neP hr.units) li_ne (pe_borP (pv 6)) (pe_ixP (pe_borP (pv 1)) (pe_cP (d := .int 0) pe_int) (fun _ _ => rfl) li_ix) (nomark _)))) (fun _ _ _ _ _ => (pe_varP (pv 6)))))))))) (pss_oneP (ps_retP (pe_cP (d := .none) pe_non))) pss_nilP)
      (pss_oneP (ps_retP (pe_ixP (pe_borP (pv 1)) (pe_cP (d := .int 0) pe_int) (fun _ _ => rfl) li_ix))))) pss_nilP)
      (pss_consP (ps_ifP (pt_cmpP (op_eqP hr.units) li_eq (pe_borP (pv 0)) (pe_cP (d := .str "pick") pe_str) (nomark _)) (pss_oneP (ps_retP (pe_ifP (PW.pt (pw_andP (pt_cmpP (op_eqP hr.units) li_eq (pe_borP (pv 3)) (pe_cP (d := .int 3) pe_int) (nomark _)) (pw_andP (pt_cmpP (op_eqP hr.units) li_eq (pe_ixP (pe_borP (pv 1)) (pe_cP (d := .int 0) pe_int) (fun _ _ => rfl) li_ix) (pe_tupP (pa_consP (pe_cP (d := .str "bool") pe_str) pa_nilP)) (nomark _)) (pw_and1P (pt_cmpP (op_eqP hr.units) li_eq (pe_ixP (pe_borP (pv 1)) (pe_cP (d := .int 1) pe_int) (fun _ _ => rfl) li_ix) (pe_ixP (pe_borP (pv 1)) (pe_cP (d := .int 2) pe_int) (fun _ _ => rfl) li_ix) (nomark _)))))) (pe_ixP (pe_borP (pv 1)) (pe_cP (d := .int 1) pe_int) (fun _ _ => rfl) li_ix) (pe_cP (d := .none) pe_non)))) pss_nilP)
      (pss_consP (ps_ifP (pt_cmpP (op_eqP hr.units) li_eq (pe_borP (pv 0)) (pe_cP (d := .str "vote") pe_str) (nomark _)) (pss_oneP (ps_retP (pe_ifP (PW.pt (pw_andP (pt_cmpP (op_eqP hr.units) li_eq (pe_borP (pv 3)) (pe_cP (d := .int 3) pe_int) (nomark _)) (pw_andP (pt_cmpP (op_eqP hr.units) li_eq (pe_ixP (pe_borP (pv 1)) (pe_cP (d := .int 0) pe_int) (fun _ _ => rfl) li_ix) (pe_ixP (pe_borP (pv 1)) (pe_cP (d := .int 1) pe_int) (fun _ _ => rfl) li_ix) (nomark _)) (pw_and1P (pt_cmpP (op_eqP hr.units) li_eq (pe_ixP (pe_borP (pv 1)) (pe_cP (d := .int 0) pe_int) (fun _ _ => rfl) li_ix) (pe_ixP (pe_borP (pv 1)) (pe_cP (d := .int 2) pe_int) (fun _ _ => rfl) li_ix) (nomark _)))))) (pe_ixP (pe_borP (pv 1)) (pe_cP (d := .int 0) pe_int) (fun _ _ => rfl) li_ix) (pe_cP (d := .none) pe_non)))) pss_nilP)
      (pss_consP (ps_ifP (pt_cmpP (op_eqP hr.units) li_eq (pe_borP (pv 0)) (pe_cP (d := .str "as") pe_str) (nomark _)) (pss_oneP (ps_retP (pe_ifP (PW.pt (pw_andP (pt_cmpP (op_eqP hr.units) li_eq (pe_borP (pv 3)) (pe_cP (d := .int 1) pe_int) (nomark _)) (pw_andP (pt_cmpP (op_eqP hr.units) li_eq (pe_ixP (pe_ixP (pe_borP (pv 1)) (pe_cP (d := .int 0) pe_int) (fun _ _ => rfl) li_ix) (pe_cP (d := .int 0) pe_int) (fun _ _ => rfl) li_ix) (pe_cP (d := .str "num") pe_str) (nomark _)) (pw_and1P (pt_cmpP (op_eqP hr.units) li_eq (pe_ixP (pe_borP (pv 2)) (pe_cP (d := .int 0) pe_int) (fun _ _ => rfl) li_ix) (pe_cP (d := .str "num") pe_str) (nomark _)))))) (pe_varP (pv 2)) (pe_cP (d := .none) pe_non)))) pss_nilP)
      (pss_oneP (ps_retP (pe_callP hG (pe_call (okp_row_kind T) (hr.mono (by decide)) rfl T.m_row_kind T.F_row_kind.kp T.b_row_kind .nil pass0 (pa_consP (pe_borP (pv 0)) (pa_consP (pe_borP (pv 1)) pa_nilP)))))))))))))))), fun as C hl h => ?_⟩
  obtain ⟨op, ks, g, rfl, ok, gk, q⟩ := h
  have l10 := ok.2.1
  have ln : (ks.map Rk.d).length = ks.length := List.length_map _
  have h0 := ks_hd ok.1
  refine lc_filterP (l := ks) (e := Rk.d) (fun k => if decide (k = .p .bool) = true then some k.d else none) (szl (by omega)) (fun j a ha Q k1 => ?_) ?_
  · refine ⟨szr, (ok.2.2 a (List.mem_of_getElem? ha)).shaped, bool_ok.shaped, IfP.kinds (b := .p .bool) (ok.2.2 a (List.mem_of_getElem? ha)) bool_ok (fun h1 => ?_) fun h1 => ?_⟩
    · rw [if_pos (decide_eq_true h1)] at k1
      exact k1
    · rw [if_neg (by simpa using h1)] at k1
      exact k1
  have lb : (ks.filterMap fun k => if decide (k = Rk.p .bool) = true then some k.d else none).length = (ks.filter fun k => decide (k = .p .bool)).length := by
    generalize ks = l
    induction l with
    | nil => rfl
    | cons k l ih =>
      rw [List.filterMap_cons, List.filter_cons]
      by_cases e : k = Rk.p .bool
      · rw [if_pos (decide_eq_true e), if_pos (decide_eq_true e)]
        show _ + 1 = _ + 1
        rw [ih]
      · rw [if_neg (by simpa using e), if_neg (by simpa using e)]
        exact ih
  generalize (ks.filterMap fun k => if decide (k = Rk.p .bool) = true then some k.d else none) = bs at lb
  have asks : KsOk ks := ok
  have odd : ∀ {e : PEnv} {Cc : PK}, True := fun {_ _} => trivial
  have fit0 : ∀ {n : Nat}, op.cnt = some n → ks.length ≠ n → kindOf op ks (some g) = none := fun {n} hc hn => if_neg (by unfold Op.fits; rw [hc]; exact fun z => hn (of_decide_eq_true z))
  have fit1 : ∀ {n : Nat}, op.cnt = some n → ks.length = n → kindOf op ks (some g) = op.rule ks (some g) := fun {n} hc hn => if_pos (by unfold Op.fits; rw [hc]; exact decide_eq_true hn)
  refine IfP.bb (fun h1 => ?_) fun h1 => ?_
  · obtain rfl : op = .rw := by cases op <;> first | rfl | exact absurd h1 (by decide +kernel)
    have q : C (.dat (okD (rowK ks (some g)))) _ := q
    unfold rowK at q
    have n1 : 1 ≤ ks.length := by cases ks with | nil => exact absurd rfl ok.1 | cons a r => show 1 ≤ _ + 1; omega
    refine .f (decide_eq_false (by rw [ln]; omega)) (IfP.bb (fun h2 => ?_) fun h2 => ?_)
    · have h2 : 6 < (((ks.map Rk.d).length : Nat) : Int) := of_decide_eq_true h2
      rw [ln] at h2
      generalize hd0 ks = r at q
      cases r with
      | r k n => exact .t rfl q
      | p k =>
        have q : C (.dat (okD (if allEq ks && decide (ks.length ≤ 6) then some (.r k ks.length) else none))) _ := q
        rw [decide_eq_false (by omega), Bool.and_false] at q
        exact .t rfl q
    · have h2 : ¬ 6 < (((ks.map Rk.d).length : Nat) : Int) := of_decide_eq_false h2
      rw [ln] at h2
      refine ⟨_, atD 0 (ks_at h0), _, atD 0 (hd0 ks).at0, IfP.wrow (fun h3 => ?_) fun h3 => ?_⟩
      · obtain ⟨k, n, e⟩ := rk_split h3
        rw [e] at q
        exact .t rfl q
      · refine lc_filterP (l := ks) (e := Rk.d) (fun k => if decide (k ≠ hd0 ks) = true then some k.d else none) (szl (by omega)) (fun j a ha Q k1 => ?_) ?_
        · refine ⟨_, atD 0 (ks_at h0), (ok.2.2 a (List.mem_of_getElem? ha)).shaped, (hd_ok ok).shaped, ?_⟩
          rw [Rk.eqv (ok.2.2 a (List.mem_of_getElem? ha)) (hd_ok ok)]
          refine IfP.nb (fun h4 => ?_) fun h4 => ?_
          · rw [if_pos (decide_eq_true (of_decide_eq_false h4))] at k1
            exact k1
          · rw [if_neg (by simpa using of_decide_eq_true h4)] at k1
            exact k1
        · have eo := odd_empty ok.1
          have el : (ks.filterMap fun k => if decide (k ≠ hd0 ks) = true then some k.d else none).isEmpty = (ks.filter fun k => decide (k ≠ hd0 ks)).isEmpty := by
            generalize hd0 ks = a
            generalize ks = l
            induction l with
            | nil => rfl
            | cons k l ih =>
              rw [List.filterMap_cons, List.filter_cons]
              by_cases e : k = a
              · rw [if_neg (by simpa using e), if_neg (by simpa using e)]
                exact ih
              · rw [if_pos (by simpa using e), if_pos (by simpa using e)]
                rfl
          obtain ⟨k, e⟩ := rk_plain h3
          rw [eo] at el
          refine IfP.nb (fun h4 => ?_) fun h4 => ?_
          · rw [h4] at el
            rw [e, ← el] at q
            exact q
          · rw [h4] at el
            refine ⟨_, atD 0 (ks_at h0), szr, ?_⟩
            rw [e, ← el] at q
            have q : C (.dat (okD (if true && decide (ks.length ≤ 6) then some (.r k ks.length) else none))) _ := q
            rw [decide_eq_true (by omega)] at q
            rw [ln, e]
            exact q
  refine ⟨szr, .inl ⟨rfl, flat_strs ["not", "and", "or", "xor"]⟩, IfP.as (inS _ ["not", "and", "or", "xor"]) (IfP.bb (fun h2 => ?_) fun h2 => ?_)⟩
  · have say : ∀ n : Nat, op.cnt = some n → op.rule = logicK → ks.length = n → C (.dat (okD (if decide (ks.length = bs.length) then some (.p .bool) else none))) [.dat (.str op.s), .dat (ksL ks), .dat g.d] := fun n hc hr hl => by
      rw [fit1 hc hl, hr] at q
      have q : C (.dat (okD (if decide (hd0 ks = .p .bool) && allEq ks then some (.p .bool) else none))) [.dat (.str op.s), .dat (ksL ks), .dat g.d] := q
      rw [← all_bool ok.1, ← lb] at q
      rw [show decide (ks.length = bs.length) = decide (bs.length = ks.length) from decide_eq_decide.mpr ⟨Eq.symm, Eq.symm⟩]
      exact q
    have end2 : ∀ {A B : Prop}, (ks.length = bs.length → A) → (ks.length ≠ bs.length → B) → IfP (decide (((bs.length : Nat) : Int) = (((ks.map Rk.d).length : Nat) : Int))) A B := fun ha hb => IfP.eqi (fun h => ha (by rw [ln] at h; omega)) fun h => hb fun z => h (by rw [ln]; omega)
    have none2 : ∀ n : Nat, op.cnt = some n → ks.length ≠ n → C (.dat .none) [.dat (.str op.s), .dat (ksL ks), .dat g.d] := fun n hc hl => by
      rw [fit0 hc hl] at q
      exact q
    cases op <;> first | exact absurd h2 (by decide +kernel) | skip
    · refine .t (by decide +kernel) (IfP.eqi (fun h3 => ?_) fun h3 => ?_)
      · rw [ln] at h3
        have := say 1 rfl rfl (by omega)
        refine end2 (fun h4 => ?_) fun h4 => ?_
        · rw [decide_eq_true h4] at this
          exact ⟨szr, this⟩
        · rw [decide_eq_false h4] at this
          exact this
      · exact .f rfl (none2 1 rfl fun z => h3 (by rw [ln, z]; rfl))
    all_goals
      refine .f (by decide +kernel) (IfP.eqi (fun h3 => ?_) fun h3 => ?_)
      · rw [ln] at h3
        have := say 2 rfl rfl (by omega)
        refine end2 (fun h4 => ?_) fun h4 => ?_
        · rw [decide_eq_true h4] at this
          exact ⟨szr, this⟩
        · rw [decide_eq_false h4] at this
          exact this
      · exact .f rfl (none2 2 rfl fun z => h3 (by rw [ln, z]; rfl))
  refine ⟨szr, .inl ⟨rfl, flat_strs ["eq", "ne"]⟩, IfP.as (inS _ ["eq", "ne"]) (IfP.bb (fun h3 => ?_) fun h3 => ?_)⟩
  · have hc : op.cnt = some 2 := by cases op <;> first | rfl | exact absurd h3 (by decide +kernel)
    have hr : op.rule = equalK := by cases op <;> first | rfl | exact absurd h3 (by decide +kernel)
    refine IfP.eqi (fun h4 => ?_) fun h4 => ?_
    · rw [ln] at h4
      obtain ⟨a, b, rfl⟩ := len2 (l := ks) (by omega)
      rw [fit1 hc rfl, hr] at q
      have q : C (.dat (okD (if decide (a = a) && (decide (b = a) && true) then some (.p .bool) else none))) _ := q
      rw [decide_eq_true rfl, Bool.true_and, Bool.and_true] at q
      refine ⟨_, atD 0 rfl, _, atD 1 rfl, (ok1 ok).shaped, (ok2 ok).shaped, IfP.kinds (ok1 ok) (ok2 ok) (fun h5 => ?_) fun h5 => ?_⟩
      · rw [decide_eq_true h5.symm] at q
        exact ⟨szr, q⟩
      · rw [decide_eq_false fun z => h5 z.symm] at q
        exact q
    · rw [fit0 hc fun z => h4 (by rw [ln, z]; rfl)] at q
      exact .f rfl q
  refine ⟨szr, .inl ⟨rfl, flat_strs ["lt", "le"]⟩, IfP.as (inS _ ["lt", "le"]) (IfP.bb (fun h4 => ?_) fun h4 => ?_)⟩
  · have hc : op.cnt = some 2 := by cases op <;> first | rfl | exact absurd h4 (by decide +kernel)
    have hr : op.rule = orderK := by cases op <;> first | rfl | exact absurd h4 (by decide +kernel)
    refine IfP.eqi (fun h4 => ?_) fun h4 => ?_
    · rw [ln] at h4
      obtain ⟨a, b, rfl⟩ := len2 (l := ks) (by omega)
      rw [fit1 hc rfl, hr] at q
      have q : C (.dat (okD (if a.isn && (decide (a = a) && (decide (b = a) && true)) then some (.p .bool) else none))) _ := q
      rw [decide_eq_true rfl, Bool.true_and, Bool.and_true] at q
      refine ⟨_, atD 0 rfl, _, atD 1 rfl, (ok1 ok).shaped, (ok2 ok).shaped, IfP.kinds (ok1 ok) (ok2 ok) (fun h5 => ?_) fun h5 => ?_⟩
      · rw [decide_eq_true h5.symm, Bool.and_true] at q
        refine ⟨_, atD 0 rfl, _, atD 0 a.at0, IfP.wnum (fun h6 => ?_) fun h6 => ?_⟩
        · rw [h6] at q
          exact ⟨szr, q⟩
        · rw [h6] at q
          exact q
      · rw [decide_eq_false fun z => h5 z.symm, Bool.and_false] at q
        exact .f rfl q
    · rw [fit0 hc fun z => h4 (by rw [ln, z]; rfl)] at q
      exact .f rfl q
  refine ⟨szr, .inl ⟨rfl, flat_strs ["neg", "add", "sub", "mul", "div", "min", "max", "mid"]⟩, IfP.as (inS _ ["neg", "add", "sub", "mul", "div", "min", "max", "mid"]) (IfP.bb (fun h5 => ?_) fun h5 => ?_)⟩
  · have hr : op.rule = numberK := by cases op <;> first | rfl | exact absurd h5 (by decide +kernel)
    refine ⟨fun env => ∃ n : Nat, op.cnt = some n ∧ env = [.dat (.str op.s), .dat (ksL ks), .dat g.d, .dat (.int (((ks.map Rk.d).length : Nat) : Int)), .own bs, .dat (.int (n : Int)), .no], ?_, ?_⟩
    · cases op <;> first | exact absurd h5 (by decide +kernel) | skip
      · exact .t (by decide +kernel) ⟨1, rfl, rfl⟩
      · exact .f (by decide +kernel) (.f (by decide +kernel) ⟨2, rfl, rfl⟩)
      · exact .f (by decide +kernel) (.f (by decide +kernel) ⟨2, rfl, rfl⟩)
      · exact .f (by decide +kernel) (.f (by decide +kernel) ⟨2, rfl, rfl⟩)
      · exact .f (by decide +kernel) (.f (by decide +kernel) ⟨2, rfl, rfl⟩)
      · exact .f (by decide +kernel) (.f (by decide +kernel) ⟨2, rfl, rfl⟩)
      · exact .f (by decide +kernel) (.f (by decide +kernel) ⟨2, rfl, rfl⟩)
      · exact .f (by decide +kernel) (.t (by decide +kernel) ⟨3, rfl, rfl⟩)
    rintro env ⟨n, hc, rfl⟩
    refine IfP.nei (fun h6 => ?_) fun h6 => ?_
    · rw [fit0 hc fun z => h6 (by rw [ln, z])] at q
      exact .t rfl q
    · rw [ln] at h6
      rw [fit1 hc (by omega), hr] at q
      have q : C (.dat (okD (if (hd0 ks).isn && allEq ks then some (hd0 ks) else none))) [.dat (.str op.s), .dat (ksL ks), .dat g.d] := q
      refine ⟨_, atD 0 (ks_at h0), _, atD 0 (hd0 ks).at0, IfP.wnnum (fun h7 => ?_) fun h7 => ?_⟩
      · rw [h7] at q
        exact .t rfl q
      · rw [h7, Bool.true_and] at q
        refine lc_filterP (l := ks) (e := Rk.d) (fun k => if decide (k ≠ hd0 ks) = true then some k.d else none) (szl (by omega)) (fun j a ha Q k1 => ?_) ?_
        · refine ⟨_, atD 0 (ks_at h0), (ok.2.2 a (List.mem_of_getElem? ha)).shaped, (hd_ok ok).shaped, ?_⟩
          rw [Rk.eqv (ok.2.2 a (List.mem_of_getElem? ha)) (hd_ok ok)]
          refine IfP.nb (fun h4 => ?_) fun h4 => ?_
          · rw [if_pos (decide_eq_true (of_decide_eq_false h4))] at k1
            exact k1
          · rw [if_neg (by simpa using of_decide_eq_true h4)] at k1
            exact k1
        · have el : (ks.filterMap fun k => if decide (k ≠ hd0 ks) = true then some k.d else none).isEmpty = (ks.filter fun k => decide (k ≠ hd0 ks)).isEmpty := by
            generalize hd0 ks = a
            generalize ks = l
            induction l with
            | nil => rfl
            | cons k l ih =>
              rw [List.filterMap_cons, List.filter_cons]
              by_cases e : k = a
              · rw [if_neg (by simpa using e), if_neg (by simpa using e)]
                exact ih
              · rw [if_pos (by simpa using e), if_pos (by simpa using e)]
                rfl
          rw [odd_empty ok.1] at el
          refine IfP.nb (fun h4 => ?_) fun h4 => ?_
          · rw [h4] at el
            rw [← el] at q
            exact q
          · rw [h4] at el
            rw [← el] at q
            exact ⟨_, atD 0 (ks_at h0), q⟩
  refine IfP.bb (fun h6 => ?_) fun h6 => ?_
  · obtain rfl : op = .pk := by cases op <;> first | rfl | exact absurd h6 (by decide +kernel)
    refine IfP.eqi (fun h7 => ?_) fun h7 => ?_
    · rw [ln] at h7
      obtain ⟨a, b, c, rfl⟩ := len3 (l := ks) (by omega)
      have q : C (.dat (okD (if decide (a = .p .bool) && decide (b = c) then some b else none))) _ := q
      refine ⟨_, atD 0 rfl, szr, (ok1 ok).shaped, bool_ok.shaped, IfP.kinds (b := .p .bool) (ok1 ok) bool_ok (fun h8 => ?_) fun h8 => ?_⟩
      · rw [decide_eq_true h8, Bool.true_and] at q
        refine ⟨_, atD 1 rfl, _, atD 2 rfl, (ok2 ok).shaped, (ok3 ok).shaped, IfP.kinds (ok2 ok) (ok3 ok) (fun h9 => ?_) fun h9 => ?_⟩
        · rw [decide_eq_true h9] at q
          exact ⟨_, atD 1 rfl, q⟩
        · rw [decide_eq_false h9] at q
          exact q
      · rw [decide_eq_false h8] at q
        exact .f rfl q
    · rw [fit0 (n := 3) rfl fun z => h7 (by rw [ln, z]; rfl)] at q
      exact .f rfl q
  refine IfP.bb (fun h7 => ?_) fun h7 => ?_
  · obtain rfl : op = .vt := by cases op <;> first | rfl | exact absurd h7 (by decide +kernel)
    refine IfP.eqi (fun h8 => ?_) fun h8 => ?_
    · rw [ln] at h8
      obtain ⟨a, b, c, rfl⟩ := len3 (l := ks) (by omega)
      have q : C (.dat (okD (if decide (a = a) && (decide (b = a) && (decide (c = a) && true)) then some a else none))) _ := q
      rw [decide_eq_true (rfl : a = a), Bool.true_and, Bool.and_true] at q
      refine ⟨_, atD 0 rfl, _, atD 1 rfl, (ok1 ok).shaped, (ok2 ok).shaped, IfP.kinds (ok1 ok) (ok2 ok) (fun h9 => ?_) fun h9 => ?_⟩
      · rw [decide_eq_true h9.symm, Bool.true_and] at q
        refine ⟨_, atD 0 rfl, _, atD 2 rfl, (ok1 ok).shaped, (ok3 ok).shaped, IfP.kinds (ok1 ok) (ok3 ok) (fun h9 => ?_) fun h9 => ?_⟩
        · rw [decide_eq_true h9.symm] at q
          exact ⟨_, atD 0 rfl, q⟩
        · rw [decide_eq_false fun z => h9 z.symm] at q
          exact q
      · rw [decide_eq_false fun z => h9 z.symm, Bool.false_and] at q
        exact .f rfl q
    · rw [fit0 (n := 3) rfl fun z => h8 (by rw [ln, z]; rfl)] at q
      exact .f rfl q
  refine IfP.bb (fun h8 => ?_) fun h8 => ?_
  · obtain rfl : op = .ass := by cases op <;> first | rfl | exact absurd h8 (by decide +kernel)
    refine IfP.eqi (fun h9 => ?_) fun h9 => ?_
    · rw [ln] at h9
      obtain ⟨a, rfl⟩ := len1 (l := ks) (by omega)
      have q : C (.dat (okD (if a.isn && g.isn then some (.p g) else none))) _ := q
      refine ⟨_, atD 0 rfl, _, atD 0 a.at0, IfP.wnum (fun h6 => ?_) fun h6 => ?_⟩
      · rw [h6, Bool.true_and] at q
        refine ⟨_, atD 0 g.at0, IfP.wnum (r := .p g) (fun h6 => ?_) fun h6 => ?_⟩
        · rw [show g.isn = true from h6] at q
          exact q
        · rw [show g.isn = false from h6] at q
          exact q
      · rw [h6, Bool.false_and] at q
        exact .f rfl q
    · rw [fit0 (n := 1) rfl fun z => h9 (by rw [ln, z]; rfl)] at q
      exact .f rfl q
  have lt : op.late := by
    cases op <;> first | exact .inl rfl | exact .inr (.inl rfl) | exact .inr (.inr (.inl rfl)) | exact .inr (.inr (.inr (.inl rfl))) | exact .inr (.inr (.inr (.inr rfl))) | exact absurd h1 (by decide +kernel) | exact absurd h2 (by decide +kernel) | exact absurd h3 (by decide +kernel) | exact absurd h4 (by decide +kernel) | exact absurd h5 (by decide +kernel) | exact absurd h6 (by decide +kernel) | exact absurd h7 (by decide +kernel) | exact absurd h8 (by decide +kernel)
  refine ⟨op, ks, rfl, lt, ok, ?_⟩
  have e : kindOf op ks none = kindOf op ks (some g) := by rcases lt with rfl | rfl | rfl | rfl | rfl <;> rfl
  rw [e]
  exact q
end

/-! ### what the law draws -/
/-! ### a comprehension that draws, item by item -/
section
variable {env : PEnv} {g : PTg} {t : PTst} {f : PEx} {vs : List Nat} {C : PK}
theorem lc_atP {items : List PyData} (Pd : Nat → PyData → Prop) (hl : items.length < sizeLine) (hb : ∀ (j : Nat) (x : PyData), items[j]? = some x → ∀ Q : Option PyData → PEnv → Prop, (∀ d, Pd j d → Q (some d) (wipeP env vs)) → g x (wipeP env vs) fun e3 => t e3 fun b e4 => IfP b (f e4 (fun p e5 => match p with
      | .dat d => Q (some d) (wipeP e5 vs)
      | _ => False)) (Q none (wipeP e4 vs))) (hc : ∀ ds : List PyData, ds.length = items.length → (∀ (j : Nat) (d : PyData), ds[j]? = some d → Pd j d) → C (.own ds) (wipeP env vs)) (hf : fgtB env vs = true := by rfl) : LcOk items env g t f vs C := by
  refine ⟨hf, fun j e2 acc => e2 = wipeP env vs ∧ acc.length = j ∧ ∀ (i : Nat) (d : PyData), acc[i]? = some d → Pd i d, ⟨rfl, rfl, fun i d h => by simp at h⟩, ?_, ?_⟩
  · rintro j x e2 acc hx ⟨rfl, la, ma⟩
    rw [wipeP_idem]
    have jl := (List.getElem?_eq_some_iff.mp hx).1
    exact hb j x hx (fun od e' => match od with
      | some d => acc.length < sizeLine ∧ e' = wipeP env vs ∧ (acc ++ [d]).length = j + 1 ∧ ∀ (i : Nat) (d' : PyData), (acc ++ [d])[i]? = some d' → Pd i d'
      | none => e' = wipeP env vs ∧ acc.length = j + 1 ∧ ∀ (i : Nat) (d' : PyData), acc[i]? = some d' → Pd i d') fun d hd => ⟨by omega, rfl, by rw [List.length_append, la]; rfl, fun i d' h => by
      by_cases hi : i < acc.length
      · rw [List.getElem?_append_left hi] at h
        exact ma i d' h
      · rw [List.getElem?_append_right (by omega)] at h
        have e0 : i - acc.length = 0 := by
          have := (List.getElem?_eq_some_iff.mp h).1
          simp at this
          omega
        rw [e0] at h
        cases h
        have : i = j := by omega
        subst this
        exact hd⟩
  · rintro e2 acc ⟨rfl, la, ma⟩
    rw [wipeP_idem]
    exact hc acc la ma
end

def poolN : List Str := [("a" : Str), ("b" : Str), ("c" : Str), ("x" : Str), ("y" : Str), ("z" : Str), ("k9" : Str), ("ok" : Str), ("up" : Str), ("no" : Str), ("on" : Str), ("off" : Str), ("low" : Str), ("top" : Str), ("run" : Str), ("idle" : Str), ("stop" : Str), ("warm" : Str), ("door" : Str), ("belt" : Str), ("lamp" : Str), ("fan" : Str), ("tank" : Str), ("pump" : Str), ("valve" : Str), ("speed" : Str), ("level" : Str), ("press" : Str), ("gate8" : Str), ("north" : Str), ("alpha1" : Str), ("beta" : Str), ("gamma" : Str), ("delta8" : Str), ("motor1" : Str), ("heat2" : Str), ("cold3" : Str), ("open1" : Str), ("shut2" : Str), ("left" : Str), ("right" : Str), ("lift" : Str), ("tray" : Str), ("oven" : Str), ("saw" : Str), ("drill" : Str), ("plane" : Str), ("stirrer" : Str), ("conveyor" : Str), ("p1" : Str), ("p2" : Str), ("q7" : Str), ("rr" : Str), ("ss1" : Str), ("tt22" : Str), ("uuu3" : Str), ("vent" : Str), ("hopper" : Str), ("chute" : Str), ("crane" : Str), ("winch" : Str), ("spool" : Str), ("brush" : Str), ("jig8" : Str)]
/-- a pool with n names at least -/
def PoolOk (n : Nat) (ns : List Str) : Prop := n ≤ ns.length ∧ ns.length ≤ 64 ∧ ∀ s ∈ ns, PyData.strOk s = true
theorem PoolOk.less {m n : Nat} {ns : List Str} (h : PoolOk n ns) (l : m ≤ n) : PoolOk m ns := ⟨Nat.le_trans l h.1, h.2⟩
@[reducible] def poolD (ns : List Str) : List PyData := ns.map PyData.str
abbrev R_draw := RDraw
abbrev R_rare := RRare
def R_pick : PR := fun as C => ∃ xs : List PyData, (as = [.drw, .arg xs] ∨ as = [.drw, .dat (.list xs)]) ∧ xs ≠ [] ∧ xs.length ≤ 4000 ∧ ∀ (k : Nat) (d : PyData), xs[k]? = some d → C (.dat d) as
def R_pop : PR := fun as C => ∃ xs : List PyData, as = [.drw, .arg xs] ∧ xs ≠ [] ∧ xs.length ≤ 1000 ∧ ∀ (k : Nat) (d : PyData), xs[k]? = some d → C (.dat d) [.drw, .arg (xs.eraseIdx k)]
theorem idx_nat {n k : Nat} (h : k < n) : seqIndex? (k : Int) n = some k := by
  unfold seqIndex?
  simp
  omega

def R_pool : PR := fun as C => as = [] ∧ C (.own (poolD poolN)) as
def R_num : PR := fun as C => ∃ m : Int, as = [.drw, .dat (.int m)] ∧ 2 ≤ m ∧ m ≤ 200 ∧ ∀ (lo hi per : Int) (how : Str), (Kd.num lo hi per how).ok → C (.dat (Kd.num lo hi per how).d) as
def R_plain_kind : PR := fun as C => ∃ (m : Int) (ns : List Str) (b : Nat), as = [.drw, .dat (.int m), .arg (poolD ns)] ∧ 2 ≤ m ∧ m ≤ 200 ∧ PoolOk (b + 3) ns ∧ ∀ (k : Kd) (ns' : List Str), k.ok → PoolOk b ns' → C (.dat k.d) [.drw, .dat (.int m), .arg (poolD ns')]
def R_some_kind : PR := fun as C => ∃ (rows : Bool) (ns : List Str) (b : Nat), as = [.drw, .arg (poolD ns), .dat (.bool rows)] ∧ PoolOk (b + 3) ns ∧ ∀ (r : Rk) (ns' : List Str), r.ok → (rows = false → r.isr = false) → PoolOk b ns' → C (.dat r.d) [.drw, .arg (poolD ns'), .dat (.bool rows)]
def VIn : Rk → PyData → Prop
  | .p k, v => ∃ i, v = .int i ∧ k.lo ≤ i ∧ i ≤ k.hi
  | .r k n, v => ∃ is : List Int, v = .tuple (is.map .int) ∧ is.length = n ∧ ∀ i ∈ is, k.lo ≤ i ∧ i ≤ k.hi
def RW : Nat → PR
  | 0 => fun _ _ => False
  | n + 1 => fun as C => ∃ r : Rk, as = [.drw, .dat r.d] ∧ r.ok ∧ (n = 0 → ∃ k, r = .p k) ∧ ∀ v, VIn r v → C (.dat v) as
def R_value : PR := RW 2
def R_ends : PR := fun as C => ∃ k : Kd, as = [.dat k.d] ∧ k.ok ∧ C (.own [.int k.lo, .int k.hi]) as
def R_operand : PR := fun as C => ∃ r : Rk, as = [.drw, .dat r.d] ∧ r.ok ∧ ∀ v, VIn r v → C (.dat v) as
def R_operand_kinds : PR := fun as C => ∃ (op : Op) (ns : List Str) (b : Nat), as = [.drw, .dat (.str op.s), .arg (poolD ns)] ∧ PoolOk (b + 6) ns ∧ ∀ (ks : List Rk) (ns' : List Str), KsOk ks → ks.length ≤ 6 → PoolOk b ns' → C (.own (ks.map Rk.d)) [.drw, .dat (.str op.s), .arg (poolD ns')]
def R_bent : PR := fun as C => ∃ (ks : List Rk) (ns : List Str) (b : Nat), as = [.drw, .arg (ks.map Rk.d), .arg (poolD ns)] ∧ KsOk ks ∧ ks.length ≤ 6 ∧ PoolOk (b + 3) ns ∧ ∀ (js : List Rk) (ns' : List Str), (js = [] ∨ KsOk js) → PoolOk b ns' → C (.own (js.map Rk.d)) [.drw, .arg (ks.map Rk.d), .arg (poolD ns')]
theorem int_of {l : List Int} {k : Nat} {d : PyData} (h : (l.map PyData.int)[k]? = some d) : ∃ i, d = .int i ∧ i ∈ l := by
  rw [List.getElem?_map] at h
  obtain ⟨i, hi, rfl⟩ := Option.map_eq_some_iff.mp h
  exact ⟨i, rfl, List.mem_of_getElem? hi⟩
theorem erase_strs (ns : List Str) (k : Nat) : (ns.map PyData.str).eraseIdx k = (ns.eraseIdx k).map PyData.str := by
  rw [List.eraseIdx_eq_take_drop_succ, List.eraseIdx_eq_take_drop_succ, List.map_append, List.map_take, List.map_drop]
section
variable {P : Program} {w : World} {K : PySem.W.Frag} {mg : Str → Option Value} {base : Heap}
theorem okp_draw (T : Tx K mg w base) : FnOk P w K mg base CX0 2 T.f_draw T.fd_draw ["_law_d", "_law_many"] (spP K T.tbs 2 R_draw) := drawP (ok_draw T)
theorem okp_rare (T : Tx K mg w base) : FnOk P w K mg base CX0 3 T.f_rare T.fd_rare ["_law_d", "_law_many"] (spP K T.tbs 2 R_rare) := rareP (ok_rare T)
theorem okp_pick (T : Tx K mg w base) : FnOk P w K mg base CX0 3 T.f_pick T.fd_pick ["_law_d", "_law_row"] (spP K T.tbs 2 R_pick) := by
  refine okP T.F_pick sc_pick rfl fun cdv A outer s H E G hG hcd hr => ⟨_, (pss_oneP (ps_retP (pe_ixP (pe_borP (pv 1)) (pe_callP hG (pe_call (okp_draw T) (hr.mono (by decide)) rfl T.m_draw T.F_draw.kp T.b_draw .nil pass0 (pa_consP (pe_borP (pv 0)) (pa_consP (pe_cbP lc_len (pe_callB call_lenP (by rfl) T.z_len (by decide +kernel) (pa_consP (pe_borP (pv 1)) pa_nilP))) pa_nilP)))) (fun _ _ => rfl) li_ix))), fun as C hl h => ?_⟩
  obtain ⟨xs, e, ne, le, h⟩ := h
  have pos : 0 < xs.length := List.length_pos_iff.mpr ne
  rcases e with rfl | rfl
  · refine ⟨_, rfl, by omega, by omega, fun r r0 r1 => ?_⟩
    obtain ⟨k, rfl⟩ := Int.eq_ofNat_of_zero_le r0
    have hk := List.getElem?_eq_getElem (l := xs) (show k < xs.length by omega)
    exact ⟨_, atD k hk, h k _ hk⟩
  · refine ⟨_, rfl, by omega, by omega, fun r r0 r1 => ?_⟩
    obtain ⟨k, rfl⟩ := Int.eq_ofNat_of_zero_le r0
    have hk := List.getElem?_eq_getElem (l := xs) (show k < xs.length by omega)
    exact ⟨_, atD k hk, h k _ hk⟩
theorem okp_pop (T : Tx K mg w base) : FnOk P w K mg base CX0 3 T.f_pop T.fd_pop ["_law_d", "_law_row"] (spP K T.tbs 2 R_pop) := by
  refine okP T.F_pop sc_pop rfl fun cdv A outer s H E G hG hcd hr => ⟨_, (pss_oneP (ps_retP (pe_methP lm_popAt (pe_bm PySem.F.plainAttrs_list PySem.F.slot_list_pop PySem.F.type_list_pop mt_popAt (pe_borP (pv 1)) (pa_consP (pe_frzP (pe_callP hG (pe_call (okp_draw T) (hr.mono (by decide)) rfl T.m_draw T.F_draw.kp T.b_draw .nil pass0 (pa_consP (pe_borP (pv 0)) (pa_consP (pe_cbP lc_len (pe_callB call_lenP (by rfl) T.z_len (by decide +kernel) (pa_consP (pe_borP (pv 1)) pa_nilP))) pa_nilP))))) pa_nilP))))), fun as C hl h => ?_⟩
  obtain ⟨xs, rfl, ne, le, h⟩ := h
  have pos : 0 < xs.length := List.length_pos_iff.mpr ne
  refine ⟨_, rfl, by omega, by omega, fun r r0 r1 => ?_⟩
  obtain ⟨k, rfl⟩ := Int.eq_ofNat_of_zero_le r0
  have hk := List.getElem?_eq_getElem (l := xs) (show k < xs.length by omega)
  exact ⟨_, k, ⟨xs, rfl, idx_nat (by omega), hk⟩, by omega, by omega, h k _ hk⟩
theorem okp_pool (T : Tx K mg w base) : FnOk P w K mg base CX0 1 T.f_pool T.fd_pool [] (spP K T.tbs 0 R_pool) := by
  refine okP T.F_pool sc_pool rfl fun cdv A outer s H E G hG hcd hr => ⟨_, (pss_consP (ps_setP (ps_set (i := 0) sc_pool.nd rfl (Or.inl rfl) (pe_cP (d := .str "a b c x y z k9 ok up no on off low top run idle stop warm door belt lamp fan tank pump valve speed level") pe_str)))
      (pss_consP (ps_setP (ps_set (i := 1) sc_pool.nd rfl (Or.inl rfl) (pe_cP (d := .str " press gate8 north alpha1 beta gamma delta8 motor1 heat2 cold3 open1 shut2 left right lift tray oven saw") pe_str)))
      (pss_consP (ps_setP (ps_set (i := 2) sc_pool.nd rfl (Or.inl rfl) (pe_cP (d := .str " drill plane stirrer conveyor p1 p2 q7 rr ss1 tt22 uuu3 vent hopper chute crane winch spool brush jig8") pe_str)))
      (pss_oneP (ps_retP (pe_splitP (pe_split (pe_opP op_addP li_add (pe_opP op_addP li_add (pe_borP (pv 0)) (pe_borP (pv 1))) (pe_borP (pv 2))) (pe_cP (d := .str " ") pe_str)))))))), fun as C hl h => ?_⟩
  obtain ⟨rfl, q⟩ := h
  refine ⟨szr, szr, rfl, szr, ?_⟩
  have e : Txt.split _ _ = poolN := (by decide +kernel : Txt.split ("a b c x y z k9 ok up no on off low top run idle stop warm door belt lamp fan tank pump valve speed level" ++ " press gate8 north alpha1 beta gamma delta8 motor1 heat2 cold3 open1 shut2 left right lift tray oven saw" ++ " drill plane stirrer conveyor p1 p2 q7 rr ss1 tt22 uuu3 vent hopper chute crane winch spool brush jig8" : Str) " " = poolN)
  rw [e]
  exact q
theorem okp_num (T : Tx K mg w base) : FnOk P w K mg base CX0 3 T.f_num T.fd_num ["_law_d", "_law_most"] (spP K T.tbs 2 R_num) := by
  refine okP T.F_num sc_num rfl fun cdv A outer s H E G hG hcd hr => ⟨_, (pss_consP (ps_setP (ps_set (i := 2) sc_num.nd rfl (Or.inl rfl) (pe_opP op_addP li_add (pe_cP (d := .int 2) pe_int) (pe_callP hG (pe_call (okp_draw T) (hr.mono (by decide)) rfl T.m_draw T.F_draw.kp T.b_draw .nil pass0 (pa_consP (pe_borP (pv 0)) (pa_consP (pe_opP op_sub li_sub (pe_borP (pv 1)) (pe_cP (d := .int 1) pe_int)) pa_nilP)))))))
      (pss_consP (ps_setP (ps_set (i := 3) sc_num.nd rfl (Or.inl rfl) (pe_ixP (pe_lstP (pa_consP (pe_cP (d := .int 0) pe_int) (pa_consP (pe_cP (d := .int 0) pe_int) (pa_consP (pe_negP (pe_cP (d := .int 1) pe_int)) (pa_consP (pe_frzP (pe_opP op_fdiv li_fdiv (pe_negP (pe_borP (pv 2))) (pe_cP (d := .int 2) pe_int))) (pa_consP (pe_cP (d := .int 1) pe_int) (pa_consP (pe_negP (pe_borP (pv 2))) (pa_consP (pe_frzP (pe_opP op_sub li_sub (pe_cP (d := .int 1000) pe_int) (pe_borP (pv 2)))) (pa_consP (pe_negP (pe_cP (d := .int 1000) pe_int)) pa_nilP))))))))) (pe_callP hG (pe_call (okp_draw T) (hr.mono (by decide)) rfl T.m_draw T.F_draw.kp T.b_draw .nil pass0 (pa_consP (pe_borP (pv 0)) (pa_consP (pe_cP (d := .int 8) pe_int) pa_nilP)))) (fun _ _ => rfl) li_ix)))
      (pss_consP (ps_setP (ps_set (i := 4) sc_num.nd rfl (Or.inl rfl) (pe_ixP (pe_lstP (pa_consP (pe_cP (d := .int 1) pe_int) (pa_consP (pe_cP (d := .int 1) pe_int) (pa_consP (pe_cP (d := .int 1) pe_int) (pa_consP (pe_cP (d := .int 2) pe_int) (pa_consP (pe_cP (d := .int 3) pe_int) (pa_consP (pe_cP (d := .int 10) pe_int) pa_nilP))))))) (pe_callP hG (pe_call (okp_draw T) (hr.mono (by decide)) rfl T.m_draw T.F_draw.kp T.b_draw .nil pass0 (pa_consP (pe_borP (pv 0)) (pa_consP (pe_cP (d := .int 6) pe_int) pa_nilP)))) (fun _ _ => rfl) li_ix)))
      (pss_oneP (ps_retP (pe_tupP (pa_consP (pe_cP (d := .str "num") pe_str) (pa_consP (pe_varP (pv 3)) (pa_consP (pe_frzP (pe_opP op_sub li_sub (pe_opP op_addP li_add (pe_borP (pv 3)) (pe_borP (pv 2))) (pe_cP (d := .int 1) pe_int))) (pa_consP (pe_varP (pv 4)) (pa_consP (pe_ixP (pe_lstP (pa_consP (pe_cP (d := .str "wrap") pe_str) (pa_consP (pe_cP (d := .str "hold") pe_str) pa_nilP))) (pe_callP hG (pe_call (okp_draw T) (hr.mono (by decide)) rfl T.m_draw T.F_draw.kp T.b_draw .nil pass0 (pa_consP (pe_borP (pv 0)) (pa_consP (pe_cP (d := .int 2) pe_int) pa_nilP)))) (fun _ _ => rfl) li_ix) pa_nilP))))))))))), fun as C hl h => ?_⟩
  obtain ⟨m, rfl, m2, m200, q⟩ := h
  refine ⟨_, rfl, by omega, by omega, fun r r0 r1 => ⟨⟨by decide, by decide⟩, szr, _, rfl, by decide, by decide, fun r2 a2 b2 => ?_⟩⟩
  have low : ∃ lo : Int, atI [PyData.int 0, .int 0, .int (-1), .int (-(2 + r) / 2), .int 1, .int (-(2 + r)), .int (1000 - (2 + r)), .int (-1000)] r2 = some (.int lo) ∧ -1000 ≤ lo ∧ lo + (2 + r) - 1 ≤ 1000 := by
    rcases (show r2 = 0 ∨ r2 = 1 ∨ r2 = 2 ∨ r2 = 3 ∨ r2 = 4 ∨ r2 = 5 ∨ r2 = 6 ∨ r2 = 7 by omega) with rfl | rfl | rfl | rfl | rfl | rfl | rfl | rfl
    · exact ⟨_, atD 0 rfl, by omega, by omega⟩
    · exact ⟨_, atD 1 rfl, by omega, by omega⟩
    · exact ⟨_, atD 2 rfl, by omega, by omega⟩
    · exact ⟨_, atD 3 rfl, by omega, by omega⟩
    · exact ⟨_, atD 4 rfl, by omega, by omega⟩
    · exact ⟨_, atD 5 rfl, by omega, by omega⟩
    · exact ⟨_, atD 6 rfl, by omega, by omega⟩
    · exact ⟨_, atD 7 rfl, by omega, by omega⟩
  obtain ⟨lo, e1, l1, l2⟩ := low
  refine ⟨_, e1, szr, _, rfl, by decide, by decide, fun r3 a3 b3 => ?_⟩
  obtain ⟨per, e3, p1, p2⟩ : ∃ per : Int, atI [PyData.int 1, .int 1, .int 1, .int 2, .int 3, .int 10] r3 = some (.int per) ∧ 1 ≤ per ∧ per ≤ 100 := by
    rcases (show r3 = 0 ∨ r3 = 1 ∨ r3 = 2 ∨ r3 = 3 ∨ r3 = 4 ∨ r3 = 5 by omega) with rfl | rfl | rfl | rfl | rfl | rfl
    · exact ⟨_, atD 0 rfl, by decide, by decide⟩
    · exact ⟨_, atD 1 rfl, by decide, by decide⟩
    · exact ⟨_, atD 2 rfl, by decide, by decide⟩
    · exact ⟨_, atD 3 rfl, by decide, by decide⟩
    · exact ⟨_, atD 4 rfl, by decide, by decide⟩
    · exact ⟨_, atD 5 rfl, by decide, by decide⟩
  refine ⟨_, e3, szr, _, rfl, by decide, by decide, fun r4 a4 b4 => ?_⟩
  obtain ⟨how, e4, hs⟩ : ∃ how : Str, atI [PyData.str "wrap", .str "hold"] r4 = some (.str how) ∧ (how = "wrap" ∨ how = "hold") := by
    rcases (show r4 = 0 ∨ r4 = 1 by omega) with rfl | rfl
    · exact ⟨_, atD 0 rfl, .inl rfl⟩
    · exact ⟨_, atD 1 rfl, .inr rfl⟩
  exact ⟨_, e4, szr, q _ _ _ _ ⟨l1, by omega, l2, by omega, p1, p2, hs⟩⟩
theorem okp_plain_kind (T : Tx K mg w base) : FnOk P w K mg base CX0 4 T.f_plain_kind T.fd_plain_kind ["_law_d", "_law_most", "_law_pool_here"] (spP K T.tbs 3 R_plain_kind) := by
  refine okP T.F_plain_kind sc_plain_kind rfl fun cdv A outer s H E G hG hcd hr => ⟨_, (pss_consP (ps_setP (ps_set (i := 3) sc_plain_kind.nd rfl (Or.inl rfl) (pe_callP hG (pe_call (okp_draw T) (hr.mono (by decide)) rfl T.m_draw T.F_draw.kp T.b_draw .nil pass0 (pa_consP (pe_borP (pv 0)) (pa_consP (pe_cP (d := .int 4) pe_int) pa_nilP))))))
      (pss_consP (ps_ifP (pt_cmpP (op_eqP hr.units) li_eq (pe_borP (pv 3)) (pe_cP (d := .int 0) pe_int) (nomark _)) (pss_oneP (ps_retP (pe_tupP (pa_consP (pe_cP (d := .str "bool") pe_str) pa_nilP)))) pss_nilP)
      (pss_consP (ps_ifP (pt_cmpP (op_eqP hr.units) li_eq (pe_borP (pv 3)) (pe_cP (d := .int 1) pe_int) (nomark _)) (pss_consP (ps_setP (ps_set (i := 4) sc_plain_kind.nd rfl (Or.inl rfl) (pe_lstP pa_nilP)))
      (pss_consP (ps_forP (ps_for PassesOwn.never rfl (pi_range1P (pi_range1 (by rfl) T.z_range (pa_consP (pe_opP op_addP li_add (pe_cP (d := .int 2) pe_int) (pe_callP hG (pe_call (okp_draw T) (hr.mono (by decide)) rfl T.m_draw T.F_draw.kp T.b_draw .nil pass0 (pa_consP (pe_borP (pv 0)) (pa_consP (pe_cP (d := .int 2) pe_int) pa_nilP))))) pa_nilP))) (pg_nameP (pg_name (i := 5) sc_plain_kind.nd rfl (Or.inl rfl)))
      (pss_oneP (ps_dropP (pe_methP lm_app (pe_bm PySem.F.plainAttrs_list PySem.F.slot_list_append PySem.F.type_list_append mt_append (pe_borP (pv 4)) (pa_consP (pe_frzP (pe_callP hG (pe_call (okp_pop T) (hr.mono (by decide)) rfl T.m_pop T.F_pop.kp T.b_pop .nil pass0 (pa_consP (pe_borP (pv 0)) (pa_consP (pe_borP (pv 2)) pa_nilP))))) pa_nilP)))))))
      (pss_oneP (ps_retP (pe_tupP (pa_consP (pe_cP (d := .str "mode") pe_str) (pa_consP (pe_frzP (pe_cbP lc_tup (pe_callTy (show CallR _ (.type "tuple") (rTupOf K) from call_tup) (by rfl) T.z_tuple (by decide +kernel) (pa_consP (pe_borP (pv 4)) pa_nilP)))) pa_nilP))))))) pss_nilP)
      (pss_oneP (ps_retP (pe_callP hG (pe_call (okp_num T) (hr.mono (by decide)) rfl T.m_num T.F_num.kp T.b_num .nil pass0 (pa_consP (pe_borP (pv 0)) (pa_consP (pe_borP (pv 1)) pa_nilP))))))))), fun as C hl h => ?_⟩
  obtain ⟨m, ns, b, rfl, m2, m200, po, q⟩ := h
  refine ⟨_, rfl, by decide, by decide, fun way w0 w4 => ?_⟩
  refine IfP.both (fun h1 => ?_) fun h1 => IfP.both (fun h2 => ?_) fun h2 => ?_
  · exact ⟨szr, q .bool _ trivial (po.less (by omega))⟩
  · refine ⟨szr, _, rfl, by decide, by decide, fun r r0 r1 => ⟨by omega, by omega, ?_⟩⟩
    obtain ⟨n, en, n2, n3'⟩ : ∃ n : Nat, 2 + r = (n : Int) ∧ 2 ≤ n ∧ n ≤ 3 := ⟨(2 + r).toNat, by omega, by omega, by omega⟩
    rw [en, rangeP0]
    refine ⟨fun i env => ∃ (nm ns' : List Str) (c5 : Cel), nm.length = i ∧ i ≤ n ∧ PoolOk (b + 3 - i) ns' ∧ (∀ s ∈ nm, PyData.strOk s = true) ∧ env = [.drw, .dat (.int m), .arg (poolD ns'), .dat (.int way), .own (poolD nm), c5], ⟨[], ns, _, rfl, Nat.zero_le _, po, (fun s h => by cases h), rfl⟩, ?_, ?_⟩
    · rintro i x env hi ⟨nm, ns', c5, l1, l2, po', mn, rfl⟩
      have hi' := (List.getElem?_eq_some_iff.mp hi).1
      rw [List.length_map, List.length_range] at hi'
      obtain ⟨p1, p2, p3⟩ := id po'
      refine ⟨poolD ns', rfl, (fun z => ?_), by rw [List.length_map]; omega, fun k d hd => ?_⟩
      · rw [List.map_eq_nil_iff.mp z] at p1
        have : b + 3 - i ≤ 0 := p1
        omega
      · rw [List.getElem?_map] at hd
        obtain ⟨w, hw, rfl⟩ := Option.map_eq_some_iff.mp hd
        have hk := (List.getElem?_eq_some_iff.mp hw).1
        refine ⟨szl (by rw [List.length_map]; omega), nm ++ [w], ns'.eraseIdx k, .dat x, by rw [List.length_append]; show _ + 1 = _; omega, by omega, ⟨?_, ?_, fun s hs => p3 s (List.mem_of_mem_eraseIdx hs)⟩, fun s hs => ?_, ?_⟩
        · rw [List.length_eraseIdx, if_pos hk]
          omega
        · rw [List.length_eraseIdx, if_pos hk]
          omega
        · rcases List.mem_append.mp hs with h | h
          · exact mn s h
          · rw [List.mem_singleton.mp h]
            exact p3 _ (List.mem_of_getElem? hw)
        · show _ = [Cel.drw, .dat (.int m), .arg ((ns'.eraseIdx k).map PyData.str), .dat (.int way), .own ((nm ++ [w]).map PyData.str), .dat x]
          rw [← erase_strs, List.map_append]
          rfl
    · rintro env ⟨nm, ns', c5, l1, l2, po', mn, rfl⟩
      rw [List.length_map, List.length_range] at l1 po'
      exact ⟨szr, q (.mode nm) _ ⟨by omega, by omega, mn⟩ (po'.less (by omega))⟩
  · exact ⟨m, rfl, m2, m200, fun lo hi per how ok => q _ _ ok (po.less (by omega))⟩
end

/-! ### fit, zero, values drawn, kinds drawn -/
def fitI (lo hi : Int) (how : Str) (x : Int) : Int := if how = "wrap" then lo + (x - lo) % (hi - lo + 1) else (if x < lo then lo else if hi < x then hi else x)
theorem fit_in {lo hi : Int} (h : lo ≤ hi) (how : Str) (x : Int) : lo ≤ fitI lo hi how x ∧ fitI lo hi how x ≤ hi := by
  unfold fitI
  have m0 := Int.emod_nonneg (x - lo) (show hi - lo + 1 ≠ 0 by omega)
  have m1 := Int.emod_lt_of_pos (x - lo) (show 0 < hi - lo + 1 by omega)
  split
  · omega
  · split
    · omega
    · split <;> omega
def R_p_fit : PR := fun as C => ∃ (lo hi per x : Int) (how : Str), as = [.dat (Kd.num lo hi per how).d, .dat (.int x)] ∧ (Kd.num lo hi per how).ok ∧ C (.dat (.int (fitI lo hi how x))) as
def R_fit : PR := R_p_fit
def zeroK : Kd → Int
  | .num lo hi _ how => fitI lo hi how 0
  | _ => 0
def zeroD : Rk → PyData
  | .p k => .int (zeroK k)
  | .r k n => .tuple (List.replicate n (.int (zeroK k)))
def RZ : Nat → PR
  | 0 => fun _ _ => False
  | n + 1 => fun as C => ∃ r : Rk, as = [.dat r.d] ∧ r.ok ∧ (n = 0 → ∃ k, r = .p k) ∧ C (.dat (zeroD r)) as
def R_zero : PR := RZ 2
theorem rep_one (x : PyData) : ∀ n : Nat, (List.replicate n [x]).flatten = List.replicate n x
  | 0 => rfl
  | n + 1 => by rw [List.replicate_succ, List.flatten_cons, rep_one x n]; rfl
def hasK (k : Kd) (v : PyData) : Bool := inB k.lo k.hi v
def hasD : Rk → PyData → Bool
  | .p k, v => hasK k v
  | .r k n, .tuple ds => decide ((ds.length : Int) = (n : Int)) && ds.all (hasK k)
  | .r _ _, _ => false
def RLH : Nat → PR
  | 0 => fun _ _ => False
  | n + 1 => fun as C => ∃ (r : Rk) (v : PyData), as = [.dat r.d, .dat v] ∧ r.ok ∧ (n = 0 → ∃ k, r = .p k) ∧ VIn r v ∧ C (.dat (.bool true)) as
def R_has : PR := RLH 2
section
variable {P : Program} {w : World} {K : PySem.W.Frag} {mg : Str → Option Value} {base : Heap}
theorem okp_p_fit (T : Tx K mg w base) : FnOk P w K mg base CX0 1 T.f_p_fit T.fd_p_fit ["kind", "number"] (spP K T.tbs 2 R_p_fit) := by
  refine okP T.F_p_fit sc_p_fit rfl fun cdv A outer s H E G hG hcd hr => ⟨_, (pss_consP (ps_asgP (ps_asg (pe_varP (pv 0)) (pg_tupP (n := 5) rfl (pgs_consP (pg_nameP (pg_name (i := 2) sc_p_fit.nd rfl (Or.inl rfl))) (pgs_consP (pg_nameP (pg_name (i := 3) sc_p_fit.nd rfl (Or.inl rfl))) (pgs_consP (pg_nameP (pg_name (i := 4) sc_p_fit.nd rfl (Or.inl rfl))) (pgs_consP (pg_nameP (pg_name (i := 2) sc_p_fit.nd rfl (Or.inl rfl))) (pgs_consP (pg_nameP (pg_name (i := 5) sc_p_fit.nd rfl (Or.inl rfl))) pgs_nilP))))))))
      (pss_consP (ps_ifP (pt_cmpP (op_eqP hr.units) li_eq (pe_borP (pv 5)) (pe_cP (d := .str "wrap") pe_str) (nomark _)) (pss_oneP (ps_retP (pe_opP op_addP li_add (pe_borP (pv 3)) (pe_opP op_mod li_mod (pe_opP op_sub li_sub (pe_borP (pv 1)) (pe_borP (pv 3))) (pe_opP op_addP li_add (pe_opP op_sub li_sub (pe_borP (pv 4)) (pe_borP (pv 3))) (pe_cP (d := .int 1) pe_int)))))) pss_nilP)
      (pss_oneP (ps_retP (pe_cbP lc_min (pe_callB (call_minP rfl) (by rfl) T.z_min (by decide +kernel) (pa_consP (pe_cbP lc_max (pe_callB (call_maxP rfl) (by rfl) T.z_max (by decide +kernel) (pa_consP (pe_borP (pv 1)) (pa_consP (pe_borP (pv 3)) pa_nilP)))) (pa_consP (pe_borP (pv 4)) pa_nilP)))))))), fun as C hl h => ?_⟩
  obtain ⟨lo, hi, per, x, how, rfl, ok, q⟩ := h
  obtain ⟨h1, h2, h3, h4, _, _, hw⟩ := ok
  refine ⟨rfl, ?_⟩
  unfold fitI at q
  rcases hw with rfl | rfl
  · rw [if_pos rfl] at q
    exact .t (by decide +kernel) ⟨by show 0 < hi - lo + 1; omega, q⟩
  · rw [if_neg (by decide +kernel)] at q
    refine .f (by decide +kernel) ?_
    show C (.dat (.int (if hi < (if x < lo then lo else x) then hi else (if x < lo then lo else x)))) _
    by_cases a1 : x < lo
    · rw [if_pos a1] at q ⊢
      rw [if_neg (by omega)]
      exact q
    · rw [if_neg a1] at q ⊢
      exact q
theorem okp_fit (T : Tx K mg w base) : FnOk P w K mg base CX0 1 T.f_fit T.fd_fit ["_law_kind", "_law_number"] (spP K T.tbs 2 R_fit) := by
  refine okP T.F_fit sc_fit rfl fun cdv A outer s H E G hG hcd hr => ⟨_, (pss_consP (ps_setP (ps_set (i := 2) sc_fit.nd rfl (Or.inl rfl) (pe_ixP (pe_borP (pv 0)) (pe_cP (d := .int 1) pe_int) (fun _ _ => rfl) li_ix)))
      (pss_consP (ps_setP (ps_set (i := 3) sc_fit.nd rfl (Or.inl rfl) (pe_ixP (pe_borP (pv 0)) (pe_cP (d := .int 2) pe_int) (fun _ _ => rfl) li_ix)))
      (pss_consP (ps_ifP (pt_cmpP (op_eqP hr.units) li_eq (pe_ixP (pe_borP (pv 0)) (pe_cP (d := .int 4) pe_int) (fun _ _ => rfl) li_ix) (pe_cP (d := .str "hold") pe_str) (nomark _)) (pss_consP (ps_ifP (pt_cmpP op_lt li_lt (pe_borP (pv 1)) (pe_borP (pv 2)) (nomark _)) (pss_oneP (ps_retMvP (pv 2))) pss_nilP)
      (pss_oneP (ps_retP (pe_ifP (pt_cmpP op_gt li_gt (pe_borP (pv 1)) (pe_borP (pv 3)) (nomark _)) (pe_varP (pv 3)) (pe_varP (pv 1)))))) pss_nilP)
      (pss_oneP (ps_retP (pe_opP op_addP li_add (pe_borP (pv 2)) (pe_opP op_mod li_mod (pe_cbP lc_int (pe_callTy call_int1 (by rfl) T.z_int (by decide +kernel) (pa_consP (pe_opP op_sub li_sub (pe_borP (pv 1)) (pe_borP (pv 2))) pa_nilP))) (pe_opP op_addP li_add (pe_opP op_sub li_sub (pe_borP (pv 3)) (pe_borP (pv 2))) (pe_cP (d := .int 1) pe_int))))))))), fun as C hl h => ?_⟩
  obtain ⟨lo, hi, per, x, how, rfl, ok, q⟩ := h
  obtain ⟨h1, h2, h3, h4, _, _, hw⟩ := ok
  refine ⟨_, atD 1 rfl, _, atD 2 rfl, _, atD 4 rfl, ?_⟩
  unfold fitI at q
  rcases hw with rfl | rfl
  · rw [if_pos rfl] at q
    exact .f (by decide +kernel) ⟨by show 0 < hi - lo + 1; omega, q⟩
  · rw [if_neg (by decide +kernel)] at q
    refine .t (by decide +kernel) (IfP.both (fun h5 => ?_) fun h5 => ?_)
    · have h5 : x < lo := of_decide_eq_true h5
      rw [if_pos h5] at q
      exact q
    · have h5 : ¬ x < lo := of_decide_eq_false h5
      rw [if_neg h5] at q
      refine IfP.both (fun h6 => ?_) fun h6 => ?_
      · rw [if_pos (show hi < x from of_decide_eq_true h6)] at q
        exact q
      · rw [if_neg (show ¬ hi < x from of_decide_eq_false h6)] at q
        exact q
theorem rec_zero {n k : Nat} (T : Tx K mg w base) (ih : FnOk P w K mg base CX0 k T.f_zero T.fd_zero ["kind"] (spP K T.tbs 1 (RZ n))) (hk : 4 ≤ k) : FnOk P w K mg base CX0 (k + 1) T.f_zero T.fd_zero ["kind"] (spP K T.tbs 1 (RZ (n + 1))) := by
  refine okP T.F_zero sc_zero rfl fun cdv A outer s H E G hG hcd hr => ⟨_, (pss_consP (ps_ifP (pt_truP (pe_callP hG (pe_call (okp_is_row T) (hr.mono (by omega)) rfl T.m_is_row T.F_is_row.kp T.b_is_row .nil pass0 (pa_consP (pe_borP (pv 0)) pa_nilP)))) (pss_oneP (ps_retP (pe_opP op_mulT li_mulT (pe_tupP (pa_consP (pe_frzP (pe_callP hG (pe_call ih (hr.mono (by omega)) rfl T.m_zero T.F_zero.kp T.b_zero .nil pass0 (pa_consP (pe_ixP (pe_borP (pv 0)) (pe_cP (d := .int 1) pe_int) (fun _ _ => rfl) li_ix) pa_nilP)))) pa_nilP)) (pe_ixP (pe_borP (pv 0)) (pe_cP (d := .int 2) pe_int) (fun _ _ => rfl) li_ix)))) pss_nilP)
      (pss_consP (ps_ifP (pt_cmpP (op_eqP hr.units) li_eq (pe_ixP (pe_borP (pv 0)) (pe_cP (d := .int 0) pe_int) (fun _ _ => rfl) li_ix) (pe_cP (d := .str "num") pe_str) (nomark _)) (pss_oneP (ps_retP (pe_callP hG (pe_call (okp_p_fit T) (hr.mono (by omega)) rfl T.m_p_fit T.F_p_fit.kp T.b_p_fit .nil pass0 (pa_consP (pe_borP (pv 0)) (pa_consP (pe_cP (d := .int 0) pe_int) pa_nilP)))))) pss_nilP)
      (pss_oneP (ps_retP (pe_cP (d := .int 0) pe_int))))), fun as C hl h => ?_⟩
  obtain ⟨x, rfl, ok, hn, q⟩ := h
  rcases x with k0 | ⟨k0, i⟩
  · rcases k0 with _ | ns | ⟨lo, hi, per, how⟩
    · exact ⟨.p .bool, rfl, .f rfl ⟨_, atD 0 rfl, .f (by decide +kernel) q⟩⟩
    · exact ⟨.p (.mode ns), rfl, .f rfl ⟨_, atD 0 rfl, .f (by decide +kernel) q⟩⟩
    · exact ⟨.p (.num lo hi per how), rfl, .f rfl ⟨_, atD 0 rfl, .t (by decide +kernel) ⟨lo, hi, per, 0, how, rfl, ok, q⟩⟩⟩
  · obtain ⟨m, rfl⟩ : ∃ m, n = m + 1 := by
      cases n with
      | zero => obtain ⟨_, e⟩ := hn rfl; cases e
      | succ m => exact ⟨m, rfl⟩
    obtain ⟨ok1, i1, i3⟩ := ok
    refine ⟨.r k0 i, rfl, .t rfl ⟨_, atD 1 rfl, .p k0, rfl, ok1, fun _ => ⟨k0, rfl⟩, szr, _, atD 2 rfl, (by simp), by omega, by omega, Nat.le_of_ble_eq_true rfl, ?_⟩⟩
    have e : (List.replicate ((i : Int)).toNat [zeroD (.p k0)]).flatten = List.replicate i (zeroD (.p k0)) := by
      rw [Int.toNat_natCast]
      exact rep_one _ _
    rw [e]
    exact q
theorem okp_zero (T : Tx K mg w base) : FnOk P w K mg base CX0 8 T.f_zero T.fd_zero ["kind"] (spP K T.tbs 1 R_zero) := by
  refine rec_zero (n := 1) (k := 7) T ?_ (by decide)
  refine rec_zero (n := 0) (k := 6) T ?_ (by decide)
  refine okP (k := 5) T.F_zero sc_zero rfl fun cdv A outer s H E G hG hcd hr => ⟨_, PSs.le pss_never (t' := tS K G fun _ _ => False) (fun D σ H ⟨_, _, _, _, _, h, _⟩ => h.elim), fun as C hl h => ?_⟩
  exact h.elim
theorem okp_ends (T : Tx K mg w base) : FnOk P w K mg base CX0 1 T.f_ends T.fd_ends ["_law_kind"] (spP K T.tbs 1 R_ends) := by
  refine okP T.F_ends sc_ends rfl fun cdv A outer s H E G hG hcd hr => ⟨_, (pss_consP (ps_ifP (pt_cmpP (op_eqP hr.units) li_eq (pe_ixP (pe_borP (pv 0)) (pe_cP (d := .int 0) pe_int) (fun _ _ => rfl) li_ix) (pe_cP (d := .str "num") pe_str) (nomark _)) (pss_oneP (ps_retP (pe_lstP (pa_consP (pe_ixP (pe_borP (pv 0)) (pe_cP (d := .int 1) pe_int) (fun _ _ => rfl) li_ix) (pa_consP (pe_ixP (pe_borP (pv 0)) (pe_cP (d := .int 2) pe_int) (fun _ _ => rfl) li_ix) pa_nilP))))) pss_nilP)
      (pss_oneP (ps_retP (pe_ifP (pt_cmpP (op_eqP hr.units) li_eq (pe_ixP (pe_borP (pv 0)) (pe_cP (d := .int 0) pe_int) (fun _ _ => rfl) li_ix) (pe_cP (d := .str "bool") pe_str) (nomark _)) (pe_lstP (pa_consP (pe_cP (d := .int 0) pe_int) (pa_consP (pe_cP (d := .int 1) pe_int) pa_nilP))) (pe_lstP (pa_consP (pe_cP (d := .int 0) pe_int) (pa_consP (pe_frzP (pe_opP op_sub li_sub (pe_cbP lc_len (pe_callB call_lenP (by rfl) T.z_len (by decide +kernel) (pa_consP (pe_ixP (pe_borP (pv 0)) (pe_cP (d := .int 1) pe_int) (fun _ _ => rfl) li_ix) pa_nilP))) (pe_cP (d := .int 1) pe_int))) pa_nilP))))))), fun as C hl h => ?_⟩
  obtain ⟨k, rfl, ok, q⟩ := h
  rcases k with _ | ns | ⟨lo, hi, per, how⟩
  · exact ⟨_, atD 0 rfl, .f (by decide +kernel) ⟨_, atD 0 rfl, .t (by decide +kernel) ⟨szr, q⟩⟩⟩
  · refine ⟨_, atD 0 rfl, .f (by decide +kernel) ⟨_, atD 0 rfl, .f (by decide +kernel) ⟨_, atD 1 rfl, szr, ?_⟩⟩⟩
    rw [List.length_map]
    exact q
  · exact ⟨_, atD 0 rfl, .t (by decide +kernel) ⟨_, atD 1 rfl, _, atD 2 rfl, szr, q⟩⟩
theorem rec_value {n k : Nat} (T : Tx K mg w base) (ih : FnOk P w K mg base CX0 k T.f_value T.fd_value ["_law_d", "_law_kind"] (spP K T.tbs 2 (RW n))) (hk : 4 ≤ k) : FnOk P w K mg base CX0 (k + 1) T.f_value T.fd_value ["_law_d", "_law_kind"] (spP K T.tbs 2 (RW (n + 1))) := by
  refine okP T.F_value sc_value rfl fun cdv A outer s H E G hG hcd hr => ⟨_, (pss_consP (ps_ifP (pt_cmpP (op_eqP hr.units) li_eq (pe_ixP (pe_borP (pv 1)) (pe_cP (d := .int 0) pe_int) (fun _ _ => rfl) li_ix) (pe_cP (d := .str "row") pe_str) (nomark _)) (pss_consP (ps_setP (ps_set (i := 2) sc_value.nd rfl (Or.inl rfl) (pe_lstP pa_nilP)))
      (pss_consP (ps_forP (ps_for PassesOwn.never rfl (pi_range1P (pi_range1 (by rfl) T.z_range (pa_consP (pe_ixP (pe_borP (pv 1)) (pe_cP (d := .int 2) pe_int) (fun _ _ => rfl) li_ix) pa_nilP))) (pg_nameP (pg_name (i := 3) sc_value.nd rfl (Or.inl rfl)))
      (pss_oneP (ps_dropP (pe_methP lm_app (pe_bm PySem.F.plainAttrs_list PySem.F.slot_list_append PySem.F.type_list_append mt_append (pe_borP (pv 2)) (pa_consP (pe_frzP (pe_callP hG (pe_call ih (hr.mono (by omega)) rfl T.m_value T.F_value.kp T.b_value .nil pass0 (pa_consP (pe_borP (pv 0)) (pa_consP (pe_ixP (pe_borP (pv 1)) (pe_cP (d := .int 1) pe_int) (fun _ _ => rfl) li_ix) pa_nilP))))) pa_nilP)))))))
      (pss_oneP (ps_retP (pe_cbP lc_tup (pe_callTy (show CallR _ (.type "tuple") (rTupOf K) from call_tup) (by rfl) T.z_tuple (by decide +kernel) (pa_consP (pe_borP (pv 2)) pa_nilP))))))) pss_nilP)
      (pss_consP (ps_setP (ps_set (i := 4) sc_value.nd rfl (Or.inl rfl) (pe_callP hG (pe_call (okp_ends T) (hr.mono (by omega)) rfl T.m_ends T.F_ends.kp T.b_ends .nil pass0 (pa_consP (pe_borP (pv 1)) pa_nilP)))))
      (pss_oneP (ps_retP (pe_opP op_addP li_add (pe_ixP (pe_borP (pv 4)) (pe_cP (d := .int 0) pe_int) (fun _ _ => rfl) li_ix) (pe_callP hG (pe_call (okp_draw T) (hr.mono (by omega)) rfl T.m_draw T.F_draw.kp T.b_draw .nil pass0 (pa_consP (pe_borP (pv 0)) (pa_consP (pe_opP op_addP li_add (pe_opP op_sub li_sub (pe_ixP (pe_borP (pv 4)) (pe_cP (d := .int 1) pe_int) (fun _ _ => rfl) li_ix) (pe_ixP (pe_borP (pv 4)) (pe_cP (d := .int 0) pe_int) (fun _ _ => rfl) li_ix)) (pe_cP (d := .int 1) pe_int)) pa_nilP))))))))), fun as C hl h => ?_⟩
  obtain ⟨x, rfl, ok, hn, q⟩ := h
  rcases x with k0 | ⟨k0, i⟩
  · have ok : k0.ok := ok
    have en := ok.ends
    refine ⟨_, atD 0 (Rk.at0 (.p k0)), IfP.wrow (r := .p k0) (fun h => by cases h) fun _ => ⟨k0, rfl, ok, _, atD 0 rfl, _, atD 1 rfl, _, atD 0 rfl, _, rfl, by omega, by omega, fun z z0 z1 => q _ ⟨_, rfl, by omega, by omega⟩⟩⟩
  · obtain ⟨m, rfl⟩ : ∃ m, n = m + 1 := by
      cases n with
      | zero => obtain ⟨_, e⟩ := hn rfl; cases e
      | succ m => exact ⟨m, rfl⟩
    obtain ⟨ok1, i1, i3⟩ := ok
    refine ⟨_, atD 0 rfl, .t (by decide +kernel) ⟨szr, _, atD 2 rfl, by omega, by omega, ?_⟩⟩
    rw [rangeP0]
    refine ⟨fun j env => ∃ (is : List Int) (c : Cel), is.length = j ∧ (∀ z ∈ is, k0.lo ≤ z ∧ z ≤ k0.hi) ∧ env = [.drw, .dat (Rk.r k0 i).d, .own (is.map .int), c, .no], ⟨[], _, rfl, (fun z h => by cases h), rfl⟩, ?_, ?_⟩
    · rintro j y env hy ⟨is, c, l, ms, rfl⟩
      have hj := (List.getElem?_eq_some_iff.mp hy).1
      rw [List.length_map, List.length_range] at hj
      refine ⟨_, atD 1 rfl, .p k0, rfl, ok1, fun _ => ⟨k0, rfl⟩, fun v hv => ?_⟩
      obtain ⟨z, rfl, z0, z1⟩ := hv
      refine ⟨szl (by rw [List.length_map]; omega), is ++ [z], _, by rw [List.length_append, l]; rfl, fun u hu => ?_, by rw [List.map_append]; rfl⟩
      rcases List.mem_append.mp hu with hu | hu
      · exact ms u hu
      · rw [List.mem_singleton.mp hu]
        exact ⟨z0, z1⟩
    · rintro env ⟨is, c, l, ms, rfl⟩
      rw [List.length_map, List.length_range] at l
      exact q _ ⟨is, rfl, l, ms⟩
theorem okp_value (T : Tx K mg w base) : FnOk P w K mg base CX0 8 T.f_value T.fd_value ["_law_d", "_law_kind"] (spP K T.tbs 2 R_value) := by
  refine rec_value (n := 1) (k := 7) T ?_ (by decide)
  refine rec_value (n := 0) (k := 6) T ?_ (by decide)
  refine okP (k := 5) T.F_value sc_value rfl fun cdv A outer s H E G hG hcd hr => ⟨_, PSs.le pss_never (t' := tS K G fun _ _ => False) (fun D σ H ⟨_, _, _, _, _, h, _⟩ => h.elim), fun as C hl h => ?_⟩
  exact h.elim
theorem rec_has {n k : Nat} (T : Tx K mg w base) (ih : FnOk P w K mg base CX0 k T.f_has T.fd_has ["_law_kind", "_law_value_here"] (spP K T.tbs 2 (RLH n))) (hk : 4 ≤ k) : FnOk P w K mg base CX0 (k + 1) T.f_has T.fd_has ["_law_kind", "_law_value_here"] (spP K T.tbs 2 (RLH (n + 1))) := by
  refine okP T.F_has sc_has rfl fun cdv A outer s H E G hG hcd hr => ⟨_, (pss_consP (ps_ifP (pt_cmpP (op_eqP hr.units) li_eq (pe_ixP (pe_borP (pv 0)) (pe_cP (d := .int 0) pe_int) (fun _ _ => rfl) li_ix) (pe_cP (d := .str "row") pe_str) (nomark _)) (pss_consP (ps_ifP (PW.pt (pw_orP (pt_notP (pt_truP (pe_isiP (by simp) (pe_callB call_isi (by rfl) T.z_isinstance (by decide +kernel) (pa_cons (pe_borP (pv 1)) (pa_cons (pe_bltn (v := .ty "tuple") rfl T.z_tuple (by decide +kernel) rfl) pa_nil)))))) (pw_or1P (pt_cmpP (op_neP hr.units) li_ne (pe_cbP lc_len (pe_callB call_lenP (by rfl) T.z_len (by decide +kernel) (pa_consP (pe_borP (pv 1)) pa_nilP))) (pe_ixP (pe_borP (pv 0)) (pe_cP (d := .int 2) pe_int) (fun _ _ => rfl) li_ix) (nomark _))))) (pss_oneP (ps_retP (pe_cP (d := .bool false) pe_bl))) pss_nilP)
      (pss_oneP (ps_retP (pe_cbP lc_all (pe_callB (cr_all rfl) (by rfl) T.z_all (by decide +kernel) (pa_consP (pe_lcP (vs := [3]) (pe_lc (own := [("_law_part", 3)]) rfl sc_has.nd (pi_itemsP (pe_varP (pv 1))) (blkOk_by (N := ["_law_kind", "_law_value_here", "_law_ends_here", "_law_part"]) (sc := defScope s_has) (by decide +kernel)) (fun _ _ _ _ _ => (pg_compP (vs := [3]) (pg_name (i := 3) sc_has.nd rfl (Or.inl rfl)))) (fun _ _ _ _ _ => pts_nilP) (fun _ _ _ _ _ => (pe_frzP (pe_callP hG (pe_call ih (hr.mono (by omega)) rfl T.m_has T.F_has.kp T.b_has .nil pass0 (pa_consP (pe_ixP (pe_borP (pv 0)) (pe_cP (d := .int 1) pe_int) (fun _ _ => rfl) li_ix) (pa_consP (pe_borP (pv 3)) pa_nilP)))))))) pa_nilP)))))) pss_nilP)
      (pss_consP (ps_ifP (PW.pt (pw_orP (pt_notP (pt_truP (pe_isiP (by simp) (pe_callB call_isi (by rfl) T.z_isinstance (by decide +kernel) (pa_cons (pe_borP (pv 1)) (pa_cons (pe_bltn (v := .ty "int") rfl T.z_int (by decide +kernel) rfl) pa_nil)))))) (pw_or1P (pt_truP (pe_isiP (by simp) (pe_callB call_isi (by rfl) T.z_isinstance (by decide +kernel) (pa_cons (pe_borP (pv 1)) (pa_cons (pe_bltn (v := .ty "bool") rfl T.z_bool (by decide +kernel) rfl) pa_nil)))))))) (pss_oneP (ps_retP (pe_cP (d := .bool false) pe_bl))) pss_nilP)
      (pss_consP (ps_setP (ps_set (i := 2) sc_has.nd rfl (Or.inl rfl) (pe_callP hG (pe_call (okp_ends T) (hr.mono (by omega)) rfl T.m_ends T.F_ends.kp T.b_ends .nil pass0 (pa_consP (pe_borP (pv 0)) pa_nilP)))))
      (pss_oneP (ps_retP (pe_chainP (pe_chain op_le op_le (pe_ixP (pe_borP (pv 2)) (pe_cP (d := .int 0) pe_int) (fun _ _ => rfl) li_ix) (pe_borP (pv 1)) (pe_ixP (pe_borP (pv 2)) (pe_cP (d := .int 1) pe_int) (fun _ _ => rfl) li_ix)))))))), fun as C hl h => ?_⟩
  obtain ⟨x, v, rfl, ok, hn, lo, q⟩ := h
  rcases x with k0 | ⟨k0, i⟩
  · obtain ⟨z, rfl, z0, z1⟩ := lo
    refine ⟨_, atD 0 (Rk.at0 (.p k0)), IfP.wrow (r := .p k0) (fun h => by cases h) fun _ => .f rfl (.f rfl ⟨k0, rfl, ok, _, atD 0 rfl, .t (decide_eq_true z0) ⟨_, atD 1 rfl, ?_⟩⟩)⟩
    show C (.dat (.bool (decide (z ≤ k0.hi)))) _
    rw [decide_eq_true z1]
    exact q
  · obtain ⟨m, rfl⟩ : ∃ m, n = m + 1 := by
      cases n with
      | zero => obtain ⟨_, e⟩ := hn rfl; cases e
      | succ m => exact ⟨m, rfl⟩
    obtain ⟨ok1, i1, i3⟩ := ok
    obtain ⟨is, rfl, li, mi⟩ := lo
    have ln : (is.map PyData.int).length = is.length := List.length_map _
    refine ⟨_, atD 0 rfl, .t (by decide +kernel) (.f rfl ⟨_, atD 2 rfl, .f (by show (!decide (((is.map PyData.int).length : Int) = (i : Int))) = false; rw [ln, li, decide_eq_true rfl]; rfl) ?_⟩)⟩
    refine lc_mapP (l := is) (e := PyData.int) (fun z => .bool true) (szl (by omega)) (fun j z hz Q k => .t rfl ⟨_, atD 1 rfl, .p k0, _, rfl, ok1, (fun _ => ⟨k0, rfl⟩), ⟨z, rfl, mi z (List.mem_of_getElem? hz)⟩, k⟩) ?_
    refine ⟨is.map fun z => true, by rw [List.map_map]; rfl, ?_⟩
    rw [show (is.map fun _ => true).all id = true from List.all_eq_true.mpr fun b hb => by obtain ⟨_, _, rfl⟩ := List.mem_map.mp hb; rfl]
    exact q
theorem okp_has (T : Tx K mg w base) : FnOk P w K mg base CX0 8 T.f_has T.fd_has ["_law_kind", "_law_value_here"] (spP K T.tbs 2 R_has) := by
  refine rec_has (n := 1) (k := 7) T ?_ (by decide)
  refine rec_has (n := 0) (k := 6) T ?_ (by decide)
  refine okP (k := 5) T.F_has sc_has rfl fun cdv A outer s H E G hG hcd hr => ⟨_, PSs.le pss_never (t' := tS K G fun _ _ => False) (fun D σ H ⟨_, _, _, _, _, h, _⟩ => h.elim), fun as C hl h => ?_⟩
  exact h.elim
end

/-! ### kinds of operands, bent kinds -/
theorem num_ok {lo hi per : Int} {how : Str} (h : (Kd.num lo hi per how).ok) : (Rk.p (.num lo hi per how)).ok := h
theorem KsOk.two {a b : Rk} (ha : a.ok) (hb : b.ok) : KsOk [a, b] := ⟨by simp, by simp, fun k hk => by
  rcases List.mem_cons.mp hk with rfl | hk
  · exact ha
  · rw [List.mem_singleton.mp hk]
    exact hb⟩
theorem KsOk.one {a : Rk} (ha : a.ok) : KsOk [a] := ⟨by simp, by simp, fun k hk => by
  rw [List.mem_singleton.mp hk]
  exact ha⟩
theorem KsOk.three {a b c : Rk} (ha : a.ok) (hb : b.ok) (hc : c.ok) : KsOk [a, b, c] := ⟨by simp, by simp, fun k hk => by
  rcases List.mem_cons.mp hk with rfl | hk
  · exact ha
  · rcases List.mem_cons.mp hk with rfl | hk
    · exact hb
    · rw [List.mem_singleton.mp hk]
      exact hc⟩
theorem KsOk.rep {a : Rk} (ha : a.ok) {n : Nat} (h1 : 1 ≤ n) (h6 : n ≤ 6) : KsOk (List.replicate n a) := ⟨(fun z => by have := congrArg List.length z; rw [List.length_replicate] at this; simp at this; omega), by rw [List.length_replicate]; omega, fun k hk => by
  rw [List.eq_of_mem_replicate hk]
  exact ha⟩
theorem rep_d (a : Rk) (n : Nat) : (List.replicate n [a.d]).flatten = (List.replicate n a).map Rk.d := by
  rw [rep_one, List.map_replicate]
theorem cutP_map {α : Type} (f : α → PyData) (ks : List α) (lo hi : Option Int) : ∃ js : List α, cutP (ks.map f) lo hi = js.map f ∧ (∀ k ∈ js, k ∈ ks) ∧ js.length ≤ ks.length := by
  unfold cutP
  rw [← List.map_drop, ← List.map_take]
  refine ⟨_, rfl, fun k hk => List.mem_of_mem_drop (List.mem_of_mem_take hk), ?_⟩
  rw [List.length_take, List.length_drop]
  omega
section
variable {P : Program} {w : World} {K : PySem.W.Frag} {mg : Str → Option Value} {base : Heap}
theorem okp_some_kind (T : Tx K mg w base) : FnOk P w K mg base CX0 5 T.f_some_kind T.fd_some_kind ["_law_d", "_law_pool_here", "_law_rows"] (spP K T.tbs 3 R_some_kind) := by
  refine okP T.F_some_kind sc_some_kind rfl fun cdv A outer s H E G hG hcd hr => ⟨_, (pss_cutP (ps_setP (ps_set (i := 3) sc_some_kind.nd rfl (Or.inl rfl) (pe_callP hG (pe_call (okp_plain_kind T) (hr.mono (by decide)) rfl T.m_plain_kind T.F_plain_kind.kp T.b_plain_kind .nil pass0 (pa_consP (pe_borP (pv 0)) (pa_consP (pe_ifP (pt_truP (pe_callP hG (pe_call (okp_rare T) (hr.mono (by decide)) rfl T.m_rare T.F_rare.kp T.b_rare .nil pass0 (pa_consP (pe_borP (pv 0)) (pa_consP (pe_cP (d := .int 16) pe_int) pa_nilP))))) (pe_cP (d := .int 200) pe_int) (pe_cP (d := .int 12) pe_int)) (pa_consP (pe_borP (pv 1)) pa_nilP)))))))
      (pss_consP (ps_ifP (PW.pt (pw_andP (pt_truP (pe_borP (pv 2))) (pw_and1P (pt_cmpP (op_eqP hr.units) li_eq (pe_callP hG (pe_call (okp_draw T) (hr.mono (by decide)) rfl T.m_draw T.F_draw.kp T.b_draw .nil pass0 (pa_consP (pe_borP (pv 0)) (pa_consP (pe_cP (d := .int 3) pe_int) pa_nilP)))) (pe_cP (d := .int 0) pe_int) (nomark _))))) (pss_oneP (ps_retP (pe_tupP (pa_consP (pe_cP (d := .str "row") pe_str) (pa_consP (pe_varP (pv 3)) (pa_consP (pe_frzP (pe_opP op_addP li_add (pe_cP (d := .int 1) pe_int) (pe_callP hG (pe_call (okp_draw T) (hr.mono (by decide)) rfl T.m_draw T.F_draw.kp T.b_draw .nil pass0 (pa_consP (pe_borP (pv 0)) (pa_consP (pe_cP (d := .int 3) pe_int) pa_nilP)))))) pa_nilP)))))) pss_nilP)
      (pss_oneP (ps_retMvP (pv 3))))), fun as C hl h => ?_⟩
  obtain ⟨rows, ns, b, rfl, po, q⟩ := h
  refine ⟨fun env => ∃ (k : Kd) (ns' : List Str), k.ok ∧ PoolOk b ns' ∧ env = [.drw, .arg (poolD ns'), .dat (.bool rows), .dat k.d], ⟨_, rfl, by decide, by decide, fun x => ?_⟩, ?_⟩
  · cases x with
    | true => exact .t rfl ⟨200, ns, b, rfl, by decide, by decide, po, fun k ns' ok po' => ⟨k, ns', ok, po', rfl⟩⟩
    | false => exact .f rfl ⟨12, ns, b, rfl, by decide, by decide, po, fun k ns' ok po' => ⟨k, ns', ok, po', rfl⟩⟩
  rintro env ⟨k, ns', ok, po', rfl⟩
  cases rows with
  | false => exact .f rfl (.f rfl (q (.p k) _ ok (fun _ => rfl) po'))
  | true =>
    refine .t rfl ⟨_, rfl, by decide, by decide, fun r r0 r1 => IfP.both (fun h1 => ?_) fun h1 => q (.p k) _ ok (fun _ => rfl) po'⟩
    refine ⟨_, rfl, by decide, by decide, fun z z0 z1 => ⟨szr, ?_⟩⟩
    have e : (((1 + z).toNat : Nat) : Int) = 1 + z := by omega
    have fin := q (.r k (1 + z).toNat) _ ⟨ok, by omega, by omega⟩ (fun h => by cases h) po'
    have fin : C (.dat (.tuple [.str "row", k.d, .int (((1 + z).toNat : Nat) : Int)])) _ := fin
    rw [e] at fin
    exact fin
theorem okp_operand (T : Tx K mg w base) : FnOk P w K mg base CX0 9 T.f_operand T.fd_operand ["_law_d", "_law_kind"] (spP K T.tbs 2 R_operand) := by
  refine okP T.F_operand sc_operand rfl fun cdv A outer s H E G hG hcd hr => ⟨_, (pss_consP (ps_ifP (PW.pt (pw_andP (pt_cmpP (op_neP hr.units) li_ne (pe_ixP (pe_borP (pv 1)) (pe_cP (d := .int 0) pe_int) (fun _ _ => rfl) li_ix) (pe_cP (d := .str "row") pe_str) (nomark _)) (pw_and1P (pt_cmpP (op_eqP hr.units) li_eq (pe_callP hG (pe_call (okp_draw T) (hr.mono (by decide)) rfl T.m_draw T.F_draw.kp T.b_draw .nil pass0 (pa_consP (pe_borP (pv 0)) (pa_consP (pe_cP (d := .int 3) pe_int) pa_nilP)))) (pe_cP (d := .int 0) pe_int) (nomark _))))) (pss_oneP (ps_retP (pe_ixP (pe_callP hG (pe_call (okp_ends T) (hr.mono (by decide)) rfl T.m_ends T.F_ends.kp T.b_ends .nil pass0 (pa_consP (pe_borP (pv 1)) pa_nilP))) (pe_callP hG (pe_call (okp_draw T) (hr.mono (by decide)) rfl T.m_draw T.F_draw.kp T.b_draw .nil pass0 (pa_consP (pe_borP (pv 0)) (pa_consP (pe_cP (d := .int 2) pe_int) pa_nilP)))) (fun _ _ => rfl) li_ix))) pss_nilP)
      (pss_oneP (ps_retP (pe_callP hG (pe_call (okp_value T) (hr.mono (by decide)) rfl T.m_value T.F_value.kp T.b_value .nil pass0 (pa_consP (pe_borP (pv 0)) (pa_consP (pe_borP (pv 1)) pa_nilP))))))), fun as C hl h => ?_⟩
  obtain ⟨r, rfl, ok, q⟩ := h
  refine ⟨_, atD 0 r.at0, IfP.wnrow (fun h1 => ?_) fun h1 => .f rfl ⟨r, rfl, ok, (fun z => by cases z), fun v hv => q v hv⟩⟩
  obtain ⟨k, rfl⟩ := rk_plain h1
  have ok : k.ok := ok
  have en := ok.ends
  refine ⟨_, rfl, by decide, by decide, fun z z0 z1 => IfP.both (fun h2 => ?_) fun h2 => ⟨.p k, rfl, ok, (fun z => by cases z), fun v hv => q v hv⟩⟩
  refine ⟨k, rfl, ok, _, rfl, by decide, by decide, fun y y0 y1 => ?_⟩
  rcases (show y = 0 ∨ y = 1 by omega) with rfl | rfl
  · exact ⟨_, atD 0 rfl, q _ ⟨_, rfl, by omega, by omega⟩⟩
  · exact ⟨_, atD 1 rfl, q _ ⟨_, rfl, by omega, by omega⟩⟩
theorem okp_bent (T : Tx K mg w base) : FnOk P w K mg base CX0 6 T.f_bent T.fd_bent ["_law_d", "_law_kinds", "_law_pool_here"] (spP K T.tbs 3 R_bent) := by
  refine okP T.F_bent sc_bent rfl fun cdv A outer s H E G hG hcd hr => ⟨_, (pss_consP (ps_setP (ps_set (i := 3) sc_bent.nd rfl (Or.inl rfl) (pe_callP hG (pe_call (okp_draw T) (hr.mono (by decide)) rfl T.m_draw T.F_draw.kp T.b_draw .nil pass0 (pa_consP (pe_borP (pv 0)) (pa_consP (pe_cP (d := .int 3) pe_int) pa_nilP))))))
      (pss_consP (ps_ifP (pt_cmpP (op_eqP hr.units) li_eq (pe_borP (pv 3)) (pe_cP (d := .int 0) pe_int) (nomark _)) (pss_oneP (ps_retP (pe_sliceP (pe_borP (pv 1)) po_noneP (po_someP (pe_negP (pe_cP (d := .int 1) pe_int)))))) pss_nilP)
      (pss_consP (ps_ifP (pt_cmpP (op_eqP hr.units) li_eq (pe_borP (pv 3)) (pe_cP (d := .int 1) pe_int) (nomark _)) (pss_oneP (ps_retP (pe_opP op_addP li_add (pe_borP (pv 1)) (pe_lstP (pa_consP (pe_frzP (pe_callP hG (pe_call (okp_some_kind T) (hr.mono (by decide)) rfl T.m_some_kind T.F_some_kind.kp T.b_some_kind .nil pass0 (pa_consP (pe_borP (pv 0)) (pa_consP (pe_borP (pv 2)) (pa_consP (pe_cP (d := .bool true) pe_bl) pa_nilP)))))) pa_nilP))))) pss_nilP)
      (pss_consP (ps_setP (ps_set (i := 4) sc_bent.nd rfl (Or.inl rfl) (pe_callP hG (pe_call (okp_draw T) (hr.mono (by decide)) rfl T.m_draw T.F_draw.kp T.b_draw .nil pass0 (pa_consP (pe_borP (pv 0)) (pa_consP (pe_cbP lc_len (pe_callB call_lenP (by rfl) T.z_len (by decide +kernel) (pa_consP (pe_borP (pv 1)) pa_nilP))) pa_nilP))))))
      (pss_oneP (ps_retP (pe_opP op_addP li_add (pe_opP op_addP li_add (pe_sliceP (pe_borP (pv 1)) po_noneP (po_someP (pe_borP (pv 4)))) (pe_lstP (pa_consP (pe_frzP (pe_callP hG (pe_call (okp_some_kind T) (hr.mono (by decide)) rfl T.m_some_kind T.F_some_kind.kp T.b_some_kind .nil pass0 (pa_consP (pe_borP (pv 0)) (pa_consP (pe_borP (pv 2)) (pa_consP (pe_cP (d := .bool true) pe_bl) pa_nilP)))))) pa_nilP))) (pe_sliceP (pe_borP (pv 1)) (po_someP (pe_opP op_addP li_add (pe_borP (pv 4)) (pe_cP (d := .int 1) pe_int))) po_noneP)))))))), fun as C hl h => ?_⟩
  obtain ⟨ks, ns, b, rfl, ok, l6, po, q⟩ := h
  have ln : (ks.map Rk.d).length = ks.length := List.length_map _
  have n1 : 1 ≤ ks.length := by cases ks with | nil => exact absurd rfl ok.1 | cons a r => show 1 ≤ _ + 1; omega
  refine ⟨_, rfl, by decide, by decide, fun way w0 w1 => IfP.both (fun h1 => ?_) fun h1 => IfP.both (fun h2 => ?_) fun h2 => ?_⟩
  · obtain ⟨js, e, mj, lj⟩ := cutP_map Rk.d ks none (some (-1))
    have fin := q js ns (by
      cases js with
      | nil => exact .inl rfl
      | cons a r => exact .inr ⟨by simp, by omega, fun k hk => ok.2.2 k (mj k hk)⟩) (po.less (by omega))
    rw [← e] at fin
    exact fin
  · refine ⟨true, ns, b, rfl, po, fun r ns' rok _ po' => ⟨szr, szle (by rw [ln]; show _ + 1 ≤ _; omega), ?_⟩⟩
    have fin := q (ks ++ [r]) ns' (.inr ⟨by simp, by rw [List.length_append]; show _ + 1 ≤ _; omega, fun k hk => ?_⟩) po'
    · rw [List.map_append] at fin
      exact fin
    · rcases List.mem_append.mp hk with hk | hk
      · exact ok.2.2 k hk
      · rw [List.mem_singleton.mp hk]
        exact rok
  · refine ⟨_, rfl, by omega, by omega, fun z z0 z1 => ?_⟩
    obtain ⟨js, e, mj, lj⟩ := cutP_map Rk.d ks none (some z)
    obtain ⟨is, e2, mi, li⟩ := cutP_map Rk.d ks (some (z + 1)) none
    refine ⟨true, ns, b, rfl, po, fun r ns' rok _ po' => ⟨szr, ?_⟩⟩
    show (cutP (ks.map Rk.d) none (some z)).length + 1 ≤ _ ∧ _
    refine ⟨by rw [e, List.length_map]; exact szle (by omega), ?_⟩
    show (cutP (ks.map Rk.d) none (some z) ++ [r.d]).length + (cutP (ks.map Rk.d) (some (z + 1)) none).length ≤ _ ∧ _
    refine ⟨by rw [e, e2, List.length_append, List.length_map, List.length_map]; exact szle (by show _ + 1 + _ ≤ _; omega), ?_⟩
    have fin := q (js ++ [r] ++ is) ns' (.inr ⟨by simp, by rw [List.length_append, List.length_append]; show _ + 1 + _ ≤ _; omega, fun k hk => ?_⟩) po'
    · rw [List.map_append, List.map_append, ← e, ← e2] at fin
      exact fin
    · rcases List.mem_append.mp hk with hk | hk
      · rcases List.mem_append.mp hk with hk | hk
        · exact ok.2.2 k (mj k hk)
        · rw [List.mem_singleton.mp hk]
          exact rok
      · exact ok.2.2 k (mi k hk)
theorem okp_operand_kinds (T : Tx K mg w base) : FnOk P w K mg base CX0 6 T.f_operand_kinds T.fd_operand_kinds ["_law_d", "_law_op_here", "_law_pool_here"] (spP K T.tbs 3 R_operand_kinds) := by
  refine okP T.F_operand_kinds sc_operand_kinds rfl fun cdv A outer s H E G hG hcd hr => ⟨_, (pss_consP (ps_setP (ps_set (i := 3) sc_operand_kinds.nd rfl (Or.inl rfl) (pe_callP hG (pe_call (okp_some_kind T) (hr.mono (by decide)) rfl T.m_some_kind T.F_some_kind.kp T.b_some_kind .nil pass0 (pa_consP (pe_borP (pv 0)) (pa_consP (pe_borP (pv 2)) (pa_consP (pe_cP (d := .bool true) pe_bl) pa_nilP)))))))
      (pss_cutP (ps_setP (ps_set (i := 4) sc_operand_kinds.nd rfl (Or.inl rfl) (pe_callP hG (pe_call (okp_num T) (hr.mono (by decide)) rfl T.m_num T.F_num.kp T.b_num .nil pass0 (pa_consP (pe_borP (pv 0)) (pa_consP (pe_ifP (pt_truP (pe_callP hG (pe_call (okp_rare T) (hr.mono (by decide)) rfl T.m_rare T.F_rare.kp T.b_rare .nil pass0 (pa_consP (pe_borP (pv 0)) (pa_consP (pe_cP (d := .int 16) pe_int) pa_nilP))))) (pe_cP (d := .int 200) pe_int) (pe_cP (d := .int 12) pe_int)) pa_nilP))))))
      (pss_consP (ps_ifP (pt_cmpP (op_inP hr.u65) li_in (pe_borP (pv 1)) (pe_tupP (pa_consP (pe_cP (d := .str "not") pe_str) (pa_consP (pe_cP (d := .str "and") pe_str) (pa_consP (pe_cP (d := .str "or") pe_str) (pa_consP (pe_cP (d := .str "xor") pe_str) pa_nilP))))) (by rfl)) (pss_oneP (ps_retP (pe_opP op_mulP li_mul (pe_lstP (pa_consP (pe_tupP (pa_consP (pe_cP (d := .str "bool") pe_str) pa_nilP)) pa_nilP)) (pe_ifP (pt_cmpP (op_eqP hr.units) li_eq (pe_borP (pv 1)) (pe_cP (d := .str "not") pe_str) (nomark _)) (pe_cP (d := .int 1) pe_int) (pe_cP (d := .int 2) pe_int))))) pss_nilP)
      (pss_consP (ps_ifP (pt_cmpP (op_inP hr.u65) li_in (pe_borP (pv 1)) (pe_tupP (pa_consP (pe_cP (d := .str "eq") pe_str) (pa_consP (pe_cP (d := .str "ne") pe_str) pa_nilP))) (by rfl)) (pss_oneP (ps_retP (pe_lstP (pa_consP (pe_varP (pv 3)) (pa_consP (pe_varP (pv 3)) pa_nilP))))) pss_nilP)
      (pss_consP (ps_ifP (pt_cmpP (op_inP hr.u65) li_in (pe_borP (pv 1)) (pe_tupP (pa_consP (pe_cP (d := .str "lt") pe_str) (pa_consP (pe_cP (d := .str "le") pe_str) (pa_consP (pe_cP (d := .str "add") pe_str) (pa_consP (pe_cP (d := .str "sub") pe_str) (pa_consP (pe_cP (d := .str "mul") pe_str) (pa_consP (pe_cP (d := .str "div") pe_str) (pa_consP (pe_cP (d := .str "min") pe_str) (pa_consP (pe_cP (d := .str "max") pe_str) pa_nilP))))))))) (by rfl)) (pss_oneP (ps_retP (pe_lstP (pa_consP (pe_varP (pv 4)) (pa_consP (pe_varP (pv 4)) pa_nilP))))) pss_nilP)
      (pss_consP (ps_ifP (pt_cmpP (op_inP hr.u65) li_in (pe_borP (pv 1)) (pe_tupP (pa_consP (pe_cP (d := .str "neg") pe_str) (pa_consP (pe_cP (d := .str "as") pe_str) pa_nilP))) (by rfl)) (pss_oneP (ps_retP (pe_lstP (pa_consP (pe_varP (pv 4)) pa_nilP)))) pss_nilP)
      (pss_consP (ps_ifP (pt_cmpP (op_eqP hr.units) li_eq (pe_borP (pv 1)) (pe_cP (d := .str "mid") pe_str) (nomark _)) (pss_oneP (ps_retP (pe_lstP (pa_consP (pe_varP (pv 4)) (pa_consP (pe_varP (pv 4)) (pa_consP (pe_varP (pv 4)) pa_nilP)))))) pss_nilP)
      (pss_consP (ps_ifP (pt_cmpP (op_eqP hr.units) li_eq (pe_borP (pv 1)) (pe_cP (d := .str "pick") pe_str) (nomark _)) (pss_oneP (ps_retP (pe_lstP (pa_consP (pe_tupP (pa_consP (pe_cP (d := .str "bool") pe_str) pa_nilP)) (pa_consP (pe_varP (pv 3)) (pa_consP (pe_varP (pv 3)) pa_nilP)))))) pss_nilP)
      (pss_consP (ps_ifP (pt_cmpP (op_eqP hr.units) li_eq (pe_borP (pv 1)) (pe_cP (d := .str "vote") pe_str) (nomark _)) (pss_oneP (ps_retP (pe_lstP (pa_consP (pe_varP (pv 3)) (pa_consP (pe_varP (pv 3)) (pa_consP (pe_varP (pv 3)) pa_nilP)))))) pss_nilP)
      (pss_consP (ps_setP (ps_set (i := 5) sc_operand_kinds.nd rfl (Or.inl rfl) (pe_callP hG (pe_call (okp_some_kind T) (hr.mono (by decide)) rfl T.m_some_kind T.F_some_kind.kp T.b_some_kind .nil pass0 (pa_consP (pe_borP (pv 0)) (pa_consP (pe_borP (pv 2)) (pa_consP (pe_cP (d := .bool false) pe_bl) pa_nilP)))))))
      (pss_cutP (ps_setP (ps_set (i := 6) sc_operand_kinds.nd rfl (Or.inl rfl) (pe_opP op_addP li_add (pe_cP (d := .int 1) pe_int) (pe_callP hG (pe_call (okp_draw T) (hr.mono (by decide)) rfl T.m_draw T.F_draw.kp T.b_draw .nil pass0 (pa_consP (pe_borP (pv 0)) (pa_consP (pe_cP (d := .int 4) pe_int) pa_nilP)))))))
      (pss_consP (ps_ifP (pt_cmpP (op_eqP hr.units) li_eq (pe_borP (pv 1)) (pe_cP (d := .str "row") pe_str) (nomark _)) (pss_oneP (ps_retP (pe_opP op_mulP li_mul (pe_lstP (pa_consP (pe_varP (pv 5)) pa_nilP)) (pe_ifP (pt_truP (pe_callP hG (pe_call (okp_rare T) (hr.mono (by decide)) rfl T.m_rare T.F_rare.kp T.b_rare .nil pass0 (pa_consP (pe_borP (pv 0)) (pa_consP (pe_cP (d := .int 8) pe_int) pa_nilP))))) (pe_cP (d := .int 6) pe_int) (pe_borP (pv 6)))))) pss_nilP)
      (pss_consP (ps_ifP (pt_cmpP (op_eqP hr.units) li_eq (pe_borP (pv 1)) (pe_cP (d := .str "sum") pe_str) (nomark _)) (pss_oneP (ps_retP (pe_lstP (pa_consP (pe_tupP (pa_consP (pe_cP (d := .str "row") pe_str) (pa_consP (pe_varP (pv 4)) (pa_consP (pe_varP (pv 6)) pa_nilP)))) pa_nilP)))) pss_nilP)
      (pss_consP (ps_ifP (pt_cmpP (op_inP hr.u65) li_in (pe_borP (pv 1)) (pe_tupP (pa_consP (pe_cP (d := .str "any") pe_str) (pa_consP (pe_cP (d := .str "all") pe_str) pa_nilP))) (by rfl)) (pss_oneP (ps_retP (pe_lstP (pa_consP (pe_tupP (pa_consP (pe_cP (d := .str "row") pe_str) (pa_consP (pe_tupP (pa_consP (pe_cP (d := .str "bool") pe_str) pa_nilP)) (pa_consP (pe_varP (pv 6)) pa_nilP)))) pa_nilP)))) pss_nilP)
      (pss_consP (ps_ifP (pt_cmpP (op_eqP hr.units) li_eq (pe_borP (pv 1)) (pe_cP (d := .str "at") pe_str) (nomark _)) (pss_oneP (ps_retP (pe_lstP (pa_consP (pe_tupP (pa_consP (pe_cP (d := .str "row") pe_str) (pa_consP (pe_varP (pv 5)) (pa_consP (pe_varP (pv 6)) pa_nilP)))) (pa_consP (pe_varP (pv 4)) pa_nilP))))) pss_nilP)
      (pss_oneP (ps_retP (pe_lstP (pa_consP (pe_tupP (pa_consP (pe_cP (d := .str "row") pe_str) (pa_consP (pe_varP (pv 5)) (pa_consP (pe_varP (pv 6)) pa_nilP)))) (pa_consP (pe_varP (pv 4)) (pa_consP (pe_varP (pv 5)) pa_nilP))))))))))))))))))))), fun as C hl h => ?_⟩
  obtain ⟨op, ns, b, rfl, po, q⟩ := h
  refine ⟨true, ns, b + 3, rfl, po, fun a ns1 aok _ po1 => ?_⟩
  refine ⟨fun env => ∃ k : Kd, k.ok ∧ env = [.drw, .dat (.str op.s), .arg (poolD ns1), .dat a.d, .dat (Rk.p k).d, .no, .no], ⟨_, rfl, by decide, by decide, fun x => ?_⟩, ?_⟩
  · cases x with
    | true => exact .t rfl ⟨200, rfl, by decide, by decide, fun lo hi per how ok => ⟨.num lo hi per how, ok, rfl⟩⟩
    | false => exact .f rfl ⟨12, rfl, by decide, by decide, fun lo hi per how ok => ⟨.num lo hi per how, ok, rfl⟩⟩
  rintro env ⟨rk, rkok, rfl⟩
  obtain ⟨r, er⟩ : ∃ r, r = Rk.p rk := ⟨_, rfl⟩
  have rok : r.ok := by rw [er]; exact rkok
  rw [← er]
  have po2 := po1.less (m := b) (by omega)
  have bok : (Rk.p .bool).ok := trivial
  refine ⟨szr, .inl ⟨rfl, flat_strs ["not", "and", "or", "xor"]⟩, IfP.both (fun h2 => ?_) fun h2 => ?_⟩
  · refine ⟨szr, szr, IfP.both (fun h3 => ?_) fun h3 => ?_⟩
    · exact ⟨by decide, by decide, szr, q [.p .bool] _ (KsOk.one bok) (by simp) po2⟩
    · exact ⟨by decide, by decide, szr, q [.p .bool, .p .bool] _ (KsOk.two bok bok) (by simp) po2⟩
  refine ⟨szr, .inl ⟨rfl, flat_strs ["eq", "ne"]⟩, IfP.both (fun h2 => ⟨szr, q [a, a] _ (KsOk.two aok aok) (by simp) po2⟩) fun h2 => ?_⟩
  refine ⟨szr, .inl ⟨rfl, flat_strs ["lt", "le", "add", "sub", "mul", "div", "min", "max"]⟩, IfP.both (fun h2 => ⟨szr, q [r, r] _ (KsOk.two rok rok) (by simp) po2⟩) fun h2 => ?_⟩
  refine ⟨szr, .inl ⟨rfl, flat_strs ["neg", "as"]⟩, IfP.both (fun h2 => ⟨szr, q [r] _ (KsOk.one rok) (by simp) po2⟩) fun h2 => ?_⟩
  refine IfP.both (fun h2 => ⟨szr, q [r, r, r] _ (KsOk.three rok rok rok) (by simp) po2⟩) fun h2 => ?_
  refine IfP.both (fun h2 => ⟨szr, szr, q [.p .bool, a, a] _ (KsOk.three bok aok aok) (by simp) po2⟩) fun h2 => ?_
  refine IfP.both (fun h2 => ⟨szr, q [a, a, a] _ (KsOk.three aok aok aok) (by simp) po2⟩) fun h2 => ?_
  refine ⟨false, ns1, b, rfl, po1, fun p ns2 pok pp po3 => ?_⟩
  obtain ⟨k, rfl⟩ := rk_plain (pp rfl)
  have pok : k.ok := pok
  refine ⟨fun env => ∃ n : Nat, 1 ≤ n ∧ n ≤ 4 ∧ env = [.drw, .dat (.str op.s), .arg (poolD ns2), .dat a.d, .dat r.d, .dat (Rk.p k).d, .dat (.int (n : Int))], ⟨_, rfl, by decide, by decide, fun m m0 m1 => ⟨(1 + m).toNat, by omega, by omega, by rw [show (((1 + m).toNat : Nat) : Int) = 1 + m by omega]; rfl⟩⟩, ?_⟩
  rintro env ⟨n, n1, n4, rfl⟩
  have rowk : ∀ k : Kd, k.ok → (Rk.r k n).ok := fun k ok => ⟨ok, n1, by omega⟩
  refine IfP.both (fun h2 => ?_) fun h2 => ?_
  · refine ⟨szr, _, rfl, by decide, by decide, fun x => ?_⟩
    cases x with
    | true => exact .t rfl ⟨by decide, by decide, szr, q (List.replicate 6 (.p k)) _ (KsOk.rep (a := .p k) pok (by decide) (by decide)) (by simp) po3⟩
    | false =>
      refine .f rfl ⟨by omega, by omega, szle (by show 1 * ((n : Int)).toNat ≤ _; omega), ?_⟩
      have fin := q (List.replicate n (.p k)) _ (KsOk.rep (a := .p k) pok n1 (by omega)) (by rw [List.length_replicate]; omega) po3
      rw [← rep_d] at fin
      rw [Int.toNat_natCast]
      exact fin
  refine IfP.both (fun h2 => by subst er; exact ⟨szr, szr, q [.r rk n] _ (KsOk.one (rowk rk rkok)) (by simp) po3⟩) fun h2 => ?_
  refine ⟨szr, .inl ⟨rfl, flat_strs ["any", "all"]⟩, IfP.both (fun h2 => ⟨szr, szr, szr, q [.r .bool n] _ (KsOk.one (rowk .bool trivial)) (by simp) po3⟩) fun h2 => ?_⟩
  refine IfP.both (fun h2 => ⟨szr, szr, q [.r k n, r] _ (KsOk.two (rowk k pok) rok) (by simp) po3⟩) fun h2 => ?_
  exact ⟨szr, szr, q [.r k n, r, .p k] _ (KsOk.three (rowk k pok) rok pok) (by simp) po3⟩
end

/-! ### what an operation gives -/
abbrev numR (lo hi per : Int) (how : Str) : Rk := .p (.num lo hi per how)
abbrev boolR : Rk := .p .bool
inductive Fit : Op → List Rk → Option Kd → Rk → Prop where
  | nt {t} : Fit .nt [boolR] t boolR
  | an {t} : Fit .an [boolR, boolR] t boolR
  | orr {t} : Fit .orr [boolR, boolR] t boolR
  | xr {t} : Fit .xr [boolR, boolR] t boolR
  | eq {t r} (ok : Rk.ok r) : Fit .eq [r, r] t boolR
  | ne {t r} (ok : Rk.ok r) : Fit .ne [r, r] t boolR
  | lt {t lo hi per how} (ok : (Kd.num lo hi per how).ok) : Fit .lt [numR lo hi per how, numR lo hi per how] t boolR
  | le {t lo hi per how} (ok : (Kd.num lo hi per how).ok) : Fit .le [numR lo hi per how, numR lo hi per how] t boolR
  | ng {t lo hi per how} (ok : (Kd.num lo hi per how).ok) : Fit .ng [numR lo hi per how] t (numR lo hi per how)
  | ad {t lo hi per how} (ok : (Kd.num lo hi per how).ok) : Fit .ad [numR lo hi per how, numR lo hi per how] t (numR lo hi per how)
  | sb {t lo hi per how} (ok : (Kd.num lo hi per how).ok) : Fit .sb [numR lo hi per how, numR lo hi per how] t (numR lo hi per how)
  | ml {t lo hi per how} (ok : (Kd.num lo hi per how).ok) : Fit .ml [numR lo hi per how, numR lo hi per how] t (numR lo hi per how)
  | dv {t lo hi per how} (ok : (Kd.num lo hi per how).ok) : Fit .dv [numR lo hi per how, numR lo hi per how] t (numR lo hi per how)
  | mn {t lo hi per how} (ok : (Kd.num lo hi per how).ok) : Fit .mn [numR lo hi per how, numR lo hi per how] t (numR lo hi per how)
  | mx {t lo hi per how} (ok : (Kd.num lo hi per how).ok) : Fit .mx [numR lo hi per how, numR lo hi per how] t (numR lo hi per how)
  | md {t lo hi per how} (ok : (Kd.num lo hi per how).ok) : Fit .md [numR lo hi per how, numR lo hi per how, numR lo hi per how] t (numR lo hi per how)
  | ass {lo hi per how lo' hi' per' how'} (ok : (Kd.num lo hi per how).ok) (ok' : (Kd.num lo' hi' per' how').ok) : Fit .ass [numR lo hi per how] (some (.num lo' hi' per' how')) (numR lo' hi' per' how')
  | pk {t r} (ok : Rk.ok r) : Fit .pk [boolR, r, r] t r
  | vt {t r} (ok : Rk.ok r) : Fit .vt [r, r, r] t r
  | rw {t k n} (ok : Kd.ok k) (h1 : 1 ≤ n) (h6 : n ≤ 6) : Fit .rw (List.replicate n (.p k)) t (.r k n)
  | att {t k n lo hi per how} (ok : (Rk.r k n).ok) (ok' : (Kd.num lo hi per how).ok) : Fit .att [.r k n, numR lo hi per how] t (.p k)
  | pt {t k n lo hi per how} (ok : (Rk.r k n).ok) (ok' : (Kd.num lo hi per how).ok) : Fit .pt [.r k n, numR lo hi per how, .p k] t (.r k n)
  | sm {t n lo hi per how} (ok : (Rk.r (.num lo hi per how) n).ok) : Fit .sm [.r (.num lo hi per how) n] t (numR lo hi per how)
  | ay {t n} (ok : (Rk.r .bool n).ok) : Fit .ay [.r .bool n] t boolR
  | al {t n} (ok : (Rk.r .bool n).ok) : Fit .al [.r .bool n] t boolR
theorem isn_num {r : Rk} (h : r.isn = true) : ∃ lo hi per how, r = numR lo hi per how := by
  rcases r with (_ | ns | ⟨lo, hi, per, how⟩) | ⟨k, n⟩
  · cases h
  · cases h
  · exact ⟨lo, hi, per, how, rfl⟩
  · cases h
theorem some_if {α : Type} {b : Bool} {x y : α} (h : (if b then some x else none) = some y) : b = true ∧ x = y := by
  cases b with
  | true => exact ⟨rfl, Option.some.inj h⟩
  | false => cases h
theorem fits_len {op : Op} {ks : List Rk} {t : Option Kd} {r : Rk} (h : kindOf op ks t = some r) {n : Nat} (hc : op.cnt = some n) : ks.length = n ∧ op.rule ks t = some r := by
  unfold kindOf at h
  split at h
  · next hf =>
    unfold Op.fits at hf
    rw [hc] at hf
    exact ⟨of_decide_eq_true hf, h⟩
  · cases h
theorem fit_of {op : Op} {ks : List Rk} {t : Option Kd} {r : Rk} (h : kindOf op ks t = some r) (ok : KsOk ks) (tk : ToldOk t) : Fit op ks t r := by
  cases op with
  | nt =>
    obtain ⟨l, e⟩ := fits_len h rfl
    obtain ⟨a, rfl⟩ := len1 l
    obtain ⟨e1, rfl⟩ := some_if (show (if decide (a = .p .bool) && allEq [a] then some (Rk.p .bool) else none) = some r from e)
    obtain rfl : a = .p .bool := of_decide_eq_true (Bool.and_eq_true_iff.mp e1).1
    exact .nt
  | an =>
    obtain ⟨l, e⟩ := fits_len h rfl
    obtain ⟨a, b, rfl⟩ := len2 l
    obtain ⟨e1, rfl⟩ := some_if (show (if decide (a = .p .bool) && (decide (a = a) && (decide (b = a) && true)) then some (Rk.p .bool) else none) = some r from e)
    simp at e1
    obtain ⟨rfl, rfl⟩ := e1
    exact .an
  | orr =>
    obtain ⟨l, e⟩ := fits_len h rfl
    obtain ⟨a, b, rfl⟩ := len2 l
    obtain ⟨e1, rfl⟩ := some_if (show (if decide (a = .p .bool) && (decide (a = a) && (decide (b = a) && true)) then some (Rk.p .bool) else none) = some r from e)
    simp at e1
    obtain ⟨rfl, rfl⟩ := e1
    exact .orr
  | xr =>
    obtain ⟨l, e⟩ := fits_len h rfl
    obtain ⟨a, b, rfl⟩ := len2 l
    obtain ⟨e1, rfl⟩ := some_if (show (if decide (a = .p .bool) && (decide (a = a) && (decide (b = a) && true)) then some (Rk.p .bool) else none) = some r from e)
    simp at e1
    obtain ⟨rfl, rfl⟩ := e1
    exact .xr
  | eq =>
    obtain ⟨l, e⟩ := fits_len h rfl
    obtain ⟨a, b, rfl⟩ := len2 l
    obtain ⟨e1, rfl⟩ := some_if (show (if decide (a = a) && (decide (b = a) && true) then some (Rk.p .bool) else none) = some r from e)
    simp at e1
    subst e1
    exact .eq (ok1 ok)
  | ne =>
    obtain ⟨l, e⟩ := fits_len h rfl
    obtain ⟨a, b, rfl⟩ := len2 l
    obtain ⟨e1, rfl⟩ := some_if (show (if decide (a = a) && (decide (b = a) && true) then some (Rk.p .bool) else none) = some r from e)
    simp at e1
    subst e1
    exact .ne (ok1 ok)
  | lt =>
    obtain ⟨l, e⟩ := fits_len h rfl
    obtain ⟨a, b, rfl⟩ := len2 l
    obtain ⟨e1, rfl⟩ := some_if (show (if a.isn && (decide (a = a) && (decide (b = a) && true)) then some (Rk.p .bool) else none) = some r from e)
    simp at e1
    obtain ⟨e2, rfl⟩ := e1
    obtain ⟨lo, hi, per, how, rfl⟩ := isn_num e2
    exact .lt (ok1 ok)
  | le =>
    obtain ⟨l, e⟩ := fits_len h rfl
    obtain ⟨a, b, rfl⟩ := len2 l
    obtain ⟨e1, rfl⟩ := some_if (show (if a.isn && (decide (a = a) && (decide (b = a) && true)) then some (Rk.p .bool) else none) = some r from e)
    simp at e1
    obtain ⟨e2, rfl⟩ := e1
    obtain ⟨lo, hi, per, how, rfl⟩ := isn_num e2
    exact .le (ok1 ok)
  | ng =>
    obtain ⟨l, e⟩ := fits_len h rfl
    obtain ⟨a, rfl⟩ := len1 l
    obtain ⟨e1, rfl⟩ := some_if (show (if a.isn && allEq [a] then some a else none) = some r from e)
    obtain ⟨lo, hi, per, how, rfl⟩ := isn_num (Bool.and_eq_true_iff.mp e1).1
    exact .ng (ok1 ok)
  | ad | sb | ml | dv | mn | mx =>
    obtain ⟨l, e⟩ := fits_len h rfl
    obtain ⟨a, b, rfl⟩ := len2 l
    obtain ⟨e1, rfl⟩ := some_if (show (if a.isn && (decide (a = a) && (decide (b = a) && true)) then some a else none) = some r from e)
    simp at e1
    obtain ⟨e2, rfl⟩ := e1
    obtain ⟨lo, hi, per, how, rfl⟩ := isn_num e2
    first | exact .ad (ok1 ok) | exact .sb (ok1 ok) | exact .ml (ok1 ok) | exact .dv (ok1 ok) | exact .mn (ok1 ok) | exact .mx (ok1 ok)
  | md =>
    obtain ⟨l, e⟩ := fits_len h rfl
    obtain ⟨a, b, c, rfl⟩ := len3 l
    obtain ⟨e1, rfl⟩ := some_if (show (if a.isn && (decide (a = a) && (decide (b = a) && (decide (c = a) && true))) then some a else none) = some r from e)
    simp at e1
    obtain ⟨e2, rfl, rfl⟩ := e1
    obtain ⟨lo, hi, per, how, rfl⟩ := isn_num e2
    exact .md (ok1 ok)
  | ass =>
    obtain ⟨l, e⟩ := fits_len h rfl
    obtain ⟨a, rfl⟩ := len1 l
    cases t with
    | none => cases e
    | some g =>
      obtain ⟨e1, rfl⟩ := some_if (show (if a.isn && g.isn then some (Rk.p g) else none) = some r from e)
      obtain ⟨e2, e3⟩ := Bool.and_eq_true_iff.mp e1
      obtain ⟨lo, hi, per, how, rfl⟩ := isn_num e2
      obtain ⟨lo', hi', per', how', e4⟩ := isn_num (r := .p g) e3
      obtain rfl := Rk.p.inj e4
      exact .ass (ok1 ok) tk
  | pk =>
    obtain ⟨l, e⟩ := fits_len h rfl
    obtain ⟨a, b, c, rfl⟩ := len3 l
    obtain ⟨e1, rfl⟩ := some_if (show (if decide (a = .p .bool) && decide (b = c) then some b else none) = some r from e)
    simp at e1
    obtain ⟨rfl, rfl⟩ := e1
    exact .pk (ok2 ok)
  | vt =>
    obtain ⟨l, e⟩ := fits_len h rfl
    obtain ⟨a, b, c, rfl⟩ := len3 l
    obtain ⟨e1, rfl⟩ := some_if (show (if decide (a = a) && (decide (b = a) && (decide (c = a) && true)) then some a else none) = some r from e)
    simp at e1
    obtain ⟨rfl, rfl⟩ := e1
    exact .vt (ok1 ok)
  | rw =>
    have e : rowK ks t = some r := h
    unfold rowK at e
    have h0 := ks_hd ok.1
    generalize eh : hd0 ks = x at e h0
    cases x with
    | r k n => cases e
    | p k =>
      obtain ⟨e1, rfl⟩ := some_if (show (if allEq ks && decide (ks.length ≤ 6) then some (Rk.r k ks.length) else none) = some r from e)
      obtain ⟨e2, e3⟩ := Bool.and_eq_true_iff.mp e1
      have e3 : ks.length ≤ 6 := of_decide_eq_true e3
      rw [allEq_eq ok.1, eh] at e2
      have er : ks = List.replicate ks.length (.p k) := List.eq_replicate_iff.mpr ⟨rfl, fun b hb => of_decide_eq_true (List.all_eq_true.mp e2 b hb)⟩
      have n1 : 1 ≤ ks.length := by cases ks with | nil => exact absurd rfl ok.1 | cons a r => show 1 ≤ _ + 1; omega
      have kk : (Rk.p k).ok := eh ▸ hd_ok ok
      have := Fit.rw (t := t) (n := ks.length) (k := k) kk n1 e3
      rw [← er] at this
      exact this
  | att =>
    obtain ⟨l, e⟩ := fits_len h rfl
    obtain ⟨a, b, rfl⟩ := len2 l
    cases a with
    | p k => cases e
    | r k n =>
      obtain ⟨e1, rfl⟩ := some_if (show (if b.isn then some (Rk.p k) else none) = some r from e)
      obtain ⟨lo, hi, per, how, rfl⟩ := isn_num e1
      exact .att (ok1 ok) (ok2 ok)
  | pt =>
    obtain ⟨l, e⟩ := fits_len h rfl
    obtain ⟨a, b, c, rfl⟩ := len3 l
    cases a with
    | p k => cases e
    | r k n =>
      obtain ⟨e1, rfl⟩ := some_if (show (if b.isn && decide (Rk.p k = c) then some (Rk.r k n) else none) = some r from e)
      obtain ⟨e2, e3⟩ := Bool.and_eq_true_iff.mp e1
      obtain rfl : Rk.p k = c := of_decide_eq_true e3
      obtain ⟨lo, hi, per, how, rfl⟩ := isn_num e2
      exact .pt (ok1 ok) (ok2 ok)
  | sm =>
    obtain ⟨l, e⟩ := fits_len h rfl
    obtain ⟨a, rfl⟩ := len1 l
    cases a with
    | p k => cases e
    | r k n =>
      obtain ⟨e1, rfl⟩ := some_if (show (if k.isn then some (Rk.p k) else none) = some r from e)
      obtain ⟨lo, hi, per, how, e4⟩ := isn_num (r := .p k) e1
      obtain rfl := Rk.p.inj e4
      exact .sm (ok1 ok)
  | ay | al =>
    obtain ⟨l, e⟩ := fits_len h rfl
    obtain ⟨a, rfl⟩ := len1 l
    cases a with
    | p k => cases e
    | r k n =>
      obtain ⟨e1, rfl⟩ := some_if (show (if decide (k = .bool) then some (Rk.p .bool) else none) = some r from e)
      obtain rfl : k = .bool := of_decide_eq_true e1
      first | exact .ay (ok1 ok) | exact .al (ok1 ok)

/-! ### the program's values -/
def Kd.how : Kd → Str
  | .num _ _ _ h => h
  | _ => "wrap"
def iAt : PyData → Int
  | .int i => i
  | _ => 0
def tAt : PyData → List PyData
  | .tuple ds => ds
  | _ => []
def v0 (vs : List PyData) : PyData := vs.getD 0 .none
def v1 (vs : List PyData) : PyData := vs.getD 1 .none
def v2 (vs : List PyData) : PyData := vs.getD 2 .none
def fitR (r : Rk) (x : Int) : Int := fitI r.k.lo r.k.hi r.k.how x
def sameV : PyData → PyData → Bool
  | .int i, .int j => decide (i = j)
  | v, u => PyData.eqv v u
def insI (x : Int) : List Int → List Int
  | [] => [x]
  | y :: r => if x ≤ y then x :: y :: r else y :: insI x r
def sortI : List Int → List Int
  | [] => []
  | x :: r => insI x (sortI r)
def isOne : PyData → Bool
  | .int i => decide (i = 1)
  | _ => false
def isNil : PyData → Bool
  | .int i => decide (i = 0)
  | _ => false
/-- the place that a row is read at -/
def place (x : Int) (n : Nat) : Nat := if x < 0 then 0 else if x < (n : Int) then x.toNat else n - 1
def sumF (f : Int → Int) : Int → List Int → Int
  | t, [] => t
  | t, x :: r => sumF f (f (t + x)) r
def kd1 (ks : List Rk) : Rk := (ks.getD 1 (.p .bool))
def opV (op : Op) (ks : List Rk) (t : Option Kd) (vs : List PyData) : PyData := match op with
  | .nt => .int (1 - iAt (v0 vs))
  | .an => .int (Builtin.bitAnd (iAt (v0 vs)) (iAt (v1 vs)))
  | .orr => .int (Builtin.bitOr (iAt (v0 vs)) (iAt (v1 vs)))
  | .xr => .int (Builtin.bitXor (iAt (v0 vs)) (iAt (v1 vs)))
  | .eq => .int (if sameV (v0 vs) (v1 vs) then 1 else 0)
  | .ne => .int (if sameV (v0 vs) (v1 vs) then 0 else 1)
  | .lt => .int (if iAt (v0 vs) < iAt (v1 vs) then 1 else 0)
  | .le => .int (if iAt (v0 vs) ≤ iAt (v1 vs) then 1 else 0)
  | .ng => .int (fitR (hd0 ks) (-iAt (v0 vs)))
  | .ad => .int (fitR (hd0 ks) (iAt (v0 vs) + iAt (v1 vs)))
  | .sb => .int (fitR (hd0 ks) (iAt (v0 vs) - iAt (v1 vs)))
  | .ml => .int (fitR (hd0 ks) (iAt (v0 vs) * iAt (v1 vs) / (hd0 ks).k.per))
  | .dv => .int (if iAt (v1 vs) ≠ 0 then fitR (hd0 ks) ((iAt (v0 vs) * (hd0 ks).k.per).fdiv (iAt (v1 vs))) else if iAt (v0 vs) = 0 then fitR (hd0 ks) 0 else if 0 < iAt (v0 vs) then (hd0 ks).k.hi else (hd0 ks).k.lo)
  | .mn => .int (if iAt (v1 vs) < iAt (v0 vs) then iAt (v1 vs) else iAt (v0 vs))
  | .mx => .int (if iAt (v1 vs) > iAt (v0 vs) then iAt (v1 vs) else iAt (v0 vs))
  | .md => .int ((sortI [iAt (v0 vs), iAt (v1 vs), iAt (v2 vs)]).getD 1 0)
  | .ass => .int (fitR (.p (t.getD .bool)) (iAt (v0 vs) * (t.getD .bool).per / (hd0 ks).k.per))
  | .pk => if iAt (v0 vs) = 1 then v1 vs else v2 vs
  | .vt => if sameV (v0 vs) (v1 vs) then v0 vs else v2 vs
  | .rw => .tuple vs
  | .att => (tAt (v0 vs)).getD (place (iAt (v1 vs) / (kd1 ks).k.per) (tAt (v0 vs)).length) .none
  | .pt => if 0 ≤ iAt (v1 vs) / (kd1 ks).k.per ∧ iAt (v1 vs) / (kd1 ks).k.per < ((tAt (v0 vs)).length : Int) then .tuple (cutP (tAt (v0 vs)) none (some (iAt (v1 vs) / (kd1 ks).k.per)) ++ [v2 vs] ++ cutP (tAt (v0 vs)) (some (iAt (v1 vs) / (kd1 ks).k.per + 1)) none) else v0 vs
  | .sm => .int (sumF (fitR (.p (hd0 ks).k)) (iAt ((tAt (v0 vs)).getD 0 .none)) (((tAt (v0 vs)).drop 1).map iAt))
  | .ay => .int (if (tAt (v0 vs)).any isOne then 1 else 0)
  | .al => .int (if (tAt (v0 vs)).any isNil then 0 else 1)
def VsIn (ks : List Rk) (vs : List PyData) : Prop := vs.length = ks.length ∧ ∀ (j : Nat) (k : Rk) (v : PyData), ks[j]? = some k → vs[j]? = some v → VIn k v
def RV (op : Op) : PR := fun as C => ∃ (ks : List Rk) (t : Option Kd) (r : Rk) (vs : List PyData), as = [.dat (ksD ks), .dat (.tuple vs), .dat (toldD t)] ∧ Fit op ks t r ∧ VsIn ks vs ∧ C (.dat (opV op ks t vs)) as
theorem vs1 {a : Rk} {vs : List PyData} (h : VsIn [a] vs) : ∃ v, vs = [v] ∧ VIn a v := by
  obtain ⟨v, rfl⟩ := len1 h.1
  exact ⟨v, rfl, h.2 0 a v rfl rfl⟩
theorem vs2 {a b : Rk} {vs : List PyData} (h : VsIn [a, b] vs) : ∃ v u, vs = [v, u] ∧ VIn a v ∧ VIn b u := by
  obtain ⟨v, u, rfl⟩ := len2 h.1
  exact ⟨v, u, rfl, h.2 0 a v rfl rfl, h.2 1 b u rfl rfl⟩
theorem vs3 {a b c : Rk} {vs : List PyData} (h : VsIn [a, b, c] vs) : ∃ v u x, vs = [v, u, x] ∧ VIn a v ∧ VIn b u ∧ VIn c x := by
  obtain ⟨v, u, x, rfl⟩ := len3 h.1
  exact ⟨v, u, x, rfl, h.2 0 a v rfl rfl, h.2 1 b u rfl rfl, h.2 2 c x rfl rfl⟩
theorem ins_perm (x : Int) : ∀ l : List Int, (insI x l).Perm (x :: l)
  | [] => List.Perm.refl _
  | y :: r => by
    unfold insI
    split
    · exact List.Perm.refl _
    · exact ((ins_perm x r).cons y).trans (List.Perm.swap x y r)
theorem sort_perm : ∀ l : List Int, (sortI l).Perm l
  | [] => List.Perm.refl _
  | x :: r => (ins_perm x (sortI r)).trans ((sort_perm r).cons x)
theorem ins_sorted (x : Int) : ∀ l : List Int, l.Pairwise (· ≤ ·) → (insI x l).Pairwise (· ≤ ·)
  | [], _ => by unfold insI; simp
  | y :: r, h => by
    unfold insI
    have hy := List.pairwise_cons.mp h
    split
    · next e => exact List.pairwise_cons.mpr ⟨fun z hz => by
        rcases List.mem_cons.mp hz with rfl | hz
        · exact e
        · exact Int.le_trans e (hy.1 z hz), h⟩
    · next e => exact List.pairwise_cons.mpr ⟨fun z hz => by
        rcases List.mem_cons.mp ((ins_perm x r).mem_iff.mp hz) with rfl | hz
        · omega
        · exact hy.1 z hz, ins_sorted x r hy.2⟩
theorem sort_sorted : ∀ l : List Int, (sortI l).Pairwise (· ≤ ·)
  | [] => List.Pairwise.nil
  | x :: r => ins_sorted x _ (sort_sorted r)
theorem sorted_eq : ∀ {l m : List Int}, l.Perm m → l.Pairwise (· ≤ ·) → m.Pairwise (· ≤ ·) → l = m
  | [], m, p, _, _ => p.nil_eq
  | a :: l, [], p, _, _ => absurd p.length_eq (by simp)
  | a :: l, b :: m, p, h1, h2 => by
    have k1 := List.pairwise_cons.mp h1
    have k2 := List.pairwise_cons.mp h2
    have ha : a ∈ b :: m := p.mem_iff.mp List.mem_cons_self
    have hb : b ∈ a :: l := p.mem_iff.mpr List.mem_cons_self
    have e : a = b := by
      rcases List.mem_cons.mp ha with e | ha
      · exact e
      · rcases List.mem_cons.mp hb with e | hb
        · exact e.symm
        · have := k2.1 a ha
          have := k1.1 b hb
          omega
    subst e
    rw [sorted_eq p.cons_inv k1.2 k2.2]
theorem sort_of {l ms : List Int} (h1 : ms.Perm l) (h2 : ms.Pairwise (· ≤ ·)) : ms = sortI l := sorted_eq (h1.trans (sort_perm l).symm) h2 (sort_sorted l)
def flat1 : PyData → Prop
  | .int _ => True
  | .tuple ds => ∀ d ∈ ds, ∃ i, d = .int i
  | _ => False
theorem ints_plain (is : List Int) : plainD (.tuple (is.map .int)) = true := plain_of fun d hd => by
  obtain ⟨i, _, rfl⟩ := List.mem_map.mp hd
  rfl
theorem ints_shaped (is : List Int) : SeqAt.shaped (.tuple (is.map .int)) = true := shaped_of (ints_plain is) (Nat.le_trans (Nat.succ_le_succ (depth_of (n := 0) fun d hd => by
  obtain ⟨i, _, rfl⟩ := List.mem_map.mp hd
  exact Nat.le_refl 0)) (by decide))

/-! ### the program's operations -/
def R_not : PR := RV .nt
def R_and : PR := RV .an
def R_or : PR := RV .orr
def R_xor : PR := RV .xr
def R_eq : PR := RV .eq
def R_ne : PR := RV .ne
def R_lt : PR := RV .lt
def R_le : PR := RV .le
def R_neg : PR := RV .ng
def R_add : PR := RV .ad
def R_sub : PR := RV .sb
def R_mul : PR := RV .ml
def R_div : PR := RV .dv
def R_min : PR := RV .mn
def R_max : PR := RV .mx
def R_mid : PR := RV .md
def R_as : PR := RV .ass
def R_p_pick : PR := RV .pk
def R_vote : PR := RV .vt
def R_row : PR := RV .rw
def R_at : PR := RV .att
def R_put : PR := RV .pt
def R_sum : PR := RV .sm
def R_any : PR := RV .ay
def R_all : PR := RV .al
def R_place : PR := fun as C => ∃ (lo hi per x : Int) (how : Str), as = [.dat (numR lo hi per how).d, .dat (.int x)] ∧ 1 ≤ per ∧ per ≤ 100 ∧ C (.dat (.int (x / per))) as
/-- == of two values of one kind -/
theorem same_vals {r : Rk} {v u : PyData} {env : PEnv} {C : PK} (hv : VIn r v) (hu : VIn r u) (h : C (.dat (.bool (sameV v u))) env) : pEq env (.dat v) (.dat u) C := by
  cases r with
  | p k =>
    obtain ⟨i, rfl, _⟩ := hv
    obtain ⟨j, rfl, _⟩ := hu
    exact h
  | r k n =>
    obtain ⟨is, rfl, _⟩ := hv
    obtain ⟨js, rfl, _⟩ := hu
    exact ⟨ints_shaped is, ints_shaped js, h⟩
theorem differ_vals {r : Rk} {v u : PyData} {env : PEnv} {C : PK} (hv : VIn r v) (hu : VIn r u) (h : C (.dat (.bool (!sameV v u))) env) : pNe env (.dat v) (.dat u) C := by
  cases r with
  | p k =>
    obtain ⟨i, rfl, _⟩ := hv
    obtain ⟨j, rfl, _⟩ := hu
    exact h
  | r k n =>
    obtain ⟨is, rfl, _⟩ := hv
    obtain ⟨js, rfl, _⟩ := hu
    exact ⟨ints_shaped is, ints_shaped js, h⟩
theorem prod_small {a b : Int} (ha : -1000 ≤ a ∧ a ≤ 1000) (hb : -1000 ≤ b ∧ b ≤ 1000) : CMul a b := .inl ⟨by omega, by omega⟩
section
variable {P : Program} {w : World} {K : PySem.W.Frag} {mg : Str → Option Value} {base : Heap}
theorem okp_place (T : Tx K mg w base) : FnOk P w K mg base CX0 1 T.f_place T.fd_place ["kind", "number"] (spP K T.tbs 2 R_place) := by
  refine okP T.F_place sc_place rfl fun cdv A outer s H E G hG hcd hr => ⟨_, (pss_oneP (ps_retP (pe_opP op_fdiv li_fdiv (pe_borP (pv 1)) (pe_ixP (pe_borP (pv 0)) (pe_cP (d := .int 3) pe_int) (fun _ _ => rfl) li_ix)))), fun as C hl h => ?_⟩
  obtain ⟨lo, hi, per, x, how, rfl, p1, p2, q⟩ := h
  exact ⟨_, atD 3 rfl, ⟨by omega, by omega⟩, q⟩
theorem okp_not (T : Tx K mg w base) : FnOk P w K mg base CX0 1 T.f_not T.fd_not ["kinds", "values", "told"] (spP K T.tbs 3 R_not) := by
  refine okP T.F_not sc_not rfl fun cdv A outer s H E G hG hcd hr => ⟨_, (pss_oneP (ps_retP (pe_opP op_sub li_sub (pe_cP (d := .int 1) pe_int) (pe_ixP (pe_borP (pv 1)) (pe_cP (d := .int 0) pe_int) (fun _ _ => rfl) li_ix)))), fun as C hl h => ?_⟩
  obtain ⟨ks, t, r, vs, rfl, ft, vi, q⟩ := h
  cases ft
  obtain ⟨v, rfl, i, rfl, _⟩ := vs1 vi
  exact ⟨_, atD 0 rfl, q⟩
theorem okp_and (T : Tx K mg w base) : FnOk P w K mg base CX0 1 T.f_and T.fd_and ["kinds", "values", "told"] (spP K T.tbs 3 R_and) := by
  refine okP T.F_and sc_and rfl fun cdv A outer s H E G hG hcd hr => ⟨_, (pss_oneP (ps_retP (pe_opP op_and li_and (pe_ixP (pe_borP (pv 1)) (pe_cP (d := .int 0) pe_int) (fun _ _ => rfl) li_ix) (pe_ixP (pe_borP (pv 1)) (pe_cP (d := .int 1) pe_int) (fun _ _ => rfl) li_ix)))), fun as C hl h => ?_⟩
  obtain ⟨ks, t, r, vs, rfl, ft, vi, q⟩ := h
  cases ft
  obtain ⟨v, u, rfl, ⟨i, rfl, _⟩, j, rfl, _⟩ := vs2 vi
  exact ⟨_, atD 0 rfl, _, atD 1 rfl, q⟩
theorem okp_or (T : Tx K mg w base) : FnOk P w K mg base CX0 1 T.f_or T.fd_or ["kinds", "values", "told"] (spP K T.tbs 3 R_or) := by
  refine okP T.F_or sc_or rfl fun cdv A outer s H E G hG hcd hr => ⟨_, (pss_oneP (ps_retP (pe_opP op_or li_or (pe_ixP (pe_borP (pv 1)) (pe_cP (d := .int 0) pe_int) (fun _ _ => rfl) li_ix) (pe_ixP (pe_borP (pv 1)) (pe_cP (d := .int 1) pe_int) (fun _ _ => rfl) li_ix)))), fun as C hl h => ?_⟩
  obtain ⟨ks, t, r, vs, rfl, ft, vi, q⟩ := h
  cases ft
  obtain ⟨v, u, rfl, ⟨i, rfl, _⟩, j, rfl, _⟩ := vs2 vi
  exact ⟨_, atD 0 rfl, _, atD 1 rfl, q⟩
theorem okp_xor (T : Tx K mg w base) : FnOk P w K mg base CX0 1 T.f_xor T.fd_xor ["kinds", "values", "told"] (spP K T.tbs 3 R_xor) := by
  refine okP T.F_xor sc_xor rfl fun cdv A outer s H E G hG hcd hr => ⟨_, (pss_oneP (ps_retP (pe_opP op_xor li_xor (pe_ixP (pe_borP (pv 1)) (pe_cP (d := .int 0) pe_int) (fun _ _ => rfl) li_ix) (pe_ixP (pe_borP (pv 1)) (pe_cP (d := .int 1) pe_int) (fun _ _ => rfl) li_ix)))), fun as C hl h => ?_⟩
  obtain ⟨ks, t, r, vs, rfl, ft, vi, q⟩ := h
  cases ft
  obtain ⟨v, u, rfl, ⟨i, rfl, _⟩, j, rfl, _⟩ := vs2 vi
  exact ⟨_, atD 0 rfl, _, atD 1 rfl, q⟩
theorem okp_eq (T : Tx K mg w base) : FnOk P w K mg base CX0 1 T.f_eq T.fd_eq ["kinds", "values", "told"] (spP K T.tbs 3 R_eq) := by
  refine okP T.F_eq sc_eq rfl fun cdv A outer s H E G hG hcd hr => ⟨_, (pss_oneP (ps_retP (pe_ifP (pt_cmpP (op_eqP hr.units) li_eq (pe_ixP (pe_borP (pv 1)) (pe_cP (d := .int 0) pe_int) (fun _ _ => rfl) li_ix) (pe_ixP (pe_borP (pv 1)) (pe_cP (d := .int 1) pe_int) (fun _ _ => rfl) li_ix) (nomark _)) (pe_cP (d := .int 1) pe_int) (pe_cP (d := .int 0) pe_int)))), fun as C hl h => ?_⟩
  obtain ⟨ks, t, r, vs, rfl, ft, vi, q⟩ := h
  cases ft
  obtain ⟨v, u, rfl, hv, hu⟩ := vs2 vi
  have q : C (.dat (.int (if sameV v u then 1 else 0))) _ := q
  refine ⟨_, atD 0 rfl, _, atD 1 rfl, same_vals hv hu ?_⟩
  generalize sameV v u = b at q
  cases b with
  | true => exact .t rfl q
  | false => exact .f rfl q
theorem okp_ne (T : Tx K mg w base) : FnOk P w K mg base CX0 1 T.f_ne T.fd_ne ["kinds", "values", "told"] (spP K T.tbs 3 R_ne) := by
  refine okP T.F_ne sc_ne rfl fun cdv A outer s H E G hG hcd hr => ⟨_, (pss_oneP (ps_retP (pe_ifP (pt_cmpP (op_neP hr.units) li_ne (pe_ixP (pe_borP (pv 1)) (pe_cP (d := .int 0) pe_int) (fun _ _ => rfl) li_ix) (pe_ixP (pe_borP (pv 1)) (pe_cP (d := .int 1) pe_int) (fun _ _ => rfl) li_ix) (nomark _)) (pe_cP (d := .int 1) pe_int) (pe_cP (d := .int 0) pe_int)))), fun as C hl h => ?_⟩
  obtain ⟨ks, t, r, vs, rfl, ft, vi, q⟩ := h
  cases ft
  obtain ⟨v, u, rfl, hv, hu⟩ := vs2 vi
  have q : C (.dat (.int (if sameV v u then 0 else 1))) _ := q
  refine ⟨_, atD 0 rfl, _, atD 1 rfl, differ_vals hv hu ?_⟩
  generalize sameV v u = b at q
  cases b with
  | true => exact .f rfl q
  | false => exact .t rfl q
theorem okp_lt (T : Tx K mg w base) : FnOk P w K mg base CX0 1 T.f_lt T.fd_lt ["kinds", "values", "told"] (spP K T.tbs 3 R_lt) := by
  refine okP T.F_lt sc_lt rfl fun cdv A outer s H E G hG hcd hr => ⟨_, (pss_oneP (ps_retP (pe_ifP (pt_cmpP op_lt li_lt (pe_ixP (pe_borP (pv 1)) (pe_cP (d := .int 0) pe_int) (fun _ _ => rfl) li_ix) (pe_ixP (pe_borP (pv 1)) (pe_cP (d := .int 1) pe_int) (fun _ _ => rfl) li_ix) (nomark _)) (pe_cP (d := .int 1) pe_int) (pe_cP (d := .int 0) pe_int)))), fun as C hl h => ?_⟩
  obtain ⟨ks, t, r, vs, rfl, ft, vi, q⟩ := h
  cases ft
  obtain ⟨v, u, rfl, ⟨i, rfl, _⟩, j, rfl, _⟩ := vs2 vi
  have q : C (.dat (.int (if i < j then 1 else 0))) _ := q
  refine ⟨_, atD 0 rfl, _, atD 1 rfl, IfP.both (fun h => ?_) fun h => ?_⟩
  · rw [if_pos (show i < j from of_decide_eq_true h)] at q
    exact q
  · rw [if_neg (show ¬ i < j from of_decide_eq_false h)] at q
    exact q
theorem okp_le (T : Tx K mg w base) : FnOk P w K mg base CX0 1 T.f_le T.fd_le ["kinds", "values", "told"] (spP K T.tbs 3 R_le) := by
  refine okP T.F_le sc_le rfl fun cdv A outer s H E G hG hcd hr => ⟨_, (pss_oneP (ps_retP (pe_ifP (pt_cmpP op_le li_le (pe_ixP (pe_borP (pv 1)) (pe_cP (d := .int 0) pe_int) (fun _ _ => rfl) li_ix) (pe_ixP (pe_borP (pv 1)) (pe_cP (d := .int 1) pe_int) (fun _ _ => rfl) li_ix) (nomark _)) (pe_cP (d := .int 1) pe_int) (pe_cP (d := .int 0) pe_int)))), fun as C hl h => ?_⟩
  obtain ⟨ks, t, r, vs, rfl, ft, vi, q⟩ := h
  cases ft
  obtain ⟨v, u, rfl, ⟨i, rfl, _⟩, j, rfl, _⟩ := vs2 vi
  have q : C (.dat (.int (if i ≤ j then 1 else 0))) _ := q
  refine ⟨_, atD 0 rfl, _, atD 1 rfl, IfP.both (fun h => ?_) fun h => ?_⟩
  · rw [if_pos (show i ≤ j from of_decide_eq_true h)] at q
    exact q
  · rw [if_neg (show ¬ i ≤ j from of_decide_eq_false h)] at q
    exact q
theorem okp_neg (T : Tx K mg w base) : FnOk P w K mg base CX0 2 T.f_neg T.fd_neg ["kinds", "values", "told"] (spP K T.tbs 3 R_neg) := by
  refine okP T.F_neg sc_neg rfl fun cdv A outer s H E G hG hcd hr => ⟨_, (pss_oneP (ps_retP (pe_callP hG (pe_call (okp_p_fit T) (hr.mono (by decide)) rfl T.m_p_fit T.F_p_fit.kp T.b_p_fit .nil pass0 (pa_consP (pe_ixP (pe_borP (pv 0)) (pe_cP (d := .int 0) pe_int) (fun _ _ => rfl) li_ix) (pa_consP (pe_negP (pe_ixP (pe_borP (pv 1)) (pe_cP (d := .int 0) pe_int) (fun _ _ => rfl) li_ix)) pa_nilP)))))), fun as C hl h => ?_⟩
  obtain ⟨ks, t, r, vs, rfl, ft, vi, q⟩ := h
  cases ft with
  | ng ok =>
    obtain ⟨v, rfl, i, rfl, _⟩ := vs1 vi
    exact ⟨_, atD 0 rfl, _, atD 0 rfl, _, _, _, _, _, rfl, ok, q⟩
theorem okp_add (T : Tx K mg w base) : FnOk P w K mg base CX0 2 T.f_add T.fd_add ["kinds", "values", "told"] (spP K T.tbs 3 R_add) := by
  refine okP T.F_add sc_add rfl fun cdv A outer s H E G hG hcd hr => ⟨_, (pss_oneP (ps_retP (pe_callP hG (pe_call (okp_p_fit T) (hr.mono (by decide)) rfl T.m_p_fit T.F_p_fit.kp T.b_p_fit .nil pass0 (pa_consP (pe_ixP (pe_borP (pv 0)) (pe_cP (d := .int 0) pe_int) (fun _ _ => rfl) li_ix) (pa_consP (pe_opP op_addP li_add (pe_ixP (pe_borP (pv 1)) (pe_cP (d := .int 0) pe_int) (fun _ _ => rfl) li_ix) (pe_ixP (pe_borP (pv 1)) (pe_cP (d := .int 1) pe_int) (fun _ _ => rfl) li_ix)) pa_nilP)))))), fun as C hl h => ?_⟩
  obtain ⟨ks, t, r, vs, rfl, ft, vi, q⟩ := h
  cases ft with
  | ad ok =>
    obtain ⟨v, u, rfl, ⟨i, rfl, _⟩, j, rfl, _⟩ := vs2 vi
    exact ⟨_, atD 0 rfl, _, atD 0 rfl, _, atD 1 rfl, _, _, _, _, _, rfl, ok, q⟩
theorem okp_sub (T : Tx K mg w base) : FnOk P w K mg base CX0 2 T.f_sub T.fd_sub ["kinds", "values", "told"] (spP K T.tbs 3 R_sub) := by
  refine okP T.F_sub sc_sub rfl fun cdv A outer s H E G hG hcd hr => ⟨_, (pss_oneP (ps_retP (pe_callP hG (pe_call (okp_p_fit T) (hr.mono (by decide)) rfl T.m_p_fit T.F_p_fit.kp T.b_p_fit .nil pass0 (pa_consP (pe_ixP (pe_borP (pv 0)) (pe_cP (d := .int 0) pe_int) (fun _ _ => rfl) li_ix) (pa_consP (pe_opP op_sub li_sub (pe_ixP (pe_borP (pv 1)) (pe_cP (d := .int 0) pe_int) (fun _ _ => rfl) li_ix) (pe_ixP (pe_borP (pv 1)) (pe_cP (d := .int 1) pe_int) (fun _ _ => rfl) li_ix)) pa_nilP)))))), fun as C hl h => ?_⟩
  obtain ⟨ks, t, r, vs, rfl, ft, vi, q⟩ := h
  cases ft with
  | sb ok =>
    obtain ⟨v, u, rfl, ⟨i, rfl, _⟩, j, rfl, _⟩ := vs2 vi
    exact ⟨_, atD 0 rfl, _, atD 0 rfl, _, atD 1 rfl, _, _, _, _, _, rfl, ok, q⟩
theorem okp_mul (T : Tx K mg w base) : FnOk P w K mg base CX0 2 T.f_mul T.fd_mul ["kinds", "values", "told"] (spP K T.tbs 3 R_mul) := by
  refine okP T.F_mul sc_mul rfl fun cdv A outer s H E G hG hcd hr => ⟨_, (pss_oneP (ps_retP (pe_callP hG (pe_call (okp_p_fit T) (hr.mono (by decide)) rfl T.m_p_fit T.F_p_fit.kp T.b_p_fit .nil pass0 (pa_consP (pe_ixP (pe_borP (pv 0)) (pe_cP (d := .int 0) pe_int) (fun _ _ => rfl) li_ix) (pa_consP (pe_opP op_fdiv li_fdiv (pe_opP op_mulP li_mul (pe_ixP (pe_borP (pv 1)) (pe_cP (d := .int 0) pe_int) (fun _ _ => rfl) li_ix) (pe_ixP (pe_borP (pv 1)) (pe_cP (d := .int 1) pe_int) (fun _ _ => rfl) li_ix)) (pe_ixP (pe_ixP (pe_borP (pv 0)) (pe_cP (d := .int 0) pe_int) (fun _ _ => rfl) li_ix) (pe_cP (d := .int 3) pe_int) (fun _ _ => rfl) li_ix)) pa_nilP)))))), fun as C hl h => ?_⟩
  obtain ⟨ks, t, r, vs, rfl, ft, vi, q⟩ := h
  cases ft with
  | ml ok =>
    rename_i lo hi per how
    obtain ⟨v, u, rfl, ⟨i, rfl, i1, i2⟩, j, rfl, j1, j2⟩ := vs2 vi
    obtain ⟨e1, e2, e3, e4, e5, e6⟩ := ok.ends
    have p1 : 1 ≤ per := e5
    have p2 : per ≤ 100 := e6
    exact ⟨_, atD 0 rfl, _, atD 0 rfl, _, atD 1 rfl, prod_small ⟨by omega, by omega⟩ ⟨by omega, by omega⟩, _, atD 0 rfl, _, atD 3 rfl, ⟨by omega, by omega⟩, _, _, _, _, _, rfl, ok, q⟩
theorem okp_div (T : Tx K mg w base) : FnOk P w K mg base CX0 9 T.f_div T.fd_div ["kinds", "values", "told"] (spP K T.tbs 3 R_div) := by
  refine okP T.F_div sc_div rfl fun cdv A outer s H E G hG hcd hr => ⟨_, (pss_consP (ps_setP (ps_set (i := 3) sc_div.nd rfl (Or.inl rfl) (pe_ixP (pe_borP (pv 0)) (pe_cP (d := .int 0) pe_int) (fun _ _ => rfl) li_ix)))
      (pss_consP (ps_asgP (ps_asg (pe_varP (pv 1)) (pg_tupP (n := 2) rfl (pgs_consP (pg_nameP (pg_name (i := 4) sc_div.nd rfl (Or.inl rfl))) (pgs_consP (pg_nameP (pg_name (i := 5) sc_div.nd rfl (Or.inl rfl))) pgs_nilP)))))
      (pss_consP (ps_ifP (pt_cmpP (op_neP hr.units) li_ne (pe_borP (pv 5)) (pe_cP (d := .int 0) pe_int) (nomark _)) (pss_oneP (ps_retP (pe_callP hG (pe_call (okp_p_fit T) (hr.mono (by decide)) rfl T.m_p_fit T.F_p_fit.kp T.b_p_fit .nil pass0 (pa_consP (pe_borP (pv 3)) (pa_consP (pe_opP op_fdivN li_fdivN (pe_opP op_mulP li_mul (pe_borP (pv 4)) (pe_ixP (pe_borP (pv 3)) (pe_cP (d := .int 3) pe_int) (fun _ _ => rfl) li_ix)) (pe_borP (pv 5))) pa_nilP)))))) pss_nilP)
      (pss_consP (ps_ifP (pt_cmpP (op_eqP hr.units) li_eq (pe_borP (pv 4)) (pe_cP (d := .int 0) pe_int) (nomark _)) (pss_oneP (ps_retP (pe_callP hG (pe_call (okp_zero T) (hr.mono (by decide)) rfl T.m_zero T.F_zero.kp T.b_zero .nil pass0 (pa_consP (pe_borP (pv 3)) pa_nilP))))) pss_nilP)
      (pss_oneP (ps_retP (pe_ifP (pt_cmpP op_gt li_gt (pe_borP (pv 4)) (pe_cP (d := .int 0) pe_int) (nomark _)) (pe_ixP (pe_borP (pv 3)) (pe_cP (d := .int 2) pe_int) (fun _ _ => rfl) li_ix) (pe_ixP (pe_borP (pv 3)) (pe_cP (d := .int 1) pe_int) (fun _ _ => rfl) li_ix)))))))), fun as C hl h => ?_⟩
  obtain ⟨ks, t, r, vs, rfl, ft, vi, q⟩ := h
  cases ft with
  | dv ok =>
    rename_i lo hi per how
    obtain ⟨v, u, rfl, ⟨i, rfl, i1, i2⟩, j, rfl, j1, j2⟩ := vs2 vi
    obtain ⟨e1, e2, e3, e4, e5, e6⟩ := ok.ends
    have q : C (.dat (.int (if j ≠ 0 then fitI lo hi how ((i * per).fdiv j) else if i = 0 then fitI lo hi how 0 else if 0 < i then hi else lo))) _ := q
    refine ⟨_, atD 0 rfl, rfl, IfP.nei (fun h1 => ?_) fun h1 => ?_⟩
    · rw [if_pos h1] at q
      have : Kd.lo (.num lo hi per how) ≤ j := j1
      refine ⟨_, atD 3 rfl, prod_small ⟨by omega, by omega⟩ ⟨by show -1000 ≤ Kd.per (.num lo hi per how); omega, by show Kd.per (.num lo hi per how) ≤ 1000; omega⟩, ⟨h1, by omega⟩, lo, hi, per, _, how, rfl, ok, q⟩
    · rw [if_neg (by simpa using h1)] at q
      refine IfP.eqi (fun h2 => ?_) fun h2 => ?_
      · rw [if_pos h2] at q
        exact ⟨numR lo hi per how, rfl, ok, (fun z => by cases z), q⟩
      · rw [if_neg h2] at q
        refine IfP.both (fun h3 => ?_) fun h3 => ?_
        · rw [if_pos (show 0 < i from of_decide_eq_true h3)] at q
          exact ⟨_, atD 2 rfl, q⟩
        · rw [if_neg (show ¬ 0 < i from of_decide_eq_false h3)] at q
          exact ⟨_, atD 1 rfl, q⟩
theorem okp_min (T : Tx K mg w base) : FnOk P w K mg base CX0 1 T.f_min T.fd_min ["kinds", "values", "told"] (spP K T.tbs 3 R_min) := by
  refine okP T.F_min sc_min rfl fun cdv A outer s H E G hG hcd hr => ⟨_, (pss_oneP (ps_retP (pe_cbP lc_min (pe_callB (call_minP rfl) (by rfl) T.z_min (by decide +kernel) (pa_consP (pe_ixP (pe_borP (pv 1)) (pe_cP (d := .int 0) pe_int) (fun _ _ => rfl) li_ix) (pa_consP (pe_ixP (pe_borP (pv 1)) (pe_cP (d := .int 1) pe_int) (fun _ _ => rfl) li_ix) pa_nilP)))))), fun as C hl h => ?_⟩
  obtain ⟨ks, t, r, vs, rfl, ft, vi, q⟩ := h
  cases ft
  obtain ⟨v, u, rfl, ⟨i, rfl, _⟩, j, rfl, _⟩ := vs2 vi
  exact ⟨_, atD 0 rfl, _, atD 1 rfl, q⟩
theorem okp_max (T : Tx K mg w base) : FnOk P w K mg base CX0 1 T.f_max T.fd_max ["kinds", "values", "told"] (spP K T.tbs 3 R_max) := by
  refine okP T.F_max sc_max rfl fun cdv A outer s H E G hG hcd hr => ⟨_, (pss_oneP (ps_retP (pe_cbP lc_max (pe_callB (call_maxP rfl) (by rfl) T.z_max (by decide +kernel) (pa_consP (pe_ixP (pe_borP (pv 1)) (pe_cP (d := .int 0) pe_int) (fun _ _ => rfl) li_ix) (pa_consP (pe_ixP (pe_borP (pv 1)) (pe_cP (d := .int 1) pe_int) (fun _ _ => rfl) li_ix) pa_nilP)))))), fun as C hl h => ?_⟩
  obtain ⟨ks, t, r, vs, rfl, ft, vi, q⟩ := h
  cases ft
  obtain ⟨v, u, rfl, ⟨i, rfl, _⟩, j, rfl, _⟩ := vs2 vi
  exact ⟨_, atD 0 rfl, _, atD 1 rfl, q⟩
theorem okp_mid (T : Tx K mg w base) : FnOk P w K mg base CX0 1 T.f_mid T.fd_mid ["kinds", "values", "told"] (spP K T.tbs 3 R_mid) := by
  refine okP T.F_mid sc_mid rfl fun cdv A outer s H E G hG hcd hr => ⟨_, (pss_oneP (ps_retP (pe_ixP (pe_cbP lc_sortA (pe_callB call_sortA (by rfl) T.z_sorted (by decide +kernel) (pa_consP (pe_borP (pv 1)) pa_nilP))) (pe_cP (d := .int 1) pe_int) (fun _ _ => rfl) li_ix))), fun as C hl h => ?_⟩
  obtain ⟨ks, t, r, vs, rfl, ft, vi, q⟩ := h
  cases ft
  obtain ⟨v, u, x, rfl, ⟨i, rfl, _⟩, ⟨j, rfl, _⟩, k, rfl, _⟩ := vs3 vi
  refine ⟨[i, j, k], rfl, fun ms h1 h2 => ?_⟩
  obtain rfl := sort_of h1 h2
  have l3 := (sort_perm [i, j, k]).length_eq
  obtain ⟨a, b, c, e⟩ := len3 (l := sortI [i, j, k]) l3
  have q : C (.dat (.int ((sortI [i, j, k]).getD 1 0))) _ := q
  rw [e] at q ⊢
  exact ⟨_, atD 1 rfl, q⟩
theorem okp_as (T : Tx K mg w base) : FnOk P w K mg base CX0 2 T.f_as T.fd_as ["kinds", "values", "told"] (spP K T.tbs 3 R_as) := by
  refine okP T.F_as sc_as rfl fun cdv A outer s H E G hG hcd hr => ⟨_, (pss_oneP (ps_retP (pe_callP hG (pe_call (okp_p_fit T) (hr.mono (by decide)) rfl T.m_p_fit T.F_p_fit.kp T.b_p_fit .nil pass0 (pa_consP (pe_borP (pv 2)) (pa_consP (pe_opP op_fdiv li_fdiv (pe_opP op_mulP li_mul (pe_ixP (pe_borP (pv 1)) (pe_cP (d := .int 0) pe_int) (fun _ _ => rfl) li_ix) (pe_ixP (pe_borP (pv 2)) (pe_cP (d := .int 3) pe_int) (fun _ _ => rfl) li_ix)) (pe_ixP (pe_ixP (pe_borP (pv 0)) (pe_cP (d := .int 0) pe_int) (fun _ _ => rfl) li_ix) (pe_cP (d := .int 3) pe_int) (fun _ _ => rfl) li_ix)) pa_nilP)))))), fun as C hl h => ?_⟩
  obtain ⟨ks, t, r, vs, rfl, ft, vi, q⟩ := h
  cases ft with
  | ass ok ok' =>
    rename_i lo hi per how lo' hi' per' how'
    obtain ⟨v, rfl, i, rfl, i1, i2⟩ := vs1 vi
    obtain ⟨e1, e2, e3, e4, e5, e6⟩ := ok.ends
    obtain ⟨f1, f2, f3, f4, f5, f6⟩ := ok'.ends
    have p1 : 1 ≤ per := e5
    have p2 : per ≤ 100 := e6
    have p3 : 1 ≤ per' := f5
    have p4 : per' ≤ 100 := f6
    exact ⟨_, atD 0 rfl, _, atD 3 rfl, prod_small ⟨by omega, by omega⟩ ⟨by omega, by omega⟩, _, atD 0 rfl, _, atD 3 rfl, ⟨by omega, by omega⟩, _, _, _, _, _, rfl, ok', q⟩
theorem okp_p_pick (T : Tx K mg w base) : FnOk P w K mg base CX0 1 T.f_p_pick T.fd_p_pick ["kinds", "values", "told"] (spP K T.tbs 3 R_p_pick) := by
  refine okP T.F_p_pick sc_p_pick rfl fun cdv A outer s H E G hG hcd hr => ⟨_, (pss_oneP (ps_retP (pe_ifP (pt_cmpP (op_eqP hr.units) li_eq (pe_ixP (pe_borP (pv 1)) (pe_cP (d := .int 0) pe_int) (fun _ _ => rfl) li_ix) (pe_cP (d := .int 1) pe_int) (nomark _)) (pe_ixP (pe_borP (pv 1)) (pe_cP (d := .int 1) pe_int) (fun _ _ => rfl) li_ix) (pe_ixP (pe_borP (pv 1)) (pe_cP (d := .int 2) pe_int) (fun _ _ => rfl) li_ix)))), fun as C hl h => ?_⟩
  obtain ⟨ks, t, r, vs, rfl, ft, vi, q⟩ := h
  cases ft
  obtain ⟨v, u, x, rfl, ⟨i, rfl, _⟩, hu, hx⟩ := vs3 vi
  have q : C (.dat (if i = 1 then u else x)) _ := q
  refine ⟨_, atD 0 rfl, IfP.eqi (fun h1 => ?_) fun h1 => ?_⟩
  · rw [if_pos h1] at q
    exact ⟨_, atD 1 rfl, q⟩
  · rw [if_neg h1] at q
    exact ⟨_, atD 2 rfl, q⟩
theorem okp_vote (T : Tx K mg w base) : FnOk P w K mg base CX0 1 T.f_vote T.fd_vote ["kinds", "values", "told"] (spP K T.tbs 3 R_vote) := by
  refine okP T.F_vote sc_vote rfl fun cdv A outer s H E G hG hcd hr => ⟨_, (pss_oneP (ps_retP (pe_ifP (pt_cmpP (op_eqP hr.units) li_eq (pe_ixP (pe_borP (pv 1)) (pe_cP (d := .int 0) pe_int) (fun _ _ => rfl) li_ix) (pe_ixP (pe_borP (pv 1)) (pe_cP (d := .int 1) pe_int) (fun _ _ => rfl) li_ix) (nomark _)) (pe_ixP (pe_borP (pv 1)) (pe_cP (d := .int 0) pe_int) (fun _ _ => rfl) li_ix) (pe_ixP (pe_borP (pv 1)) (pe_cP (d := .int 2) pe_int) (fun _ _ => rfl) li_ix)))), fun as C hl h => ?_⟩
  obtain ⟨ks, t, r, vs, rfl, ft, vi, q⟩ := h
  cases ft
  obtain ⟨v, u, x, rfl, hv, hu, hx⟩ := vs3 vi
  have q : C (.dat (if sameV v u then v else x)) _ := q
  refine ⟨_, atD 0 rfl, _, atD 1 rfl, same_vals hv hu ?_⟩
  generalize sameV v u = b at q
  cases b with
  | true => exact .t rfl ⟨_, atD 0 rfl, q⟩
  | false => exact .f rfl ⟨_, atD 2 rfl, q⟩
theorem okp_row (T : Tx K mg w base) : FnOk P w K mg base CX0 1 T.f_row T.fd_row ["kinds", "values", "told"] (spP K T.tbs 3 R_row) := by
  refine okP T.F_row sc_row rfl fun cdv A outer s H E G hG hcd hr => ⟨_, (pss_oneP (ps_retP (pe_cbP lc_tup (pe_callTy (show CallR _ (.type "tuple") (rTupOf K) from call_tup) (by rfl) T.z_tuple (by decide +kernel) (pa_consP (pe_borP (pv 1)) pa_nilP))))), fun as C hl h => ?_⟩
  obtain ⟨ks, t, r, vs, rfl, ft, vi, q⟩ := h
  cases ft
  exact q
end

/-! ### rows; result -/
theorem place_lt {x : Int} {n : Nat} (h : 1 ≤ n) : place x n < n := by
  unfold place
  split
  · omega
  · split <;> omega
theorem sumF_snoc (f : Int → Int) : ∀ (l : List Int) (t x : Int), sumF f t (l ++ [x]) = f (sumF f t l + x)
  | [], t, x => rfl
  | y :: l, t, x => sumF_snoc f l (f (t + y)) x
theorem any_one {is : List Int} (h : ∀ i ∈ is, 0 ≤ i ∧ i ≤ 1) {m : Int} (hm : m ∈ is) (hy : ∀ y, y ∈ is → y ≤ m) : m = if (is.map PyData.int).any isOne then 1 else 0 := by
  by_cases e : (is.map PyData.int).any isOne = true
  · rw [if_pos e]
    obtain ⟨d, hd, h1⟩ := List.any_eq_true.mp e
    obtain ⟨i, hi, rfl⟩ := List.mem_map.mp hd
    have : i = 1 := of_decide_eq_true h1
    have := hy i hi
    have := h m hm
    omega
  · rw [if_neg e]
    have := h m hm
    by_cases z : m = 1
    · exact absurd (List.any_eq_true.mpr ⟨.int m, List.mem_map.mpr ⟨m, hm, rfl⟩, (show isOne (.int m) = true from decide_eq_true z)⟩) e
    · omega
theorem all_one {is : List Int} (h : ∀ i ∈ is, 0 ≤ i ∧ i ≤ 1) {m : Int} (hm : m ∈ is) (hy : ∀ y, y ∈ is → m ≤ y) : m = if (is.map PyData.int).any isNil then 0 else 1 := by
  by_cases e : (is.map PyData.int).any isNil = true
  · rw [if_pos e]
    obtain ⟨d, hd, h1⟩ := List.any_eq_true.mp e
    obtain ⟨i, hi, rfl⟩ := List.mem_map.mp hd
    have : i = 0 := of_decide_eq_true h1
    have := hy i hi
    have := h m hm
    omega
  · rw [if_neg e]
    have := h m hm
    by_cases z : m = 0
    · exact absurd (List.any_eq_true.mpr ⟨.int m, List.mem_map.mpr ⟨m, hm, rfl⟩, (show isNil (.int m) = true from decide_eq_true z)⟩) e
    · omega
def R_result : PR := fun as C => ∃ (op : Op) (ks : List Rk) (t : Option Kd) (r : Rk) (vs : List PyData), as = [.dat (.str op.s), .dat (ksD ks), .dat (.tuple vs), .dat (toldD t)] ∧ Fit op ks t r ∧ VsIn ks vs ∧ C (.dat (opV op ks t vs)) as
section
variable {P : Program} {w : World} {K : PySem.W.Frag} {mg : Str → Option Value} {base : Heap}
theorem okp_at (T : Tx K mg w base) : FnOk P w K mg base CX0 2 T.f_at T.fd_at ["kinds", "values", "told"] (spP K T.tbs 3 R_at) := by
  refine okP T.F_at sc_at rfl fun cdv A outer s H E G hG hcd hr => ⟨_, (pss_consP (ps_setP (ps_set (i := 3) sc_at.nd rfl (Or.inl rfl) (pe_ixP (pe_borP (pv 1)) (pe_cP (d := .int 0) pe_int) (fun _ _ => rfl) li_ix)))
      (pss_consP (ps_setP (ps_set (i := 4) sc_at.nd rfl (Or.inl rfl) (pe_callP hG (pe_call (okp_place T) (hr.mono (by decide)) rfl T.m_place T.F_place.kp T.b_place .nil pass0 (pa_consP (pe_ixP (pe_borP (pv 0)) (pe_cP (d := .int 1) pe_int) (fun _ _ => rfl) li_ix) (pa_consP (pe_ixP (pe_borP (pv 1)) (pe_cP (d := .int 1) pe_int) (fun _ _ => rfl) li_ix) pa_nilP))))))
      (pss_oneP (ps_retP (pe_ixP (pe_borP (pv 3)) (pe_cbP lc_min (pe_callB (call_minP rfl) (by rfl) T.z_min (by decide +kernel) (pa_consP (pe_cbP lc_max (pe_callB (call_maxP rfl) (by rfl) T.z_max (by decide +kernel) (pa_consP (pe_borP (pv 4)) (pa_consP (pe_cP (d := .int 0) pe_int) pa_nilP)))) (pa_consP (pe_opP op_sub li_sub (pe_cbP lc_len (pe_callB call_lenP (by rfl) T.z_len (by decide +kernel) (pa_consP (pe_borP (pv 3)) pa_nilP))) (pe_cP (d := .int 1) pe_int)) pa_nilP)))) (fun _ _ => rfl) li_ix))))), fun as C hl h => ?_⟩
  obtain ⟨ks, t, r, vs, rfl, ft, vi, q⟩ := h
  cases ft with
  | att ok ok' =>
    rename_i k n lo hi per how
    obtain ⟨v, u, rfl, ⟨is, rfl, ln, mi⟩, j, rfl, j1, j2⟩ := vs2 vi
    obtain ⟨e1, e2, e3, e4, e5, e6⟩ := ok'.ends
    have p1 : 1 ≤ per := e5
    have p2 : per ≤ 100 := e6
    have n1 : 1 ≤ is.length := by have := ok.2.1; omega
    have lm : (is.map PyData.int).length = is.length := List.length_map _
    refine ⟨_, atD 0 rfl, _, atD 1 rfl, _, atD 1 rfl, lo, hi, per, j, how, rfl, p1, p2, ?_⟩
    have pl := place_lt (x := j / per) n1
    have hd := List.getElem?_eq_getElem (l := is.map PyData.int) (i := place (j / per) is.length) (by rw [lm]; exact pl)
    have q : C (.dat ((is.map PyData.int).getD (place (j / per) (is.map PyData.int).length) .none)) _ := q
    rw [lm] at q
    rw [List.getD_eq_getElem?_getD, hd] at q
    refine ⟨_, ?_, q⟩
    have ei : (if (((is.map PyData.int).length : Nat) : Int) - 1 < (if (0 : Int) > j / per then 0 else j / per) then (((is.map PyData.int).length : Nat) : Int) - 1 else (if (0 : Int) > j / per then 0 else j / per)) = ((place (j / per) is.length : Nat) : Int) := by
      rw [lm]
      unfold place
      generalize j / per = x
      by_cases a : x < 0
      · rw [if_pos a, if_pos a, if_neg (by omega)]
        rfl
      · rw [if_neg a, if_neg (show ¬ (0 : Int) > x from a)]
        by_cases b : x < (is.length : Int)
        · rw [if_pos b, if_neg (by omega)]
          omega
        · rw [if_neg b, if_pos (by omega)]
          omega
    show atI _ _ = _
    rw [ei]
    exact atD _ hd
theorem okp_put (T : Tx K mg w base) : FnOk P w K mg base CX0 2 T.f_put T.fd_put ["kinds", "values", "told"] (spP K T.tbs 3 R_put) := by
  refine okP T.F_put sc_put rfl fun cdv A outer s H E G hG hcd hr => ⟨_, (pss_consP (ps_setP (ps_set (i := 3) sc_put.nd rfl (Or.inl rfl) (pe_ixP (pe_borP (pv 1)) (pe_cP (d := .int 0) pe_int) (fun _ _ => rfl) li_ix)))
      (pss_consP (ps_setP (ps_set (i := 4) sc_put.nd rfl (Or.inl rfl) (pe_callP hG (pe_call (okp_place T) (hr.mono (by decide)) rfl T.m_place T.F_place.kp T.b_place .nil pass0 (pa_consP (pe_ixP (pe_borP (pv 0)) (pe_cP (d := .int 1) pe_int) (fun _ _ => rfl) li_ix) (pa_consP (pe_ixP (pe_borP (pv 1)) (pe_cP (d := .int 1) pe_int) (fun _ _ => rfl) li_ix) pa_nilP))))))
      (pss_consP (ps_ifP (pt_notP (pt_chainP (pt_chain op_le op_lt (pe_cP (d := .int 0) pe_int) (pe_borP (pv 4)) (pe_cbP lc_len (pe_callB call_lenP (by rfl) T.z_len (by decide +kernel) (pa_consP (pe_borP (pv 3)) pa_nilP)))))) (pss_oneP (ps_retMvP (pv 3))) pss_nilP)
      (pss_oneP (ps_retP (pe_opP op_addP li_add (pe_opP op_addP li_add (pe_sliceP (pe_borP (pv 3)) po_noneP (po_someP (pe_borP (pv 4)))) (pe_tupP (pa_consP (pe_ixP (pe_borP (pv 1)) (pe_cP (d := .int 2) pe_int) (fun _ _ => rfl) li_ix) pa_nilP))) (pe_sliceP (pe_borP (pv 3)) (po_someP (pe_opP op_addP li_add (pe_borP (pv 4)) (pe_cP (d := .int 1) pe_int))) po_noneP))))))), fun as C hl h => ?_⟩
  obtain ⟨ks, t, r, vs, rfl, ft, vi, q⟩ := h
  cases ft with
  | pt ok ok' =>
    rename_i k n lo hi per how
    obtain ⟨v, u, x, rfl, ⟨is, rfl, ln, mi⟩, ⟨j, rfl, j1, j2⟩, hx⟩ := vs3 vi
    obtain ⟨e1, e2, e3, e4, e5, e6⟩ := ok'.ends
    have p1 : 1 ≤ per := e5
    have p2 : per ≤ 100 := e6
    have lm : (is.map PyData.int).length = is.length := List.length_map _
    refine ⟨_, atD 0 rfl, _, atD 1 rfl, _, atD 1 rfl, lo, hi, per, j, how, rfl, p1, p2, ?_⟩
    have q : C (.dat (if 0 ≤ j / per ∧ j / per < (((is.map PyData.int).length : Nat) : Int) then .tuple (cutP (is.map PyData.int) none (some (j / per)) ++ [x] ++ cutP (is.map PyData.int) (some (j / per + 1)) none) else .tuple (is.map PyData.int))) _ := q
    generalize hz : j / per = z at q
    refine IfP.both (fun h1 => ?_) fun h1 => ?_
    · have h1 : 0 ≤ z := of_decide_eq_true h1
      refine IfP.nb (fun h2 => ?_) fun h2 => ?_
      · have h2 : ¬ z < (((is.map PyData.int).length : Nat) : Int) := of_decide_eq_false h2
        rw [if_neg fun e => h2 e.2] at q
        exact q
      · have h2 : z < (((is.map PyData.int).length : Nat) : Int) := of_decide_eq_true h2
        rw [if_pos ⟨h1, h2⟩] at q
        obtain ⟨js, e1, _, l1⟩ := cutP_map PyData.int is none (some z)
        obtain ⟨ms, e2, _, l2⟩ := cutP_map PyData.int is (some (z + 1)) none
        have n6 := ok.2.2
        refine ⟨_, atD 2 rfl, szr, ?_⟩
        show (cutP (is.map PyData.int) none (some z)).length + 1 ≤ _ ∧ _
        refine ⟨by rw [e1, List.length_map]; exact szle (by omega), ?_⟩
        show (cutP (is.map PyData.int) none (some z) ++ [x]).length + (cutP (is.map PyData.int) (some (z + 1)) none).length ≤ _ ∧ _
        exact ⟨by rw [e1, e2, List.length_append, List.length_map, List.length_map]; exact szle (by show _ + 1 + _ ≤ _; omega), q⟩
    · have h1 : ¬ 0 ≤ z := of_decide_eq_false h1
      rw [if_neg fun e => h1 e.1] at q
      exact .t rfl q
theorem okp_sum (T : Tx K mg w base) : FnOk P w K mg base CX0 2 T.f_sum T.fd_sum ["kinds", "values", "told"] (spP K T.tbs 3 R_sum) := by
  refine okP T.F_sum sc_sum rfl fun cdv A outer s H E G hG hcd hr => ⟨_, (pss_consP (ps_setP (ps_set (i := 3) sc_sum.nd rfl (Or.inl rfl) (pe_ixP (pe_ixP (pe_borP (pv 1)) (pe_cP (d := .int 0) pe_int) (fun _ _ => rfl) li_ix) (pe_cP (d := .int 0) pe_int) (fun _ _ => rfl) li_ix)))
      (pss_consP (ps_forP (ps_for PassesOwn.never rfl (pi_itemsP (pe_sliceP (pe_ixP (pe_borP (pv 1)) (pe_cP (d := .int 0) pe_int) (fun _ _ => rfl) li_ix) (po_someP (pe_cP (d := .int 1) pe_int)) po_noneP)) (pg_nameP (pg_name (i := 4) sc_sum.nd rfl (Or.inl rfl)))
      (pss_oneP (ps_setP (ps_set (i := 3) sc_sum.nd rfl (Or.inl rfl) (pe_callP hG (pe_call (okp_p_fit T) (hr.mono (by decide)) rfl T.m_p_fit T.F_p_fit.kp T.b_p_fit .nil pass0 (pa_consP (pe_ixP (pe_ixP (pe_borP (pv 0)) (pe_cP (d := .int 0) pe_int) (fun _ _ => rfl) li_ix) (pe_cP (d := .int 1) pe_int) (fun _ _ => rfl) li_ix) (pa_consP (pe_opP op_addP li_add (pe_borP (pv 3)) (pe_borP (pv 4))) pa_nilP)))))))))
      (pss_oneP (ps_retMvP (pv 3))))), fun as C hl h => ?_⟩
  obtain ⟨ks, t, r, vs, rfl, ft, vi, q⟩ := h
  cases ft with
  | sm ok =>
    rename_i n lo hi per how
    obtain ⟨v, rfl, is, rfl, ln, mi⟩ := vs1 vi
    obtain ⟨a, l, rfl⟩ : ∃ a l, is = a :: l := by
      cases is with
      | nil =>
        have := ok.2.1
        have : 0 = n := ln
        omega
      | cons a l => exact ⟨a, l, rfl⟩
    have q : C (.dat (.int (sumF (fitR (numR lo hi per how)) a ((l.map PyData.int).map iAt)))) _ := q
    have el : (l.map PyData.int).map iAt = l := by
      rw [List.map_map]
      conv => rhs; rw [← List.map_id l]
      rfl
    rw [el] at q
    refine ⟨_, atD 0 rfl, _, atD 0 rfl, _, atD 0 rfl, ?_⟩
    have ec : cutP ((a :: l).map PyData.int) (some 1) none = l.map PyData.int := by
      unfold cutP
      rw [show (some (1 : Int)) = some (((1 : Nat) : Int)) from rfl, HT.sIx_nat, HT.sIx_none, List.length_map, List.length_cons, Nat.min_eq_left (by omega)]
      show ((l.map PyData.int)).take _ = _
      exact List.take_of_length_le (by rw [List.length_map]; omega)
    show ForOk (cutP ((a :: l).map PyData.int) (some 1) none) _ _ _ _
    rw [ec]
    refine ⟨fun i env => ∃ c : Cel, env = [.dat (ksD [.r (.num lo hi per how) n]), .dat (.tuple [.tuple ((a :: l).map PyData.int)]), .dat (toldD t), .dat (.int (sumF (fitR (numR lo hi per how)) a (l.take i))), c], ⟨.no, rfl⟩, ?_, ?_⟩
    · rintro i x env hx ⟨c, rfl⟩
      rw [List.getElem?_map] at hx
      obtain ⟨z, hz, rfl⟩ := Option.map_eq_some_iff.mp hx
      refine ⟨_, atD 0 rfl, _, atD 1 rfl, lo, hi, per, _, how, rfl, ok.1, .dat (.int z), ?_⟩
      rw [takeN hz, sumF_snoc]
      rfl
    · rintro env ⟨c, rfl⟩
      rw [List.length_map, List.take_length]
      exact q
theorem okp_any (T : Tx K mg w base) : FnOk P w K mg base CX0 1 T.f_any T.fd_any ["kinds", "values", "told"] (spP K T.tbs 3 R_any) := by
  refine okP T.F_any sc_any rfl fun cdv A outer s H E G hG hcd hr => ⟨_, (pss_oneP (ps_retP (pe_cbP lc_max (pe_callB (call_maxP rfl) (by rfl) T.z_max (by decide +kernel) (pa_consP (pe_ixP (pe_borP (pv 1)) (pe_cP (d := .int 0) pe_int) (fun _ _ => rfl) li_ix) pa_nilP))))), fun as C hl h => ?_⟩
  obtain ⟨ks, t, r, vs, rfl, ft, vi, q⟩ := h
  cases ft with
  | ay ok =>
    obtain ⟨v, rfl, is, rfl, ln, mi⟩ := vs1 vi
    refine ⟨_, atD 0 rfl, is, rfl, by have := ok.2.1; omega, fun m hm hy => ?_⟩
    rw [any_one mi hm hy]
    exact q
theorem okp_all (T : Tx K mg w base) : FnOk P w K mg base CX0 1 T.f_all T.fd_all ["kinds", "values", "told"] (spP K T.tbs 3 R_all) := by
  refine okP T.F_all sc_all rfl fun cdv A outer s H E G hG hcd hr => ⟨_, (pss_oneP (ps_retP (pe_cbP lc_minT (pe_callB (call_minA rfl) (by rfl) T.z_min (by decide +kernel) (pa_consP (pe_ixP (pe_borP (pv 1)) (pe_cP (d := .int 0) pe_int) (fun _ _ => rfl) li_ix) pa_nilP))))), fun as C hl h => ?_⟩
  obtain ⟨ks, t, r, vs, rfl, ft, vi, q⟩ := h
  cases ft with
  | al ok =>
    obtain ⟨v, rfl, is, rfl, ln, mi⟩ := vs1 vi
    refine ⟨_, atD 0 rfl, is, rfl, by have := ok.2.1; omega, fun m hm hy => ?_⟩
    rw [all_one mi hm hy]
    exact q
def ft_VALUE_RULES : List (Str × PR) := [("not", R_not), ("and", R_and), ("or", R_or), ("xor", R_xor), ("eq", R_eq), ("ne", R_ne), ("lt", R_lt), ("le", R_le), ("neg", R_neg), ("add", R_add), ("sub", R_sub), ("mul", R_mul), ("div", R_div), ("min", R_min), ("max", R_max), ("mid", R_mid), ("as", R_as), ("pick", R_p_pick), ("vote", R_vote), ("row", R_row), ("at", R_at), ("put", R_put), ("sum", R_sum), ("any", R_any), ("all", R_all)]
theorem fa_VALUE_RULES (T : Tx K mg w base) : ∀ z R, ft_VALUE_RULES.lookup z = some R → FnAt P w K mg base 9 T.tbs 3 ["kinds", "values", "told"] (He.ga K "VALUE_RULES") z R := fun z R h => by
  have hm : (z, R) ∈ ft_VALUE_RULES := PySem.mem_of_lookup h
  simp only [ft_VALUE_RULES, List.mem_cons, List.not_mem_nil, or_false, Prod.mk.injEq] at hm
  rcases hm with ⟨rfl, rfl⟩ | ⟨rfl, rfl⟩ | ⟨rfl, rfl⟩ | ⟨rfl, rfl⟩ | ⟨rfl, rfl⟩ | ⟨rfl, rfl⟩ | ⟨rfl, rfl⟩ | ⟨rfl, rfl⟩ | ⟨rfl, rfl⟩ | ⟨rfl, rfl⟩ | ⟨rfl, rfl⟩ | ⟨rfl, rfl⟩ | ⟨rfl, rfl⟩ | ⟨rfl, rfl⟩ | ⟨rfl, rfl⟩ | ⟨rfl, rfl⟩ | ⟨rfl, rfl⟩ | ⟨rfl, rfl⟩ | ⟨rfl, rfl⟩ | ⟨rfl, rfl⟩ | ⟨rfl, rfl⟩ | ⟨rfl, rfl⟩ | ⟨rfl, rfl⟩ | ⟨rfl, rfl⟩ | ⟨rfl, rfl⟩
  · exact ⟨⟨_, _, _, T.kd_VALUE_RULES_not, fnLk T.F_not, T.F_not.kp, by decide, okp_not T, T.b_not⟩⟩
  · exact ⟨⟨_, _, _, T.kd_VALUE_RULES_and, fnLk T.F_and, T.F_and.kp, by decide, okp_and T, T.b_and⟩⟩
  · exact ⟨⟨_, _, _, T.kd_VALUE_RULES_or, fnLk T.F_or, T.F_or.kp, by decide, okp_or T, T.b_or⟩⟩
  · exact ⟨⟨_, _, _, T.kd_VALUE_RULES_xor, fnLk T.F_xor, T.F_xor.kp, by decide, okp_xor T, T.b_xor⟩⟩
  · exact ⟨⟨_, _, _, T.kd_VALUE_RULES_eq, fnLk T.F_eq, T.F_eq.kp, by decide, okp_eq T, T.b_eq⟩⟩
  · exact ⟨⟨_, _, _, T.kd_VALUE_RULES_ne, fnLk T.F_ne, T.F_ne.kp, by decide, okp_ne T, T.b_ne⟩⟩
  · exact ⟨⟨_, _, _, T.kd_VALUE_RULES_lt, fnLk T.F_lt, T.F_lt.kp, by decide, okp_lt T, T.b_lt⟩⟩
  · exact ⟨⟨_, _, _, T.kd_VALUE_RULES_le, fnLk T.F_le, T.F_le.kp, by decide, okp_le T, T.b_le⟩⟩
  · exact ⟨⟨_, _, _, T.kd_VALUE_RULES_neg, fnLk T.F_neg, T.F_neg.kp, by decide, okp_neg T, T.b_neg⟩⟩
  · exact ⟨⟨_, _, _, T.kd_VALUE_RULES_add, fnLk T.F_add, T.F_add.kp, by decide, okp_add T, T.b_add⟩⟩
  · exact ⟨⟨_, _, _, T.kd_VALUE_RULES_sub, fnLk T.F_sub, T.F_sub.kp, by decide, okp_sub T, T.b_sub⟩⟩
  · exact ⟨⟨_, _, _, T.kd_VALUE_RULES_mul, fnLk T.F_mul, T.F_mul.kp, by decide, okp_mul T, T.b_mul⟩⟩
  · exact ⟨⟨_, _, _, T.kd_VALUE_RULES_div, fnLk T.F_div, T.F_div.kp, by decide, okp_div T, T.b_div⟩⟩
  · exact ⟨⟨_, _, _, T.kd_VALUE_RULES_min, fnLk T.F_min, T.F_min.kp, by decide, okp_min T, T.b_min⟩⟩
  · exact ⟨⟨_, _, _, T.kd_VALUE_RULES_max, fnLk T.F_max, T.F_max.kp, by decide, okp_max T, T.b_max⟩⟩
  · exact ⟨⟨_, _, _, T.kd_VALUE_RULES_mid, fnLk T.F_mid, T.F_mid.kp, by decide, okp_mid T, T.b_mid⟩⟩
  · exact ⟨⟨_, _, _, T.kd_VALUE_RULES_as, fnLk T.F_as, T.F_as.kp, by decide, okp_as T, T.b_as⟩⟩
  · exact ⟨⟨_, _, _, T.kd_VALUE_RULES_pick, fnLk T.F_p_pick, T.F_p_pick.kp, by decide, okp_p_pick T, T.b_p_pick⟩⟩
  · exact ⟨⟨_, _, _, T.kd_VALUE_RULES_vote, fnLk T.F_vote, T.F_vote.kp, by decide, okp_vote T, T.b_vote⟩⟩
  · exact ⟨⟨_, _, _, T.kd_VALUE_RULES_row, fnLk T.F_row, T.F_row.kp, by decide, okp_row T, T.b_row⟩⟩
  · exact ⟨⟨_, _, _, T.kd_VALUE_RULES_at, fnLk T.F_at, T.F_at.kp, by decide, okp_at T, T.b_at⟩⟩
  · exact ⟨⟨_, _, _, T.kd_VALUE_RULES_put, fnLk T.F_put, T.F_put.kp, by decide, okp_put T, T.b_put⟩⟩
  · exact ⟨⟨_, _, _, T.kd_VALUE_RULES_sum, fnLk T.F_sum, T.F_sum.kp, by decide, okp_sum T, T.b_sum⟩⟩
  · exact ⟨⟨_, _, _, T.kd_VALUE_RULES_any, fnLk T.F_any, T.F_any.kp, by decide, okp_any T, T.b_any⟩⟩
  · exact ⟨⟨_, _, _, T.kd_VALUE_RULES_all, fnLk T.F_all, T.F_all.kp, by decide, okp_all T, T.b_all⟩⟩
theorem okp_result (T : Tx K mg w base) : FnOk P w K mg base CX0 10 T.f_result T.fd_result ["op", "kinds", "values", "told"] (spP K T.tbs 4 R_result) := by
  refine okP T.F_result sc_result rfl fun cdv A outer s H E G hG hcd hr => ⟨_, (pss_fnP hG (fa_VALUE_RULES T) (ps_set (i := 4) sc_result.nd rfl (Or.inl rfl) (pe_ix ix_kdict (pe_glob (v := .ref (He.ga K "VALUE_RULES")) rfl T.mg_VALUE_RULES rfl) (pe_borP (pv 0)) (fun _ _ => rfl))) (ps_ret (pe_callA allS_held (hr.mono (by decide)) rfl (Or.inl rfl) (pa_consP (pe_borP (pv 1)) (pa_consP (pe_borP (pv 2)) (pa_consP (pe_borP (pv 3)) pa_nilP)))))), fun as C hl h => ?_⟩
  obtain ⟨op, ks, t, r, vs, rfl, ft, vi, q⟩ := h
  have say : ft_VALUE_RULES.lookup op.s = some (RV op) → pFn 4 3 (fun z => List.lookup z ft_VALUE_RULES) (pBor 0) (pCons (pBor 1) (pCons (pBor 2) (pCons (pBor 3) pNil))) (endsP [.dat (.str op.s), .dat (ksD ks), .dat (.tuple vs), .dat (toldD t)] C) [.dat (.str op.s), .dat (ksD ks), .dat (.tuple vs), .dat (toldD t), .no] := fun h1 =>
    ⟨op.s, _, rfl, h1, by show 4 < 5; decide, ks, t, r, vs, rfl, ft, vi, q⟩
  cases op <;> exact say rfl
end

/-! ### the law's operations -/
def ROp (late : Bool) : PR := fun as C => ∃ (op : Op) (ks : List Rk) (g : Kd) (r : Rk) (vs : List PyData), (as = [.dat (.str op.s), .dat (ksL ks), .dat (.list vs), .dat g.d]) ∧ Fit op ks (some g) r ∧ VsIn ks vs ∧ C (.dat (opV op ks (some g) vs)) as
def R_op : PR := ROp true
def R_num_op : PR := fun as C => ∃ (op : Op) (ks : List Rk) (r : Rk) (vs : List PyData) (k : Rk), as = [.dat (.str op.s), .dat k.d, .dat (.list vs)] ∧ ks[0]? = some k ∧ op ∈ [Op.ng, .ad, .sb, .ml, .dv, .mn, .mx, .md] ∧ Fit op ks none r ∧ VsIn ks vs ∧ C (.dat (opV op ks none vs)) as
def R_row_op : PR := fun as C => ∃ (op : Op) (ks : List Rk) (r : Rk) (vs : List PyData), as = [.dat (.str op.s), .dat (ksL ks), .dat (.list vs)] ∧ op ∈ [Op.att, .pt, .sm, .ay, .al] ∧ Fit op ks none r ∧ VsIn ks vs ∧ C (.dat (opV op ks none vs)) as
theorem ixN_last {n : Nat} (h : 1 ≤ n) : ixN n (-1) = some (n - 1) := by
  unfold ixN
  rw [if_neg (by omega), if_pos (by omega)]
  congr 1
  omega
theorem bits (a b : Int) (ha : 0 ≤ a ∧ a ≤ 1) (hb : 0 ≤ b ∧ b ≤ 1) : Builtin.bitAnd a b = (if a = 1 ∧ b = 1 then 1 else 0) ∧ Builtin.bitOr a b = (if a = 1 ∨ b = 1 then 1 else 0) ∧ Builtin.bitXor a b = (if a = b then 0 else 1) := by
  rcases (show a = 0 ∨ a = 1 by omega) with rfl | rfl <;> rcases (show b = 0 ∨ b = 1 by omega) with rfl | rfl <;> decide +kernel
section
variable {P : Program} {w : World} {K : PySem.W.Frag} {mg : Str → Option Value} {base : Heap}
theorem okp_num_op (T : Tx K mg w base) : FnOk P w K mg base CX0 2 T.f_num_op T.fd_num_op ["_law_op_here", "_law_kind", "_law_values"] (spP K T.tbs 3 R_num_op) := by
  refine okP T.F_num_op sc_num_op rfl fun cdv A outer s H E G hG hcd hr => ⟨_, (pss_consP (ps_setP (ps_set (i := 3) sc_num_op.nd rfl (Or.inl rfl) (pe_ixP (pe_borP (pv 2)) (pe_cP (d := .int 0) pe_int) (fun _ _ => rfl) li_ix)))
      (pss_consP (ps_setP (ps_set (i := 4) sc_num_op.nd rfl (Or.inl rfl) (pe_ifP (pt_cmpP op_gt li_gt (pe_cbP lc_len (pe_callB call_lenP (by rfl) T.z_len (by decide +kernel) (pa_consP (pe_borP (pv 2)) pa_nilP))) (pe_cP (d := .int 1) pe_int) (nomark _)) (pe_ixP (pe_borP (pv 2)) (pe_cP (d := .int 1) pe_int) (fun _ _ => rfl) li_ix) (pe_cP (d := .int 0) pe_int))))
      (pss_consP (ps_ifP (pt_cmpP (op_eqP hr.units) li_eq (pe_borP (pv 0)) (pe_cP (d := .str "neg") pe_str) (nomark _)) (pss_oneP (ps_retP (pe_callP hG (pe_call (okp_fit T) (hr.mono (by decide)) rfl T.m_fit T.F_fit.kp T.b_fit .nil pass0 (pa_consP (pe_borP (pv 1)) (pa_consP (pe_opP op_sub li_sub (pe_cP (d := .int 0) pe_int) (pe_borP (pv 3))) pa_nilP)))))) pss_nilP)
      (pss_consP (ps_ifP (pt_cmpP (op_eqP hr.units) li_eq (pe_borP (pv 0)) (pe_cP (d := .str "add") pe_str) (nomark _)) (pss_oneP (ps_retP (pe_callP hG (pe_call (okp_fit T) (hr.mono (by decide)) rfl T.m_fit T.F_fit.kp T.b_fit .nil pass0 (pa_consP (pe_borP (pv 1)) (pa_consP (pe_opP op_addP li_add (pe_borP (pv 3)) (pe_borP (pv 4))) pa_nilP)))))) pss_nilP)
      (pss_consP (ps_ifP (pt_cmpP (op_eqP hr.units) li_eq (pe_borP (pv 0)) (pe_cP (d := .str "sub") pe_str) (nomark _)) (pss_oneP (ps_retP (pe_callP hG (pe_call (okp_fit T) (hr.mono (by decide)) rfl T.m_fit T.F_fit.kp T.b_fit .nil pass0 (pa_consP (pe_borP (pv 1)) (pa_consP (pe_opP op_sub li_sub (pe_borP (pv 3)) (pe_borP (pv 4))) pa_nilP)))))) pss_nilP)
      (pss_consP (ps_ifP (pt_cmpP (op_eqP hr.units) li_eq (pe_borP (pv 0)) (pe_cP (d := .str "mul") pe_str) (nomark _)) (pss_oneP (ps_retP (pe_callP hG (pe_call (okp_fit T) (hr.mono (by decide)) rfl T.m_fit T.F_fit.kp T.b_fit .nil pass0 (pa_consP (pe_borP (pv 1)) (pa_consP (pe_opP op_fdiv li_fdiv (pe_opP op_mulP li_mul (pe_borP (pv 3)) (pe_borP (pv 4))) (pe_ixP (pe_borP (pv 1)) (pe_cP (d := .int 3) pe_int) (fun _ _ => rfl) li_ix)) pa_nilP)))))) pss_nilP)
      (pss_consP (ps_ifP (pt_cmpP (op_eqP hr.units) li_eq (pe_borP (pv 0)) (pe_cP (d := .str "min") pe_str) (nomark _)) (pss_oneP (ps_retP (pe_ifP (pt_cmpP op_lt li_lt (pe_borP (pv 3)) (pe_borP (pv 4)) (nomark _)) (pe_varP (pv 3)) (pe_varP (pv 4))))) pss_nilP)
      (pss_consP (ps_ifP (pt_cmpP (op_eqP hr.units) li_eq (pe_borP (pv 0)) (pe_cP (d := .str "max") pe_str) (nomark _)) (pss_oneP (ps_retP (pe_ifP (pt_cmpP op_lt li_lt (pe_borP (pv 3)) (pe_borP (pv 4)) (nomark _)) (pe_varP (pv 4)) (pe_varP (pv 3))))) pss_nilP)
      (pss_consP (ps_ifP (pt_cmpP (op_eqP hr.units) li_eq (pe_borP (pv 0)) (pe_cP (d := .str "mid") pe_str) (nomark _)) (pss_oneP (ps_retP (pe_ixP (pe_cbP lc_sortA (pe_callB call_sortA (by rfl) T.z_sorted (by decide +kernel) (pa_consP (pe_borP (pv 2)) pa_nilP))) (pe_cP (d := .int 1) pe_int) (fun _ _ => rfl) li_ix))) pss_nilP)
      (pss_consP (ps_ifP (pt_cmpP (op_neP hr.units) li_ne (pe_borP (pv 4)) (pe_cP (d := .int 0) pe_int) (nomark _)) (pss_oneP (ps_retP (pe_callP hG (pe_call (okp_fit T) (hr.mono (by decide)) rfl T.m_fit T.F_fit.kp T.b_fit .nil pass0 (pa_consP (pe_borP (pv 1)) (pa_consP (pe_opP op_fdivN li_fdivN (pe_opP op_mulP li_mul (pe_borP (pv 3)) (pe_ixP (pe_borP (pv 1)) (pe_cP (d := .int 3) pe_int) (fun _ _ => rfl) li_ix)) (pe_borP (pv 4))) pa_nilP)))))) pss_nilP)
      (pss_consP (ps_ifP (pt_cmpP (op_eqP hr.units) li_eq (pe_borP (pv 3)) (pe_cP (d := .int 0) pe_int) (nomark _)) (pss_oneP (ps_retP (pe_callP hG (pe_call (okp_fit T) (hr.mono (by decide)) rfl T.m_fit T.F_fit.kp T.b_fit .nil pass0 (pa_consP (pe_borP (pv 1)) (pa_consP (pe_cP (d := .int 0) pe_int) pa_nilP)))))) pss_nilP)
      (pss_oneP (ps_retP (pe_ifP (pt_cmpP op_gt li_gt (pe_borP (pv 3)) (pe_cP (d := .int 0) pe_int) (nomark _)) (pe_ixP (pe_borP (pv 1)) (pe_cP (d := .int 2) pe_int) (fun _ _ => rfl) li_ix) (pe_ixP (pe_borP (pv 1)) (pe_cP (d := .int 1) pe_int) (fun _ _ => rfl) li_ix))))))))))))))), fun as C hl h => ?_⟩
  obtain ⟨op, ks, r, vs, k, rfl, hk, ho, ft, vi, q⟩ := h
  cases ft with
  | ng ok =>
    rename_i lo hi per how
    obtain ⟨v, rfl, i, rfl, i1, i2⟩ := vs1 vi
    cases hk
    have q : C (.dat (.int (fitI lo hi how (-i)))) _ := q
    rw [show -i = 0 - i by omega] at q
    exact ⟨_, atD 0 rfl, .f rfl (.t (by decide +kernel) ⟨lo, hi, per, _, how, rfl, ok, q⟩)⟩
  | ad ok =>
    rename_i lo hi per how
    obtain ⟨v, u, rfl, ⟨i, rfl, i1, i2⟩, j, rfl, j1, j2⟩ := vs2 vi
    cases hk
    obtain ⟨e1, e2, e3, e4, e5, e6⟩ := ok.ends
    have p1 : 1 ≤ per := e5
    have p2 : per ≤ 100 := e6
    have q : C (.dat (opV .ad [numR lo hi per how, numR lo hi per how] none [.int i, .int j])) _ := q
    refine ⟨_, atD 0 rfl, .t rfl ⟨_, atD 1 rfl, .f (by decide +kernel) (.t (by decide +kernel) (?_))⟩⟩
    exact ⟨lo, hi, per, _, how, rfl, ok, q⟩
  | sb ok =>
    rename_i lo hi per how
    obtain ⟨v, u, rfl, ⟨i, rfl, i1, i2⟩, j, rfl, j1, j2⟩ := vs2 vi
    cases hk
    obtain ⟨e1, e2, e3, e4, e5, e6⟩ := ok.ends
    have p1 : 1 ≤ per := e5
    have p2 : per ≤ 100 := e6
    have q : C (.dat (opV .sb [numR lo hi per how, numR lo hi per how] none [.int i, .int j])) _ := q
    refine ⟨_, atD 0 rfl, .t rfl ⟨_, atD 1 rfl, .f (by decide +kernel) (.f (by decide +kernel) (.t (by decide +kernel) (?_)))⟩⟩
    exact ⟨lo, hi, per, _, how, rfl, ok, q⟩
  | ml ok =>
    rename_i lo hi per how
    obtain ⟨v, u, rfl, ⟨i, rfl, i1, i2⟩, j, rfl, j1, j2⟩ := vs2 vi
    cases hk
    obtain ⟨e1, e2, e3, e4, e5, e6⟩ := ok.ends
    have p1 : 1 ≤ per := e5
    have p2 : per ≤ 100 := e6
    have q : C (.dat (opV .ml [numR lo hi per how, numR lo hi per how] none [.int i, .int j])) _ := q
    refine ⟨_, atD 0 rfl, .t rfl ⟨_, atD 1 rfl, .f (by decide +kernel) (.f (by decide +kernel) (.f (by decide +kernel) (.t (by decide +kernel) (?_))))⟩⟩
    exact ⟨prod_small ⟨by omega, by omega⟩ ⟨by omega, by omega⟩, _, atD 3 rfl, ⟨by omega, by omega⟩, lo, hi, per, _, how, rfl, ok, q⟩
  | dv ok =>
    rename_i lo hi per how
    obtain ⟨v, u, rfl, ⟨i, rfl, i1, i2⟩, j, rfl, j1, j2⟩ := vs2 vi
    cases hk
    obtain ⟨e1, e2, e3, e4, e5, e6⟩ := ok.ends
    have p1 : 1 ≤ per := e5
    have p2 : per ≤ 100 := e6
    have q : C (.dat (opV .dv [numR lo hi per how, numR lo hi per how] none [.int i, .int j])) _ := q
    refine ⟨_, atD 0 rfl, .t rfl ⟨_, atD 1 rfl, .f (by decide +kernel) (.f (by decide +kernel) (.f (by decide +kernel) (.f (by decide +kernel) (.f (by decide +kernel) (.f (by decide +kernel) (.f (by decide +kernel) (?_)))))))⟩⟩
    have q : C (.dat (.int (if j ≠ 0 then fitI lo hi how ((i * per).fdiv j) else if i = 0 then fitI lo hi how 0 else if 0 < i then hi else lo))) _ := q
    refine IfP.nei (fun h1 => ?_) fun h1 => ?_
    · rw [if_pos h1] at q
      exact ⟨_, atD 3 rfl, prod_small ⟨by omega, by omega⟩ ⟨by omega, by omega⟩, ⟨h1, by omega⟩, lo, hi, per, _, how, rfl, ok, q⟩
    · rw [if_neg (by simpa using h1)] at q
      refine IfP.eqi (fun h2 => ?_) fun h2 => ?_
      · rw [if_pos h2] at q
        exact ⟨lo, hi, per, _, how, rfl, ok, q⟩
      · rw [if_neg h2] at q
        refine IfP.both (fun h3 => ?_) fun h3 => ?_
        · rw [if_pos (show 0 < i from of_decide_eq_true h3)] at q
          exact ⟨_, atD 2 rfl, q⟩
        · rw [if_neg (show ¬ 0 < i from of_decide_eq_false h3)] at q
          exact ⟨_, atD 1 rfl, q⟩
  | mn ok =>
    rename_i lo hi per how
    obtain ⟨v, u, rfl, ⟨i, rfl, i1, i2⟩, j, rfl, j1, j2⟩ := vs2 vi
    cases hk
    obtain ⟨e1, e2, e3, e4, e5, e6⟩ := ok.ends
    have p1 : 1 ≤ per := e5
    have p2 : per ≤ 100 := e6
    have q : C (.dat (opV .mn [numR lo hi per how, numR lo hi per how] none [.int i, .int j])) _ := q
    refine ⟨_, atD 0 rfl, .t rfl ⟨_, atD 1 rfl, .f (by decide +kernel) (.f (by decide +kernel) (.f (by decide +kernel) (.f (by decide +kernel) (.t (by decide +kernel) (?_)))))⟩⟩
    have q : C (.dat (.int (if j < i then j else i))) _ := q
    refine IfP.both (fun h1 => ?_) fun h1 => ?_
    · rw [if_neg (by have : i < j := of_decide_eq_true h1; omega)] at q
      exact q
    · have : ¬ i < j := of_decide_eq_false h1
      rw [show (if j < i then j else i) = j by split <;> omega] at q
      exact q
  | mx ok =>
    rename_i lo hi per how
    obtain ⟨v, u, rfl, ⟨i, rfl, i1, i2⟩, j, rfl, j1, j2⟩ := vs2 vi
    cases hk
    obtain ⟨e1, e2, e3, e4, e5, e6⟩ := ok.ends
    have p1 : 1 ≤ per := e5
    have p2 : per ≤ 100 := e6
    have q : C (.dat (opV .mx [numR lo hi per how, numR lo hi per how] none [.int i, .int j])) _ := q
    refine ⟨_, atD 0 rfl, .t rfl ⟨_, atD 1 rfl, .f (by decide +kernel) (.f (by decide +kernel) (.f (by decide +kernel) (.f (by decide +kernel) (.f (by decide +kernel) (.t (by decide +kernel) (?_))))))⟩⟩
    have q : C (.dat (.int (if j > i then j else i))) _ := q
    refine IfP.both (fun h1 => ?_) fun h1 => ?_
    · rw [if_pos (show j > i from of_decide_eq_true h1)] at q
      exact q
    · rw [if_neg (show ¬ j > i from of_decide_eq_false h1)] at q
      exact q
  | md ok =>
    rename_i lo hi per how
    obtain ⟨v, u, x, rfl, ⟨i, rfl, _⟩, ⟨j, rfl, _⟩, k, rfl, _⟩ := vs3 vi
    cases hk
    refine ⟨_, atD 0 rfl, .t rfl ⟨_, atD 1 rfl, .f (by decide +kernel) (.f (by decide +kernel) (.f (by decide +kernel) (.f (by decide +kernel) (.f (by decide +kernel) (.f (by decide +kernel) (.t (by decide +kernel) (⟨[i, j, k], rfl, fun ms h1 h2 => ?_⟩)))))))⟩⟩
    obtain rfl := sort_of h1 h2
    have l3 := (sort_perm [i, j, k]).length_eq
    obtain ⟨a, b, c, e⟩ := len3 (l := sortI [i, j, k]) l3
    have q : C (.dat (.int ((sortI [i, j, k]).getD 1 0))) _ := q
    rw [e] at q ⊢
    exact ⟨_, atD 1 rfl, q⟩
  | _ => exact absurd ho (by simp)
theorem okp_row_op (T : Tx K mg w base) : FnOk P w K mg base CX0 2 T.f_row_op T.fd_row_op ["_law_op_here", "_law_kinds", "_law_values"] (spP K T.tbs 3 R_row_op) := by
  refine okP T.F_row_op sc_row_op rfl fun cdv A outer s H E G hG hcd hr => ⟨_, (pss_consP (ps_setP (ps_set (i := 3) sc_row_op.nd rfl (Or.inl rfl) (pe_ixP (pe_borP (pv 2)) (pe_cP (d := .int 0) pe_int) (fun _ _ => rfl) li_ix)))
      (pss_consP (ps_ifP (pt_cmpP (op_eqP hr.units) li_eq (pe_borP (pv 0)) (pe_cP (d := .str "any") pe_str) (nomark _)) (pss_oneP (ps_retP (pe_ifP (pt_truP (pe_lcP (vs := [6]) (pe_lc (own := [("_law_part", 6)]) rfl sc_row_op.nd (pi_itemsP (pe_varP (pv 3))) (blkOk_by (N := ["_law_op_here", "_law_kinds", "_law_values", "_law_row", "_law_total", "_law_place", "_law_part"]) (sc := defScope s_row_op) (by decide +kernel)) (fun _ _ _ _ _ => (pg_compP (vs := [6]) (pg_name (i := 6) sc_row_op.nd rfl (Or.inl rfl)))) (fun _ _ _ _ _ => (pts_one (pt_cmpP (op_eqP hr.units) li_eq (pe_borP (pv 6)) (pe_cP (d := .int 1) pe_int) (nomark _)))) (fun _ _ _ _ _ => (pe_varP (pv 6)))))) (pe_cP (d := .int 1) pe_int) (pe_cP (d := .int 0) pe_int)))) pss_nilP)
      (pss_consP (ps_ifP (pt_cmpP (op_eqP hr.units) li_eq (pe_borP (pv 0)) (pe_cP (d := .str "all") pe_str) (nomark _)) (pss_oneP (ps_retP (pe_ifP (pt_truP (pe_lcP (vs := [6]) (pe_lc (own := [("_law_part", 6)]) rfl sc_row_op.nd (pi_itemsP (pe_varP (pv 3))) (blkOk_by (N := ["_law_op_here", "_law_kinds", "_law_values", "_law_row", "_law_total", "_law_place", "_law_part"]) (sc := defScope s_row_op) (by decide +kernel)) (fun _ _ _ _ _ => (pg_compP (vs := [6]) (pg_name (i := 6) sc_row_op.nd rfl (Or.inl rfl)))) (fun _ _ _ _ _ => (pts_one (pt_cmpP (op_eqP hr.units) li_eq (pe_borP (pv 6)) (pe_cP (d := .int 0) pe_int) (nomark _)))) (fun _ _ _ _ _ => (pe_varP (pv 6)))))) (pe_cP (d := .int 0) pe_int) (pe_cP (d := .int 1) pe_int)))) pss_nilP)
      (pss_consP (ps_ifP (pt_cmpP (op_eqP hr.units) li_eq (pe_borP (pv 0)) (pe_cP (d := .str "sum") pe_str) (nomark _)) (pss_consP (ps_setP (ps_set (i := 4) sc_row_op.nd rfl (Or.inl rfl) (pe_ixP (pe_borP (pv 3)) (pe_cP (d := .int 0) pe_int) (fun _ _ => rfl) li_ix)))
      (pss_consP (ps_forP (ps_for PassesOwn.never rfl (pi_range2P (pi_range2 (by rfl) T.z_range (pa_consP (pe_cP (d := .int 1) pe_int) (pa_consP (pe_cbP lc_len (pe_callB call_lenP (by rfl) T.z_len (by decide +kernel) (pa_consP (pe_borP (pv 3)) pa_nilP))) pa_nilP)))) (pg_nameP (pg_name (i := 5) sc_row_op.nd rfl (Or.inl rfl)))
      (pss_oneP (ps_setP (ps_set (i := 4) sc_row_op.nd rfl (Or.inl rfl) (pe_callP hG (pe_call (okp_fit T) (hr.mono (by decide)) rfl T.m_fit T.F_fit.kp T.b_fit .nil pass0 (pa_consP (pe_ixP (pe_ixP (pe_borP (pv 1)) (pe_cP (d := .int 0) pe_int) (fun _ _ => rfl) li_ix) (pe_cP (d := .int 1) pe_int) (fun _ _ => rfl) li_ix) (pa_consP (pe_opP op_addP li_add (pe_borP (pv 4)) (pe_ixP (pe_borP (pv 3)) (pe_borP (pv 5)) (fun _ _ => rfl) li_ix)) pa_nilP)))))))))
      (pss_oneP (ps_retMvP (pv 4))))) pss_nilP)
      (pss_consP (ps_setP (ps_set (i := 5) sc_row_op.nd rfl (Or.inl rfl) (pe_opP op_fdiv li_fdiv (pe_ixP (pe_borP (pv 2)) (pe_cP (d := .int 1) pe_int) (fun _ _ => rfl) li_ix) (pe_ixP (pe_ixP (pe_borP (pv 1)) (pe_cP (d := .int 1) pe_int) (fun _ _ => rfl) li_ix) (pe_cP (d := .int 3) pe_int) (fun _ _ => rfl) li_ix))))
      (pss_consP (ps_ifP (pt_cmpP (op_eqP hr.units) li_eq (pe_borP (pv 0)) (pe_cP (d := .str "put") pe_str) (nomark _)) (pss_consP (ps_ifP (PW.pt (pw_orP (pt_cmpP op_lt li_lt (pe_borP (pv 5)) (pe_cP (d := .int 0) pe_int) (nomark _)) (pw_or1P (pt_cmpP op_ge li_ge (pe_borP (pv 5)) (pe_cbP lc_len (pe_callB call_lenP (by rfl) T.z_len (by decide +kernel) (pa_consP (pe_borP (pv 3)) pa_nilP))) (nomark _))))) (pss_oneP (ps_retMvP (pv 3))) pss_nilP)
      (pss_oneP (ps_retP (pe_opP op_addP li_add (pe_opP op_addP li_add (pe_sliceP (pe_borP (pv 3)) po_noneP (po_someP (pe_borP (pv 5)))) (pe_tupP (pa_consP (pe_ixP (pe_borP (pv 2)) (pe_cP (d := .int 2) pe_int) (fun _ _ => rfl) li_ix) pa_nilP))) (pe_sliceP (pe_borP (pv 3)) (po_someP (pe_opP op_addP li_add (pe_borP (pv 5)) (pe_cP (d := .int 1) pe_int))) po_noneP))))) pss_nilP)
      (pss_consP (ps_ifP (pt_cmpP op_lt li_lt (pe_borP (pv 5)) (pe_cP (d := .int 0) pe_int) (nomark _)) (pss_oneP (ps_retP (pe_ixP (pe_borP (pv 3)) (pe_cP (d := .int 0) pe_int) (fun _ _ => rfl) li_ix))) pss_nilP)
      (pss_oneP (ps_retP (pe_ifP (pt_cmpP op_lt li_lt (pe_borP (pv 5)) (pe_cbP lc_len (pe_callB call_lenP (by rfl) T.z_len (by decide +kernel) (pa_consP (pe_borP (pv 3)) pa_nilP))) (nomark _)) (pe_ixP (pe_borP (pv 3)) (pe_borP (pv 5)) (fun _ _ => rfl) li_ix) (pe_ixP (pe_borP (pv 3)) (pe_negP (pe_cP (d := .int 1) pe_int)) (fun _ _ => rfl) li_ix))))))))))), fun as C hl h => ?_⟩
  obtain ⟨op, ks, r, vs, rfl, ho, ft, vi, q⟩ := h
  cases ft with
  | ay ok =>
    rename_i n
    obtain ⟨v, rfl, is, rfl, ln, mi⟩ := vs1 vi
    have q : C (.dat (.int (if (is.map PyData.int).any isOne then 1 else 0))) _ := q
    refine ⟨_, atD 0 rfl, .t (by decide +kernel) ?_⟩
    refine lc_filterP (l := is) (e := PyData.int) (fun i => if decide (i = 1) = true then some (.int i) else none) (szl (by have := ok.2.2; omega)) (fun j a ha Q k1 => ?_) ?_
    · refine IfP.eqi (fun h1 => ?_) fun h1 => ?_
      · rw [if_pos (decide_eq_true h1)] at k1
        exact k1
      · rw [if_neg (by simpa using h1)] at k1
        exact k1
    · have e : (is.filterMap fun i => if decide (i = 1) = true then some (PyData.int i) else none).isEmpty = !((is.map PyData.int).any isOne) := by
        generalize is = l
        induction l with
        | nil => rfl
        | cons i l ih =>
          rw [List.filterMap_cons, List.map_cons, List.any_cons]
          by_cases e : i = 1
          · rw [if_pos (decide_eq_true e), show isOne (.int i) = true from decide_eq_true e]
            rfl
          · rw [if_neg (by simpa using e), show isOne (.int i) = false from decide_eq_false e, Bool.false_or]
            exact ih
      generalize (is.map PyData.int).any isOne = b at q e
      cases b with
      | true => exact .t (congrArg (!·) e) q
      | false => exact .f (congrArg (!·) e) q
  | al ok =>
    rename_i n
    obtain ⟨v, rfl, is, rfl, ln, mi⟩ := vs1 vi
    have q : C (.dat (.int (if (is.map PyData.int).any isNil then 0 else 1))) _ := q
    refine ⟨_, atD 0 rfl, .f (by decide +kernel) (.t (by decide +kernel) ?_)⟩
    refine lc_filterP (l := is) (e := PyData.int) (fun i => if decide (i = 0) = true then some (.int i) else none) (szl (by have := ok.2.2; omega)) (fun j a ha Q k1 => ?_) ?_
    · refine IfP.eqi (fun h1 => ?_) fun h1 => ?_
      · rw [if_pos (decide_eq_true h1)] at k1
        exact k1
      · rw [if_neg (by simpa using h1)] at k1
        exact k1
    · have e : (is.filterMap fun i => if decide (i = 0) = true then some (PyData.int i) else none).isEmpty = !((is.map PyData.int).any isNil) := by
        generalize is = l
        induction l with
        | nil => rfl
        | cons i l ih =>
          rw [List.filterMap_cons, List.map_cons, List.any_cons]
          by_cases e : i = 0
          · rw [if_pos (decide_eq_true e), show isNil (.int i) = true from decide_eq_true e]
            rfl
          · rw [if_neg (by simpa using e), show isNil (.int i) = false from decide_eq_false e, Bool.false_or]
            exact ih
      generalize (is.map PyData.int).any isNil = b at q e
      cases b with
      | true => exact .t (congrArg (!·) e) q
      | false => exact .f (congrArg (!·) e) q
  | sm ok =>
    rename_i n lo hi per how
    obtain ⟨v, rfl, is, rfl, ln, mi⟩ := vs1 vi
    obtain ⟨a, l, rfl⟩ : ∃ a l, is = a :: l := by
      cases is with
      | nil =>
        have := ok.2.1
        have : 0 = n := ln
        omega
      | cons a l => exact ⟨a, l, rfl⟩
    have q : C (.dat (.int (sumF (fitR (numR lo hi per how)) a ((l.map PyData.int).map iAt)))) _ := q
    have el : (l.map PyData.int).map iAt = l := by
      rw [List.map_map]
      conv => rhs; rw [← List.map_id l]
      rfl
    rw [el] at q
    refine ⟨_, atD 0 rfl, .f (by decide +kernel) (.f (by decide +kernel) (.t (by decide +kernel) ⟨_, atD 0 rfl, ?_⟩))⟩
    have ll : (((a :: l).map PyData.int).length : Nat) = l.length + 1 := by rw [List.length_map]; rfl
    have n6 := ok.2.2
    have ln : l.length + 1 = n := ln
    refine ⟨⟨by decide, by decide, by omega, by omega⟩, ?_⟩
    refine ⟨fun i env => i ≤ l.length ∧ ∃ c : Cel, env = [.dat (.str Op.sm.s), .dat (ksL [.r (.num lo hi per how) n]), .dat (.list [.tuple ((a :: l).map PyData.int)]), .dat (.tuple ((a :: l).map PyData.int)), .dat (.int (sumF (fitR (numR lo hi per how)) a (l.take i))), c, .no], ⟨Nat.zero_le _, .no, rfl⟩, ?_, ?_⟩
    · rintro i x env hx ⟨hi', c, rfl⟩
      have hi2 := (List.getElem?_eq_some_iff.mp hx).1
      unfold rangeP at hx hi2
      rw [List.length_map, List.length_range, ll] at hi2
      rw [List.getElem?_map, List.getElem?_range (by rw [ll]; exact hi2)] at hx
      cases hx
      obtain ⟨z, hz⟩ : ∃ z, l[i]? = some z := ⟨_, List.getElem?_eq_getElem (by omega)⟩
      have hz2 : ((a :: l).map PyData.int)[i + 1]? = some (.int z) := by
        rw [List.getElem?_map, List.getElem?_cons_succ, hz]
        rfl
      have e1 : (((i + 1 : Nat)) : Int) = 1 + (i : Int) := by omega
      have at1 := atD _ hz2
      rw [e1] at at1
      refine ⟨_, atD 0 rfl, _, atD 1 rfl, _, at1, lo, hi, per, _, how, rfl, ok.1, by omega, .dat (.int (1 + (i : Int))), ?_⟩
      rw [takeN hz, sumF_snoc]
      rfl
    · rintro env ⟨hi', c, rfl⟩
      have el : l.take (rangeP 1 (((((a :: l).map PyData.int).length : Nat)) : Int)).length = l := List.take_of_length_le (by
        unfold rangeP
        rw [List.length_map, List.length_range, ll]
        omega)
      rw [el]
      exact q
  | att ok ok' =>
    rename_i k n lo hi per how
    obtain ⟨v, u, rfl, ⟨is, rfl, ln, mi⟩, j, rfl, j1, j2⟩ := vs2 vi
    obtain ⟨e1, e2, e3, e4, e5, e6⟩ := ok'.ends
    have p1 : 1 ≤ per := e5
    have p2 : per ≤ 100 := e6
    have n1 : 1 ≤ is.length := by have := ok.2.1; omega
    have lm : (is.map PyData.int).length = is.length := List.length_map _
    have q : C (.dat ((is.map PyData.int).getD (place (j / per) (is.map PyData.int).length) .none)) _ := q
    rw [lm] at q
    refine ⟨_, atD 0 rfl, .f (by decide +kernel) (.f (by decide +kernel) (.f (by decide +kernel) ⟨_, atD 1 rfl, _, atD 1 rfl, _, atD 3 rfl, ⟨by omega, by omega⟩, .f (by decide +kernel) ?_⟩))⟩
    obtain ⟨z, hz⟩ : ∃ z, z = j / per := ⟨_, rfl⟩
    rw [← hz] at q
    unfold place at q
    refine IfP.both (fun h1 => ?_) fun h1 => ?_
    · rw [if_pos (show z < 0 by rw [hz]; exact of_decide_eq_true h1)] at q
      have hd := List.getElem?_eq_getElem (l := is.map PyData.int) (i := 0) (by omega)
      rw [List.getD_eq_getElem?_getD, hd] at q
      exact ⟨_, atD 0 hd, q⟩
    · have h1 : ¬ z < 0 := by rw [hz]; exact of_decide_eq_false h1
      rw [if_neg h1] at q
      refine IfP.both (fun h2 => ?_) fun h2 => ?_
      · have h2 : z < (((is.map PyData.int).length : Nat) : Int) := by rw [hz]; exact of_decide_eq_true h2
        rw [lm] at h2
        rw [if_pos h2] at q
        have hd := List.getElem?_eq_getElem (l := is.map PyData.int) (i := z.toNat) (by omega)
        rw [List.getD_eq_getElem?_getD, hd] at q
        refine ⟨_, ?_, q⟩
        have := atD _ hd
        rw [show ((z.toNat : Nat) : Int) = z by omega] at this
        show atI _ (j / per) = _
        rw [← hz]
        exact this
      · have h2 : ¬ z < (((is.map PyData.int).length : Nat) : Int) := by rw [hz]; exact of_decide_eq_false h2
        rw [lm] at h2
        rw [if_neg h2] at q
        have hd := List.getElem?_eq_getElem (l := is.map PyData.int) (i := is.length - 1) (by omega)
        rw [List.getD_eq_getElem?_getD, hd] at q
        refine ⟨_, ?_, q⟩
        have ex : ixN (is.map PyData.int).length (-1) = some (is.length - 1) := by rw [lm]; exact ixN_last n1
        unfold atI
        rw [ex]
        exact hd
  | pt ok ok' =>
    rename_i k n lo hi per how
    obtain ⟨v, u, x, rfl, ⟨is, rfl, ln, mi⟩, ⟨j, rfl, j1, j2⟩, hx⟩ := vs3 vi
    obtain ⟨e1, e2, e3, e4, e5, e6⟩ := ok'.ends
    have p1 : 1 ≤ per := e5
    have p2 : per ≤ 100 := e6
    have lm : (is.map PyData.int).length = is.length := List.length_map _
    have q : C (.dat (if 0 ≤ j / per ∧ j / per < (((is.map PyData.int).length : Nat) : Int) then .tuple (cutP (is.map PyData.int) none (some (j / per)) ++ [x] ++ cutP (is.map PyData.int) (some (j / per + 1)) none) else .tuple (is.map PyData.int))) _ := q
    refine ⟨_, atD 0 rfl, .f (by decide +kernel) (.f (by decide +kernel) (.f (by decide +kernel) ⟨_, atD 1 rfl, _, atD 1 rfl, _, atD 3 rfl, ⟨by omega, by omega⟩, .t (by decide +kernel) ?_⟩))⟩
    obtain ⟨z, hz⟩ : ∃ z, z = j / per := ⟨_, rfl⟩
    rw [← hz] at q
    refine IfP.both (fun h1 => ?_) fun h1 => ?_
    · have h1 : z < 0 := by rw [hz]; exact of_decide_eq_true h1
      rw [if_neg (by omega)] at q
      exact .t rfl q
    · have h1 : ¬ z < 0 := by rw [hz]; exact of_decide_eq_false h1
      refine IfP.both (fun h2 => ?_) fun h2 => ?_
      · have h2 : z ≥ (((is.map PyData.int).length : Nat) : Int) := by rw [hz]; exact of_decide_eq_true h2
        rw [if_neg (by omega)] at q
        exact q
      · have h2 : ¬ z ≥ (((is.map PyData.int).length : Nat) : Int) := by rw [hz]; exact of_decide_eq_false h2
        rw [if_pos (by omega)] at q
        subst hz
        obtain ⟨js, e1, _, l1⟩ := cutP_map PyData.int is none (some (j / per))
        obtain ⟨ms, e2, _, l2⟩ := cutP_map PyData.int is (some (j / per + 1)) none
        have n6 := ok.2.2
        refine ⟨_, atD 2 rfl, szr, ?_⟩
        show (cutP (is.map PyData.int) none (some (j / per))).length + 1 ≤ _ ∧ _
        refine ⟨by rw [e1, List.length_map]; exact szle (by omega), ?_⟩
        show (cutP (is.map PyData.int) none (some (j / per)) ++ [x]).length + (cutP (is.map PyData.int) (some (j / per + 1)) none).length ≤ _ ∧ _
        exact ⟨by rw [e1, e2, List.length_append, List.length_map, List.length_map]; exact szle (by show _ + 1 + _ ≤ _; omega), q⟩
  | _ => exact absurd ho (by simp)
end

/-! ### the law's operation -/
section
variable {P : Program} {w : World} {K : PySem.W.Frag} {mg : Str → Option Value} {base : Heap}
theorem okp_op (T : Tx K mg w base) : FnOk P w K mg base CX0 3 T.f_op T.fd_op ["_law_op_here", "_law_kinds", "_law_values", "_law_told"] (spP K T.tbs 4 R_op) := by
  refine okP T.F_op sc_op rfl fun cdv A outer s H E G hG hcd hr => ⟨_, (pss_consP (ps_setP (ps_set (i := 4) sc_op.nd rfl (Or.inl rfl) (pe_ixP (pe_borP (pv 2)) (pe_cP (d := .int 0) pe_int) (fun _ _ => rfl) li_ix)))
      (pss_consP (ps_setP (ps_set (i := 5) sc_op.nd rfl (Or.inl rfl) (pe_ifP (pt_cmpP op_gt li_gt (pe_cbP lc_len (pe_callB call_lenP (by rfl) T.z_len (by decide +kernel) (pa_consP (pe_borP (pv 2)) pa_nilP))) (pe_cP (d := .int 1) pe_int) (nomark _)) (pe_ixP (pe_borP (pv 2)) (pe_cP (d := .int 1) pe_int) (fun _ _ => rfl) li_ix) (pe_cP (d := .int 0) pe_int))))
      (pss_consP (ps_ifP (pt_cmpP (op_eqP hr.units) li_eq (pe_borP (pv 0)) (pe_cP (d := .str "not") pe_str) (nomark _)) (pss_oneP (ps_retP (pe_ifP (pt_cmpP (op_eqP hr.units) li_eq (pe_borP (pv 4)) (pe_cP (d := .int 1) pe_int) (nomark _)) (pe_cP (d := .int 0) pe_int) (pe_cP (d := .int 1) pe_int)))) pss_nilP)
      (pss_consP (ps_ifP (pt_cmpP (op_eqP hr.units) li_eq (pe_borP (pv 0)) (pe_cP (d := .str "and") pe_str) (nomark _)) (pss_oneP (ps_retP (pe_ifP (PW.pt (pw_andP (pt_cmpP (op_eqP hr.units) li_eq (pe_borP (pv 4)) (pe_cP (d := .int 1) pe_int) (nomark _)) (pw_and1P (pt_cmpP (op_eqP hr.units) li_eq (pe_borP (pv 5)) (pe_cP (d := .int 1) pe_int) (nomark _))))) (pe_cP (d := .int 1) pe_int) (pe_cP (d := .int 0) pe_int)))) pss_nilP)
      (pss_consP (ps_ifP (pt_cmpP (op_eqP hr.units) li_eq (pe_borP (pv 0)) (pe_cP (d := .str "or") pe_str) (nomark _)) (pss_oneP (ps_retP (pe_ifP (PW.pt (pw_orP (pt_cmpP (op_eqP hr.units) li_eq (pe_borP (pv 4)) (pe_cP (d := .int 1) pe_int) (nomark _)) (pw_or1P (pt_cmpP (op_eqP hr.units) li_eq (pe_borP (pv 5)) (pe_cP (d := .int 1) pe_int) (nomark _))))) (pe_cP (d := .int 1) pe_int) (pe_cP (d := .int 0) pe_int)))) pss_nilP)
      (pss_consP (ps_ifP (PW.pt (pw_orP (pt_cmpP (op_eqP hr.units) li_eq (pe_borP (pv 0)) (pe_cP (d := .str "xor") pe_str) (nomark _)) (pw_or1P (pt_cmpP (op_eqP hr.units) li_eq (pe_borP (pv 0)) (pe_cP (d := .str "ne") pe_str) (nomark _))))) (pss_oneP (ps_retP (pe_ifP (pt_cmpP (op_neP hr.units) li_ne (pe_borP (pv 4)) (pe_borP (pv 5)) (nomark _)) (pe_cP (d := .int 1) pe_int) (pe_cP (d := .int 0) pe_int)))) pss_nilP)
      (pss_consP (ps_ifP (pt_cmpP (op_eqP hr.units) li_eq (pe_borP (pv 0)) (pe_cP (d := .str "eq") pe_str) (nomark _)) (pss_oneP (ps_retP (pe_ifP (pt_cmpP (op_eqP hr.units) li_eq (pe_borP (pv 4)) (pe_borP (pv 5)) (nomark _)) (pe_cP (d := .int 1) pe_int) (pe_cP (d := .int 0) pe_int)))) pss_nilP)
      (pss_consP (ps_ifP (pt_cmpP (op_eqP hr.units) li_eq (pe_borP (pv 0)) (pe_cP (d := .str "lt") pe_str) (nomark _)) (pss_oneP (ps_retP (pe_ifP (pt_cmpP op_lt li_lt (pe_borP (pv 4)) (pe_borP (pv 5)) (nomark _)) (pe_cP (d := .int 1) pe_int) (pe_cP (d := .int 0) pe_int)))) pss_nilP)
      (pss_consP (ps_ifP (pt_cmpP (op_eqP hr.units) li_eq (pe_borP (pv 0)) (pe_cP (d := .str "le") pe_str) (nomark _)) (pss_oneP (ps_retP (pe_ifP (pt_cmpP op_lt li_lt (pe_borP (pv 5)) (pe_borP (pv 4)) (nomark _)) (pe_cP (d := .int 0) pe_int) (pe_cP (d := .int 1) pe_int)))) pss_nilP)
      (pss_consP (ps_ifP (pt_cmpP (op_eqP hr.units) li_eq (pe_borP (pv 0)) (pe_cP (d := .str "pick") pe_str) (nomark _)) (pss_oneP (ps_retP (pe_ifP (pt_cmpP (op_eqP hr.units) li_eq (pe_borP (pv 4)) (pe_cP (d := .int 1) pe_int) (nomark _)) (pe_varP (pv 5)) (pe_ixP (pe_borP (pv 2)) (pe_cP (d := .int 2) pe_int) (fun _ _ => rfl) li_ix)))) pss_nilP)
      (pss_consP (ps_ifP (pt_cmpP (op_eqP hr.units) li_eq (pe_borP (pv 0)) (pe_cP (d := .str "vote") pe_str) (nomark _)) (pss_oneP (ps_retP (pe_ifP (pt_cmpP (op_eqP hr.units) li_eq (pe_borP (pv 4)) (pe_borP (pv 5)) (nomark _)) (pe_varP (pv 4)) (pe_ixP (pe_borP (pv 2)) (pe_cP (d := .int 2) pe_int) (fun _ _ => rfl) li_ix)))) pss_nilP)
      (pss_consP (ps_ifP (pt_cmpP (op_eqP hr.units) li_eq (pe_borP (pv 0)) (pe_cP (d := .str "row") pe_str) (nomark _)) (pss_oneP (ps_retP (pe_cbP lc_tup (pe_callTy (show CallR _ (.type "tuple") (rTupOf K) from call_tup) (by rfl) T.z_tuple (by decide +kernel) (pa_consP (pe_borP (pv 2)) pa_nilP))))) pss_nilP)
      (pss_consP (ps_ifP (pt_cmpP (op_eqP hr.units) li_eq (pe_borP (pv 0)) (pe_cP (d := .str "as") pe_str) (nomark _)) (pss_oneP (ps_retP (pe_callP hG (pe_call (okp_fit T) (hr.mono (by decide)) rfl T.m_fit T.F_fit.kp T.b_fit .nil pass0 (pa_consP (pe_borP (pv 3)) (pa_consP (pe_opP op_fdiv li_fdiv (pe_opP op_mulP li_mul (pe_borP (pv 4)) (pe_ixP (pe_borP (pv 3)) (pe_cP (d := .int 3) pe_int) (fun _ _ => rfl) li_ix)) (pe_ixP (pe_ixP (pe_borP (pv 1)) (pe_cP (d := .int 0) pe_int) (fun _ _ => rfl) li_ix) (pe_cP (d := .int 3) pe_int) (fun _ _ => rfl) li_ix)) pa_nilP)))))) pss_nilP)
      (pss_consP (ps_ifP (pt_cmpP (op_eqP hr.units) li_eq (pe_ixP (pe_ixP (pe_borP (pv 1)) (pe_cP (d := .int 0) pe_int) (fun _ _ => rfl) li_ix) (pe_cP (d := .int 0) pe_int) (fun _ _ => rfl) li_ix) (pe_cP (d := .str "row") pe_str) (nomark _)) (pss_oneP (ps_retP (pe_callP hG (pe_call (okp_row_op T) (hr.mono (by decide)) rfl T.m_row_op T.F_row_op.kp T.b_row_op .nil pass0 (pa_consP (pe_borP (pv 0)) (pa_consP (pe_borP (pv 1)) (pa_consP (pe_borP (pv 2)) pa_nilP))))))) pss_nilP)
      (pss_oneP (ps_retP (pe_callP hG (pe_call (okp_num_op T) (hr.mono (by decide)) rfl T.m_num_op T.F_num_op.kp T.b_num_op .nil pass0 (pa_consP (pe_borP (pv 0)) (pa_consP (pe_ixP (pe_borP (pv 1)) (pe_cP (d := .int 0) pe_int) (fun _ _ => rfl) li_ix) (pa_consP (pe_borP (pv 2)) pa_nilP))))))))))))))))))))), fun as C hl h => ?_⟩
  obtain ⟨op, ks, g, r, vs, rfl, ft, vi, q⟩ := h
  cases ft with
  | nt =>
    obtain ⟨v, rfl, i, rfl, i1, i2⟩ := vs1 vi
    have q : C (.dat (.int (1 - i))) _ := q
    refine ⟨_, atD 0 rfl, .f rfl (.t (by decide +kernel) (?_))⟩
    refine IfP.eqi (fun h1 => ?_) fun h1 => ?_
    · rw [show 1 - i = 0 by omega] at q
      exact q
    · have i1 : 0 ≤ i := i1
      have i2 : i ≤ 1 := i2
      rw [show 1 - i = 1 by omega] at q
      exact q
  | an =>
    obtain ⟨v, u, rfl, ⟨i, rfl, i1, i2⟩, j, rfl, j1, j2⟩ := vs2 vi
    have q : C (.dat (.int (Builtin.bitAnd i j))) _ := q
    refine ⟨_, atD 0 rfl, .t rfl ⟨_, atD 1 rfl, .f (by decide +kernel) (.t (by decide +kernel) (?_))⟩⟩
    rw [(bits i j ⟨(show 0 ≤ i from i1), (show i ≤ 1 from i2)⟩ ⟨(show 0 ≤ j from j1), (show j ≤ 1 from j2)⟩).1] at q
    refine IfP.eqi (fun h1 => IfP.eqi (fun h2 => ?_) fun h2 => ?_) fun h1 => ?_
    · rw [if_pos ⟨h1, h2⟩] at q
      exact q
    · rw [if_neg fun z => h2 z.2] at q
      exact q
    · rw [if_neg fun z => h1 z.1] at q
      exact .f rfl q
  | orr =>
    obtain ⟨v, u, rfl, ⟨i, rfl, i1, i2⟩, j, rfl, j1, j2⟩ := vs2 vi
    have q : C (.dat (.int (Builtin.bitOr i j))) _ := q
    refine ⟨_, atD 0 rfl, .t rfl ⟨_, atD 1 rfl, .f (by decide +kernel) (.f (by decide +kernel) (.t (by decide +kernel) (?_)))⟩⟩
    rw [(bits i j ⟨(show 0 ≤ i from i1), (show i ≤ 1 from i2)⟩ ⟨(show 0 ≤ j from j1), (show j ≤ 1 from j2)⟩).2.1] at q
    refine IfP.eqi (fun h1 => ?_) fun h1 => IfP.eqi (fun h2 => ?_) fun h2 => ?_
    · rw [if_pos (.inl h1)] at q
      exact .t rfl q
    · rw [if_pos (.inr h2)] at q
      exact q
    · rw [if_neg fun z => z.elim h1 h2] at q
      exact q
  | xr =>
    obtain ⟨v, u, rfl, ⟨i, rfl, i1, i2⟩, j, rfl, j1, j2⟩ := vs2 vi
    have q : C (.dat (.int (Builtin.bitXor i j))) _ := q
    refine ⟨_, atD 0 rfl, .t rfl ⟨_, atD 1 rfl, .f (by decide +kernel) (.f (by decide +kernel) (.f (by decide +kernel) (.t (by decide +kernel) (.t rfl (?_)))))⟩⟩
    rw [(bits i j ⟨(show 0 ≤ i from i1), (show i ≤ 1 from i2)⟩ ⟨(show 0 ≤ j from j1), (show j ≤ 1 from j2)⟩).2.2] at q
    refine IfP.nei (fun h1 => ?_) fun h1 => ?_
    · rw [if_neg h1] at q
      exact q
    · rw [if_pos h1] at q
      exact q
  | eq ok =>
    rename_i r0
    obtain ⟨v, u, rfl, hv, hu⟩ := vs2 vi
    have q : C (.dat (.int (if sameV v u then 1 else 0))) _ := q
    refine ⟨_, atD 0 rfl, .t rfl ⟨_, atD 1 rfl, .f (by decide +kernel) (.f (by decide +kernel) (.f (by decide +kernel) (.f (by decide +kernel) (.f (by decide +kernel) (.t (by decide +kernel) (?_))))))⟩⟩
    rcases r0 with k0 | ⟨k0, m0⟩
    · obtain ⟨a0, rfl, _⟩ := hv
      obtain ⟨b0, rfl, _⟩ := hu
      refine IfP.eqi (fun h1 => ?_) fun h1 => ?_
      · rw [show sameV (.int a0) (.int b0) = true from decide_eq_true h1] at q
        exact q
      · rw [show sameV (.int a0) (.int b0) = false from decide_eq_false h1] at q
        exact q
    · obtain ⟨is0, rfl, _⟩ := hv
      obtain ⟨js0, rfl, _⟩ := hu
      refine ⟨ints_shaped is0, ints_shaped js0, ?_⟩
      rw [show sameV (.tuple (is0.map .int)) (.tuple (js0.map .int)) = PyData.eqv (.tuple (is0.map .int)) (.tuple (js0.map .int)) from rfl] at q
      generalize PyData.eqv (.tuple (is0.map .int)) (.tuple (js0.map .int)) = b at q ⊢
      cases b with
      | true => exact .t rfl q
      | false => exact .f rfl q
  | ne ok =>
    rename_i r0
    obtain ⟨v, u, rfl, hv, hu⟩ := vs2 vi
    have q : C (.dat (.int (if sameV v u then 0 else 1))) _ := q
    refine ⟨_, atD 0 rfl, .t rfl ⟨_, atD 1 rfl, .f (by decide +kernel) (.f (by decide +kernel) (.f (by decide +kernel) (.f (by decide +kernel) (.t (by decide +kernel) (?_)))))⟩⟩
    rcases r0 with k0 | ⟨k0, m0⟩
    · obtain ⟨a0, rfl, _⟩ := hv
      obtain ⟨b0, rfl, _⟩ := hu
      refine IfP.nei (fun h1 => ?_) fun h1 => ?_
      · rw [show sameV (.int a0) (.int b0) = false from decide_eq_false h1] at q
        exact q
      · rw [show sameV (.int a0) (.int b0) = true from decide_eq_true h1] at q
        exact q
    · obtain ⟨is0, rfl, _⟩ := hv
      obtain ⟨js0, rfl, _⟩ := hu
      refine ⟨ints_shaped is0, ints_shaped js0, ?_⟩
      rw [show sameV (.tuple (is0.map .int)) (.tuple (js0.map .int)) = PyData.eqv (.tuple (is0.map .int)) (.tuple (js0.map .int)) from rfl] at q
      generalize PyData.eqv (.tuple (is0.map .int)) (.tuple (js0.map .int)) = b at q ⊢
      cases b with
      | true => exact .f rfl q
      | false => exact .t rfl q
  | lt ok =>
    obtain ⟨v, u, rfl, ⟨i, rfl, i1, i2⟩, j, rfl, j1, j2⟩ := vs2 vi
    have q : C (.dat (.int (if i < j then 1 else 0))) _ := q
    refine ⟨_, atD 0 rfl, .t rfl ⟨_, atD 1 rfl, .f (by decide +kernel) (.f (by decide +kernel) (.f (by decide +kernel) (.f (by decide +kernel) (.f (by decide +kernel) (.f (by decide +kernel) (.t (by decide +kernel) (?_)))))))⟩⟩
    refine IfP.both (fun h => ?_) fun h => ?_
    · rw [if_pos (show i < j from of_decide_eq_true h)] at q
      exact q
    · rw [if_neg (show ¬ i < j from of_decide_eq_false h)] at q
      exact q
  | le ok =>
    obtain ⟨v, u, rfl, ⟨i, rfl, i1, i2⟩, j, rfl, j1, j2⟩ := vs2 vi
    have q : C (.dat (.int (if i ≤ j then 1 else 0))) _ := q
    refine ⟨_, atD 0 rfl, .t rfl ⟨_, atD 1 rfl, .f (by decide +kernel) (.f (by decide +kernel) (.f (by decide +kernel) (.f (by decide +kernel) (.f (by decide +kernel) (.f (by decide +kernel) (.f (by decide +kernel) (.t (by decide +kernel) (?_))))))))⟩⟩
    refine IfP.both (fun h => ?_) fun h => ?_
    · have h : j < i := of_decide_eq_true h
      rw [if_neg (by omega)] at q
      exact q
    · have h : ¬ j < i := of_decide_eq_false h
      rw [if_pos (by omega)] at q
      exact q
  | pk ok =>
    obtain ⟨v, u, x, rfl, ⟨i, rfl, i1, i2⟩, hu, hx⟩ := vs3 vi
    have q : C (.dat (if i = 1 then u else x)) _ := q
    refine ⟨_, atD 0 rfl, .t rfl ⟨_, atD 1 rfl, .f (by decide +kernel) (.f (by decide +kernel) (.f (by decide +kernel) (.f (by decide +kernel) (.f (by decide +kernel) (.f (by decide +kernel) (.f (by decide +kernel) (.f (by decide +kernel) (.t (by decide +kernel) (?_)))))))))⟩⟩
    refine IfP.eqi (fun h1 => ?_) fun h1 => ?_
    · rw [if_pos h1] at q
      exact q
    · rw [if_neg h1] at q
      exact ⟨_, atD 2 rfl, q⟩
  | vt ok =>
    obtain ⟨v, u, x, rfl, hv, hu, hx⟩ := vs3 vi
    have q : C (.dat (if sameV v u then v else x)) _ := q
    refine ⟨_, atD 0 rfl, .t rfl ⟨_, atD 1 rfl, .f (by decide +kernel) (.f (by decide +kernel) (.f (by decide +kernel) (.f (by decide +kernel) (.f (by decide +kernel) (.f (by decide +kernel) (.f (by decide +kernel) (.f (by decide +kernel) (.f (by decide +kernel) (.t (by decide +kernel) (?_))))))))))⟩⟩
    rcases r with k0 | ⟨k0, m0⟩
    · obtain ⟨a0, rfl, _⟩ := hv
      obtain ⟨b0, rfl, _⟩ := hu
      refine IfP.eqi (fun h1 => ?_) fun h1 => ?_
      · rw [show sameV (.int a0) (.int b0) = true from decide_eq_true h1] at q
        exact q
      · rw [show sameV (.int a0) (.int b0) = false from decide_eq_false h1] at q
        exact ⟨_, atD 2 rfl, q⟩
    · obtain ⟨is0, rfl, _⟩ := hv
      obtain ⟨js0, rfl, _⟩ := hu
      refine ⟨ints_shaped is0, ints_shaped js0, ?_⟩
      rw [show sameV (.tuple (is0.map .int)) (.tuple (js0.map .int)) = PyData.eqv (.tuple (is0.map .int)) (.tuple (js0.map .int)) from rfl] at q
      generalize PyData.eqv (.tuple (is0.map .int)) (.tuple (js0.map .int)) = b at q ⊢
      cases b with
      | true => exact .t rfl q
      | false => exact .f rfl ⟨_, atD 2 rfl, q⟩
  | rw ok h1 h6 =>
    rename_i k n
    have lv : vs.length = n := by rw [vi.1, List.length_replicate]
    obtain ⟨v, rest, rfl⟩ : ∃ v rest, vs = v :: rest := by
      cases vs with
      | nil => have : 0 = n := lv; omega
      | cons v rest => exact ⟨v, rest, rfl⟩
    cases rest with
    | nil => exact ⟨_, atD 0 rfl, .f rfl (.f (by decide +kernel) (.f (by decide +kernel) (.f (by decide +kernel) (.f (by decide +kernel) (.f (by decide +kernel) (.f (by decide +kernel) (.f (by decide +kernel) (.f (by decide +kernel) (.f (by decide +kernel) (.f (by decide +kernel) (.t (by decide +kernel) (q))))))))))))⟩
    | cons u rest => exact ⟨_, atD 0 rfl, .t (decide_eq_true (by show (1 : Int) < (((u :: rest).length + 1 : Nat) : Int); have : (u :: rest).length = rest.length + 1 := rfl; omega)) ⟨_, atD 1 rfl, .f (by decide +kernel) (.f (by decide +kernel) (.f (by decide +kernel) (.f (by decide +kernel) (.f (by decide +kernel) (.f (by decide +kernel) (.f (by decide +kernel) (.f (by decide +kernel) (.f (by decide +kernel) (.f (by decide +kernel) (.t (by decide +kernel) (q)))))))))))⟩⟩
  | ass ok ok' =>
    rename_i lo hi per how lo' hi' per' how'
    obtain ⟨v, rfl, i, rfl, i1, i2⟩ := vs1 vi
    refine ⟨_, atD 0 rfl, .f rfl (.f (by decide +kernel) (.f (by decide +kernel) (.f (by decide +kernel) (.f (by decide +kernel) (.f (by decide +kernel) (.f (by decide +kernel) (.f (by decide +kernel) (.f (by decide +kernel) (.f (by decide +kernel) (.f (by decide +kernel) (.f (by decide +kernel) (.t (by decide +kernel) (?_)))))))))))))⟩
    obtain ⟨e1, e2, e3, e4, e5, e6⟩ := ok.ends
    obtain ⟨f1, f2, f3, f4, f5, f6⟩ := ok'.ends
    have p1 : 1 ≤ per := e5
    have p2 : per ≤ 100 := e6
    have p3 : 1 ≤ per' := f5
    have p4 : per' ≤ 100 := f6
    exact ⟨_, atD 3 rfl, prod_small ⟨by omega, by omega⟩ ⟨by omega, by omega⟩, _, atD 0 rfl, _, atD 3 rfl, ⟨by omega, by omega⟩, _, _, _, _, _, rfl, ok', q⟩
  | ng ok =>
    rename_i lo hi per how
    obtain ⟨v, rfl, i, rfl, i1, i2⟩ := vs1 vi
    exact ⟨_, atD 0 rfl, .f rfl (.f (by decide +kernel) (.f (by decide +kernel) (.f (by decide +kernel) (.f (by decide +kernel) (.f (by decide +kernel) (.f (by decide +kernel) (.f (by decide +kernel) (.f (by decide +kernel) (.f (by decide +kernel) (.f (by decide +kernel) (.f (by decide +kernel) (.f (by decide +kernel) (⟨_, atD 0 rfl, _, atD 0 rfl, .f (by decide +kernel) ⟨_, atD 0 rfl, _, _, _, _, _, rfl, rfl, (by simp), .ng ok, vi, q⟩⟩)))))))))))))⟩
  | ad ok =>
    rename_i lo hi per how
    obtain ⟨v, u, rfl, ⟨i, rfl, i1, i2⟩, j, rfl, j1, j2⟩ := vs2 vi
    exact ⟨_, atD 0 rfl, .t rfl ⟨_, atD 1 rfl, .f (by decide +kernel) (.f (by decide +kernel) (.f (by decide +kernel) (.f (by decide +kernel) (.f (by decide +kernel) (.f (by decide +kernel) (.f (by decide +kernel) (.f (by decide +kernel) (.f (by decide +kernel) (.f (by decide +kernel) (.f (by decide +kernel) (.f (by decide +kernel) (⟨_, atD 0 rfl, _, atD 0 rfl, .f (by decide +kernel) ⟨_, atD 0 rfl, _, _, _, _, _, rfl, rfl, (by simp), .ad ok, vi, q⟩⟩))))))))))))⟩⟩
  | sb ok =>
    rename_i lo hi per how
    obtain ⟨v, u, rfl, ⟨i, rfl, i1, i2⟩, j, rfl, j1, j2⟩ := vs2 vi
    exact ⟨_, atD 0 rfl, .t rfl ⟨_, atD 1 rfl, .f (by decide +kernel) (.f (by decide +kernel) (.f (by decide +kernel) (.f (by decide +kernel) (.f (by decide +kernel) (.f (by decide +kernel) (.f (by decide +kernel) (.f (by decide +kernel) (.f (by decide +kernel) (.f (by decide +kernel) (.f (by decide +kernel) (.f (by decide +kernel) (⟨_, atD 0 rfl, _, atD 0 rfl, .f (by decide +kernel) ⟨_, atD 0 rfl, _, _, _, _, _, rfl, rfl, (by simp), .sb ok, vi, q⟩⟩))))))))))))⟩⟩
  | ml ok =>
    rename_i lo hi per how
    obtain ⟨v, u, rfl, ⟨i, rfl, i1, i2⟩, j, rfl, j1, j2⟩ := vs2 vi
    exact ⟨_, atD 0 rfl, .t rfl ⟨_, atD 1 rfl, .f (by decide +kernel) (.f (by decide +kernel) (.f (by decide +kernel) (.f (by decide +kernel) (.f (by decide +kernel) (.f (by decide +kernel) (.f (by decide +kernel) (.f (by decide +kernel) (.f (by decide +kernel) (.f (by decide +kernel) (.f (by decide +kernel) (.f (by decide +kernel) (⟨_, atD 0 rfl, _, atD 0 rfl, .f (by decide +kernel) ⟨_, atD 0 rfl, _, _, _, _, _, rfl, rfl, (by simp), .ml ok, vi, q⟩⟩))))))))))))⟩⟩
  | dv ok =>
    rename_i lo hi per how
    obtain ⟨v, u, rfl, ⟨i, rfl, i1, i2⟩, j, rfl, j1, j2⟩ := vs2 vi
    exact ⟨_, atD 0 rfl, .t rfl ⟨_, atD 1 rfl, .f (by decide +kernel) (.f (by decide +kernel) (.f (by decide +kernel) (.f (by decide +kernel) (.f (by decide +kernel) (.f (by decide +kernel) (.f (by decide +kernel) (.f (by decide +kernel) (.f (by decide +kernel) (.f (by decide +kernel) (.f (by decide +kernel) (.f (by decide +kernel) (⟨_, atD 0 rfl, _, atD 0 rfl, .f (by decide +kernel) ⟨_, atD 0 rfl, _, _, _, _, _, rfl, rfl, (by simp), .dv ok, vi, q⟩⟩))))))))))))⟩⟩
  | mn ok =>
    rename_i lo hi per how
    obtain ⟨v, u, rfl, ⟨i, rfl, i1, i2⟩, j, rfl, j1, j2⟩ := vs2 vi
    exact ⟨_, atD 0 rfl, .t rfl ⟨_, atD 1 rfl, .f (by decide +kernel) (.f (by decide +kernel) (.f (by decide +kernel) (.f (by decide +kernel) (.f (by decide +kernel) (.f (by decide +kernel) (.f (by decide +kernel) (.f (by decide +kernel) (.f (by decide +kernel) (.f (by decide +kernel) (.f (by decide +kernel) (.f (by decide +kernel) (⟨_, atD 0 rfl, _, atD 0 rfl, .f (by decide +kernel) ⟨_, atD 0 rfl, _, _, _, _, _, rfl, rfl, (by simp), .mn ok, vi, q⟩⟩))))))))))))⟩⟩
  | mx ok =>
    rename_i lo hi per how
    obtain ⟨v, u, rfl, ⟨i, rfl, i1, i2⟩, j, rfl, j1, j2⟩ := vs2 vi
    exact ⟨_, atD 0 rfl, .t rfl ⟨_, atD 1 rfl, .f (by decide +kernel) (.f (by decide +kernel) (.f (by decide +kernel) (.f (by decide +kernel) (.f (by decide +kernel) (.f (by decide +kernel) (.f (by decide +kernel) (.f (by decide +kernel) (.f (by decide +kernel) (.f (by decide +kernel) (.f (by decide +kernel) (.f (by decide +kernel) (⟨_, atD 0 rfl, _, atD 0 rfl, .f (by decide +kernel) ⟨_, atD 0 rfl, _, _, _, _, _, rfl, rfl, (by simp), .mx ok, vi, q⟩⟩))))))))))))⟩⟩
  | md ok =>
    rename_i lo hi per how
    obtain ⟨v, u, x, rfl, ⟨i, rfl, _⟩, ⟨j, rfl, _⟩, k, rfl, _⟩ := vs3 vi
    exact ⟨_, atD 0 rfl, .t rfl ⟨_, atD 1 rfl, .f (by decide +kernel) (.f (by decide +kernel) (.f (by decide +kernel) (.f (by decide +kernel) (.f (by decide +kernel) (.f (by decide +kernel) (.f (by decide +kernel) (.f (by decide +kernel) (.f (by decide +kernel) (.f (by decide +kernel) (.f (by decide +kernel) (.f (by decide +kernel) (⟨_, atD 0 rfl, _, atD 0 rfl, .f (by decide +kernel) ⟨_, atD 0 rfl, _, _, _, _, _, rfl, rfl, (by simp), .md ok, vi, q⟩⟩))))))))))))⟩⟩
  | att ok ok' =>
    obtain ⟨v, u, rfl, ⟨is, rfl, ln, mi⟩, j, rfl, j1, j2⟩ := vs2 vi
    exact ⟨_, atD 0 rfl, .t rfl ⟨_, atD 1 rfl, .f (by decide +kernel) (.f (by decide +kernel) (.f (by decide +kernel) (.f (by decide +kernel) (.f (by decide +kernel) (.f (by decide +kernel) (.f (by decide +kernel) (.f (by decide +kernel) (.f (by decide +kernel) (.f (by decide +kernel) (.f (by decide +kernel) (.f (by decide +kernel) (⟨_, atD 0 rfl, _, atD 0 rfl, .t (by decide +kernel) ⟨_, _, _, _, rfl, (by simp), .att ok ok', vi, q⟩⟩))))))))))))⟩⟩
  | pt ok ok' =>
    obtain ⟨v, u, x, rfl, ⟨is, rfl, ln, mi⟩, ⟨j, rfl, j1, j2⟩, hx⟩ := vs3 vi
    exact ⟨_, atD 0 rfl, .t rfl ⟨_, atD 1 rfl, .f (by decide +kernel) (.f (by decide +kernel) (.f (by decide +kernel) (.f (by decide +kernel) (.f (by decide +kernel) (.f (by decide +kernel) (.f (by decide +kernel) (.f (by decide +kernel) (.f (by decide +kernel) (.f (by decide +kernel) (.f (by decide +kernel) (.f (by decide +kernel) (⟨_, atD 0 rfl, _, atD 0 rfl, .t (by decide +kernel) ⟨_, _, _, _, rfl, (by simp), .pt ok ok', vi, q⟩⟩))))))))))))⟩⟩
  | sm ok =>
    obtain ⟨v, rfl, is, rfl, ln, mi⟩ := vs1 vi
    exact ⟨_, atD 0 rfl, .f rfl (.f (by decide +kernel) (.f (by decide +kernel) (.f (by decide +kernel) (.f (by decide +kernel) (.f (by decide +kernel) (.f (by decide +kernel) (.f (by decide +kernel) (.f (by decide +kernel) (.f (by decide +kernel) (.f (by decide +kernel) (.f (by decide +kernel) (.f (by decide +kernel) (⟨_, atD 0 rfl, _, atD 0 rfl, .t (by decide +kernel) ⟨_, _, _, _, rfl, (by simp), .sm ok, vi, q⟩⟩)))))))))))))⟩
  | ay ok =>
    obtain ⟨v, rfl, is, rfl, ln, mi⟩ := vs1 vi
    exact ⟨_, atD 0 rfl, .f rfl (.f (by decide +kernel) (.f (by decide +kernel) (.f (by decide +kernel) (.f (by decide +kernel) (.f (by decide +kernel) (.f (by decide +kernel) (.f (by decide +kernel) (.f (by decide +kernel) (.f (by decide +kernel) (.f (by decide +kernel) (.f (by decide +kernel) (.f (by decide +kernel) (⟨_, atD 0 rfl, _, atD 0 rfl, .t (by decide +kernel) ⟨_, _, _, _, rfl, (by simp), .ay ok, vi, q⟩⟩)))))))))))))⟩
  | al ok =>
    obtain ⟨v, rfl, is, rfl, ln, mi⟩ := vs1 vi
    exact ⟨_, atD 0 rfl, .f rfl (.f (by decide +kernel) (.f (by decide +kernel) (.f (by decide +kernel) (.f (by decide +kernel) (.f (by decide +kernel) (.f (by decide +kernel) (.f (by decide +kernel) (.f (by decide +kernel) (.f (by decide +kernel) (.f (by decide +kernel) (.f (by decide +kernel) (.f (by decide +kernel) (⟨_, atD 0 rfl, _, atD 0 rfl, .t (by decide +kernel) ⟨_, _, _, _, rfl, (by simp), .al ok, vi, q⟩⟩)))))))))))))⟩
end

/-! ### an operation's value has its kind -/
theorem vin_p {k : Kd} {x : Int} (h1 : k.lo ≤ x) (h2 : x ≤ k.hi) : VIn (.p k) (.int x) := ⟨x, rfl, h1, h2⟩
theorem vin_bit {b : Bool} : VIn boolR (.int (if b then 1 else 0)) := by cases b <;> exact vin_p (k := .bool) (by decide) (by decide)
theorem vin_bit' {p : Prop} [Decidable p] {x y : Int} (hx : x = 0 ∨ x = 1) (hy : y = 0 ∨ y = 1) : VIn boolR (.int (if p then x else y)) := by
  split
  · rcases hx with rfl | rfl <;> exact vin_p (k := .bool) (by decide) (by decide)
  · rcases hy with rfl | rfl <;> exact vin_p (k := .bool) (by decide) (by decide)
theorem vin_fit {lo hi per : Int} {how : Str} (h : (Kd.num lo hi per how).ok) (x : Int) : VIn (numR lo hi per how) (.int (fitI lo hi how x)) := by
  have := fit_in h.ends.1 how x
  exact vin_p (k := .num lo hi per how) this.1 this.2
theorem sumF_in {lo hi : Int} (h : lo ≤ hi) (how : Str) : ∀ (l : List Int) (t : Int), lo ≤ t → t ≤ hi → lo ≤ sumF (fun x => fitI lo hi how x) t l ∧ sumF (fun x => fitI lo hi how x) t l ≤ hi
  | [], t, h1, h2 => ⟨h1, h2⟩
  | x :: l, t, h1, h2 => by
    have := fit_in h how (t + x)
    exact sumF_in h how l _ this.1 this.2
theorem vals_row {k : Kd} {n : Nat} {vs : List PyData} (h : VsIn (List.replicate n (.p k)) vs) : ∃ is : List Int, vs = is.map .int ∧ is.length = n ∧ ∀ i ∈ is, k.lo ≤ i ∧ i ≤ k.hi := by
  obtain ⟨l, h⟩ := h
  rw [List.length_replicate] at l
  have all : ∀ v ∈ vs, VIn (.p k) v := fun v hv => by
    obtain ⟨j, hj, e⟩ := List.mem_iff_getElem.mp hv
    refine h j (.p k) v ?_ (List.getElem?_eq_some_iff.mpr ⟨hj, e⟩)
    rw [List.getElem?_replicate, if_pos (by omega)]
  clear h
  induction vs generalizing n with
  | nil => exact ⟨[], rfl, l, fun i h => by cases h⟩
  | cons v vs ih =>
    obtain ⟨is, e, li, mi⟩ := ih (n := vs.length) rfl fun u hu => all u (List.mem_cons_of_mem _ hu)
    obtain ⟨i, rfl, i1, i2⟩ := all v List.mem_cons_self
    refine ⟨i :: is, by rw [e]; rfl, by show is.length + 1 = n; rw [li]; exact l, fun z hz => ?_⟩
    rcases List.mem_cons.mp hz with rfl | hz
    · exact ⟨i1, i2⟩
    · exact mi z hz
theorem cut_ints {is : List Int} {k : Kd} (mi : ∀ i ∈ is, k.lo ≤ i ∧ i ≤ k.hi) (z : Int) (h1 : 0 ≤ z) (h2 : z < (is.length : Int)) {x : Int} (hx : k.lo ≤ x ∧ x ≤ k.hi) : ∃ js : List Int, cutP (is.map PyData.int) none (some z) ++ [.int x] ++ cutP (is.map PyData.int) (some (z + 1)) none = js.map .int ∧ js.length = is.length ∧ ∀ i ∈ js, k.lo ≤ i ∧ i ≤ k.hi := by
  obtain ⟨a, rfl⟩ := Int.eq_ofNat_of_zero_le h1
  have ha : a < is.length := by omega
  unfold cutP
  rw [show ((a : Int) + 1) = ((a + 1 : Nat) : Int) by omega, HT.sIx_none, HT.sIx_none, HT.sIx_nat, HT.sIx_nat, List.length_map, Nat.min_eq_left (by omega), Nat.min_eq_left (by omega), Nat.sub_zero, List.drop_zero, ← List.map_take, ← List.map_drop, ← List.map_take]
  refine ⟨is.take a ++ [x] ++ (is.drop (a + 1)).take (is.length - (a + 1)), by rw [List.map_append, List.map_append]; rfl, ?_, fun i hi => ?_⟩
  · rw [List.length_append, List.length_append, List.length_take, List.length_take, List.length_drop]
    show min a is.length + 1 + _ = _
    omega
  · rcases List.mem_append.mp hi with hi | hi
    · rcases List.mem_append.mp hi with hi | hi
      · exact mi i (List.mem_of_mem_take hi)
      · rw [List.mem_singleton.mp hi]
        exact hx
    · exact mi i (List.mem_of_mem_drop (List.mem_of_mem_take hi))
theorem opV_in {op : Op} {ks : List Rk} {t : Option Kd} {r : Rk} {vs : List PyData} (ft : Fit op ks t r) (vi : VsIn ks vs) : VIn r (opV op ks t vs) := by
  cases ft with
  | nt =>
    obtain ⟨v, rfl, i, rfl, i1, i2⟩ := vs1 vi
    have i1 : 0 ≤ i := i1
    have i2 : i ≤ 1 := i2
    exact vin_p (k := .bool) (show 0 ≤ 1 - i by omega) (show 1 - i ≤ 1 by omega)
  | an =>
    obtain ⟨v, u, rfl, ⟨i, rfl, i1, i2⟩, j, rfl, j1, j2⟩ := vs2 vi
    show VIn boolR (.int (Builtin.bitAnd i j))
    rw [(bits i j ⟨i1, i2⟩ ⟨j1, j2⟩).1]
    exact vin_bit' (.inr rfl) (.inl rfl)
  | orr =>
    obtain ⟨v, u, rfl, ⟨i, rfl, i1, i2⟩, j, rfl, j1, j2⟩ := vs2 vi
    show VIn boolR (.int (Builtin.bitOr i j))
    rw [(bits i j ⟨i1, i2⟩ ⟨j1, j2⟩).2.1]
    exact vin_bit' (.inr rfl) (.inl rfl)
  | xr =>
    obtain ⟨v, u, rfl, ⟨i, rfl, i1, i2⟩, j, rfl, j1, j2⟩ := vs2 vi
    show VIn boolR (.int (Builtin.bitXor i j))
    rw [(bits i j ⟨i1, i2⟩ ⟨j1, j2⟩).2.2]
    exact vin_bit' (.inl rfl) (.inr rfl)
  | eq ok =>
    obtain ⟨v, u, rfl, hv, hu⟩ := vs2 vi
    exact vin_bit' (.inr rfl) (.inl rfl)
  | ne ok =>
    obtain ⟨v, u, rfl, hv, hu⟩ := vs2 vi
    exact vin_bit' (.inl rfl) (.inr rfl)
  | lt ok =>
    obtain ⟨v, u, rfl, ⟨i, rfl, i1, i2⟩, j, rfl, j1, j2⟩ := vs2 vi
    exact vin_bit' (.inr rfl) (.inl rfl)
  | le ok =>
    obtain ⟨v, u, rfl, ⟨i, rfl, i1, i2⟩, j, rfl, j1, j2⟩ := vs2 vi
    exact vin_bit' (.inr rfl) (.inl rfl)
  | ng ok => exact vin_fit ok _
  | ad ok => exact vin_fit ok _
  | sb ok => exact vin_fit ok _
  | ml ok => exact vin_fit ok _
  | dv ok =>
    rename_i lo hi per how
    obtain ⟨v, u, rfl, ⟨i, rfl, i1, i2⟩, j, rfl, j1, j2⟩ := vs2 vi
    have en := ok.ends.1
    have en : lo ≤ hi := en
    show VIn _ (.int (if j ≠ 0 then fitI lo hi how ((i * per).fdiv j) else if i = 0 then fitI lo hi how 0 else if 0 < i then hi else lo))
    split
    · exact vin_fit ok _
    · split
      · exact vin_fit ok _
      · split
        · exact vin_p (k := .num lo hi per how) en (Int.le_refl _)
        · exact vin_p (k := .num lo hi per how) (Int.le_refl _) en
  | mn ok =>
    rename_i lo hi per how
    obtain ⟨v, u, rfl, ⟨i, rfl, i1, i2⟩, j, rfl, j1, j2⟩ := vs2 vi
    show VIn _ (.int (if j < i then j else i))
    split
    · exact vin_p (k := .num lo hi per how) j1 j2
    · exact vin_p (k := .num lo hi per how) i1 i2
  | mx ok =>
    rename_i lo hi per how
    obtain ⟨v, u, rfl, ⟨i, rfl, i1, i2⟩, j, rfl, j1, j2⟩ := vs2 vi
    show VIn _ (.int (if j > i then j else i))
    split
    · exact vin_p (k := .num lo hi per how) j1 j2
    · exact vin_p (k := .num lo hi per how) i1 i2
  | md ok =>
    rename_i lo hi per how
    obtain ⟨v, u, x, rfl, ⟨i, rfl, i1, i2⟩, ⟨j, rfl, j1, j2⟩, k, rfl, k1, k2⟩ := vs3 vi
    have pm := sort_perm [i, j, k]
    obtain ⟨a, b, c, e⟩ := len3 (l := sortI [i, j, k]) pm.length_eq
    show VIn _ (.int ((sortI [i, j, k]).getD 1 0))
    rw [e] at pm ⊢
    have hb : b ∈ [i, j, k] := pm.mem_iff.mp (by simp)
    have : b = i ∨ b = j ∨ b = k := by simpa using hb
    show VIn _ (.int b)
    rcases this with rfl | rfl | rfl
    · exact vin_p (k := .num lo hi per how) i1 i2
    · exact vin_p (k := .num lo hi per how) j1 j2
    · exact vin_p (k := .num lo hi per how) k1 k2
  | ass ok ok' => exact vin_fit ok' _
  | pk ok =>
    obtain ⟨v, u, x, rfl, ⟨i, rfl, i1, i2⟩, hu, hx⟩ := vs3 vi
    show VIn _ (if i = 1 then u else x)
    split
    · exact hu
    · exact hx
  | vt ok =>
    obtain ⟨v, u, x, rfl, hv, hu, hx⟩ := vs3 vi
    show VIn _ (if sameV v u then v else x)
    split
    · exact hv
    · exact hx
  | rw ok h1 h6 =>
    obtain ⟨is, rfl, li, mi⟩ := vals_row vi
    exact ⟨is, rfl, li, mi⟩
  | att ok ok' =>
    rename_i k n lo hi per how
    obtain ⟨v, u, rfl, ⟨is, rfl, ln, mi⟩, j, rfl, j1, j2⟩ := vs2 vi
    have n1 : 1 ≤ is.length := by have := ok.2.1; omega
    show VIn _ ((is.map PyData.int).getD (place (j / per) (is.map PyData.int).length) .none)
    rw [List.length_map]
    have pl := place_lt (x := j / per) n1
    rw [List.getD_eq_getElem?_getD, List.getElem?_map, List.getElem?_eq_getElem pl]
    have := mi _ (List.getElem_mem pl)
    exact ⟨_, rfl, this.1, this.2⟩
  | pt ok ok' =>
    rename_i k n lo hi per how
    obtain ⟨v, u, x, rfl, ⟨is, rfl, ln, mi⟩, ⟨j, rfl, j1, j2⟩, y, rfl, y1, y2⟩ := vs3 vi
    show VIn _ (if 0 ≤ j / per ∧ j / per < (((is.map PyData.int).length : Nat) : Int) then .tuple (cutP (is.map PyData.int) none (some (j / per)) ++ [.int y] ++ cutP (is.map PyData.int) (some (j / per + 1)) none) else .tuple (is.map PyData.int))
    split
    · next h =>
      rw [List.length_map] at h
      obtain ⟨js, e, lj, mj⟩ := cut_ints mi (j / per) h.1 h.2 ⟨y1, y2⟩
      rw [e]
      exact ⟨js, rfl, lj.trans ln, mj⟩
    · exact ⟨is, rfl, ln, mi⟩
  | sm ok =>
    rename_i n lo hi per how
    obtain ⟨v, rfl, is, rfl, ln, mi⟩ := vs1 vi
    have en : lo ≤ hi := ok.1.ends.1
    cases is with
    | nil =>
      have : 0 = n := ln
      have := ok.2.1
      omega
    | cons a l =>
      have ha := mi a List.mem_cons_self
      have := sumF_in en how ((l.map PyData.int).map iAt) a ha.1 ha.2
      exact vin_p (k := .num lo hi per how) this.1 this.2
  | ay ok => exact vin_bit' (.inr rfl) (.inl rfl)
  | al ok => exact vin_bit' (.inl rfl) (.inr rfl)
theorem vin_ok {r : Rk} {v : PyData} (h : VIn r v) : (∃ i, v = .int i) ∨ ∃ is : List Int, v = .tuple (is.map .int) := by
  cases r with
  | p k =>
    obtain ⟨i, rfl, _⟩ := h
    exact .inl ⟨i, rfl⟩
  | r k n =>
    obtain ⟨is, rfl, _⟩ := h
    exact .inr ⟨is, rfl⟩
theorem fit_ok {op : Op} {ks : List Rk} {t : Option Kd} {r : Rk} (ft : Fit op ks t r) : r.ok := by
  cases ft with
  | nt | an | orr | xr => exact bool_ok
  | eq _ | ne _ | lt _ | le _ | ay _ | al _ => exact bool_ok
  | ng ok | ad ok | sb ok | ml ok | dv ok | mn ok | mx ok | md ok => exact ok
  | ass _ ok => exact ok
  | pk ok | vt ok => exact ok
  | rw ok h1 h6 => exact ⟨ok, h1, h6⟩
  | att ok _ => exact ok.1
  | pt ok _ => exact ok
  | sm ok => exact ok.1
theorem opV_told {op : Op} (h : op ≠ .ass) (ks : List Rk) (t : Option Kd) (vs : List PyData) : opV op ks t vs = opV op ks none vs := by
  cases op <;> first | rfl | exact absurd rfl h
theorem kind_told {op : Op} (h : op ≠ .ass) (ks : List Rk) (t : Option Kd) : kindOf op ks t = kindOf op ks none := by
  cases op <;> first | rfl | exact absurd rfl h
theorem fit_told {op : Op} (h : op ≠ .ass) {ks : List Rk} {t : Option Kd} {r : Rk} (ft : Fit op ks t r) : Fit op ks none r := by
  cases ft with
  | nt => exact .nt
  | an => exact .an
  | orr => exact .orr
  | xr => exact .xr
  | eq ok => exact .eq ok
  | ne ok => exact .ne ok
  | lt ok => exact .lt ok
  | le ok => exact .le ok
  | ng ok => exact .ng ok
  | ad ok => exact .ad ok
  | sb ok => exact .sb ok
  | ml ok => exact .ml ok
  | dv ok => exact .dv ok
  | mn ok => exact .mn ok
  | mx ok => exact .mx ok
  | md ok => exact .md ok
  | ass _ _ => exact absurd rfl h
  | pk ok => exact .pk ok
  | vt ok => exact .vt ok
  | rw ok h1 h6 => exact .rw ok h1 h6
  | att ok ok' => exact .att ok ok'
  | pt ok ok' => exact .pt ok ok'
  | sm ok => exact .sm ok
  | ay ok => exact .ay ok
  | al ok => exact .al ok

/-! ### the law -/
theorem pss_exG {X : Cx} {rest : List Stmt} {g : PSt} {tbs : List Addr} (h : ∀ G : Gam, G.tbs = tbs → PSs X rest (tS X.K G g)) : PSs X rest (fun D σ H => ∃ G : Gam, G.tbs = tbs ∧ tS X.K G g D σ H) := ⟨fun pins s σ H D I ⟨G, e, q⟩ => (h G e).run pins s σ H D I q⟩
theorem StZ.init {K : PySem.W.Frag} {d c : Addr} {H : Hp} {x : V} {tbs : List Addr} (n : Nat) (dr : Dr d c H) (tk : ∀ b ∈ tbs, GxR.TabG H b) : StZ K ⟨some (d, c), H, fun _ => False, fun _ => False, [], tbs⟩ (fun _ => False) H (some x :: some (.ref d) :: List.replicate n none) (.no :: .drw :: List.replicate n .no) [] := by
  have at_ : ∀ (i : Nat) (p : Cel), (Cel.no :: .drw :: List.replicate n .no)[i]? = some p → (p = .no ∧ ∃ ov : Option V, (some x :: some (V.ref d) :: List.replicate n none)[i]? = some ov) ∨ (p = .drw ∧ (some x :: some (V.ref d) :: List.replicate n none)[i]? = some (some (.ref d))) := fun i p e => by
    rcases i with _ | _ | i
    · exact .inl ⟨(Option.some.inj e).symm, _, rfl⟩
    · exact .inr ⟨(Option.some.inj e).symm, rfl⟩
    · have e : (List.replicate n Cel.no)[i]? = some p := e
      rw [List.getElem?_replicate] at e
      split at e
      · next hi => exact .inl ⟨(Option.some.inj e).symm, none, by show (List.replicate n none)[i]? = _; rw [List.getElem?_replicate, if_pos hi]⟩
      · cases e
  have no : ∀ {i a}, ¬ OwnS H (some x :: some (.ref d) :: List.replicate n none) (.no :: .drw :: List.replicate n .no) i a := fun {i a} ⟨ov, p, _, e2, hb⟩ => by
    rcases at_ i p e2 with ⟨rfl, _⟩ | ⟨rfl, _⟩ <;> cases ov <;> cases hb
  obtain ⟨cells, k, big, seed, cnt, h1, h2, h3⟩ := id dr
  refine ⟨⟨fun a h => h.elim, fun a h => h.elim, fun d' c' e => ?_⟩, fun i p e => ?_, fun t ht => (by cases ht), fun t ht => (by cases ht), fun t ht => (by cases ht), List.Pairwise.nil, fun i j a o => (no o).elim, List.Pairwise.nil, fun i a t o => (no o).elim, fun t ht => (by cases ht), fun j xs e => ?_, fun a h => h, fun a h => .inl h, fun a h => h.elim, fun b o e _ _ _ => e, fun b e => e, fun d' c' e => by cases e; exact dr, fun b h => h, tk⟩
  · cases e
    exact ⟨id, id, id, id, (fun z => by rw [show H d = none from z] at h1; cases h1), fun z => by rw [show H c = none from z] at h2; cases h2⟩
  · rcases at_ i p e with ⟨rfl, ov, e1⟩ | ⟨rfl, e1⟩
    · exact ⟨ov, e1, trivial⟩
    · exact ⟨_, e1, d, c, rfl, rfl⟩
  · rcases at_ j _ e with ⟨z, _⟩ | ⟨z, _⟩ <;> cases z
def rLaw (K : PySem.W.Frag) (tbs : List Addr) : V → Hp → VK → Prop := fun x H Q => ∃ (a : Addr) (ns : List Int), x = .ref a ∧ SqL K H a (ns.map V.int) ∧ ns.length ≤ 63 ∧ (∀ b ∈ tbs, GxR.TabG H b) ∧ ∀ H', Q (.bl true) H'
theorem range_int {n : Int} {i : Nat} {x : PyData} (h : (rangeP 0 n)[i]? = some x) : ∃ k : Int, x = .int k := by
  unfold rangeP at h
  rw [List.getElem?_map] at h
  obtain ⟨k, _, rfl⟩ := Option.map_eq_some_iff.mp h
  exact ⟨_, rfl⟩

/-! ### the law -/
def allOps : List Op := [.nt, .an, .orr, .xr, .eq, .ne, .lt, .le, .ng, .ad, .sb, .ml, .dv, .mn, .mx, .md, .ass, .pk, .vt, .rw, .att, .pt, .sm, .ay, .al]
theorem ops_words : Txt.split ("not and or xor eq ne lt le neg add sub mul div min max mid as pick vote row at put sum any all" : Str) " " = allOps.map Op.s := by decide +kernel
theorem op_as (op : Op) : decide (op.s = "as") = true ↔ op = .ass := by cases op <;> simp [Op.s] <;> decide +kernel
theorem ok_told_eq {a b : Option Rk} : a = b → okD a = okD b := fun h => by rw [h]
section
variable {P : Program} {w : World} {K : PySem.W.Frag} {mg : Str → Option Value} {base : Heap}
theorem ok_law (T : Tx K mg w base) : FnOk P w K mg base CX0 11 T.f_law T.fd_law ["_law_script"] (sp1 (rLaw K T.tbs)) := by
  refine okR1 T.F_law sc_law rfl fun cdv A outer s H Q E x hr h => ?_
  obtain ⟨a, ns, rfl, hS, h63, tk, q⟩ := h
  refine ⟨_, (pss_cons (ps_set (i := 1) sc_law.nd rfl (Or.inr rfl) (pe_call (ok_begin T) (hr.mono (by decide)) rfl T.m_begin T.F_begin.kp T.b_begin .nil pass0 (pa_cons (pv 0) pa_nil))) (pss_exG fun G hG =>
      (pss_consP (ps_setP (ps_set (i := 2) sc_law.nd rfl (Or.inl rfl) (pe_call0P hG (pe_call0 (okp_pool T) (hr.mono (by decide)) rfl T.m_pool T.F_pool.kp T.b_pool .nil pass0))))
      (pss_consP (ps_setP (ps_set (i := 3) sc_law.nd rfl (Or.inl rfl) (pe_cP (d := .str "not and or xor eq ne lt le neg add sub mul div min max mid as pick vote row at put sum any all") pe_str)))
      (pss_consP (ps_forP (ps_for PassesOwn.never rfl (pi_range1P (pi_range1 (by rfl) T.z_range (pa_consP (pe_opP op_addP li_add (pe_cP (d := .int 1) pe_int) (pe_callP hG (pe_call (okp_draw T) (hr.mono (by decide)) rfl T.m_draw T.F_draw.kp T.b_draw .nil pass0 (pa_consP (pe_borP (pv 1)) (pa_consP (pe_cP (d := .int 3) pe_int) pa_nilP))))) pa_nilP))) (pg_nameP (pg_name (i := 4) sc_law.nd rfl (Or.inl rfl)))
      (pss_consP (ps_setP (ps_set (i := 5) sc_law.nd rfl (Or.inl rfl) (pe_callP hG (pe_call (okp_pick T) (hr.mono (by decide)) rfl T.m_pick T.F_pick.kp T.b_pick .nil pass0 (pa_consP (pe_borP (pv 1)) (pa_consP (pe_splitP (pe_split (pe_borP (pv 3)) (pe_cP (d := .str " ") pe_str))) pa_nilP))))))
      (pss_consP (ps_setP (ps_set (i := 6) sc_law.nd rfl (Or.inl rfl) (pe_callP hG (pe_call (okp_operand_kinds T) (hr.mono (by decide)) rfl T.m_operand_kinds T.F_operand_kinds.kp T.b_operand_kinds .nil pass0 (pa_consP (pe_borP (pv 1)) (pa_consP (pe_borP (pv 5)) (pa_consP (pe_borP (pv 2)) pa_nilP)))))))
      (pss_cutP (ps_ifP (pt_cmpP (op_eqP hr.units) li_eq (pe_callP hG (pe_call (okp_draw T) (hr.mono (by decide)) rfl T.m_draw T.F_draw.kp T.b_draw .nil pass0 (pa_consP (pe_borP (pv 1)) (pa_consP (pe_cP (d := .int 4) pe_int) pa_nilP)))) (pe_cP (d := .int 0) pe_int) (nomark _)) (pss_oneP (ps_setP (ps_set (i := 6) sc_law.nd rfl (Or.inl rfl) (pe_callP hG (pe_call (okp_bent T) (hr.mono (by decide)) rfl T.m_bent T.F_bent.kp T.b_bent .nil pass0 (pa_consP (pe_borP (pv 1)) (pa_consP (pe_borP (pv 6)) (pa_consP (pe_borP (pv 2)) pa_nilP)))))))) pss_nilP)
      (pss_consP (ps_setP (ps_set (i := 7) sc_law.nd rfl (Or.inl rfl) (pe_callP hG (pe_call (okp_num T) (hr.mono (by decide)) rfl T.m_num T.F_num.kp T.b_num .nil pass0 (pa_consP (pe_borP (pv 1)) (pa_consP (pe_cP (d := .int 30) pe_int) pa_nilP))))))
      (pss_cutP (ps_setP (ps_set (i := 8) sc_law.nd rfl (Or.inl rfl) (pe_ifP (pt_notP (pt_truP (pe_borP (pv 6)))) (pe_cP (d := .none) pe_non) (pe_callP hG (pe_call (okp_op_kind T) (hr.mono (by decide)) rfl T.m_op_kind T.F_op_kind.kp T.b_op_kind .nil pass0 (pa_consP (pe_borP (pv 5)) (pa_consP (pe_varP (pv 6)) (pa_consP (pe_borP (pv 7)) pa_nilP))))))))
      (pss_cutP (ps_ifP (pt_cmpP (op_eqP hr.units) li_eq (pe_borP (pv 5)) (pe_cP (d := .str "as") pe_str) (nomark _)) (pss_oneP (ps_setP (ps_set (i := 9) sc_law.nd rfl (Or.inl rfl) (pe_callP hG (pe_call (okp_result_kind T) (hr.mono (by decide)) rfl T.m_result_kind T.F_result_kind.kp T.b_result_kind .nil pass0 (pa_consP (pe_borP (pv 5)) (pa_consP (pe_cbP lc_tup (pe_callTy (show CallR _ (.type "tuple") (rTupOf K) from call_tup) (by rfl) T.z_tuple (by decide +kernel) (pa_consP (pe_borP (pv 6)) pa_nilP))) (pa_consP (pe_borP (pv 7)) pa_nilP)))))))) (pss_oneP (ps_setP (ps_set (i := 9) sc_law.nd rfl (Or.inl rfl) (pe_callDP hG (pe_call (okp_result_kind T) (hr.mono (by decide)) rfl T.m_result_kind T.F_result_kind.kp T.b1_result_kind T.v1_result_kind pass0 (pa_consP (pe_borP (pv 5)) (pa_consP (pe_cbP lc_tup (pe_callTy (show CallR _ (.type "tuple") (rTupOf K) from call_tup) (by rfl) T.z_tuple (by decide +kernel) (pa_consP (pe_borP (pv 6)) pa_nilP))) pa_nilP))))))))
      (pss_cutP (ps_ifP (pt_cmpP (op_neP hr.units) li_ne (pe_borP (pv 9)) (pe_borP (pv 8)) (nomark _)) (pss_oneP (ps_retP (pe_cP (d := .bool false) pe_bl))) pss_nilP)
      (pss_oneP (ps_forP (ps_for PassesOwn.never rfl (pi_range1P (pi_range1 (by rfl) T.z_range (pa_consP (pe_ifP (pt_cmpP op_nisP li_is (pe_borP (pv 8)) (pe_cP (d := .none) pe_non) (nomark _)) (pe_cP (d := .int 6) pe_int) (pe_cP (d := .int 0) pe_int)) pa_nilP))) (pg_nameP (pg_name (i := 10) sc_law.nd rfl (Or.inl rfl)))
      (pss_consP (ps_setLcP (i := 11) (vs := [14]) (ps_setLc (i := 11) (own := [("_law_kind", 14)]) rfl sc_law.nd rfl rfl (sw_true rfl rfl rfl (by decide +kernel)) (pi_itemsP (pe_varP (pv 6))) (blkOk_by (N := ["_law_script", "_law_d", "_law_pool_here", "_law_words", "_law_turn", "_law_op_here", "_law_kinds", "_law_goal", "_law_due", "_law_got", "_law_step", "_law_values", "_law_right", "_law_value_here", "_law_kind"]) (sc := defScope s_law) (by decide +kernel)) (fun _ _ _ _ _ => (pg_compP (vs := [14]) (pg_name (i := 14) sc_law.nd rfl (Or.inl rfl)))) (fun _ _ _ _ _ => pts_nilP) (fun _ _ _ _ _ => (pe_frzP (pe_callP hG (pe_call (okp_operand T) (hr.mono (by decide)) rfl T.m_operand T.F_operand.kp T.b_operand .nil pass0 (pa_consP (pe_borP (pv 1)) (pa_consP (pe_borP (pv 14)) pa_nilP))))))))
      (pss_consP (ps_setP (ps_set (i := 12) sc_law.nd rfl (Or.inl rfl) (pe_callP hG (pe_call (okp_op T) (hr.mono (by decide)) rfl T.m_op T.F_op.kp T.b_op .nil pass0 (pa_consP (pe_borP (pv 5)) (pa_consP (pe_varP (pv 6)) (pa_consP (pe_varP (pv 11)) (pa_consP (pe_borP (pv 7)) pa_nilP))))))))
      (pss_cutP (ps_ifP (pt_cmpP (op_eqP hr.units) li_eq (pe_borP (pv 5)) (pe_cP (d := .str "as") pe_str) (nomark _)) (pss_oneP (ps_setP (ps_set (i := 13) sc_law.nd rfl (Or.inl rfl) (pe_callNP hG (pe_callN (okp_result T) (hr.mono (by decide)) rfl T.m_result T.F_result.kp T.kn_result pass0 (pa_consP (pe_borP (pv 5)) (pa_consP (pe_cbP lc_tup (pe_callTy (show CallR _ (.type "tuple") (rTupOf K) from call_tup) (by rfl) T.z_tuple (by decide +kernel) (pa_consP (pe_borP (pv 6)) pa_nilP))) (pa_consP (pe_cbP lc_tup (pe_callTy (show CallR _ (.type "tuple") (rTupOf K) from call_tup) (by rfl) T.z_tuple (by decide +kernel) (pa_consP (pe_borP (pv 11)) pa_nilP))) pa_nilP))) (pk_consP (pe_borP (pv 7)) pk_nilP)))))) (pss_oneP (ps_setP (ps_set (i := 13) sc_law.nd rfl (Or.inl rfl) (pe_callDP hG (pe_call (okp_result T) (hr.mono (by decide)) rfl T.m_result T.F_result.kp T.b1_result T.v1_result pass0 (pa_consP (pe_borP (pv 5)) (pa_consP (pe_cbP lc_tup (pe_callTy (show CallR _ (.type "tuple") (rTupOf K) from call_tup) (by rfl) T.z_tuple (by decide +kernel) (pa_consP (pe_borP (pv 6)) pa_nilP))) (pa_consP (pe_cbP lc_tup (pe_callTy (show CallR _ (.type "tuple") (rTupOf K) from call_tup) (by rfl) T.z_tuple (by decide +kernel) (pa_consP (pe_borP (pv 11)) pa_nilP))) pa_nilP)))))))))
      (pss_oneP (ps_ifP (PW.pt (pw_orP (pt_cmpP (op_neP hr.units) li_ne (pe_borP (pv 13)) (pe_borP (pv 12)) (nomark _)) (pw_or1P (pt_notP (pt_truP (pe_callP hG (pe_call (okp_has T) (hr.mono (by decide)) rfl T.m_has T.F_has.kp T.b_has .nil pass0 (pa_consP (pe_borP (pv 8)) (pa_consP (pe_borP (pv 13)) pa_nilP))))))))) (pss_oneP (ps_retP (pe_cP (d := .bool false) pe_bl))) pss_nilP)))))))))))))))))
      (pss_oneP (ps_retP (pe_cP (d := .bool true) pe_bl)))))))), ?_⟩
  refine ⟨_, rfl, _, rfl, a, ns, rfl, hS, h63, fun d c H1 dr1 s1 => ?_⟩
  have tk1 : ∀ b ∈ T.tbs, GxR.TabG H1 b := fun b hb => by
    obtain ⟨ps, h1, h2⟩ := tk b hb
    exact ⟨ps, (s1 b _ h1), h2⟩
  refine ⟨⟨some (d, c), H1, fun _ => False, fun _ => False, [], T.tbs⟩, rfl, [.no, .drw, .no, .no, .no, .no, .no, .no, .no, .no, .no, .no, .no, .no, .no], [], ⟨fun _ => False, fun p _ => p = .dat (.bool true), fun _ => False, fun _ => False⟩, (fun t ht => by cases ht), ⟨_, StZ.init 13 dr1 tk1⟩, ?_, ⟨fun _ _ _ h _ => h.elim, fun p env σ v H' e st => ?_, fun _ _ _ h _ => h.elim, fun _ _ _ h _ => h.elim⟩⟩
  · refine ⟨rfl, _, rfl, by decide, by decide, fun r r0 r1 => ⟨by omega, by omega, ?_⟩⟩
    obtain ⟨wd, ewd⟩ : ∃ wd : Str, wd = "not and or xor eq ne lt le neg add sub mul div min max mid as pick vote row at put sum any all" := ⟨_, rfl⟩
    refine ⟨fun i env => i ≤ 3 ∧ ∃ (ns : List Str) (c4 c5 c6 c7 c8 c9 c10 c11 c12 c13 : Cel), PoolOk (9 * (3 - i)) ns ∧ env = [.no, .drw, .own (poolD ns), .dat (.str wd), c4, c5, c6, c7, c8, c9, c10, c11, c12, c13, .no], ⟨by omega, poolN, .no, .no, .no, .no, .no, .no, .no, .no, .no, .no, ⟨by decide +kernel, by decide +kernel, by decide +kernel⟩, by rw [ewd]; rfl⟩, ?_, ?_⟩
    · rintro i x env hx ⟨i3, ns, c4, c5, c6, c7, c8, c9, c10, c11, c12, c13, po, rfl⟩
      have hi := (List.getElem?_eq_some_iff.mp hx).1
      unfold rangeP at hi
      rw [List.length_map, List.length_range] at hi
      obtain ⟨b, eb⟩ : ∃ b, 9 * (3 - i) = b + 9 := ⟨9 * (3 - i) - 9, by omega⟩
      rw [eb] at po
      refine ⟨rfl, by rw [ewd]; exact szr, ?_⟩
      have ew := ops_words
      rw [← ewd] at ew
      rw [ew]
      refine ⟨_, .inl rfl, by simp [allOps], by rw [List.length_map, List.length_map]; exact Nat.le_of_ble_eq_true rfl, fun k d0 hd => ?_⟩
      rw [List.getElem?_map, List.getElem?_map] at hd
      obtain ⟨s0, hs0, rfl⟩ := Option.map_eq_some_iff.mp hd
      obtain ⟨op, _, rfl⟩ := Option.map_eq_some_iff.mp hs0
      refine ⟨op, ns, b + 3, rfl, po, fun ks ns1 kok l6 po1 => ?_⟩
      refine ⟨fun env => ∃ (js : List Rk) (ns2 : List Str), (js = [] ∨ KsOk js) ∧ PoolOk b ns2 ∧ env = [.no, .drw, .own (poolD ns2), .dat (.str wd), .dat x, .dat (.str op.s), .own (js.map Rk.d), c7, c8, c9, c10, c11, c12, c13, .no], ⟨_, rfl, by decide, by decide, fun z z0 z1 => IfP.both (fun h1 => ?_) fun h1 => ⟨ks, ns1, .inr kok, po1.less (by omega), rfl⟩⟩, ?_⟩
      · exact ⟨ks, ns1, b, rfl, kok, l6, po1, fun js ns2 jok po2 => ⟨js, ns2, jok, po2, rfl⟩⟩
      rintro env ⟨js, ns2, jok, po2, rfl⟩
      refine ⟨30, rfl, by decide, by decide, fun glo ghi gper ghow gok => ?_⟩
      obtain ⟨g, eg⟩ : ∃ g : Kd, g = .num glo ghi gper ghow := ⟨_, rfl⟩
      rw [← eg] at gok ⊢
      have done : ∀ (env : PEnv) (c6 c7 c8 c9 c10 c11 c12 c13 : Cel), env = [.no, .drw, .own (poolD ns2), .dat (.str wd), .dat x, .dat (.str op.s), c6, c7, c8, c9, c10, c11, c12, c13, .no] → i + 1 ≤ 3 ∧ ∃ (ns : List Str) (c4 c5 c6 c7 c8 c9 c10 c11 c12 c13 : Cel), PoolOk (9 * (3 - (i + 1))) ns ∧ env = [.no, .drw, .own (poolD ns), .dat (.str wd), c4, c5, c6, c7, c8, c9, c10, c11, c12, c13, .no] := fun env c6 c7 c8 c9 c10 c11 c12 c13 e => ⟨by omega, ns2, _, _, c6, c7, c8, c9, c10, c11, c12, c13, po2.less (by omega), e⟩
      refine ⟨fun env => ∃ (kc : Cel) (due : PyData), ((js = [] ∧ kc = .own [] ∧ due = .none) ∨ (KsOk js ∧ kc = .dat (ksL js) ∧ due = okD (kindOf op js (some g)))) ∧ env = [.no, .drw, .own (poolD ns2), .dat (.str wd), .dat x, .dat (.str op.s), kc, .dat g.d, .dat due, c9, c10, c11, c12, c13, .no], ?_, ?_⟩
      · rcases jok with rfl | jok
        · exact .t rfl ⟨_, _, .inl ⟨rfl, rfl, rfl⟩, rfl⟩
        · refine .f ?_ ⟨op, js, g, rfl, jok, gok, _, _, .inr ⟨jok, rfl, rfl⟩, rfl⟩
          cases js with
          | nil => exact absurd rfl jok.1
          | cons a l => rfl
      rintro env ⟨kc, due, hd, rfl⟩
      refine ⟨fun env => env = [.no, .drw, .own (poolD ns2), .dat (.str wd), .dat x, .dat (.str op.s), kc, .dat g.d, .dat due, .dat due, c10, c11, c12, c13, .no], IfP.both (fun h1 => ?_) fun h1 => ?_, ?_⟩
      · have h1 : op = .ass := (op_as op).mp h1
        rcases hd with ⟨rfl, rfl, rfl⟩ | ⟨jok, rfl, rfl⟩
        · refine ⟨op, [], some g, rfl, .inl rfl, gok, fun _ => ⟨g, rfl⟩, ?_⟩
          rw [if_pos rfl]
          rfl
        · refine ⟨op, js, some g, rfl, .inr jok, gok, fun _ => ⟨g, rfl⟩, ?_⟩
          rw [if_neg jok.1]
          cases kindOf op js (some g) <;> rfl
      · have h1 : op ≠ .ass := fun z => by rw [(op_as op).mpr z] at h1; cases h1
        rcases hd with ⟨rfl, rfl, rfl⟩ | ⟨jok, rfl, rfl⟩
        · refine ⟨op, [], none, rfl, .inl rfl, trivial, fun z => absurd z h1, ?_⟩
          rw [if_pos rfl]
          rfl
        · refine ⟨op, js, none, rfl, .inr jok, trivial, fun z => absurd z h1, ?_⟩
          rw [if_neg jok.1, kind_told h1]
          cases kindOf op js none <;> rfl
      rintro env rfl
      refine ⟨fun env => env = [.no, .drw, .own (poolD ns2), .dat (.str wd), .dat x, .dat (.str op.s), kc, .dat g.d, .dat due, .dat due, c10, c11, c12, c13, .no], ?_, ?_⟩
      · rcases hd with ⟨_, _, rfl⟩ | ⟨jok, _, rfl⟩
        · exact .f rfl rfl
        · cases ek : kindOf op js (some g) with
          | none => exact .f rfl rfl
          | some r =>
            have rok := fit_ok (fit_of ek jok gok)
            refine ⟨rok.shaped, rok.shaped, .f ?_ rfl⟩
            show (!PyData.eqv r.d r.d) = false
            rw [Rk.eqv rok rok, decide_eq_true rfl]
            rfl
      rintro env rfl
      have hn : due = .none ∨ (KsOk js ∧ kc = .dat (ksL js) ∧ ∃ r, kindOf op js (some g) = some r ∧ due = r.d) := by
        rcases hd with ⟨_, _, e⟩ | ⟨jok, ekc, edue⟩
        · exact .inl e
        · cases ek : kindOf op js (some g) with
          | none => exact .inl (by rw [edue, ek]; rfl)
          | some r => exact .inr ⟨jok, ekc, r, rfl, by rw [edue, ek]; rfl⟩
      rcases hn with e | ⟨jok, ekc, r, ek, edue⟩
      · subst e
        exact IfP.f rfl ⟨by decide, by decide, fun i env => env = [.no, .drw, .own (poolD ns2), .dat (.str wd), .dat x, .dat (.str op.s), kc, .dat g.d, .dat .none, .dat .none, c10, c11, c12, c13, .no], rfl, fun i x env h _ => (by cases h), fun env e => done env _ _ _ _ _ _ _ _ e⟩
      · subst ekc edue
        have ft := fit_of ek jok gok
        have rok := fit_ok ft
        refine .t rfl ⟨by decide, by decide, fun i env => ∃ c10 c11 c12 c13 : Cel, env = [.no, .drw, .own (poolD ns2), .dat (.str wd), .dat x, .dat (.str op.s), .dat (ksL js), .dat g.d, .dat r.d, .dat r.d, c10, c11, c12, c13, .no], ⟨_, _, _, _, rfl⟩, ?_, ?_⟩
        · rintro i y env hy ⟨c10, c11, c12, c13, rfl⟩
          refine lc_atP (fun j v => ∀ k, js[j]? = some k → VIn k v) (szl (by rw [List.length_map]; have := jok.2.1; omega)) (fun j z hz Q0 hq => ?_) (fun vs lv hv => ?_)
          · rw [List.getElem?_map] at hz
            obtain ⟨k, hk, rfl⟩ := Option.map_eq_some_iff.mp hz
            refine .t rfl ⟨k, rfl, jok.2.2 k (List.mem_of_getElem? hk), fun v vin => hq v fun k' hk' => ?_⟩
            rw [hk] at hk'
            cases hk'
            exact vin
          have vi : VsIn js vs := ⟨by rw [lv, List.length_map], fun j k v h1 h2 => hv j v h2 k h1⟩
          have vr := opV_in ft vi
          refine ⟨op, js, g, r, vs, rfl, ft, vi, ?_⟩
          refine ⟨fun env => env = [.no, .drw, .own (poolD ns2), .dat (.str wd), .dat x, .dat (.str op.s), .dat (ksL js), .dat g.d, .dat r.d, .dat r.d, .dat y, .dat (.list vs), .dat (opV op js (some g) vs), .dat (opV op js (some g) vs), .no], IfP.both (fun h1 => ?_) fun h1 => ?_, ?_⟩
          · exact ⟨rfl, rfl, op, js, some g, r, vs, rfl, ft, vi, rfl⟩
          · have h1 : op ≠ .ass := fun z => by rw [(op_as op).mpr z] at h1; cases h1
            refine ⟨op, js, none, r, vs, rfl, fit_told h1 ft, vi, ?_⟩
            rw [← opV_told h1 js (some g) vs]
            rfl
          rintro env rfl
          generalize opV op js (some g) vs = v at vr ⊢
          rcases vin_ok vr with ⟨z, rfl⟩ | ⟨is, rfl⟩
          · exact .f (by show (!decide (z = z)) = false; rw [decide_eq_true rfl]; rfl) ⟨r, _, rfl, rok, (fun z => by cases z), vr, .f rfl ⟨_, _, _, _, rfl⟩⟩
          · refine ⟨ints_shaped is, ints_shaped is, .f ?_ ⟨r, _, rfl, rok, (fun z => by cases z), vr, .f rfl ⟨_, _, _, _, rfl⟩⟩⟩
            show (!PyData.eqv (.tuple (is.map .int)) (.tuple (is.map .int))) = false
            rw [(eqv_iff (ints_plain is) (ints_plain is)).mpr rfl]
            rfl
        · rintro env ⟨c10, c11, c12, c13, rfl⟩
          exact done _ _ _ _ _ _ _ _ _ rfl
    · rintro env ⟨i3, ns, c4, c5, c6, c7, c8, c9, c10, c11, c12, c13, po, rfl⟩
      rfl
  · obtain ⟨Z, st⟩ := st
    subst e
    have := st.topDat
    cases this
    exact q H'
end

example : tfs = ([("_alike", none)] : List He.Defn) := rfl
theorem cd_of {K : PySem.W.Frag} {x qual : Str} {params : Arguments} {body : List Stmt} {scope : Scope} {dvs : List V} {kws : List (Str × V)} {p : Str × Option Str} {fd : FuncData} (F : FunD K x qual params body scope dvs kws (He.fAd K p) fd) : fd.code = .ref (He.codeOf K p) := by
  obtain ⟨oc, od, dV, kV, doc, pm, an, cdv, ct, osl, rfl, lk, hcd, _, _⟩ := F.ex
  obtain ⟨c, rfl⟩ := He.codeIn_ref hcd
  rw [He.codeOf_eq lk rfl]
theorem factsM {P : Program} {w : World} {K : PySem.W.Frag} {h : Heap} {mg : Str → Option Value} {f : Addr} (X : K.In h) (G : h.Ns mainGlobals mg) (hfa : mg ("law" : Str) = some (.ref f)) (cX : He.SaysX fa fn tabs tfs exB w h K) :
    ∃ fd : FuncData, (∀ (s : Shared) (v : Value), BindsTo s fd ⟨[v], []⟩ [("_law_script", v)]) ∧ ∀ base : Heap, K.In base → base.Ns mainGlobals mg → (∀ p ∈ tfs.map (He.cT K), GxR.TabB base mg p.1 p.2) → FnOk P w K mg base CX0 11 f fd ["_law_script"] (sp1 (rLaw K (tfs.map fun p => (He.cT K p).2))) := by
  have cT := cX.t
  have cex := cX.more
  have c := cT.d
  have ct := fun (i : Nat) (t : He.Tab) (h : tabs[i]? = some t) => cT.tab i (t := t) h
  obtain ⟨fd_is_int, F_is_int⟩ := c.def_ 0 (d := d_is_int) rfl
  obtain ⟨fd_is_within, F_is_within⟩ := c.def_ 1 (d := d_is_within) rfl
  obtain ⟨fd_is_tuple_of, F_is_tuple_of⟩ := c.def_ 2 (d := d_is_tuple_of) rfl
  obtain ⟨fd_is_num, F_is_num⟩ := c.def_ 3 (d := d_is_num) rfl
  obtain ⟨fd_is_row, F_is_row⟩ := c.def_ 4 (d := d_is_row) rfl
  obtain ⟨fd_zero, F_zero⟩ := c.def_ 5 (d := d_zero) rfl
  obtain ⟨fd_p_fit, F_p_fit⟩ := c.def_ 6 (d := d_p_fit) rfl
  obtain ⟨fd_alike, F_alike⟩ := c.def_ 7 (d := d_alike) rfl
  obtain ⟨fd_like_nums, F_like_nums⟩ := c.def_ 8 (d := d_like_nums) rfl
  obtain ⟨fd_logic_kind, F_logic_kind⟩ := c.def_ 9 (d := d_logic_kind) rfl
  obtain ⟨fd_equal_kind, F_equal_kind⟩ := c.def_ 10 (d := d_equal_kind) rfl
  obtain ⟨fd_order_kind, F_order_kind⟩ := c.def_ 11 (d := d_order_kind) rfl
  obtain ⟨fd_number_kind, F_number_kind⟩ := c.def_ 12 (d := d_number_kind) rfl
  obtain ⟨fd_as_kind, F_as_kind⟩ := c.def_ 13 (d := d_as_kind) rfl
  obtain ⟨fd_pick_kind, F_pick_kind⟩ := c.def_ 14 (d := d_pick_kind) rfl
  obtain ⟨fd_vote_kind, F_vote_kind⟩ := c.def_ 15 (d := d_vote_kind) rfl
  obtain ⟨fd_p_row_kind, F_p_row_kind⟩ := c.def_ 16 (d := d_p_row_kind) rfl
  obtain ⟨fd_at_kind, F_at_kind⟩ := c.def_ 17 (d := d_at_kind) rfl
  obtain ⟨fd_put_kind, F_put_kind⟩ := c.def_ 18 (d := d_put_kind) rfl
  obtain ⟨fd_sum_kind, F_sum_kind⟩ := c.def_ 19 (d := d_sum_kind) rfl
  obtain ⟨fd_p_some_kind, F_p_some_kind⟩ := c.def_ 20 (d := d_p_some_kind) rfl
  obtain ⟨fd_result_kind, F_result_kind⟩ := c.def_ 21 (d := d_result_kind) rfl
  obtain ⟨fd_place, F_place⟩ := c.def_ 22 (d := d_place) rfl
  obtain ⟨fd_not, F_not⟩ := c.def_ 23 (d := d_not) rfl
  obtain ⟨fd_and, F_and⟩ := c.def_ 24 (d := d_and) rfl
  obtain ⟨fd_or, F_or⟩ := c.def_ 25 (d := d_or) rfl
  obtain ⟨fd_xor, F_xor⟩ := c.def_ 26 (d := d_xor) rfl
  obtain ⟨fd_eq, F_eq⟩ := c.def_ 27 (d := d_eq) rfl
  obtain ⟨fd_ne, F_ne⟩ := c.def_ 28 (d := d_ne) rfl
  obtain ⟨fd_lt, F_lt⟩ := c.def_ 29 (d := d_lt) rfl
  obtain ⟨fd_le, F_le⟩ := c.def_ 30 (d := d_le) rfl
  obtain ⟨fd_neg, F_neg⟩ := c.def_ 31 (d := d_neg) rfl
  obtain ⟨fd_add, F_add⟩ := c.def_ 32 (d := d_add) rfl
  obtain ⟨fd_sub, F_sub⟩ := c.def_ 33 (d := d_sub) rfl
  obtain ⟨fd_mul, F_mul⟩ := c.def_ 34 (d := d_mul) rfl
  obtain ⟨fd_div, F_div⟩ := c.def_ 35 (d := d_div) rfl
  obtain ⟨fd_min, F_min⟩ := c.def_ 36 (d := d_min) rfl
  obtain ⟨fd_max, F_max⟩ := c.def_ 37 (d := d_max) rfl
  obtain ⟨fd_mid, F_mid⟩ := c.def_ 38 (d := d_mid) rfl
  obtain ⟨fd_as, F_as⟩ := c.def_ 39 (d := d_as) rfl
  obtain ⟨fd_p_pick, F_p_pick⟩ := c.def_ 40 (d := d_p_pick) rfl
  obtain ⟨fd_vote, F_vote⟩ := c.def_ 41 (d := d_vote) rfl
  obtain ⟨fd_row, F_row⟩ := c.def_ 42 (d := d_row) rfl
  obtain ⟨fd_at, F_at⟩ := c.def_ 43 (d := d_at) rfl
  obtain ⟨fd_put, F_put⟩ := c.def_ 44 (d := d_put) rfl
  obtain ⟨fd_sum, F_sum⟩ := c.def_ 45 (d := d_sum) rfl
  obtain ⟨fd_any, F_any⟩ := c.def_ 46 (d := d_any) rfl
  obtain ⟨fd_all, F_all⟩ := c.def_ 47 (d := d_all) rfl
  obtain ⟨fd_result, F_result⟩ := c.def_ 48 (d := d_result) rfl
  obtain ⟨fd_begin, F_begin⟩ := c.def_ 49 (d := d_begin) rfl
  obtain ⟨fd_mixed, F_mixed⟩ := c.def_ 50 (d := d_mixed) rfl
  obtain ⟨fd_draw, F_draw⟩ := c.def_ 51 (d := d_draw) rfl
  obtain ⟨fd_draw_digit, F_draw_digit⟩ := c.def_ 52 (d := d_draw_digit) rfl
  obtain ⟨fd_pick, F_pick⟩ := c.def_ 53 (d := d_pick) rfl
  obtain ⟨fd_pop, F_pop⟩ := c.def_ 54 (d := d_pop) rfl
  obtain ⟨fd_rare, F_rare⟩ := c.def_ 55 (d := d_rare) rfl
  obtain ⟨fd_pool, F_pool⟩ := c.def_ 56 (d := d_pool) rfl
  obtain ⟨fd_fit, F_fit⟩ := c.def_ 57 (d := d_fit) rfl
  obtain ⟨fd_ends, F_ends⟩ := c.def_ 58 (d := d_ends) rfl
  obtain ⟨fd_has, F_has⟩ := c.def_ 59 (d := d_has) rfl
  obtain ⟨fd_value, F_value⟩ := c.def_ 60 (d := d_value) rfl
  obtain ⟨fd_num, F_num⟩ := c.def_ 61 (d := d_num) rfl
  obtain ⟨fd_plain_kind, F_plain_kind⟩ := c.def_ 62 (d := d_plain_kind) rfl
  obtain ⟨fd_op_kind, F_op_kind⟩ := c.def_ 63 (d := d_op_kind) rfl
  obtain ⟨fd_row_kind, F_row_kind⟩ := c.def_ 64 (d := d_row_kind) rfl
  obtain ⟨fd_op, F_op⟩ := c.def_ 65 (d := d_op) rfl
  obtain ⟨fd_num_op, F_num_op⟩ := c.def_ 66 (d := d_num_op) rfl
  obtain ⟨fd_row_op, F_row_op⟩ := c.def_ 67 (d := d_row_op) rfl
  obtain ⟨fd_some_kind, F_some_kind⟩ := c.def_ 68 (d := d_some_kind) rfl
  obtain ⟨fd_operand_kinds, F_operand_kinds⟩ := c.def_ 69 (d := d_operand_kinds) rfl
  obtain ⟨fd_operand, F_operand⟩ := c.def_ 70 (d := d_operand) rfl
  obtain ⟨fd_bent, F_bent⟩ := c.def_ 71 (d := d_bent) rfl
  obtain ⟨fd_law, F_law⟩ := c.def_ 72 (d := d_law) rfl
  have bb_result_kind : Binds K fd_result_kind ["op", "kinds", "told"] [] := by
    obtain ⟨ds, vv, b⟩ := FunD.binds1 (ps := ["op", "kinds", "told"]) (dvs := [V.non]) F_result_kind 3 1 (by simp) rfl (fun _ _ _ _ _ _ _ us its hl hi => match us, its, hl, hi with | [_, _, _], [_], _, _ => ⟨_, rfl, by kernel_rfl⟩)
    cases vv
    exact b
  obtain ⟨ds_result_kind, v1_result_kind, b1_result_kind⟩ := FunD.binds1 (ps := ["op", "kinds", "told"]) (dvs := [V.non]) F_result_kind 2 0 (by simp) rfl (fun _ _ _ _ _ _ _ us its hl hi => match us, its, hl, hi with | [_, _], [_], _, _ => ⟨_, rfl, by kernel_rfl⟩)
  have bb_result : Binds K fd_result ["op", "kinds", "values", "told"] [] := by
    obtain ⟨ds, vv, b⟩ := FunD.binds1 (ps := ["op", "kinds", "values", "told"]) (dvs := [V.non]) F_result 4 1 (by simp) rfl (fun _ _ _ _ _ _ _ us its hl hi => match us, its, hl, hi with | [_, _, _, _], [_], _, _ => ⟨_, rfl, by kernel_rfl⟩)
    cases vv
    exact b
  obtain ⟨ds_result, v1_result, b1_result⟩ := FunD.binds1 (ps := ["op", "kinds", "values", "told"]) (dvs := [V.non]) F_result 3 0 (by simp) rfl (fun _ _ _ _ _ _ _ us its hl hi => match us, its, hl, hi with | [_, _, _], [_], _, _ => ⟨_, rfl, by kernel_rfl⟩)
  have kn_result : KBn K fd_result ["op", "kinds", "values", "told"] 3 ["told"] (fun us ws => us ++ ws) (fun vs zs => vs ++ zs) := bindsKw (dvs := [V.non]) F_result 3 ["told"] (by simp) (fun _ _ _ _ _ _ _ us its ws h1 h2 h3 => match us, its, ws, h1, h2, h3 with | [_, _, _], [_], [_], _, _, _ => ⟨_, rfl, by kernel_rfl⟩)
  obtain ⟨tk_MOST_ENTRIES, mg_MOST_ENTRIES⟩ := He.int_ok X G (c.fact 87 (f := .int "MOST_ENTRIES" 6) rfl)
  obtain ⟨x_VALUE_RULES', tb_VALUE_RULES⟩ := He.ba (show (_ && _) = true from cex)
  obtain ⟨x_KIND_RULES', tb_KIND_RULES⟩ := He.ba (show (_ && _) = true from x_VALUE_RULES')
  obtain ⟨x_COUNTS', tb_COUNTS⟩ := He.ba (show (_ && _) = true from x_KIND_RULES')
  have tb_BOOL := x_COUNTS'
  obtain ⟨es_COUNTS, n_COUNTS, kx_COUNTS⟩ := ct 0 (fun K => He.ga K "COUNTS", keys_COUNTS) rfl
  obtain ⟨vb_COUNTS, nb_COUNTS⟩ := He.ba tb_COUNTS
  have kd_COUNTS : ∀ q ∈ tab_COUNTS, KDct K w (He.ga K "COUNTS") q.1 q.2 := fun q hq => by
    obtain ⟨p, hp, e1, e2⟩ : ∃ p ∈ dtab_COUNTS, p.1 = q.1 ∧ p.2.v K = q.2 := by
      have e : dtab_COUNTS.map (fun p => (p.1, p.2.v K)) = tab_COUNTS := rfl
      rw [← e] at hq
      obtain ⟨p, hp, rfl⟩ := List.mem_map.mp hq
      exact ⟨p, hp, rfl, rfl⟩
    obtain ⟨u, hu, ru⟩ := He.valsB_ok vb_COUNTS hp
    rw [e1] at hu
    rw [e2] at ru
    exact ⟨_, _, u, kx_COUNTS.at_, kx_COUNTS.lit, hu, ru⟩
  have no_COUNTS : ∀ z ∈ not_COUNTS, PySem.W.nsIn K (He.ga K "COUNTS") z = some none := fun z hz => He.eqO_ok (List.all_eq_true.mp nb_COUNTS z hz)
  obtain ⟨es_KIND_RULES, n_KIND_RULES, kd_KIND_RULES⟩ := ct 1 (fun K => He.ga K "KIND_RULES", keys_KIND_RULES) rfl
  have kd_KIND_RULES_not : KDct K w (He.ga K "KIND_RULES") "not" (.ref (He.ga K "_logic_kind")) := by
    obtain ⟨u, hu, ru⟩ := He.valsB_ok tb_KIND_RULES (q := ("not", .glo "_logic_kind")) (by simp)
    exact ⟨_, _, u, kd_KIND_RULES.at_, kd_KIND_RULES.lit, hu, ru⟩
  have kd_KIND_RULES_and : KDct K w (He.ga K "KIND_RULES") "and" (.ref (He.ga K "_logic_kind")) := by
    obtain ⟨u, hu, ru⟩ := He.valsB_ok tb_KIND_RULES (q := ("and", .glo "_logic_kind")) (by simp)
    exact ⟨_, _, u, kd_KIND_RULES.at_, kd_KIND_RULES.lit, hu, ru⟩
  have kd_KIND_RULES_or : KDct K w (He.ga K "KIND_RULES") "or" (.ref (He.ga K "_logic_kind")) := by
    obtain ⟨u, hu, ru⟩ := He.valsB_ok tb_KIND_RULES (q := ("or", .glo "_logic_kind")) (by simp)
    exact ⟨_, _, u, kd_KIND_RULES.at_, kd_KIND_RULES.lit, hu, ru⟩
  have kd_KIND_RULES_xor : KDct K w (He.ga K "KIND_RULES") "xor" (.ref (He.ga K "_logic_kind")) := by
    obtain ⟨u, hu, ru⟩ := He.valsB_ok tb_KIND_RULES (q := ("xor", .glo "_logic_kind")) (by simp)
    exact ⟨_, _, u, kd_KIND_RULES.at_, kd_KIND_RULES.lit, hu, ru⟩
  have kd_KIND_RULES_eq : KDct K w (He.ga K "KIND_RULES") "eq" (.ref (He.ga K "_equal_kind")) := by
    obtain ⟨u, hu, ru⟩ := He.valsB_ok tb_KIND_RULES (q := ("eq", .glo "_equal_kind")) (by simp)
    exact ⟨_, _, u, kd_KIND_RULES.at_, kd_KIND_RULES.lit, hu, ru⟩
  have kd_KIND_RULES_ne : KDct K w (He.ga K "KIND_RULES") "ne" (.ref (He.ga K "_equal_kind")) := by
    obtain ⟨u, hu, ru⟩ := He.valsB_ok tb_KIND_RULES (q := ("ne", .glo "_equal_kind")) (by simp)
    exact ⟨_, _, u, kd_KIND_RULES.at_, kd_KIND_RULES.lit, hu, ru⟩
  have kd_KIND_RULES_lt : KDct K w (He.ga K "KIND_RULES") "lt" (.ref (He.ga K "_order_kind")) := by
    obtain ⟨u, hu, ru⟩ := He.valsB_ok tb_KIND_RULES (q := ("lt", .glo "_order_kind")) (by simp)
    exact ⟨_, _, u, kd_KIND_RULES.at_, kd_KIND_RULES.lit, hu, ru⟩
  have kd_KIND_RULES_le : KDct K w (He.ga K "KIND_RULES") "le" (.ref (He.ga K "_order_kind")) := by
    obtain ⟨u, hu, ru⟩ := He.valsB_ok tb_KIND_RULES (q := ("le", .glo "_order_kind")) (by simp)
    exact ⟨_, _, u, kd_KIND_RULES.at_, kd_KIND_RULES.lit, hu, ru⟩
  have kd_KIND_RULES_neg : KDct K w (He.ga K "KIND_RULES") "neg" (.ref (He.ga K "_number_kind")) := by
    obtain ⟨u, hu, ru⟩ := He.valsB_ok tb_KIND_RULES (q := ("neg", .glo "_number_kind")) (by simp)
    exact ⟨_, _, u, kd_KIND_RULES.at_, kd_KIND_RULES.lit, hu, ru⟩
  have kd_KIND_RULES_add : KDct K w (He.ga K "KIND_RULES") "add" (.ref (He.ga K "_number_kind")) := by
    obtain ⟨u, hu, ru⟩ := He.valsB_ok tb_KIND_RULES (q := ("add", .glo "_number_kind")) (by simp)
    exact ⟨_, _, u, kd_KIND_RULES.at_, kd_KIND_RULES.lit, hu, ru⟩
  have kd_KIND_RULES_sub : KDct K w (He.ga K "KIND_RULES") "sub" (.ref (He.ga K "_number_kind")) := by
    obtain ⟨u, hu, ru⟩ := He.valsB_ok tb_KIND_RULES (q := ("sub", .glo "_number_kind")) (by simp)
    exact ⟨_, _, u, kd_KIND_RULES.at_, kd_KIND_RULES.lit, hu, ru⟩
  have kd_KIND_RULES_mul : KDct K w (He.ga K "KIND_RULES") "mul" (.ref (He.ga K "_number_kind")) := by
    obtain ⟨u, hu, ru⟩ := He.valsB_ok tb_KIND_RULES (q := ("mul", .glo "_number_kind")) (by simp)
    exact ⟨_, _, u, kd_KIND_RULES.at_, kd_KIND_RULES.lit, hu, ru⟩
  have kd_KIND_RULES_div : KDct K w (He.ga K "KIND_RULES") "div" (.ref (He.ga K "_number_kind")) := by
    obtain ⟨u, hu, ru⟩ := He.valsB_ok tb_KIND_RULES (q := ("div", .glo "_number_kind")) (by simp)
    exact ⟨_, _, u, kd_KIND_RULES.at_, kd_KIND_RULES.lit, hu, ru⟩
  have kd_KIND_RULES_min : KDct K w (He.ga K "KIND_RULES") "min" (.ref (He.ga K "_number_kind")) := by
    obtain ⟨u, hu, ru⟩ := He.valsB_ok tb_KIND_RULES (q := ("min", .glo "_number_kind")) (by simp)
    exact ⟨_, _, u, kd_KIND_RULES.at_, kd_KIND_RULES.lit, hu, ru⟩
  have kd_KIND_RULES_max : KDct K w (He.ga K "KIND_RULES") "max" (.ref (He.ga K "_number_kind")) := by
    obtain ⟨u, hu, ru⟩ := He.valsB_ok tb_KIND_RULES (q := ("max", .glo "_number_kind")) (by simp)
    exact ⟨_, _, u, kd_KIND_RULES.at_, kd_KIND_RULES.lit, hu, ru⟩
  have kd_KIND_RULES_mid : KDct K w (He.ga K "KIND_RULES") "mid" (.ref (He.ga K "_number_kind")) := by
    obtain ⟨u, hu, ru⟩ := He.valsB_ok tb_KIND_RULES (q := ("mid", .glo "_number_kind")) (by simp)
    exact ⟨_, _, u, kd_KIND_RULES.at_, kd_KIND_RULES.lit, hu, ru⟩
  have kd_KIND_RULES_as : KDct K w (He.ga K "KIND_RULES") "as" (.ref (He.ga K "_as_kind")) := by
    obtain ⟨u, hu, ru⟩ := He.valsB_ok tb_KIND_RULES (q := ("as", .glo "_as_kind")) (by simp)
    exact ⟨_, _, u, kd_KIND_RULES.at_, kd_KIND_RULES.lit, hu, ru⟩
  have kd_KIND_RULES_pick : KDct K w (He.ga K "KIND_RULES") "pick" (.ref (He.ga K "_pick_kind")) := by
    obtain ⟨u, hu, ru⟩ := He.valsB_ok tb_KIND_RULES (q := ("pick", .glo "_pick_kind")) (by simp)
    exact ⟨_, _, u, kd_KIND_RULES.at_, kd_KIND_RULES.lit, hu, ru⟩
  have kd_KIND_RULES_vote : KDct K w (He.ga K "KIND_RULES") "vote" (.ref (He.ga K "_vote_kind")) := by
    obtain ⟨u, hu, ru⟩ := He.valsB_ok tb_KIND_RULES (q := ("vote", .glo "_vote_kind")) (by simp)
    exact ⟨_, _, u, kd_KIND_RULES.at_, kd_KIND_RULES.lit, hu, ru⟩
  have kd_KIND_RULES_row : KDct K w (He.ga K "KIND_RULES") "row" (.ref (He.ga K "_row_kind")) := by
    obtain ⟨u, hu, ru⟩ := He.valsB_ok tb_KIND_RULES (q := ("row", .glo "_row_kind")) (by simp)
    exact ⟨_, _, u, kd_KIND_RULES.at_, kd_KIND_RULES.lit, hu, ru⟩
  have kd_KIND_RULES_at : KDct K w (He.ga K "KIND_RULES") "at" (.ref (He.ga K "_at_kind")) := by
    obtain ⟨u, hu, ru⟩ := He.valsB_ok tb_KIND_RULES (q := ("at", .glo "_at_kind")) (by simp)
    exact ⟨_, _, u, kd_KIND_RULES.at_, kd_KIND_RULES.lit, hu, ru⟩
  have kd_KIND_RULES_put : KDct K w (He.ga K "KIND_RULES") "put" (.ref (He.ga K "_put_kind")) := by
    obtain ⟨u, hu, ru⟩ := He.valsB_ok tb_KIND_RULES (q := ("put", .glo "_put_kind")) (by simp)
    exact ⟨_, _, u, kd_KIND_RULES.at_, kd_KIND_RULES.lit, hu, ru⟩
  have kd_KIND_RULES_sum : KDct K w (He.ga K "KIND_RULES") "sum" (.ref (He.ga K "_sum_kind")) := by
    obtain ⟨u, hu, ru⟩ := He.valsB_ok tb_KIND_RULES (q := ("sum", .glo "_sum_kind")) (by simp)
    exact ⟨_, _, u, kd_KIND_RULES.at_, kd_KIND_RULES.lit, hu, ru⟩
  have kd_KIND_RULES_any : KDct K w (He.ga K "KIND_RULES") "any" (.ref (He.ga K "_some_kind")) := by
    obtain ⟨u, hu, ru⟩ := He.valsB_ok tb_KIND_RULES (q := ("any", .glo "_some_kind")) (by simp)
    exact ⟨_, _, u, kd_KIND_RULES.at_, kd_KIND_RULES.lit, hu, ru⟩
  have kd_KIND_RULES_all : KDct K w (He.ga K "KIND_RULES") "all" (.ref (He.ga K "_some_kind")) := by
    obtain ⟨u, hu, ru⟩ := He.valsB_ok tb_KIND_RULES (q := ("all", .glo "_some_kind")) (by simp)
    exact ⟨_, _, u, kd_KIND_RULES.at_, kd_KIND_RULES.lit, hu, ru⟩
  obtain ⟨es_VALUE_RULES, n_VALUE_RULES, kd_VALUE_RULES⟩ := ct 2 (fun K => He.ga K "VALUE_RULES", keys_VALUE_RULES) rfl
  have kd_VALUE_RULES_not : KDct K w (He.ga K "VALUE_RULES") "not" (.ref (He.ga K "_not")) := by
    obtain ⟨u, hu, ru⟩ := He.valsB_ok tb_VALUE_RULES (q := ("not", .glo "_not")) (by simp)
    exact ⟨_, _, u, kd_VALUE_RULES.at_, kd_VALUE_RULES.lit, hu, ru⟩
  have kd_VALUE_RULES_and : KDct K w (He.ga K "VALUE_RULES") "and" (.ref (He.ga K "_and")) := by
    obtain ⟨u, hu, ru⟩ := He.valsB_ok tb_VALUE_RULES (q := ("and", .glo "_and")) (by simp)
    exact ⟨_, _, u, kd_VALUE_RULES.at_, kd_VALUE_RULES.lit, hu, ru⟩
  have kd_VALUE_RULES_or : KDct K w (He.ga K "VALUE_RULES") "or" (.ref (He.ga K "_or")) := by
    obtain ⟨u, hu, ru⟩ := He.valsB_ok tb_VALUE_RULES (q := ("or", .glo "_or")) (by simp)
    exact ⟨_, _, u, kd_VALUE_RULES.at_, kd_VALUE_RULES.lit, hu, ru⟩
  have kd_VALUE_RULES_xor : KDct K w (He.ga K "VALUE_RULES") "xor" (.ref (He.ga K "_xor")) := by
    obtain ⟨u, hu, ru⟩ := He.valsB_ok tb_VALUE_RULES (q := ("xor", .glo "_xor")) (by simp)
    exact ⟨_, _, u, kd_VALUE_RULES.at_, kd_VALUE_RULES.lit, hu, ru⟩
  have kd_VALUE_RULES_eq : KDct K w (He.ga K "VALUE_RULES") "eq" (.ref (He.ga K "_eq")) := by
    obtain ⟨u, hu, ru⟩ := He.valsB_ok tb_VALUE_RULES (q := ("eq", .glo "_eq")) (by simp)
    exact ⟨_, _, u, kd_VALUE_RULES.at_, kd_VALUE_RULES.lit, hu, ru⟩
  have kd_VALUE_RULES_ne : KDct K w (He.ga K "VALUE_RULES") "ne" (.ref (He.ga K "_ne")) := by
    obtain ⟨u, hu, ru⟩ := He.valsB_ok tb_VALUE_RULES (q := ("ne", .glo "_ne")) (by simp)
    exact ⟨_, _, u, kd_VALUE_RULES.at_, kd_VALUE_RULES.lit, hu, ru⟩
  have kd_VALUE_RULES_lt : KDct K w (He.ga K "VALUE_RULES") "lt" (.ref (He.ga K "_lt")) := by
    obtain ⟨u, hu, ru⟩ := He.valsB_ok tb_VALUE_RULES (q := ("lt", .glo "_lt")) (by simp)
    exact ⟨_, _, u, kd_VALUE_RULES.at_, kd_VALUE_RULES.lit, hu, ru⟩
  have kd_VALUE_RULES_le : KDct K w (He.ga K "VALUE_RULES") "le" (.ref (He.ga K "_le")) := by
    obtain ⟨u, hu, ru⟩ := He.valsB_ok tb_VALUE_RULES (q := ("le", .glo "_le")) (by simp)
    exact ⟨_, _, u, kd_VALUE_RULES.at_, kd_VALUE_RULES.lit, hu, ru⟩
  have kd_VALUE_RULES_neg : KDct K w (He.ga K "VALUE_RULES") "neg" (.ref (He.ga K "_neg")) := by
    obtain ⟨u, hu, ru⟩ := He.valsB_ok tb_VALUE_RULES (q := ("neg", .glo "_neg")) (by simp)
    exact ⟨_, _, u, kd_VALUE_RULES.at_, kd_VALUE_RULES.lit, hu, ru⟩
  have kd_VALUE_RULES_add : KDct K w (He.ga K "VALUE_RULES") "add" (.ref (He.ga K "_add")) := by
    obtain ⟨u, hu, ru⟩ := He.valsB_ok tb_VALUE_RULES (q := ("add", .glo "_add")) (by simp)
    exact ⟨_, _, u, kd_VALUE_RULES.at_, kd_VALUE_RULES.lit, hu, ru⟩
  have kd_VALUE_RULES_sub : KDct K w (He.ga K "VALUE_RULES") "sub" (.ref (He.ga K "_sub")) := by
    obtain ⟨u, hu, ru⟩ := He.valsB_ok tb_VALUE_RULES (q := ("sub", .glo "_sub")) (by simp)
    exact ⟨_, _, u, kd_VALUE_RULES.at_, kd_VALUE_RULES.lit, hu, ru⟩
  have kd_VALUE_RULES_mul : KDct K w (He.ga K "VALUE_RULES") "mul" (.ref (He.ga K "_mul")) := by
    obtain ⟨u, hu, ru⟩ := He.valsB_ok tb_VALUE_RULES (q := ("mul", .glo "_mul")) (by simp)
    exact ⟨_, _, u, kd_VALUE_RULES.at_, kd_VALUE_RULES.lit, hu, ru⟩
  have kd_VALUE_RULES_div : KDct K w (He.ga K "VALUE_RULES") "div" (.ref (He.ga K "_div")) := by
    obtain ⟨u, hu, ru⟩ := He.valsB_ok tb_VALUE_RULES (q := ("div", .glo "_div")) (by simp)
    exact ⟨_, _, u, kd_VALUE_RULES.at_, kd_VALUE_RULES.lit, hu, ru⟩
  have kd_VALUE_RULES_min : KDct K w (He.ga K "VALUE_RULES") "min" (.ref (He.ga K "_min")) := by
    obtain ⟨u, hu, ru⟩ := He.valsB_ok tb_VALUE_RULES (q := ("min", .glo "_min")) (by simp)
    exact ⟨_, _, u, kd_VALUE_RULES.at_, kd_VALUE_RULES.lit, hu, ru⟩
  have kd_VALUE_RULES_max : KDct K w (He.ga K "VALUE_RULES") "max" (.ref (He.ga K "_max")) := by
    obtain ⟨u, hu, ru⟩ := He.valsB_ok tb_VALUE_RULES (q := ("max", .glo "_max")) (by simp)
    exact ⟨_, _, u, kd_VALUE_RULES.at_, kd_VALUE_RULES.lit, hu, ru⟩
  have kd_VALUE_RULES_mid : KDct K w (He.ga K "VALUE_RULES") "mid" (.ref (He.ga K "_mid")) := by
    obtain ⟨u, hu, ru⟩ := He.valsB_ok tb_VALUE_RULES (q := ("mid", .glo "_mid")) (by simp)
    exact ⟨_, _, u, kd_VALUE_RULES.at_, kd_VALUE_RULES.lit, hu, ru⟩
  have kd_VALUE_RULES_as : KDct K w (He.ga K "VALUE_RULES") "as" (.ref (He.ga K "_as")) := by
    obtain ⟨u, hu, ru⟩ := He.valsB_ok tb_VALUE_RULES (q := ("as", .glo "_as")) (by simp)
    exact ⟨_, _, u, kd_VALUE_RULES.at_, kd_VALUE_RULES.lit, hu, ru⟩
  have kd_VALUE_RULES_pick : KDct K w (He.ga K "VALUE_RULES") "pick" (.ref (He.ga K "_pick")) := by
    obtain ⟨u, hu, ru⟩ := He.valsB_ok tb_VALUE_RULES (q := ("pick", .glo "_pick")) (by simp)
    exact ⟨_, _, u, kd_VALUE_RULES.at_, kd_VALUE_RULES.lit, hu, ru⟩
  have kd_VALUE_RULES_vote : KDct K w (He.ga K "VALUE_RULES") "vote" (.ref (He.ga K "_vote")) := by
    obtain ⟨u, hu, ru⟩ := He.valsB_ok tb_VALUE_RULES (q := ("vote", .glo "_vote")) (by simp)
    exact ⟨_, _, u, kd_VALUE_RULES.at_, kd_VALUE_RULES.lit, hu, ru⟩
  have kd_VALUE_RULES_row : KDct K w (He.ga K "VALUE_RULES") "row" (.ref (He.ga K "_row")) := by
    obtain ⟨u, hu, ru⟩ := He.valsB_ok tb_VALUE_RULES (q := ("row", .glo "_row")) (by simp)
    exact ⟨_, _, u, kd_VALUE_RULES.at_, kd_VALUE_RULES.lit, hu, ru⟩
  have kd_VALUE_RULES_at : KDct K w (He.ga K "VALUE_RULES") "at" (.ref (He.ga K "_at")) := by
    obtain ⟨u, hu, ru⟩ := He.valsB_ok tb_VALUE_RULES (q := ("at", .glo "_at")) (by simp)
    exact ⟨_, _, u, kd_VALUE_RULES.at_, kd_VALUE_RULES.lit, hu, ru⟩
  have kd_VALUE_RULES_put : KDct K w (He.ga K "VALUE_RULES") "put" (.ref (He.ga K "_put")) := by
    obtain ⟨u, hu, ru⟩ := He.valsB_ok tb_VALUE_RULES (q := ("put", .glo "_put")) (by simp)
    exact ⟨_, _, u, kd_VALUE_RULES.at_, kd_VALUE_RULES.lit, hu, ru⟩
  have kd_VALUE_RULES_sum : KDct K w (He.ga K "VALUE_RULES") "sum" (.ref (He.ga K "_sum")) := by
    obtain ⟨u, hu, ru⟩ := He.valsB_ok tb_VALUE_RULES (q := ("sum", .glo "_sum")) (by simp)
    exact ⟨_, _, u, kd_VALUE_RULES.at_, kd_VALUE_RULES.lit, hu, ru⟩
  have kd_VALUE_RULES_any : KDct K w (He.ga K "VALUE_RULES") "any" (.ref (He.ga K "_any")) := by
    obtain ⟨u, hu, ru⟩ := He.valsB_ok tb_VALUE_RULES (q := ("any", .glo "_any")) (by simp)
    exact ⟨_, _, u, kd_VALUE_RULES.at_, kd_VALUE_RULES.lit, hu, ru⟩
  have kd_VALUE_RULES_all : KDct K w (He.ga K "VALUE_RULES") "all" (.ref (He.ga K "_all")) := by
    obtain ⟨u, hu, ru⟩ := He.valsB_ok tb_VALUE_RULES (q := ("all", .glo "_all")) (by simp)
    exact ⟨_, _, u, kd_VALUE_RULES.at_, kd_VALUE_RULES.lit, hu, ru⟩
  have e := hfa.symm.trans (He.glo_ok X G (c.fact 72 (f := .glo "law") rfl))
  cases e
  have b := FunD.bindsA (ps := ["_law_script"]) F_law fun _ _ _ _ _ _ us hl => match us, hl with | [_], _ => rfl
  refine ⟨fd_law, fun s v => b s [v] rfl, fun base _ _ TB => ?_⟩
  let T : Tx K mg w base := {
    f_is_int := _, fd_is_int := fd_is_int, F_is_int := F_is_int, m_is_int := He.glo_ok X G (c.fact 0 (f := .glo "is_int") rfl), b_is_int := F_is_int.bindsN fun _ _ _ _ _ _ us hl => match us, hl with | [_], _ => rfl
    f_is_within := _, fd_is_within := fd_is_within, F_is_within := F_is_within, m_is_within := He.glo_ok X G (c.fact 1 (f := .glo "is_within") rfl), b_is_within := F_is_within.bindsN fun _ _ _ _ _ _ us hl => match us, hl with | [_, _, _], _ => rfl
    f_is_tuple_of := _, fd_is_tuple_of := fd_is_tuple_of, F_is_tuple_of := F_is_tuple_of, m_is_tuple_of := He.glo_ok X G (c.fact 2 (f := .glo "is_tuple_of") rfl), b_is_tuple_of := F_is_tuple_of.bindsN fun _ _ _ _ _ _ us hl => match us, hl with | [_, _], _ => rfl
    f_is_num := _, fd_is_num := fd_is_num, F_is_num := F_is_num, m_is_num := He.glo_ok X G (c.fact 3 (f := .glo "is_num") rfl), b_is_num := F_is_num.bindsN fun _ _ _ _ _ _ us hl => match us, hl with | [_], _ => rfl
    f_is_row := _, fd_is_row := fd_is_row, F_is_row := F_is_row, m_is_row := He.glo_ok X G (c.fact 4 (f := .glo "is_row") rfl), b_is_row := F_is_row.bindsN fun _ _ _ _ _ _ us hl => match us, hl with | [_], _ => rfl
    f_zero := _, fd_zero := fd_zero, F_zero := F_zero, m_zero := He.glo_ok X G (c.fact 5 (f := .glo "zero") rfl), b_zero := F_zero.bindsN fun _ _ _ _ _ _ us hl => match us, hl with | [_], _ => rfl
    f_p_fit := _, fd_p_fit := fd_p_fit, F_p_fit := F_p_fit, m_p_fit := He.glo_ok X G (c.fact 6 (f := .glo "fit") rfl), b_p_fit := F_p_fit.bindsN fun _ _ _ _ _ _ us hl => match us, hl with | [_, _], _ => rfl
    f_alike := _, fd_alike := fd_alike, F_alike := F_alike, m_alike := He.glo_ok X G (c.fact 7 (f := .glo "_alike") rfl), b_alike := F_alike.bindsN fun _ _ _ _ _ _ us hl => match us, hl with | [_], _ => rfl
    f_like_nums := _, fd_like_nums := fd_like_nums, F_like_nums := F_like_nums, m_like_nums := He.glo_ok X G (c.fact 8 (f := .glo "_like_nums") rfl), b_like_nums := F_like_nums.bindsN fun _ _ _ _ _ _ us hl => match us, hl with | [_], _ => rfl
    f_logic_kind := _, fd_logic_kind := fd_logic_kind, F_logic_kind := F_logic_kind, m_logic_kind := He.glo_ok X G (c.fact 9 (f := .glo "_logic_kind") rfl), b_logic_kind := F_logic_kind.bindsN fun _ _ _ _ _ _ us hl => match us, hl with | [_, _], _ => rfl
    f_equal_kind := _, fd_equal_kind := fd_equal_kind, F_equal_kind := F_equal_kind, m_equal_kind := He.glo_ok X G (c.fact 10 (f := .glo "_equal_kind") rfl), b_equal_kind := F_equal_kind.bindsN fun _ _ _ _ _ _ us hl => match us, hl with | [_, _], _ => rfl
    f_order_kind := _, fd_order_kind := fd_order_kind, F_order_kind := F_order_kind, m_order_kind := He.glo_ok X G (c.fact 11 (f := .glo "_order_kind") rfl), b_order_kind := F_order_kind.bindsN fun _ _ _ _ _ _ us hl => match us, hl with | [_, _], _ => rfl
    f_number_kind := _, fd_number_kind := fd_number_kind, F_number_kind := F_number_kind, m_number_kind := He.glo_ok X G (c.fact 12 (f := .glo "_number_kind") rfl), b_number_kind := F_number_kind.bindsN fun _ _ _ _ _ _ us hl => match us, hl with | [_, _], _ => rfl
    f_as_kind := _, fd_as_kind := fd_as_kind, F_as_kind := F_as_kind, m_as_kind := He.glo_ok X G (c.fact 13 (f := .glo "_as_kind") rfl), b_as_kind := F_as_kind.bindsN fun _ _ _ _ _ _ us hl => match us, hl with | [_, _], _ => rfl
    f_pick_kind := _, fd_pick_kind := fd_pick_kind, F_pick_kind := F_pick_kind, m_pick_kind := He.glo_ok X G (c.fact 14 (f := .glo "_pick_kind") rfl), b_pick_kind := F_pick_kind.bindsN fun _ _ _ _ _ _ us hl => match us, hl with | [_, _], _ => rfl
    f_vote_kind := _, fd_vote_kind := fd_vote_kind, F_vote_kind := F_vote_kind, m_vote_kind := He.glo_ok X G (c.fact 15 (f := .glo "_vote_kind") rfl), b_vote_kind := F_vote_kind.bindsN fun _ _ _ _ _ _ us hl => match us, hl with | [_, _], _ => rfl
    f_p_row_kind := _, fd_p_row_kind := fd_p_row_kind, F_p_row_kind := F_p_row_kind, m_p_row_kind := He.glo_ok X G (c.fact 16 (f := .glo "_row_kind") rfl), b_p_row_kind := F_p_row_kind.bindsN fun _ _ _ _ _ _ us hl => match us, hl with | [_, _], _ => rfl
    f_at_kind := _, fd_at_kind := fd_at_kind, F_at_kind := F_at_kind, m_at_kind := He.glo_ok X G (c.fact 17 (f := .glo "_at_kind") rfl), b_at_kind := F_at_kind.bindsN fun _ _ _ _ _ _ us hl => match us, hl with | [_, _], _ => rfl
    f_put_kind := _, fd_put_kind := fd_put_kind, F_put_kind := F_put_kind, m_put_kind := He.glo_ok X G (c.fact 18 (f := .glo "_put_kind") rfl), b_put_kind := F_put_kind.bindsN fun _ _ _ _ _ _ us hl => match us, hl with | [_, _], _ => rfl
    f_sum_kind := _, fd_sum_kind := fd_sum_kind, F_sum_kind := F_sum_kind, m_sum_kind := He.glo_ok X G (c.fact 19 (f := .glo "_sum_kind") rfl), b_sum_kind := F_sum_kind.bindsN fun _ _ _ _ _ _ us hl => match us, hl with | [_, _], _ => rfl
    f_p_some_kind := _, fd_p_some_kind := fd_p_some_kind, F_p_some_kind := F_p_some_kind, m_p_some_kind := He.glo_ok X G (c.fact 20 (f := .glo "_some_kind") rfl), b_p_some_kind := F_p_some_kind.bindsN fun _ _ _ _ _ _ us hl => match us, hl with | [_, _], _ => rfl
    f_result_kind := _, fd_result_kind := fd_result_kind, F_result_kind := F_result_kind, m_result_kind := He.glo_ok X G (c.fact 21 (f := .glo "result_kind") rfl), b_result_kind := bb_result_kind, ds_result_kind := ds_result_kind, v1_result_kind := v1_result_kind, b1_result_kind := b1_result_kind
    f_place := _, fd_place := fd_place, F_place := F_place, m_place := He.glo_ok X G (c.fact 22 (f := .glo "_place") rfl), b_place := F_place.bindsN fun _ _ _ _ _ _ us hl => match us, hl with | [_, _], _ => rfl
    f_not := _, fd_not := fd_not, F_not := F_not, m_not := He.glo_ok X G (c.fact 23 (f := .glo "_not") rfl), b_not := F_not.bindsN fun _ _ _ _ _ _ us hl => match us, hl with | [_, _, _], _ => rfl
    f_and := _, fd_and := fd_and, F_and := F_and, m_and := He.glo_ok X G (c.fact 24 (f := .glo "_and") rfl), b_and := F_and.bindsN fun _ _ _ _ _ _ us hl => match us, hl with | [_, _, _], _ => rfl
    f_or := _, fd_or := fd_or, F_or := F_or, m_or := He.glo_ok X G (c.fact 25 (f := .glo "_or") rfl), b_or := F_or.bindsN fun _ _ _ _ _ _ us hl => match us, hl with | [_, _, _], _ => rfl
    f_xor := _, fd_xor := fd_xor, F_xor := F_xor, m_xor := He.glo_ok X G (c.fact 26 (f := .glo "_xor") rfl), b_xor := F_xor.bindsN fun _ _ _ _ _ _ us hl => match us, hl with | [_, _, _], _ => rfl
    f_eq := _, fd_eq := fd_eq, F_eq := F_eq, m_eq := He.glo_ok X G (c.fact 27 (f := .glo "_eq") rfl), b_eq := F_eq.bindsN fun _ _ _ _ _ _ us hl => match us, hl with | [_, _, _], _ => rfl
    f_ne := _, fd_ne := fd_ne, F_ne := F_ne, m_ne := He.glo_ok X G (c.fact 28 (f := .glo "_ne") rfl), b_ne := F_ne.bindsN fun _ _ _ _ _ _ us hl => match us, hl with | [_, _, _], _ => rfl
    f_lt := _, fd_lt := fd_lt, F_lt := F_lt, m_lt := He.glo_ok X G (c.fact 29 (f := .glo "_lt") rfl), b_lt := F_lt.bindsN fun _ _ _ _ _ _ us hl => match us, hl with | [_, _, _], _ => rfl
    f_le := _, fd_le := fd_le, F_le := F_le, m_le := He.glo_ok X G (c.fact 30 (f := .glo "_le") rfl), b_le := F_le.bindsN fun _ _ _ _ _ _ us hl => match us, hl with | [_, _, _], _ => rfl
    f_neg := _, fd_neg := fd_neg, F_neg := F_neg, m_neg := He.glo_ok X G (c.fact 31 (f := .glo "_neg") rfl), b_neg := F_neg.bindsN fun _ _ _ _ _ _ us hl => match us, hl with | [_, _, _], _ => rfl
    f_add := _, fd_add := fd_add, F_add := F_add, m_add := He.glo_ok X G (c.fact 32 (f := .glo "_add") rfl), b_add := F_add.bindsN fun _ _ _ _ _ _ us hl => match us, hl with | [_, _, _], _ => rfl
    f_sub := _, fd_sub := fd_sub, F_sub := F_sub, m_sub := He.glo_ok X G (c.fact 33 (f := .glo "_sub") rfl), b_sub := F_sub.bindsN fun _ _ _ _ _ _ us hl => match us, hl with | [_, _, _], _ => rfl
    f_mul := _, fd_mul := fd_mul, F_mul := F_mul, m_mul := He.glo_ok X G (c.fact 34 (f := .glo "_mul") rfl), b_mul := F_mul.bindsN fun _ _ _ _ _ _ us hl => match us, hl with | [_, _, _], _ => rfl
    f_div := _, fd_div := fd_div, F_div := F_div, m_div := He.glo_ok X G (c.fact 35 (f := .glo "_div") rfl), b_div := F_div.bindsN fun _ _ _ _ _ _ us hl => match us, hl with | [_, _, _], _ => rfl
    f_min := _, fd_min := fd_min, F_min := F_min, m_min := He.glo_ok X G (c.fact 36 (f := .glo "_min") rfl), b_min := F_min.bindsN fun _ _ _ _ _ _ us hl => match us, hl with | [_, _, _], _ => rfl
    f_max := _, fd_max := fd_max, F_max := F_max, m_max := He.glo_ok X G (c.fact 37 (f := .glo "_max") rfl), b_max := F_max.bindsN fun _ _ _ _ _ _ us hl => match us, hl with | [_, _, _], _ => rfl
    f_mid := _, fd_mid := fd_mid, F_mid := F_mid, m_mid := He.glo_ok X G (c.fact 38 (f := .glo "_mid") rfl), b_mid := F_mid.bindsN fun _ _ _ _ _ _ us hl => match us, hl with | [_, _, _], _ => rfl
    f_as := _, fd_as := fd_as, F_as := F_as, m_as := He.glo_ok X G (c.fact 39 (f := .glo "_as") rfl), b_as := F_as.bindsN fun _ _ _ _ _ _ us hl => match us, hl with | [_, _, _], _ => rfl
    f_p_pick := _, fd_p_pick := fd_p_pick, F_p_pick := F_p_pick, m_p_pick := He.glo_ok X G (c.fact 40 (f := .glo "_pick") rfl), b_p_pick := F_p_pick.bindsN fun _ _ _ _ _ _ us hl => match us, hl with | [_, _, _], _ => rfl
    f_vote := _, fd_vote := fd_vote, F_vote := F_vote, m_vote := He.glo_ok X G (c.fact 41 (f := .glo "_vote") rfl), b_vote := F_vote.bindsN fun _ _ _ _ _ _ us hl => match us, hl with | [_, _, _], _ => rfl
    f_row := _, fd_row := fd_row, F_row := F_row, m_row := He.glo_ok X G (c.fact 42 (f := .glo "_row") rfl), b_row := F_row.bindsN fun _ _ _ _ _ _ us hl => match us, hl with | [_, _, _], _ => rfl
    f_at := _, fd_at := fd_at, F_at := F_at, m_at := He.glo_ok X G (c.fact 43 (f := .glo "_at") rfl), b_at := F_at.bindsN fun _ _ _ _ _ _ us hl => match us, hl with | [_, _, _], _ => rfl
    f_put := _, fd_put := fd_put, F_put := F_put, m_put := He.glo_ok X G (c.fact 44 (f := .glo "_put") rfl), b_put := F_put.bindsN fun _ _ _ _ _ _ us hl => match us, hl with | [_, _, _], _ => rfl
    f_sum := _, fd_sum := fd_sum, F_sum := F_sum, m_sum := He.glo_ok X G (c.fact 45 (f := .glo "_sum") rfl), b_sum := F_sum.bindsN fun _ _ _ _ _ _ us hl => match us, hl with | [_, _, _], _ => rfl
    f_any := _, fd_any := fd_any, F_any := F_any, m_any := He.glo_ok X G (c.fact 46 (f := .glo "_any") rfl), b_any := F_any.bindsN fun _ _ _ _ _ _ us hl => match us, hl with | [_, _, _], _ => rfl
    f_all := _, fd_all := fd_all, F_all := F_all, m_all := He.glo_ok X G (c.fact 47 (f := .glo "_all") rfl), b_all := F_all.bindsN fun _ _ _ _ _ _ us hl => match us, hl with | [_, _, _], _ => rfl
    f_result := _, fd_result := fd_result, F_result := F_result, m_result := He.glo_ok X G (c.fact 48 (f := .glo "result") rfl), b_result := bb_result, ds_result := ds_result, v1_result := v1_result, b1_result := b1_result, kn_result := kn_result
    f_begin := _, fd_begin := fd_begin, F_begin := F_begin, m_begin := He.glo_ok X G (c.fact 49 (f := .glo "_law_begin") rfl), b_begin := F_begin.bindsN fun _ _ _ _ _ _ us hl => match us, hl with | [_], _ => rfl
    f_mixed := _, fd_mixed := fd_mixed, F_mixed := F_mixed, m_mixed := He.glo_ok X G (c.fact 50 (f := .glo "_law_mixed") rfl), b_mixed := F_mixed.bindsN fun _ _ _ _ _ _ us hl => match us, hl with | [_, _], _ => rfl
    f_draw := _, fd_draw := fd_draw, F_draw := F_draw, m_draw := He.glo_ok X G (c.fact 51 (f := .glo "_law_draw") rfl), b_draw := F_draw.bindsN fun _ _ _ _ _ _ us hl => match us, hl with | [_, _], _ => rfl
    f_draw_digit := _, fd_draw_digit := fd_draw_digit, F_draw_digit := F_draw_digit, m_draw_digit := He.glo_ok X G (c.fact 52 (f := .glo "_law_draw_digit") rfl), b_draw_digit := F_draw_digit.bindsN fun _ _ _ _ _ _ us hl => match us, hl with | [_, _], _ => rfl
    f_pick := _, fd_pick := fd_pick, F_pick := F_pick, m_pick := He.glo_ok X G (c.fact 53 (f := .glo "_law_pick") rfl), b_pick := F_pick.bindsN fun _ _ _ _ _ _ us hl => match us, hl with | [_, _], _ => rfl
    f_pop := _, fd_pop := fd_pop, F_pop := F_pop, m_pop := He.glo_ok X G (c.fact 54 (f := .glo "_law_pop") rfl), b_pop := F_pop.bindsN fun _ _ _ _ _ _ us hl => match us, hl with | [_, _], _ => rfl
    f_rare := _, fd_rare := fd_rare, F_rare := F_rare, m_rare := He.glo_ok X G (c.fact 55 (f := .glo "_law_rare") rfl), b_rare := F_rare.bindsN fun _ _ _ _ _ _ us hl => match us, hl with | [_, _], _ => rfl
    f_pool := _, fd_pool := fd_pool, F_pool := F_pool, m_pool := He.glo_ok X G (c.fact 56 (f := .glo "_law_pool") rfl), b_pool := F_pool.bindsN fun _ _ _ _ _ _ us hl => match us, hl with | [], _ => rfl
    f_fit := _, fd_fit := fd_fit, F_fit := F_fit, m_fit := He.glo_ok X G (c.fact 57 (f := .glo "_law_fit") rfl), b_fit := F_fit.bindsN fun _ _ _ _ _ _ us hl => match us, hl with | [_, _], _ => rfl
    f_ends := _, fd_ends := fd_ends, F_ends := F_ends, m_ends := He.glo_ok X G (c.fact 58 (f := .glo "_law_ends") rfl), b_ends := F_ends.bindsN fun _ _ _ _ _ _ us hl => match us, hl with | [_], _ => rfl
    f_has := _, fd_has := fd_has, F_has := F_has, m_has := He.glo_ok X G (c.fact 59 (f := .glo "_law_has") rfl), b_has := F_has.bindsN fun _ _ _ _ _ _ us hl => match us, hl with | [_, _], _ => rfl
    f_value := _, fd_value := fd_value, F_value := F_value, m_value := He.glo_ok X G (c.fact 60 (f := .glo "_law_value") rfl), b_value := F_value.bindsN fun _ _ _ _ _ _ us hl => match us, hl with | [_, _], _ => rfl
    f_num := _, fd_num := fd_num, F_num := F_num, m_num := He.glo_ok X G (c.fact 61 (f := .glo "_law_num") rfl), b_num := F_num.bindsN fun _ _ _ _ _ _ us hl => match us, hl with | [_, _], _ => rfl
    f_plain_kind := _, fd_plain_kind := fd_plain_kind, F_plain_kind := F_plain_kind, m_plain_kind := He.glo_ok X G (c.fact 62 (f := .glo "_law_plain_kind") rfl), b_plain_kind := F_plain_kind.bindsN fun _ _ _ _ _ _ us hl => match us, hl with | [_, _, _], _ => rfl
    f_op_kind := _, fd_op_kind := fd_op_kind, F_op_kind := F_op_kind, m_op_kind := He.glo_ok X G (c.fact 63 (f := .glo "_law_op_kind") rfl), b_op_kind := F_op_kind.bindsN fun _ _ _ _ _ _ us hl => match us, hl with | [_, _, _], _ => rfl
    f_row_kind := _, fd_row_kind := fd_row_kind, F_row_kind := F_row_kind, m_row_kind := He.glo_ok X G (c.fact 64 (f := .glo "_law_row_kind") rfl), b_row_kind := F_row_kind.bindsN fun _ _ _ _ _ _ us hl => match us, hl with | [_, _], _ => rfl
    f_op := _, fd_op := fd_op, F_op := F_op, m_op := He.glo_ok X G (c.fact 65 (f := .glo "_law_op") rfl), b_op := F_op.bindsN fun _ _ _ _ _ _ us hl => match us, hl with | [_, _, _, _], _ => rfl
    f_num_op := _, fd_num_op := fd_num_op, F_num_op := F_num_op, m_num_op := He.glo_ok X G (c.fact 66 (f := .glo "_law_num_op") rfl), b_num_op := F_num_op.bindsN fun _ _ _ _ _ _ us hl => match us, hl with | [_, _, _], _ => rfl
    f_row_op := _, fd_row_op := fd_row_op, F_row_op := F_row_op, m_row_op := He.glo_ok X G (c.fact 67 (f := .glo "_law_row_op") rfl), b_row_op := F_row_op.bindsN fun _ _ _ _ _ _ us hl => match us, hl with | [_, _, _], _ => rfl
    f_some_kind := _, fd_some_kind := fd_some_kind, F_some_kind := F_some_kind, m_some_kind := He.glo_ok X G (c.fact 68 (f := .glo "_law_some_kind") rfl), b_some_kind := F_some_kind.bindsN fun _ _ _ _ _ _ us hl => match us, hl with | [_, _, _], _ => rfl
    f_operand_kinds := _, fd_operand_kinds := fd_operand_kinds, F_operand_kinds := F_operand_kinds, m_operand_kinds := He.glo_ok X G (c.fact 69 (f := .glo "_law_operand_kinds") rfl), b_operand_kinds := F_operand_kinds.bindsN fun _ _ _ _ _ _ us hl => match us, hl with | [_, _, _], _ => rfl
    f_operand := _, fd_operand := fd_operand, F_operand := F_operand, m_operand := He.glo_ok X G (c.fact 70 (f := .glo "_law_operand") rfl), b_operand := F_operand.bindsN fun _ _ _ _ _ _ us hl => match us, hl with | [_, _], _ => rfl
    f_bent := _, fd_bent := fd_bent, F_bent := F_bent, m_bent := He.glo_ok X G (c.fact 71 (f := .glo "_law_bent") rfl), b_bent := F_bent.bindsN fun _ _ _ _ _ _ us hl => match us, hl with | [_, _, _], _ => rfl
    f_law := _, fd_law := fd_law, F_law := F_law, m_law := He.glo_ok X G (c.fact 72 (f := .glo "law") rfl), b_law := F_law.bindsN fun _ _ _ _ _ _ us hl => match us, hl with | [_], _ => rfl
    z_abs := He.free_ok X G (c.fact 73 (f := .free "abs") rfl)
    z_all := He.free_ok X G (c.fact 74 (f := .free "all") rfl)
    z_bool := He.free_ok X G (c.fact 75 (f := .free "bool") rfl)
    z_divmod := He.free_ok X G (c.fact 76 (f := .free "divmod") rfl)
    z_int := He.free_ok X G (c.fact 77 (f := .free "int") rfl)
    z_isinstance := He.free_ok X G (c.fact 78 (f := .free "isinstance") rfl)
    z_len := He.free_ok X G (c.fact 79 (f := .free "len") rfl)
    z_max := He.free_ok X G (c.fact 80 (f := .free "max") rfl)
    z_min := He.free_ok X G (c.fact 81 (f := .free "min") rfl)
    z_range := He.free_ok X G (c.fact 82 (f := .free "range") rfl)
    z_rule := He.free_ok X G (c.fact 83 (f := .free "rule") rfl)
    z_sorted := He.free_ok X G (c.fact 84 (f := .free "sorted") rfl)
    z_tuple := He.free_ok X G (c.fact 85 (f := .free "tuple") rfl)
    mg_BOOL := He.glo_ok X G (c.fact 86 (f := .glo "BOOL") rfl), tp_BOOL := fun H => He.tupB_ok tb_BOOL H
    tk_MOST_ENTRIES := tk_MOST_ENTRIES, mg_MOST_ENTRIES := mg_MOST_ENTRIES
    mg_COUNTS := He.glo_ok X G (c.fact 88 (f := .glo "COUNTS") rfl), es_COUNTS := es_COUNTS, n_COUNTS := n_COUNTS, kx_COUNTS := kx_COUNTS, kd_COUNTS := kd_COUNTS, no_COUNTS := no_COUNTS
    mg_KIND_RULES := He.glo_ok X G (c.fact 89 (f := .glo "KIND_RULES") rfl), kd_KIND_RULES_not := kd_KIND_RULES_not, kd_KIND_RULES_and := kd_KIND_RULES_and, kd_KIND_RULES_or := kd_KIND_RULES_or, kd_KIND_RULES_xor := kd_KIND_RULES_xor, kd_KIND_RULES_eq := kd_KIND_RULES_eq, kd_KIND_RULES_ne := kd_KIND_RULES_ne, kd_KIND_RULES_lt := kd_KIND_RULES_lt, kd_KIND_RULES_le := kd_KIND_RULES_le, kd_KIND_RULES_neg := kd_KIND_RULES_neg, kd_KIND_RULES_add := kd_KIND_RULES_add, kd_KIND_RULES_sub := kd_KIND_RULES_sub, kd_KIND_RULES_mul := kd_KIND_RULES_mul, kd_KIND_RULES_div := kd_KIND_RULES_div, kd_KIND_RULES_min := kd_KIND_RULES_min, kd_KIND_RULES_max := kd_KIND_RULES_max, kd_KIND_RULES_mid := kd_KIND_RULES_mid, kd_KIND_RULES_as := kd_KIND_RULES_as, kd_KIND_RULES_pick := kd_KIND_RULES_pick, kd_KIND_RULES_vote := kd_KIND_RULES_vote, kd_KIND_RULES_row := kd_KIND_RULES_row, kd_KIND_RULES_at := kd_KIND_RULES_at, kd_KIND_RULES_put := kd_KIND_RULES_put, kd_KIND_RULES_sum := kd_KIND_RULES_sum, kd_KIND_RULES_any := kd_KIND_RULES_any, kd_KIND_RULES_all := kd_KIND_RULES_all
    mg_VALUE_RULES := He.glo_ok X G (c.fact 90 (f := .glo "VALUE_RULES") rfl), kd_VALUE_RULES_not := kd_VALUE_RULES_not, kd_VALUE_RULES_and := kd_VALUE_RULES_and, kd_VALUE_RULES_or := kd_VALUE_RULES_or, kd_VALUE_RULES_xor := kd_VALUE_RULES_xor, kd_VALUE_RULES_eq := kd_VALUE_RULES_eq, kd_VALUE_RULES_ne := kd_VALUE_RULES_ne, kd_VALUE_RULES_lt := kd_VALUE_RULES_lt, kd_VALUE_RULES_le := kd_VALUE_RULES_le, kd_VALUE_RULES_neg := kd_VALUE_RULES_neg, kd_VALUE_RULES_add := kd_VALUE_RULES_add, kd_VALUE_RULES_sub := kd_VALUE_RULES_sub, kd_VALUE_RULES_mul := kd_VALUE_RULES_mul, kd_VALUE_RULES_div := kd_VALUE_RULES_div, kd_VALUE_RULES_min := kd_VALUE_RULES_min, kd_VALUE_RULES_max := kd_VALUE_RULES_max, kd_VALUE_RULES_mid := kd_VALUE_RULES_mid, kd_VALUE_RULES_as := kd_VALUE_RULES_as, kd_VALUE_RULES_pick := kd_VALUE_RULES_pick, kd_VALUE_RULES_vote := kd_VALUE_RULES_vote, kd_VALUE_RULES_row := kd_VALUE_RULES_row, kd_VALUE_RULES_at := kd_VALUE_RULES_at, kd_VALUE_RULES_put := kd_VALUE_RULES_put, kd_VALUE_RULES_sum := kd_VALUE_RULES_sum, kd_VALUE_RULES_any := kd_VALUE_RULES_any, kd_VALUE_RULES_all := kd_VALUE_RULES_all
    c_alike := (He.cT K ("_alike", none)).1, P_alike := (He.cT K ("_alike", none)).2, cd_alike := cd_of (p := ("_alike", none)) F_alike, TB_alike := TB _ (List.mem_map.mpr ⟨("_alike", none), by unfold tfs; simp, rfl⟩)
  }
  exact ok_law T
end My
open PySem PySem.W PySem.Calls PyProof.Rows
set_option maxRecDepth 100000 in
set_option maxHeartbeats 0 in
theorem PySem.Challenge.cw_keepsgoing_k01_operations_holds : PySem.Challenge.rw_keepsgoing_k01_operations.Holds := by
  w_on; o_law
  refine HandSHeadRun.head_any (r := My.theRow) (q := view My.theRow.prog [81]) (H := My.hookM) (ob := My.obM) (M := 20000) (loose := My.others) (d := HandSHeadRun.topDef My.theRow.prog 81) (kwd := []) My.obM_eq
    (by kernel_rfl) (fun s => by kernel_rfl) My.runM (by kernel_rfl) (by kernel_rfl) (by kernel_rfl) (by rfl) (by first | assumption | decide +kernel) (by decide +kernel) ⟨rfl, rfl, rfl, rfl, rfl, by decide +kernel⟩ ?hw ?hc
  case hw => w_witness2
  case hc =>
    refine LamX.walk_ofTsE (l := PySem.Challenge.rw_keepsgoing_k01_operations) (n := 63) (k := 11) (x := "_law_script") (CX := fun _ => L2.CX0) rfl (by decide) (by kernel_rfl) ⟨rfl, by decide, by decide⟩ ?F (fun _ _ _ _ _ z => z)
    intro w mg fa h Y G hmg0
    obtain ⟨K, KX, c⟩ := Y
    have hmg : mg ("law" : PySem.Str) = some (.ref fa) := by
      have e : (HandSHeadRun.topDef My.theRow.prog 81).name = ("law" : PySem.Str) := by kernel_rfl
      rw [← e]
      exact hmg0
    obtain ⟨fd, hb, hF⟩ := My.factsM (P := My.theRow.prog) (w := w) KX G hmg c
    refine ⟨K, KX, fd, My.tfs.map (He.cT K), My.sp1 (My.rLaw K (My.tfs.map fun p => (He.cT K p).2)), fun p hp => ?_, fun p hp => ?_, fun p hp => ?_, hb, fun H a ns hl _ hT hS => ⟨_, rfl, a, ns, rfl, hS, hl, fun b hb => ?_, fun _ => rfl⟩, fun base h1 h2 h3 => hF base h1 h2 fun p hp => ⟨(h3 p hp).code, (h3 p hp).bm, (h3 p hp).gP⟩⟩
    · obtain ⟨q, hq, rfl⟩ := List.mem_map.mp hp
      exact c.empty q hq
    · obtain ⟨q, hq, rfl⟩ := List.mem_map.mp hp
      exact c.out q hq
    · obtain ⟨q, hq, rfl⟩ := List.mem_map.mp hp
      exact PySem.W.codeHd_of_K KX (c.hd q hq)
    · obtain ⟨q, hq, rfl⟩ := List.mem_map.mp hb
      exact ⟨#[], hT _ (List.mem_map.mpr ⟨q, hq, rfl⟩), trivial⟩
