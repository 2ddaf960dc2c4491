
import PyProof.Rows.All
import Wide.All
import OpenK.AllK
import Wide.FinOn
import KE.KStateDown
import HandS.ForMost
import HandS.Walk
import HandS.IsInst
import HandS.TupAny
import HandS.Style
import HandS.More
import HandS.Codes
import HandS.Defaults
import HandS.WordsExc
import HandS.Head0
import HandS.Head1
import HandS.Head2
import HandS.HeadEnd
import HandS.HeadHook1
import HandS.HeadHook2
import HandS.HeadHook3
import HandS.Deep
import HandS.Strs
import HandS.Star
import HandS.CallLocal
import HandS.NoneIn
import HandS.Conv
import HandS.RevRange
import HandS.TupLe
import HandS.Flow
import HandS.SetFor
import HandS.ListItems
import KE.KDictZip
import PyProof.TupleOfGen
import HandS.Sort
import HandS.AnyAll
import HandS.GenList
import HandS.HeadHook4
import HandS.HeadWalk
import HandS.SetKeys
import HandS.DictComp
import HandS.WordsDict
import HandS.DictTup
import HandS.SortOrd
import HandS.TupMul
import HandS.ForExc
import HandS.ExcInit
import HandS.ExcField
import HandS.ExcIs
import KE.KExcIs
import HandS.FStr
import HandS.Nested
import KE.KExcSuper
import KE.KSuper
import HandS.Zip
import HandS.SortInts
import KE.GoesEnum
import PySem.Challenge.RW_keepsgoing_k49_classes_judged
set_option Elab.async false
set_option linter.all false
set_option maxRecDepth 100000
set_option maxHeartbeats 0
namespace My
open PySem PySem.Spec PyProof.Rows L2
/-! ### an own error whose __init__ says super().__init__(e), then self.f = f -/
abbrev envS (qual : Str) (scope : Scope) (L f cda cc : Addr) : Env := PySem.W.envX qual scope L f (.ref cda) [("__class__", cc)]
/-- the context of such an __init__ -/
def cxS (P : Program) (w : World) (K : PySem.W.Frag) (mg : Str → Option Value) (base : Heap) (N : List Str) (qual : Str) (scope : Scope) (f cda cc : Addr) (A : Around) (outer : List Env) (s : Shared) (H : Hp) : Cx where
  prog := P
  w := w
  K := K
  mg := mg
  base := base
  A := A.deeper (envS qual scope s.heap.objs.size f cda cc)
  N := N
  s_0 := s
  H_0 := H
  env := envS qual scope s.heap.objs.size f cda cc
  outer := outer
  stack := envS qual scope s.heap.objs.size f cda cc :: outer
  ex := []
  calm := true
  fn := fun _ => false
  pn := []
  xe := fun _ _ => False
/-- what the written part says of such an error's class at C, its __init__ at fI, its code at cda, its cell at cc -/
structure SupC (K : PySem.W.Frag) (C fI cda cc : Addr) (qual : Str) (params : Arguments) (body : List Stmt) (scope : Scope) (fd : FuncData) : Prop where
  ox : OexC K C
  fdO : ∃ oc od kV doc pm an ct osl, fd = PySem.W.fnX "__init__" qual params body scope [("__class__", cc)] .none kV doc pm an (.ref cda) ct ∧ K.lookup fI = some ⟨oc, od, .func fd, osl⟩
  file : ∃ ccl cdd vs ccs fl tf, K.lookup cda = some ⟨ccl, cdd, .fields vs, ccs⟩ ∧ vs[2]? = some (.str fl tf) ∧ (("/claim/cut.py" : Str) == fl) = true
  code : PySem.W.codeIn K (.ref cda) qual = true
  cell : ∃ cl cld csl, K.lookup cc = some ⟨cl, cld, .cell (some (.ref C)), csl⟩
  sub : PySem.W.mroIn K C (.ref C) = some true
  stat : PySem.W.nsIn K cStatics "thirdparty.any" = some none
  sup : PySem.W.ks_superIn K C C "__init__" = some (some (.builtin "ValueError.__init__"))
  subV : PySem.W.subIn K (.ref C) (.type "ValueError") = some true
theorem SupC.binds {K : PySem.W.Frag} {C fI cda cc : Addr} {qual : Str} {params : Arguments} {body : List Stmt} {scope : Scope} {fd : FuncData} (S : SupC K C fI cda cc qual params body scope fd) {ps : List Str}
    (h : ∀ (kV doc pm : Value) (an : Option Addr) (ct : Value) (us : List Value), us.length = ps.length → bindArgs (PySem.W.fnX "__init__" qual params body scope [("__class__", cc)] .none kV doc pm an (.ref cda) ct) ⟨us, []⟩ = pure (ps.zip us)) : Binds K fd ps [] := by
  obtain ⟨oc, od, kV, doc, pm, an, ct, osl, rfl, _⟩ := S.fdO
  exact .all (h kV doc pm an ct)
/-- the program's file, as it is named; it has no name super of its own -/
class PrgOk (P : Program) : Prop where
  file : (P.main.file : Str) = "/claim/cut.py"
  top : (P.main.scope.names.lookup ("super" : Str)).isSome = false
section
variable {X : Cx} {pins : List (Addr × Obj)} {σ : L2.St} {H : Hp} {s : Shared} {a C u : Addr} {us : List Value} {Q : Value → Shared → Prop} {E : Value → Shared → Prop} {A : Around}
theorem call_mw (T : OexC X.K C) (I : Inv X pins σ H s) (ea : H a = some (exo a C none)) (hu : s.heap.get? u = some (PySem.W.kxs_mw "ValueError.__init__" a)) (hl : us.length ≤ sizeLine) (h : ∀ s', Inv X pins σ H s' → Q .none s') :
    wpAny (model X.prog X.w) A (call (.ref u) us) Q E s := by
  obtain ⟨nm, q, N, bs, bm, sn, sb, ab, col, dd, k0, k1, k2, k3, k5, hC, hbm⟩ := T.cls
  obtain ⟨t1, ho⟩ := exo_at I.hok ea
  obtain ⟨hp, g, d, t, os⟩ := s
  have FB := F.excBase_ValueError
  have hC' : hp.get? C = _ := I.kIn _ _ hC
  have fin : ∀ h', (∀ b o, b ≠ a → hp.get? b = some o → h'.get? b = some o) → h'.get? a = some (PySem.W.excObj C hp.objs.size none .none) → Q .none ⟨h', g, d, t, os⟩ := fun h' k hx => by
    have J := I.write (t' := t) (x := a) (e := a) (o := exo a C none) (by rw [ea]; exact True.intro) (.inl rfl) k ⟨_, hx⟩ (exo_ok hx)
    have eu : upd H a (exo a C none) = H := funext fun b => by
      by_cases hb : b = a
      · rw [hb, upd_same, ea]
      · rw [upd_ne hb]
    exact h _ (eu ▸ J)
  refine wpAny_call (codeAny_of_tree ?_)
  show wpAny _ A.in1 (callAny (.ref u) ⟨us, []⟩) _ _ _
  simp only [callAny]
  refine wpAny_bind (wpAny_load hu ?_)
  simp only [PySem.W.kxs_mw, show (Value.type "method-wrapper" == Value.type "method" || Value.type "method-wrapper" == Value.type "builtin_function_or_method" || Value.type "method-wrapper" == Value.type "method-wrapper") = true by decide, if_true]
  refine PySem.W.KFB.if_so (by decide) (wpAny_bind (PySem.W.check_bound_init FB.toExcCallFacts hC' ho rfl ?_))
  refine wpAny_bind (wpAny_pure (wpAny_pure ⟨plainId_quiet FB.init.plain _, codeAny_builtin FB.initEntry ?_⟩))
  exact PySem.W.exc_init_tree (cls := .ref C) (t0 := t1) (dv := none) (c2 := .none) (c3 := .none) (b4 := .bool false) ho hl fun h' k hx _ => fin h' k hx
end
/-- a, v: an error that is being made, its argument -/
def spSup (C : Addr) (f : Str) (te : TE) : Sp := fun vs H Q _ => ∃ a v, vs = [.ref a, v] ∧ H a = some (exo a C none) ∧ (∀ R : VK, (∀ x, R x H) → te [some (.ref a), some v] H R) ∧ ∀ dx, H dx = none → dx ≠ a → Q .non (upd (upd H dx (exd dx [(f, v)])) a (exo a C (some dx)))
section
variable {P : Program} {w : World} {K : PySem.W.Frag} {mg : Str → Option Value} {base : Heap} {C fI cda cc : Addr} {qual f : Str} {params : Arguments} {scope : Scope} {fd : FuncData} {k : Nat} {te : TE} {e : Expr} {p0 p1 p2 p3 p4 p5 p6 p7 p8 : Pos}
theorem inv_sup {body : List Stmt} {A : Around} {outer : List Env} {s : Shared} {H : Hp} {h1 : Heap} {us : List Value} {vs : List V} {tk : Nat} {N : List Str} (S : SupC K C fI cda cc qual params body scope fd)
    (hk : scope.kind = .function) (hfr : ∀ x, scope.names.lookup x = some .cell ∨ scope.names.lookup x = some .free → x = "__class__") (hloc : ∀ x ∈ N, scope.names.lookup x = some .local) (hN : N.Nodup)
    (hd : A.handled = none) (e0 : Env0 P w K mg base A outer s H) (hl : vs.length = N.length) (r : Vals vs us)
    (hns : h1.Ns s.heap.objs.size (fun x => (N.zip us).reverse.lookup x)) (kk : ∀ b o, s.heap.get? b = some o → h1.get? b = some o) :
    Inv (cxS P w K mg base N qual scope fI cda cc A outer s H) [] (vs.map some) H { s with heap := h1, toks := tk } := by
  obtain ⟨cl, cld, csl, hcell⟩ := S.cell
  have KX : K.In s.heap := e0.mod.kin.keeps fun b o e => (e0.bs b o e).1
  have hc0 : base.get? cc = some ⟨cl, cld, .cell (some (.ref C)), csl⟩ := e0.mod.kin _ _ hcell
  have one : ∀ x c, (envS qual scope s.heap.objs.size fI cda cc).cells.lookup x = some c → x = "__class__" ∧ c = cc := fun x c h => by
    have h' : List.lookup x [(("__class__" : Str), cc)] = some c := h
    by_cases hx : x = "__class__"
    · subst hx
      simp at h'
      exact ⟨rfl, h'.symm⟩
    · have : (x == ("__class__" : Str)) = false := by simpa using hx
      simp [List.lookup, this] at h'
  have noA : ∀ b : Addr, b ∉ (cxS P w K mg base N qual scope fI cda cc A outer s H).ex := fun b z => absurd (show b ∈ ([] : List Addr) from z) (by simp)
  refine ⟨⟨e0.mod, hk, rfl, rfl, Nat.le_refl _, fun x y c h2 h3 => (one x c h2).1.trans (one y c h3).1.symm, fun x hx => ?_, fun x c h => (by cases h), fun _ => hd, Around.frames_deeper e0.frames, .inr ⟨rfl, rfl⟩, fun b z => absurd z (noA b), e0.bs, e0.bsz, fun b _ _ => noA b, fun b z => absurd z (noA b), e0.funs, e0.frf⟩,
    rfl, e0.bare, Un.kept kk, ⟨_, hns, fun i y v h2 h3 h4 => ?_⟩, fun y c h => ?_, e0.hok.fresh (Nat.le_refl _), fun y c h => ?_, fun p hp => absurd (show p ∈ ([] : List (Addr × Obj)) from hp) (by simp), e0.hok.kept kk, ?_⟩
  · have := hfr x hx
    subst this
    exact ⟨cc, by show List.lookup _ [(("__class__" : Str), cc)] = _; simp⟩
  · have ha : vs[i]? = some v := by
      rw [List.getElem?_map] at h3
      cases e : vs[i]? with
      | none => rw [e] at h3; cases h3
      | some b => rw [e] at h3; cases h3; rfl
    obtain ⟨u, hu, rv⟩ := r.get ha
    have hin : N[i]? = some y := h2
    refine ⟨u, rv, .inl ⟨hloc y (List.mem_of_getElem? hin), ?_⟩⟩
    exact NdefX.zip_look hN hin hu
  · obtain ⟨rfl, rfl⟩ := one y c h
    exact ⟨_, _, kk _ _ (e0.bs _ _ hc0).1, rfl⟩
  · obtain ⟨rfl, rfl⟩ := one y c h
    exact (e0.bs _ _ hc0).2
  · show (vs.map some).length = N.length
    rw [List.length_map, hl]
end

section
variable {P : Program} {w : World} {K : PySem.W.Frag} {mg : Str → Option Value} {base : Heap} {C fI cda cc : Addr} {qual f : Str} {params : Arguments} {scope : Scope} {fd : FuncData} {k : Nat} {te : TE} {e : Expr} {p0 p1 p2 p3 p4 p5 p6 p7 p8 p9 : Pos}
/-- the body of such an __init__ -/
abbrev supBody (f : Str) (e : Expr) (p0 p1 p2 p3 p4 p5 p6 p7 p8 : Pos) : List Stmt := [.Expr (.Call (.Attribute (.Call (.Name "super" p0) [] [] p1) "__init__" p2) [e] [] p3) p4, .Assign [.Attribute (.Name "self" p5) f p6] (.Name f p7) p8]
theorem ok_sup [PO : PrgOk P] (S : SupC K C fI cda cc qual params (supBody f e p0 p1 p2 p3 p4 p5 p6 p7 p8) scope fd) (hmg : mg "super" = none) (hno : PySem.W.findIn K (.ref C) f = some none)
    (hk : scope.kind = .function) (hco : scope.isCoroutine = false) (hgn : scope.isGenerator = false) (hcl : ∀ x ∈ scope.names, x.2 ≠ .cell) (hfr : ∀ x, scope.names.lookup x = some .cell ∨ scope.names.lookup x = some .free → x = "__class__")
    (hself : scope.names.lookup ("self" : Str) = some .local) (hf : scope.names.lookup f = some .local) (hks : scope.names.lookup ("super" : Str) = some .globalImplicit) (hkc : scope.names.lookup ("__class__" : Str) = some .free)
    (hpar : (params.posonlyargs ++ params.args).head?.map (·.arg) = some "self") (hne : (("self" : Str) == f) = false) (hd1 : (f == ("__debug__" : Str)) = false) (hd2 : (f == ("__classdict__" : Str)) = false)
    (hint : ∀ L, interactive (envS qual scope L fI cda cc) = false) {pl : Sem Bool}
    (hcall : ∀ L, eval (.Call (.Attribute (.Call (.Name "super" p0) [] [] p1) "__init__" p2) [e] [] p3) (envS qual scope L fI cda cc) = (do
      let ov ← attributeBase (.Call (.Name "super" p0) [] [] p1) "__init__" (envS qual scope L fI cda cc) (eval (.Call (.Name "super" p0) [] [] p1) (envS qual scope L fI cda cc))
      standAt p2.atName
      let (g, first) ← holding [ov] (getMethod ov "__init__" pl)
      callWith p3 g first (backTo p3 (starEach [e] (envS qual scope L fI cda cc))) []))
    (hsw : ∀ L, swapsWith (.Call (.Attribute (.Call (.Name "super" p0) [] [] p1) "__init__" p2) [e] [] p3) none p4.line (envS qual scope L fI cda cc) = pure false)
    (hst : ∀ L, starEach [e] (envS qual scope L fI cda cc) = [(false, eval e (envS qual scope L fI cda cc))])
    (he : ∀ (A : Around) (outer : List Env) (s : Shared) (H : Hp), Room k (A.deeper (envS qual scope s.heap.objs.size fI cda cc)) → PE (cxS P w K mg base ["self", f] qual scope fI cda cc A outer s H) e te) :
    FnOk P w K mg base CX0 (k + 1) fI fd ["self", f] (spSup C f te) := by
  refine ⟨fun vs H Q E h => ?_, fun A outer s H args us vs Q E hr e0 hb r hsp => ?_⟩
  · obtain ⟨a, v, rfl, _⟩ := h
    rfl
  obtain ⟨a, v, rfl, ea, hte, hq⟩ := hsp
  obtain ⟨oc, od, kV, doc, pm, an, ct, osl, rfl, lk⟩ := S.fdO
  obtain ⟨ccl, cdd, cvs, ccs, fl, tf, hcode, hvs, hfile⟩ := S.file
  obtain ⟨cl, cld, csl, hcell⟩ := S.cell
  obtain ⟨nm, q, N, bs, bm, sn, sb, ab, col, dd, k0, k1, k2, k3, k5, hC, hbm⟩ := S.ox.cls
  have hcls : PySem.W.clsIn K C = some { name := nm, bases := bs, mro := .ref C :: bm, ns := N, qualname := q, hasDict := true, slotNames := sn, subclasses := sb, abstract := ab, collection := col, hasDel := false } := by unfold PySem.W.clsIn; rw [hC] <;> rfl
  have KX : K.In s.heap := e0.mod.kin.keeps fun b o e => (e0.bs b o e).1
  have lim : s.heap.NoLimit := e0.mod.nolimit.keeps fun b o e => (e0.bs b o e).1
  have nd : (["self", f] : List Str).Nodup := by
    have : ("self" : Str) ≠ f := fun z => by rw [z] at hne; simp at hne
    simp [this]
  have hlc : ∀ x ∈ (["self", f] : List Str), scope.names.lookup x = some .local := fun x hx => by
    simp at hx
    rcases hx with rfl | rfl
    · exact hself
    · exact hf
  have hvl : ([V.ref a, v] : List V).length = (["self", f] : List Str).length := rfl
  refine ks_codeAny_call_defAt (body := supBody f e p0 p1 p2 p3 p4 p5 p6 p7 p8) (binds := (["self", f] : List Str).zip us) hr.depth (KX _ _ lk) rfl lim (PySem.W.codeRec_of KX S.code) rfl hb hcl (fun y hy => hlc y.1 (List.of_mem_zip hy).1) (fun h1 hns kk => ?_) hco hgn hk
  have I := inv_sup (w := w) (mg := mg) (tk := s.toks + ((["self", f] : List Str).zip us).length) S hk hfr hlc nd hr.hd e0 hvl r hns kk
  have hE := he A outer s H (hr.deeper _)
  generalize hs1 : ({ s with heap := h1, toks := s.toks + ((["self", f] : List Str).zip us).length } : Shared) = s1 at I ⊢
  let Y : Cx := cxS P w K mg base ["self", f] qual scope fI cda cc A outer s H
  let D : Ends := { nx := fun _ H' => Q .non H', rt := Q }
  refine ks_wpAt_mono (Q := SP Y [] D) (E := Y.xe) ?_ (fun fl s' hs => ?_) (fun _ _ z => False.elim z)
  rotate_left
  · have fin : ∀ {σ' : L2.St} {H' : Hp} {v : V} {u : Value}, Inv Y [] σ' H' s' → RelV v u → Q v H' → CE outer P w H s Q u s' :=
      fun {σ' H' v u} J rv q => ⟨v, H', J.os, J.bare, J.base, J.hok, rv, q⟩
    cases fl with
    | ret u => obtain ⟨v, σ', H', J, rv, q⟩ := hs; exact fin J rv q
    | next => obtain ⟨σ', H', J, q⟩ := hs; exact fin (v := V.non) (u := Value.none) J rfl q
    | brk => obtain ⟨_, _, _, q⟩ := hs; exact False.elim q
    | cont => obtain ⟨_, _, _, q⟩ := hs; exact False.elim q
  show _root_.PySem.wpAt (model P w) (A.deeper (envS qual scope s.heap.objs.size fI cda cc)) (.func (supBody f e p0 p1 p2 p3 p4 p5 p6 p7 p8) (envS qual scope s.heap.objs.size fI cda cc)) (execs (supBody f e p0 p1 p2 p3 p4 p5 p6 p7 p8) (envS qual scope s.heap.objs.size fI cda cc)) (SP Y [] D) Y.xe s1
  obtain ⟨par, hpe, hpn⟩ : ∃ ar : Arg, (params.posonlyargs ++ params.args).head? = some ar ∧ ar.arg = "self" := by
    cases q : (params.posonlyargs ++ params.args).head? with
    | none => rw [q] at hpar; cases hpar
    | some z => rw [q] at hpar; exact ⟨z, rfl, Option.some.inj hpar⟩
  refine ks_wpAt_execs_cons (ks_wpAt_Expr_any (ks_wpAt_MethodCall (ks_wpAt_super_base (env := envS qual scope s.heap.objs.size fI cda cc) (ar := par) hks hkc (by decide) rfl (I.kIn _ _ lk) rfl hpe rfl (I.kIn _ _ hcode) rfl hvs (by rw [PO.file]; exact hfile) PO.top ?_) (hcall _)) (hint _) (hsw _))
  have hcl0 : s1.heap.get? cc = some ⟨cl, cld, .cell (some (.ref C)), csl⟩ := I.kIn _ _ hcell
  obtain ⟨mb, hb1, hb2⟩ := I.mod.blt
  have ksup : (envS qual scope s.heap.objs.size fI cda cc).kindOf "super" = some .globalImplicit := hks
  refine PySem.W.ks_loadName_global hk ksup (Calls.loadGlobal_builtin (env := envS qual scope s.heap.objs.size fI cda cc) (I.mod.glob.keeps I.bk) hmg (hb1.keeps I.bk) ((hb2 "super" (by decide)).trans PyProof.Rows.Boot.«super») ⟨rfl, ?_⟩)
  refine wpAny_loadName_free hk hkc (show List.lookup _ [(("__class__" : Str), cc)] = some cc by simp) ⟨_, hcl0, rfl⟩ ?_
  rw [hpn]
  obtain ⟨m, hm1, hm2⟩ := I.loc
  obtain ⟨u0, ru0, lk0⟩ := hm2 0 "self" (.ref a) rfl rfl (.inl hself)
  obtain rfl : u0 = Value.ref a := ru0
  have hm0 : m "self" = some (.ref a) := by
    rcases lk0 with ⟨_, h⟩ | ⟨h, _⟩
    · exact h
    · have h' : scope.names.lookup ("self" : Str) = some .cell ∨ scope.names.lookup ("self" : Str) = some .free := h
      rw [hself] at h'
      rcases h' with h' | h' <;> cases h'
  refine wpAny_loadName_local hk hself hm1 hm0 ?_
  have hCo : s1.heap.get? C = _ := I.kIn _ _ hC
  obtain ⟨t1, hao⟩ := exo_at I.hok ea
  have hIa : PySem.W.InstAt s1.heap a _ C none := ⟨hao, rfl, rfl, trivial⟩
  refine ks_wpAny_isType_cls hCo rfl ⟨rfl, ?_⟩
  have hsub := PySem.W.looks_mroIn (M := model P w) I.kIn S.sub
  have hsubV : PySem.W.Looks (model P w) s1.heap (isInstance (.ref a) (.type "ValueError")) true := hIa.type.andThen (PySem.W.looks_subIn I.kIn S.subV)
  have hop := PySem.W.looks_opaque (M := model P w) (C := C) I.kIn S.stat
  have hmro : PySem.W.Looks (model P w) s1.heap (mroOf (.ref C)) (.ref C :: bm) := fun A Q E s k q => wpAny_bind ((PySem.W.looks_clsIn I.kIn hcls) A _ E s k (wpAny_pure q))
  have hac : a ≠ C := PySem.W.ks_ne I.kIn hIa hcls
  have hsup : PySem.W.alongIn K "__init__" (((Value.ref C :: bm).dropWhile (· != .ref C)).drop 1) = some (some (.builtin "ValueError.__init__")) := by
    have := S.sup
    unfold PySem.W.ks_superIn at this
    rw [hcls] at this
    exact this
  obtain ⟨hp, g, d, t, os⟩ := s1
  refine ks_wpAny_call_super hCo rfl hao rfl (fun c z => by cases z) hsub (fun h2 hso k2 => ?_)
  have I2 := I.kept (t' := t) (h' := h2) k2
  refine PySem.W.kxs_getMethod (D := C) (x := a) (C := C) PySem.W.kxs_ValueError hso (hop.keeps k2) (hmro.keeps k2) rfl I2.kIn hsup (hsubV.keeps k2) hac (by decide) ?_
  have hu := Heap.get?_push_size h2 (o := PySem.W.kxs_mw "ValueError.__init__" a) rfl
  have I3 : Inv Y [] (List.map some [V.ref a, v]) H ⟨h2.push (PySem.W.kxs_mw "ValueError.__init__" a), g, d, t + 1, os⟩ := I2.kept (t' := t + 1) fun b o z => Heap.get?_push_of_some _ z
  have hfu : H h2.objs.size = none := I2.hok.fresh (Nat.le_refl _)
  have I4 : Inv Y [(h2.objs.size, PySem.W.kxs_mw "ValueError.__init__" a)] (List.map some [V.ref a, v]) H ⟨h2.push (PySem.W.kxs_mw "ValueError.__init__" a), g, d, t + 1, os⟩ := I3.pins_of fun p hpm => by
    obtain rfl := List.mem_singleton.mp hpm
    obtain ⟨oL, _, _, hL, _⟩ := I2.loc.choose_spec.1
    refine ⟨hu, hfu, fun z => ?_, fun z => ?_, fun c z => by cases z⟩
    · have := Heap.lt_size hL
      rw [← z] at this
      exact absurd this (Nat.lt_irrefl _)
    · obtain ⟨_, o, ho, _⟩ := e0.funs.mem z
      obtain ⟨o', q⟩ := I.base.there _ _ ho (by simp [cxS])
      exact absurd (Heap.lt_size (k2 h2.objs.size o' q)) (Nat.lt_irrefl _)
  have hpa : PA Y [e] (tCons te tNil) := pa_cons hE pa_nil (hs := by rw [show starEach [e] Y.env = [(false, eval e Y.env)] from hst _]; rfl)
  have hrun := hpa.run p3 _ _ _ H (fun xs H1 => xs.length = 1 ∧ H1 = H) I4 (hte _ fun x => ⟨rfl, rfl⟩)
  rw [show starEach [e] Y.env = [(false, eval e Y.env)] from hst _] at hrun
  rw [hst]
  refine PySem.W.kxs_callWith (i := "ValueError.__init__") (x := a) rfl (Calls.evalArgs_plain (thn hrun fun ws s4 hs4 => ?_))
  obtain ⟨xs, H1, I5, r5, hl5, hH⟩ := hs4
  rw [hH] at I5
  have hu5 := (I5.pin _ (List.mem_append_right _ List.mem_cons_self)).1
  refine ⟨hu5, call_mw S.ox I5 ea hu5 (by show ws.length ≤ _; rw [← r5.length, hl5, sizeLine_eq]; omega) fun s5 I6 => ?_⟩
  have I7 : Inv Y [] (List.map some [V.ref a, v]) H s5 := I6.pins_of fun p hpm => absurd hpm (by simp)
  refine PySem.wpAt_of_wpAny ?_
  have hst2 : PSs Y [.Assign [.Attribute (.Name "self" p5) f p6] (.Name f p7) p8] (tOst K f (tVar 0) (tVar 1)) := pss_one (ps_ost (pe_var (i := 0) rfl (.inl hself)) (pe_var (i := 1) rfl (.inl hf) hd1 hd2) (by rfl))
  refine hst2.run [] s5 _ H D I7 ?_
  exact ⟨v, rfl, .ref a, rfl, a, C, rfl, S.ox, hno, .inl ⟨ea, fun dx n ne => hq dx n ne⟩⟩
end

/-! ### what the written part says of the own errors, looked up -/
abbrev FnS : Type := Option (Str × Str × Arguments × FuncBody × Scope × Addr × List Str × Addr)
structure ErD where
  name : Str
  fld : Str
  qual : Str
  params : Arguments
  body : List Stmt
  scope : Scope
  /-- own classes that it is, or is not, one of -/
  kin : List (Str × Bool)
  /-- the classes of except clauses -/
  exm : List (Str × Bool)
def ErD.C (K : PySem.W.Frag) (d : ErD) : Addr := He.ga K d.name
def ErD.fI (K : PySem.W.Frag) (d : ErD) : Addr := He.ma K (d.C K) "__init__"
def fnData (K : PySem.W.Frag) (f : Addr) : Option FuncData := match K.lookup f with
  | some ⟨_, _, .func fd, _⟩ => some fd
  | _ => none
def ErD.fd (K : PySem.W.Frag) (d : ErD) : Option FuncData := fnData K (d.fI K)
def ErD.cc (K : PySem.W.Frag) (d : ErD) : Addr := match d.fd K with
  | some fd => (match fd.closure with
    | (_, c) :: _ => c
    | _ => 0)
  | none => 0
def ErD.cda (K : PySem.W.Frag) (d : ErD) : Addr := match d.fd K with
  | some fd => (match fd.code with
    | .ref c => c
    | _ => 0)
  | none => 0
def ErD.obs (K : PySem.W.Frag) (d : ErD) : FnS := (d.fd K).map fun fd => (fd.name, fd.qualname, fd.params, fd.body, fd.scope, fd.globals, fd.closure.map (·.1), fd.builtins)
def ErD.val (d : ErD) : FnS := some ("__init__", d.qual, d.params, .stmts d.body, d.scope, mainGlobals, ["__class__"], builtinsNs)
def oexB (K : PySem.W.Frag) (C : Addr) : Bool := match K.lookup C with
  | some ⟨.type t, _, .cls ⟨_, _, .ref D :: bm, _, _, true, _, _, _, _, false⟩, ⟨[_, _, _, _, some (.builtin n), _]⟩⟩ => decide (t = "type") && (decide (D = C) && (HandSPX.refsVE bm && decide (n = "ValueError.__new__")))
  | _ => false
theorem oexB_ok {K : PySem.W.Frag} {C : Addr} (h : oexB K C = true) : ∃ nm q N bs bm sn sub ab col dd k0 k1 k2 k3 k5, K.lookup C = some (excClassObj nm q C N bs bm true sn sub ab col dd k0 k1 k2 k3 k5 "ValueError.__new__") ∧ HandSPX.refsVE bm = true := by
  unfold oexB at h
  split at h
  · next t dd nm bs D bm ns qn sn sb ab col k0 k1 k2 k3 n k5 e =>
    obtain ⟨h1, h2⟩ := He.ba h
    obtain ⟨h3, h4⟩ := He.ba h2
    obtain ⟨h5, h6⟩ := He.ba h4
    have e1 := of_decide_eq_true h1
    have e2 := of_decide_eq_true h3
    have e3 := of_decide_eq_true h6
    subst e1 e2 e3
    exact ⟨nm, qn, ns, bs, bm, sn, sb, ab, col, dd, k0, k1, k2, k3, k5, e, h5⟩
  · cases h
def codeB (K : PySem.W.Frag) (c : Addr) : Bool := match K.lookup c with
  | some ⟨_, _, .fields vs, _⟩ => (match (vs[2]? : Option Value) with
    | some (Value.str fl _) => decide (("/claim/cut.py" : Str) = fl)
    | _ => false)
  | _ => false
theorem codeB_ok {K : PySem.W.Frag} {c : Addr} (h : codeB K c = true) : ∃ ccl cdd vs ccs fl tf, K.lookup c = some ⟨ccl, cdd, .fields vs, ccs⟩ ∧ vs[2]? = some (.str fl tf) ∧ (("/claim/cut.py" : Str) == fl) = true := by
  unfold codeB at h
  split at h
  · next e =>
    split at h
    · next fl tf e2 => exact ⟨_, _, _, _, fl, tf, e, e2, by rw [of_decide_eq_true h]; simp⟩
    · cases h
  · cases h
def cellB (K : PySem.W.Frag) (c C : Addr) : Bool := match K.lookup c with
  | some ⟨_, _, .cell (some (.ref D)), _⟩ => decide (D = C)
  | _ => false
theorem cellB_ok {K : PySem.W.Frag} {c C : Addr} (h : cellB K c C = true) : ∃ cl cld csl, K.lookup c = some ⟨cl, cld, .cell (some (.ref C)), csl⟩ := by
  unfold cellB at h
  split at h
  · next e =>
    have := of_decide_eq_true h
    subst this
    exact ⟨_, _, _, e⟩
  · cases h
def ErD.codeRef (K : PySem.W.Frag) (d : ErD) : Bool := match d.fd K with
  | some fd => decide (fd.code = .ref (d.cda K)) && decide (fd.defaults = .none)
  | none => false
def ErD.ok (K : PySem.W.Frag) (d : ErD) : Bool :=
  (d.codeRef K) &&
  ((oexB K (d.C K) &&
  (codeB K (d.cda K) &&
  (cellB K (d.cc K) (d.C K) && PySem.W.codeIn K (.ref (d.cda K)) d.qual))) &&
  ((He.eqO (PySem.W.findIn K (.ref (d.C K)) "__setattr__") (some (some (.builtin "object.__setattr__"))) &&
  (decide (PySem.W.subIn K (.ref (d.C K)) (.type "BaseException") = some true) &&
  (decide (PySem.W.typeIn K (.ref (d.C K)) = some (.type "type")) && PySem.W.keepIn K (.ref (d.C K))))) &&
  ((decide (PySem.W.mroIn K (d.C K) (.ref (d.C K)) = some true) &&
  (He.eqO (PySem.W.nsIn K cStatics "thirdparty.any") (some none) &&
  (He.eqO (PySem.W.ks_superIn K (d.C K) (d.C K) "__init__") (some (some (.builtin "ValueError.__init__"))) && decide (PySem.W.subIn K (.ref (d.C K)) (.type "ValueError") = some true)))) &&
  ((He.eqO (PySem.W.findIn K (.ref (d.C K)) "__init__") (some (some (.ref (d.fI K)))) &&
  (decide (PySem.W.typeIn K (.ref (d.fI K)) = some (.type "function")) && He.eqO (PySem.W.findIn K (.ref (d.C K)) d.fld) (some none))) &&
  ((xfB K (d.C K) &&
  (He.eqO (PySem.W.findIn K (.ref (d.C K)) "__class__") (some (some (.builtin "object.__class__"))) &&
  (He.eqO (PySem.W.specialIn K (.builtin "object.__class__") "__get__") (some (some (.builtin "getset_descriptor.__get__"))) &&
  (decide (PySem.W.takesIn K (.builtin "object.__class__") = some true) && decide (PySem.W.mroIn K (d.C K) (.type "object") = some true))))) &&
  ((d.kin.all fun p => decide (PySem.W.kitOne K (.ref (d.C K)) (.ref (He.ga K p.1)) = some p.2)) &&
  ((d.exm.all fun p => decide (PySem.W.exmOne K (.ref (d.C K)) (.ref (He.ga K p.1)) = some p.2)) &&
  ((decide (PySem.W.kitOne K (.ref (d.C K)) (.type "ValueError") = some true))))))))))
/-- all of it -/
structure ErOk (K : PySem.W.Frag) (d : ErD) (fd : FuncData) : Prop where
  sup : SupC K (d.C K) (d.fI K) (d.cda K) (d.cc K) d.qual d.params d.body d.scope fd
  ini : PySem.W.findIn K (.ref (d.C K)) "__init__" = some (some (.ref (d.fI K)))
  tyI : PySem.W.typeIn K (.ref (d.fI K)) = some (.type "function")
  no : PySem.W.findIn K (.ref (d.C K)) d.fld = some none
  xf : XfC K (d.C K)
  is : ExcC K (d.C K)
  kin : ∀ p ∈ d.kin, PySem.W.kitOne K (.ref (d.C K)) (.ref (He.ga K p.1)) = some p.2
  exm : ∀ p ∈ d.exm, PySem.W.exmOne K (.ref (d.C K)) (.ref (He.ga K p.1)) = some p.2
  ve : PySem.W.kitOne K (.ref (d.C K)) (.type "ValueError") = some true
theorem ErD.get {K : PySem.W.Frag} {d : ErD} (e : d.obs K = d.val) (h : d.ok K = true) : ∃ fd, ErOk K d fd := by
  obtain ⟨g0, h⟩ := He.ba h
  obtain ⟨g1, h⟩ := He.ba h
  obtain ⟨g2, h⟩ := He.ba h
  obtain ⟨g3, h⟩ := He.ba h
  obtain ⟨g4, h⟩ := He.ba h
  obtain ⟨g5, h⟩ := He.ba h
  obtain ⟨g6, h⟩ := He.ba h
  obtain ⟨g7, g8⟩ := He.ba h
  obtain ⟨a1, g1⟩ := He.ba g1
  obtain ⟨a2, g1⟩ := He.ba g1
  obtain ⟨a3, a4⟩ := He.ba g1
  obtain ⟨b1, g2⟩ := He.ba g2
  obtain ⟨b2, g2⟩ := He.ba g2
  obtain ⟨b3, b4⟩ := He.ba g2
  obtain ⟨c1, g3⟩ := He.ba g3
  obtain ⟨c2, g3⟩ := He.ba g3
  obtain ⟨c3, c4⟩ := He.ba g3
  obtain ⟨d1, g4⟩ := He.ba g4
  obtain ⟨d2, d3⟩ := He.ba g4
  obtain ⟨e1, g5⟩ := He.ba g5
  obtain ⟨e2, g5⟩ := He.ba g5
  obtain ⟨e3, g5⟩ := He.ba g5
  obtain ⟨e4, e5⟩ := He.ba g5
  obtain ⟨fd, hfd, hv⟩ : ∃ fd, d.fd K = some fd ∧ (fd.name, fd.qualname, fd.params, fd.body, fd.scope, fd.globals, fd.closure.map (·.1), fd.builtins) = (("__init__" : Str), d.qual, d.params, FuncBody.stmts d.body, d.scope, mainGlobals, [("__class__" : Str)], builtinsNs) := by
    unfold ErD.obs ErD.val at e
    cases q : d.fd K with
    | none => rw [q] at e; cases e
    | some fd => rw [q] at e; exact ⟨fd, rfl, Option.some.inj e⟩
  obtain ⟨oc, od, osl, hlk⟩ : ∃ oc od osl, K.lookup (d.fI K) = some ⟨oc, od, .func fd, osl⟩ := by
    have q : fnData K (d.fI K) = some fd := hfd
    unfold fnData at q
    split at q
    · next e => cases q; exact ⟨_, _, _, e⟩
    · cases q
  have hcc : d.cc K = (match fd.closure with
    | (_, c) :: _ => c
    | _ => 0) := by unfold ErD.cc; rw [hfd]
  have hcda : d.cda K = (match fd.code with
    | .ref c => c
    | _ => 0) := by unfold ErD.cda; rw [hfd]
  obtain ⟨n1, n2, n3, n4, n5, n6, n7, n8, n9, n10, n11, n12, n13, n14, n15⟩ := fd
  simp only [Prod.mk.injEq] at hv
  obtain ⟨v1, v2, v3, v4, v5, v6, v7, v8⟩ := hv
  subst v1 v2 v3 v4 v5 v6 v8
  have hcl : n7 = [(("__class__" : Str), d.cc K)] := by
    cases n7 with
    | nil => cases v7
    | cons p r =>
      obtain ⟨x, c⟩ := p
      cases r with
      | nil =>
        have : x = "__class__" := (List.cons.inj v7).1
        rw [this, hcc]
      | cons q r => cases v7
  obtain ⟨hcd, hdf⟩ : n13 = .ref (d.cda K) ∧ n8 = .none := by
    unfold ErD.codeRef at g0
    rw [hfd] at g0
    obtain ⟨z1, z2⟩ := He.ba g0
    exact ⟨of_decide_eq_true z1, of_decide_eq_true z2⟩
  subst hcl hcd hdf
  refine ⟨_, ⟨⟨⟨oexB_ok a1, He.eqO_ok b1, of_decide_eq_true b2, of_decide_eq_true b3, b4⟩, ⟨oc, od, _, _, _, _, _, osl, rfl, hlk⟩, codeB_ok a2, a4, cellB_ok a3, of_decide_eq_true c1, He.eqO_ok c2, He.eqO_ok c3, of_decide_eq_true c4⟩, He.eqO_ok d1, of_decide_eq_true d2, He.eqO_ok d3, xfB_ok e1,
    ⟨(xfB_ok e1).ga, (xfB_ok e1).gg, (xfB_ok e1).exC, (xfB_ok e1).hdC, He.eqO_ok e2, He.eqO_ok e3, of_decide_eq_true e4, of_decide_eq_true e5⟩, fun p hp => of_decide_eq_true (List.all_eq_true.mp g6 p hp), fun p hp => of_decide_eq_true (List.all_eq_true.mp g7 p hp), of_decide_eq_true g8⟩⟩

/-! ### the text -/
def topS (i : Nat) : Stmt := PySem.Challenge.pw_keepsgoing_k49_classes_judged.main.body.getD i (.Pass ⟨0, 0, 0, 0⟩)
abbrev s_is_int : Stmt := topS 1
abbrev s_is_within : Stmt := topS 2
abbrev s_is_number_of : Stmt := topS 3
abbrev s_p_renumbered : Stmt := topS 6
abbrev s_judge_classes : Stmt := topS 8
abbrev s_begin : Stmt := topS 10
abbrev s_mixed : Stmt := topS 11
abbrev s_draw : Stmt := topS 12
abbrev s_draw_digit : Stmt := topS 13
abbrev s_pick : Stmt := topS 14
abbrev s_pop : Stmt := topS 15
abbrev s_rare : Stmt := topS 16
abbrev s_shuffled : Stmt := topS 17
abbrev s_pool : Stmt := topS 18
abbrev s_kind_values : Stmt := topS 19
abbrev s_ends : Stmt := topS 20
abbrev s_value : Stmt := topS 21
abbrev s_num : Stmt := topS 22
abbrev s_plain_kind : Stmt := topS 23
abbrev s_renumbered : Stmt := topS 24
abbrev s_closed_flow : Stmt := topS 25
abbrev s_one_of : Stmt := topS 26
abbrev s_op_words : Stmt := topS 27
abbrev s_op_node : Stmt := topS 28
abbrev s_merge_node : Stmt := topS 29
abbrev s_input_node : Stmt := topS 30
abbrev s_delay_node : Stmt := topS 31
abbrev s_more_nodes : Stmt := topS 32
abbrev s_base : Stmt := topS 33
abbrev s_mates : Stmt := topS 34
abbrev s_doubled : Stmt := topS 35
abbrev s_bent : Stmt := topS 36
abbrev s_leaders : Stmt := topS 37
abbrev s_classes_taken : Stmt := topS 38
abbrev s_joined : Stmt := topS 39
abbrev s_links : Stmt := topS 40
abbrev s_resets_joined : Stmt := topS 41
abbrev s_closure : Stmt := topS 42
abbrev s_twin_flow : Stmt := topS 43
abbrev s_some_paper : Stmt := topS 44
abbrev s_spoilt_paper : Stmt := topS 45
abbrev s_law : Stmt := topS 46
theorem sc_is_int : FnScope ["thing"] ["thing"] (defScope s_is_int) := ⟨rfl, rfl, rfl, by decide +kernel, rfl, by decide +kernel, by decide +kernel⟩
theorem sc_is_within : FnScope ["thing", "low", "high"] ["thing", "low", "high"] (defScope s_is_within) := ⟨rfl, rfl, rfl, by decide +kernel, rfl, by decide +kernel, by decide +kernel⟩
theorem sc_is_number_of : FnScope ["thing", "many"] ["thing", "many"] (defScope s_is_number_of) := ⟨rfl, rfl, rfl, by decide +kernel, rfl, by decide +kernel, by decide +kernel⟩
theorem sc_p_renumbered : FnScope ["node", "numbers", "word", "kind", "clock", "start", "resets", "each", "value"] ["node", "numbers"] (defScope s_p_renumbered) := ⟨rfl, rfl, rfl, by decide +kernel, rfl, by decide +kernel, by decide +kernel⟩
theorem sc_judge_classes : FnScope ["flow", "paper", "nodes", "node", "leader"] ["flow", "paper"] (defScope s_judge_classes) := ⟨rfl, rfl, rfl, by decide +kernel, rfl, by decide +kernel, by decide +kernel⟩
theorem sc_begin : FnScope ["_law_script", "_law_cell"] ["_law_script"] (defScope s_begin) := ⟨rfl, rfl, rfl, by decide +kernel, rfl, by decide +kernel, by decide +kernel⟩
theorem sc_mixed : FnScope ["_law_d", "_law_cell"] ["_law_d", "_law_cell"] (defScope s_mixed) := ⟨rfl, rfl, rfl, by decide +kernel, rfl, by decide +kernel, by decide +kernel⟩
theorem sc_draw : FnScope ["_law_d", "_law_many", "_law_cell"] ["_law_d", "_law_many"] (defScope s_draw) := ⟨rfl, rfl, rfl, by decide +kernel, rfl, by decide +kernel, by decide +kernel⟩
theorem sc_draw_digit : FnScope ["_law_d", "_law_many", "_law_pair"] ["_law_d", "_law_many"] (defScope s_draw_digit) := ⟨rfl, rfl, rfl, by decide +kernel, rfl, by decide +kernel, by decide +kernel⟩
theorem sc_pick : FnScope ["_law_d", "_law_row"] ["_law_d", "_law_row"] (defScope s_pick) := ⟨rfl, rfl, rfl, by decide +kernel, rfl, by decide +kernel, by decide +kernel⟩
theorem sc_pop : FnScope ["_law_d", "_law_row"] ["_law_d", "_law_row"] (defScope s_pop) := ⟨rfl, rfl, rfl, by decide +kernel, rfl, by decide +kernel, by decide +kernel⟩
theorem sc_rare : FnScope ["_law_d", "_law_many", "_law_amid"] ["_law_d", "_law_many"] (defScope s_rare) := ⟨rfl, rfl, rfl, by decide +kernel, rfl, by decide +kernel, by decide +kernel⟩
theorem sc_shuffled : FnScope ["_law_d", "_law_row", "_law_rest", "_law_found", "_law_step"] ["_law_d", "_law_row"] (defScope s_shuffled) := ⟨rfl, rfl, rfl, by decide +kernel, rfl, by decide +kernel, by decide +kernel⟩
theorem sc_pool : FnScope ["_law_words", "_law_more", "_law_last"] [] (defScope s_pool) := ⟨rfl, rfl, rfl, by decide +kernel, rfl, by decide +kernel, by decide +kernel⟩
theorem sc_kind_values : FnScope ["_law_kind", "_law_found", "_law_step", "_law_longer", "_law_row", "_law_value_here"] ["_law_kind"] (defScope s_kind_values) := ⟨rfl, rfl, rfl, by decide +kernel, rfl, by decide +kernel, by decide +kernel⟩
theorem sc_ends : FnScope ["_law_kind"] ["_law_kind"] (defScope s_ends) := ⟨rfl, rfl, rfl, by decide +kernel, rfl, by decide +kernel, by decide +kernel⟩
theorem sc_value : FnScope ["_law_d", "_law_kind", "_law_found", "_law_step", "_law_ends_here"] ["_law_d", "_law_kind"] (defScope s_value) := ⟨rfl, rfl, rfl, by decide +kernel, rfl, by decide +kernel, by decide +kernel⟩
theorem sc_num : FnScope ["_law_d", "_law_most", "_law_many", "_law_low", "_law_per"] ["_law_d", "_law_most"] (defScope s_num) := ⟨rfl, rfl, rfl, by decide +kernel, rfl, by decide +kernel, by decide +kernel⟩
theorem sc_plain_kind : FnScope ["_law_d", "_law_most", "_law_pool_here", "_law_way", "_law_names", "_law_step"] ["_law_d", "_law_most", "_law_pool_here"] (defScope s_plain_kind) := ⟨rfl, rfl, rfl, by decide +kernel, rfl, by decide +kernel, by decide +kernel⟩
theorem sc_renumbered : FnScope ["_law_node", "_law_swap", "_law_word", "_law_clock", "_law_resets", "_law_reset", "_law_pair", "_law_arm", "_law_part"] ["_law_node", "_law_swap"] (defScope s_renumbered) := ⟨rfl, rfl, rfl, by decide +kernel, rfl, by decide +kernel, by decide +kernel⟩
theorem sc_closed_flow : FnScope ["_law_d", "_law_inputs", "_law_nodes", "_law_pool_here", "_law_goal", "_law_found", "_law_number", "_law_bools", "_law_rows", "_law_step", "_law_way", "_law_node"] ["_law_d", "_law_inputs", "_law_nodes", "_law_pool_here"] (defScope s_closed_flow) := ⟨rfl, rfl, rfl, by decide +kernel, rfl, by decide +kernel, by decide +kernel⟩
theorem sc_one_of : FnScope ["_law_d", "_law_nodes", "_law_kind", "_law_clock", "_law_there", "_law_n"] ["_law_d", "_law_nodes", "_law_kind", "_law_clock"] (defScope s_one_of) := ⟨rfl, rfl, rfl, by decide +kernel, rfl, by decide +kernel, by decide +kernel⟩
theorem sc_op_words : FnScope ["_law_kind", "_law_more"] ["_law_kind"] (defScope s_op_words) := ⟨rfl, rfl, rfl, by decide +kernel, rfl, by decide +kernel, by decide +kernel⟩
theorem sc_op_node : FnScope ["_law_d", "_law_nodes", "_law_a", "_law_kind", "_law_clock", "_law_op", "_law_parts", "_law_result", "_law_step"] ["_law_d", "_law_nodes", "_law_a"] (defScope s_op_node) := ⟨rfl, rfl, rfl, by decide +kernel, rfl, by decide +kernel, by decide +kernel⟩
theorem sc_merge_node : FnScope ["_law_d", "_law_nodes", "_law_a", "_law_chooser", "_law_kind", "_law_clock", "_law_arms", "_law_value_here", "_law_below", "_law_there", "_law_source", "_law_n"] ["_law_d", "_law_nodes", "_law_a", "_law_chooser"] (defScope s_merge_node) := ⟨rfl, rfl, rfl, by decide +kernel, rfl, by decide +kernel, by decide +kernel⟩
theorem sc_input_node : FnScope ["_law_inputs", "_law_nodes", "_law_at", "_law_clock"] ["_law_inputs", "_law_nodes", "_law_at", "_law_clock"] (defScope s_input_node) := ⟨rfl, rfl, rfl, by decide +kernel, rfl, by decide +kernel, by decide +kernel⟩
theorem sc_delay_node : FnScope ["_law_d", "_law_nodes", "_law_a", "_law_clock", "_law_rest", "_law_resets", "_law_step", "_law_first", "_law_n"] ["_law_d", "_law_nodes", "_law_a"] (defScope s_delay_node) := ⟨rfl, rfl, rfl, by decide +kernel, rfl, by decide +kernel, by decide +kernel⟩
theorem sc_more_nodes : FnScope ["_law_d", "_law_inputs", "_law_nodes", "_law_way", "_law_a", "_law_clock", "_law_choosers", "_law_many", "_law_chooser", "_law_value_here", "_law_n"] ["_law_d", "_law_inputs", "_law_nodes"] (defScope s_more_nodes) := ⟨rfl, rfl, rfl, by decide +kernel, rfl, by decide +kernel, by decide +kernel⟩
theorem sc_base : FnScope ["_law_d", "_law_inputs", "_law_many", "_law_most", "_law_pool_here", "_law_nodes", "_law_at", "_law_kind", "_law_step", "_law_n", "_law_node", "_law_there", "_law_m"] ["_law_d", "_law_inputs", "_law_many", "_law_most", "_law_pool_here"] (defScope s_base) := ⟨rfl, rfl, rfl, by decide +kernel, rfl, by decide +kernel, by decide +kernel⟩
theorem sc_mates : FnScope ["_law_d", "_law_nodes", "_law_mate", "_law_size", "_law_n", "_law_apart", "_law_pair"] ["_law_d", "_law_nodes"] (defScope s_mates) := ⟨rfl, rfl, rfl, by decide +kernel, rfl, by decide +kernel, by decide +kernel⟩
theorem sc_doubled : FnScope ["_law_d", "_law_nodes", "_law_many", "_law_mate", "_law_apart", "_law_node", "_law_found", "_law_world", "_law_n", "_law_goal", "_law_stands", "_law_clock", "_law_pair", "_law_m"] ["_law_d", "_law_nodes"] (defScope s_doubled) := ⟨rfl, rfl, rfl, by decide +kernel, rfl, by decide +kernel, by decide +kernel⟩
theorem sc_bent : FnScope ["_law_d", "_law_nodes", "_law_n", "_law_node", "_law_turns", "_law_many"] ["_law_d", "_law_nodes", "_law_n"] (defScope s_bent) := ⟨rfl, rfl, rfl, by decide +kernel, rfl, by decide +kernel, by decide +kernel⟩
theorem sc_leaders : FnScope ["_law_nodes", "_law_leaders_here", "_law_turn", "_law_looks", "_law_finer", "_law_node", "_law_look"] ["_law_nodes"] (defScope s_leaders) := ⟨rfl, rfl, rfl, by decide +kernel, rfl, by decide +kernel, by decide +kernel⟩
theorem sc_classes_taken : FnScope ["_law_nodes", "_law_paper", "_law_n", "_law_looks", "_law_node"] ["_law_nodes", "_law_paper"] (defScope s_classes_taken) := ⟨rfl, rfl, rfl, by decide +kernel, rfl, by decide +kernel, by decide +kernel⟩
theorem sc_joined : FnScope ["_law_leaders_here", "_law_a", "_law_b", "_law_low", "_law_high", "_law_leader"] ["_law_leaders_here", "_law_a", "_law_b"] (defScope s_joined) := ⟨rfl, rfl, rfl, by decide +kernel, rfl, by decide +kernel, by decide +kernel⟩
theorem sc_links : FnScope ["_law_node", "_law_found", "_law_pair"] ["_law_node"] (defScope s_links) := ⟨rfl, rfl, rfl, by decide +kernel, rfl, by decide +kernel, by decide +kernel⟩
theorem sc_resets_joined : FnScope ["_law_node", "_law_other", "_law_whole", "_law_leaders_here", "_law_reset", "_law_mates_here", "_law_mate"] ["_law_node", "_law_other", "_law_whole", "_law_leaders_here"] (defScope s_resets_joined) := ⟨rfl, rfl, rfl, by decide +kernel, rfl, by decide +kernel, by decide +kernel⟩
theorem sc_closure : FnScope ["_law_nodes", "_law_whole", "_law_leaders_here", "_law_turn", "_law_before", "_law_n", "_law_lead", "_law_links_here", "_law_mates_here", "_law_at"] ["_law_nodes", "_law_whole", "_law_leaders_here"] (defScope s_closure) := ⟨rfl, rfl, rfl, by decide +kernel, rfl, by decide +kernel, by decide +kernel⟩
theorem sc_twin_flow : FnScope ["_law_d", "_law_pool_here", "_law_most", "_law_inputs", "_law_many", "_law_nodes", "_law_step", "_law_n"] ["_law_d", "_law_pool_here", "_law_most"] (defScope s_twin_flow) := ⟨rfl, rfl, rfl, by decide +kernel, rfl, by decide +kernel, by decide +kernel⟩
theorem sc_some_paper : FnScope ["_law_d", "_law_nodes", "_law_whole", "_law_leaders_here", "_law_step", "_law_n"] ["_law_d", "_law_nodes", "_law_whole"] (defScope s_some_paper) := ⟨rfl, rfl, rfl, by decide +kernel, rfl, by decide +kernel, by decide +kernel⟩
theorem sc_spoilt_paper : FnScope ["_law_d", "_law_nodes", "_law_paper", "_law_many", "_law_n", "_law_mates_here", "_law_way", "_law_likes", "_law_strange", "_law_m"] ["_law_d", "_law_nodes", "_law_paper"] (defScope s_spoilt_paper) := ⟨rfl, rfl, rfl, by decide +kernel, rfl, by decide +kernel, by decide +kernel⟩
theorem sc_law : FnScope ["_law_script", "_law_d", "_law_flow", "_law_nodes", "_law_whole", "_law_papers", "_law_step", "_law_paper", "_law_told"] ["_law_script"] (defScope s_law) := ⟨rfl, rfl, rfl, by decide +kernel, rfl, by decide +kernel, by decide +kernel⟩
abbrev FnP (K : PySem.W.Frag) (x : Str) (st : Stmt) (f : Addr) (fd : FuncData) : Prop := FunD K x x (defArgs st) (defBody st) (defScope st) [] [] f fd
def tab_COUNTS : List (Str × V) := [(("not" : Str), V.int 1), (("and" : Str), V.int 2), (("or" : Str), V.int 2), (("xor" : Str), V.int 2), (("eq" : Str), V.int 2), (("ne" : Str), V.int 2), (("lt" : Str), V.int 2), (("le" : Str), V.int 2), (("neg" : Str), V.int 1), (("add" : Str), V.int 2), (("sub" : Str), V.int 2), (("mul" : Str), V.int 2), (("div" : Str), V.int 2), (("min" : Str), V.int 2), (("max" : Str), V.int 2), (("mid" : Str), V.int 3), (("as" : Str), V.int 1), (("pick" : Str), V.int 3), (("vote" : Str), V.int 3), (("row" : Str), V.non), (("at" : Str), V.int 2), (("put" : Str), V.int 3), (("sum" : Str), V.int 1), (("any" : Str), V.int 1), (("all" : Str), V.int 1)]
def not_COUNTS : List Str := [("input" : Str), ("here" : Str), ("const" : Str), ("beat" : Str), ("when" : Str), ("merge" : Str), ("delay" : Str)]
structure Tx (K : PySem.W.Frag) (mg : Str → Option Value) (w : World) (base : Heap) where
  f_is_int : Addr
  fd_is_int : FuncData
  F_is_int : FnP K "is_int" s_is_int f_is_int fd_is_int
  m_is_int : mg "is_int" = some (.ref f_is_int)
  b_is_int : Binds K fd_is_int ["thing"] []
  f_is_within : Addr
  fd_is_within : FuncData
  F_is_within : FnP K "is_within" s_is_within f_is_within fd_is_within
  m_is_within : mg "is_within" = some (.ref f_is_within)
  b_is_within : Binds K fd_is_within ["thing", "low", "high"] []
  f_is_number_of : Addr
  fd_is_number_of : FuncData
  F_is_number_of : FnP K "is_number_of" s_is_number_of f_is_number_of fd_is_number_of
  m_is_number_of : mg "is_number_of" = some (.ref f_is_number_of)
  b_is_number_of : Binds K fd_is_number_of ["thing", "many"] []
  f_p_renumbered : Addr
  fd_p_renumbered : FuncData
  F_p_renumbered : FnP K "renumbered" s_p_renumbered f_p_renumbered fd_p_renumbered
  m_p_renumbered : mg "renumbered" = some (.ref f_p_renumbered)
  b_p_renumbered : Binds K fd_p_renumbered ["node", "numbers"] []
  f_judge_classes : Addr
  fd_judge_classes : FuncData
  F_judge_classes : FnP K "judge_classes" s_judge_classes f_judge_classes fd_judge_classes
  m_judge_classes : mg "judge_classes" = some (.ref f_judge_classes)
  b_judge_classes : Binds K fd_judge_classes ["flow", "paper"] []
  f_begin : Addr
  fd_begin : FuncData
  F_begin : FnP K "_law_begin" s_begin f_begin fd_begin
  m_begin : mg "_law_begin" = some (.ref f_begin)
  b_begin : Binds K fd_begin ["_law_script"] []
  f_mixed : Addr
  fd_mixed : FuncData
  F_mixed : FnP K "_law_mixed" s_mixed f_mixed fd_mixed
  m_mixed : mg "_law_mixed" = some (.ref f_mixed)
  b_mixed : Binds K fd_mixed ["_law_d", "_law_cell"] []
  f_draw : Addr
  fd_draw : FuncData
  F_draw : FnP K "_law_draw" s_draw f_draw fd_draw
  m_draw : mg "_law_draw" = some (.ref f_draw)
  b_draw : Binds K fd_draw ["_law_d", "_law_many"] []
  f_draw_digit : Addr
  fd_draw_digit : FuncData
  F_draw_digit : FnP K "_law_draw_digit" s_draw_digit f_draw_digit fd_draw_digit
  m_draw_digit : mg "_law_draw_digit" = some (.ref f_draw_digit)
  b_draw_digit : Binds K fd_draw_digit ["_law_d", "_law_many"] []
  f_pick : Addr
  fd_pick : FuncData
  F_pick : FnP K "_law_pick" s_pick f_pick fd_pick
  m_pick : mg "_law_pick" = some (.ref f_pick)
  b_pick : Binds K fd_pick ["_law_d", "_law_row"] []
  f_pop : Addr
  fd_pop : FuncData
  F_pop : FnP K "_law_pop" s_pop f_pop fd_pop
  m_pop : mg "_law_pop" = some (.ref f_pop)
  b_pop : Binds K fd_pop ["_law_d", "_law_row"] []
  f_rare : Addr
  fd_rare : FuncData
  F_rare : FnP K "_law_rare" s_rare f_rare fd_rare
  m_rare : mg "_law_rare" = some (.ref f_rare)
  b_rare : Binds K fd_rare ["_law_d", "_law_many"] []
  f_shuffled : Addr
  fd_shuffled : FuncData
  F_shuffled : FnP K "_law_shuffled" s_shuffled f_shuffled fd_shuffled
  m_shuffled : mg "_law_shuffled" = some (.ref f_shuffled)
  b_shuffled : Binds K fd_shuffled ["_law_d", "_law_row"] []
  f_pool : Addr
  fd_pool : FuncData
  F_pool : FnP K "_law_pool" s_pool f_pool fd_pool
  m_pool : mg "_law_pool" = some (.ref f_pool)
  b_pool : Binds K fd_pool [] []
  f_kind_values : Addr
  fd_kind_values : FuncData
  F_kind_values : FnP K "_law_kind_values" s_kind_values f_kind_values fd_kind_values
  m_kind_values : mg "_law_kind_values" = some (.ref f_kind_values)
  b_kind_values : Binds K fd_kind_values ["_law_kind"] []
  f_ends : Addr
  fd_ends : FuncData
  F_ends : FnP K "_law_ends" s_ends f_ends fd_ends
  m_ends : mg "_law_ends" = some (.ref f_ends)
  b_ends : Binds K fd_ends ["_law_kind"] []
  f_value : Addr
  fd_value : FuncData
  F_value : FnP K "_law_value" s_value f_value fd_value
  m_value : mg "_law_value" = some (.ref f_value)
  b_value : Binds K fd_value ["_law_d", "_law_kind"] []
  f_num : Addr
  fd_num : FuncData
  F_num : FnP K "_law_num" s_num f_num fd_num
  m_num : mg "_law_num" = some (.ref f_num)
  b_num : Binds K fd_num ["_law_d", "_law_most"] []
  f_plain_kind : Addr
  fd_plain_kind : FuncData
  F_plain_kind : FnP K "_law_plain_kind" s_plain_kind f_plain_kind fd_plain_kind
  m_plain_kind : mg "_law_plain_kind" = some (.ref f_plain_kind)
  b_plain_kind : Binds K fd_plain_kind ["_law_d", "_law_most", "_law_pool_here"] []
  f_renumbered : Addr
  fd_renumbered : FuncData
  F_renumbered : FnP K "_law_renumbered" s_renumbered f_renumbered fd_renumbered
  m_renumbered : mg "_law_renumbered" = some (.ref f_renumbered)
  b_renumbered : Binds K fd_renumbered ["_law_node", "_law_swap"] []
  f_closed_flow : Addr
  fd_closed_flow : FuncData
  F_closed_flow : FnP K "_law_closed_flow" s_closed_flow f_closed_flow fd_closed_flow
  m_closed_flow : mg "_law_closed_flow" = some (.ref f_closed_flow)
  b_closed_flow : Binds K fd_closed_flow ["_law_d", "_law_inputs", "_law_nodes", "_law_pool_here"] []
  f_one_of : Addr
  fd_one_of : FuncData
  F_one_of : FnP K "_law_one_of" s_one_of f_one_of fd_one_of
  m_one_of : mg "_law_one_of" = some (.ref f_one_of)
  b_one_of : Binds K fd_one_of ["_law_d", "_law_nodes", "_law_kind", "_law_clock"] []
  f_op_words : Addr
  fd_op_words : FuncData
  F_op_words : FnP K "_law_op_words" s_op_words f_op_words fd_op_words
  m_op_words : mg "_law_op_words" = some (.ref f_op_words)
  b_op_words : Binds K fd_op_words ["_law_kind"] []
  f_op_node : Addr
  fd_op_node : FuncData
  F_op_node : FnP K "_law_op_node" s_op_node f_op_node fd_op_node
  m_op_node : mg "_law_op_node" = some (.ref f_op_node)
  b_op_node : Binds K fd_op_node ["_law_d", "_law_nodes", "_law_a"] []
  f_merge_node : Addr
  fd_merge_node : FuncData
  F_merge_node : FnP K "_law_merge_node" s_merge_node f_merge_node fd_merge_node
  m_merge_node : mg "_law_merge_node" = some (.ref f_merge_node)
  b_merge_node : Binds K fd_merge_node ["_law_d", "_law_nodes", "_law_a", "_law_chooser"] []
  f_input_node : Addr
  fd_input_node : FuncData
  F_input_node : FnP K "_law_input_node" s_input_node f_input_node fd_input_node
  m_input_node : mg "_law_input_node" = some (.ref f_input_node)
  b_input_node : Binds K fd_input_node ["_law_inputs", "_law_nodes", "_law_at", "_law_clock"] []
  f_delay_node : Addr
  fd_delay_node : FuncData
  F_delay_node : FnP K "_law_delay_node" s_delay_node f_delay_node fd_delay_node
  m_delay_node : mg "_law_delay_node" = some (.ref f_delay_node)
  b_delay_node : Binds K fd_delay_node ["_law_d", "_law_nodes", "_law_a"] []
  f_more_nodes : Addr
  fd_more_nodes : FuncData
  F_more_nodes : FnP K "_law_more_nodes" s_more_nodes f_more_nodes fd_more_nodes
  m_more_nodes : mg "_law_more_nodes" = some (.ref f_more_nodes)
  b_more_nodes : Binds K fd_more_nodes ["_law_d", "_law_inputs", "_law_nodes"] []
  f_base : Addr
  fd_base : FuncData
  F_base : FnP K "_law_base" s_base f_base fd_base
  m_base : mg "_law_base" = some (.ref f_base)
  b_base : Binds K fd_base ["_law_d", "_law_inputs", "_law_many", "_law_most", "_law_pool_here"] []
  f_mates : Addr
  fd_mates : FuncData
  F_mates : FnP K "_law_mates" s_mates f_mates fd_mates
  m_mates : mg "_law_mates" = some (.ref f_mates)
  b_mates : Binds K fd_mates ["_law_d", "_law_nodes"] []
  f_doubled : Addr
  fd_doubled : FuncData
  F_doubled : FnP K "_law_doubled" s_doubled f_doubled fd_doubled
  m_doubled : mg "_law_doubled" = some (.ref f_doubled)
  b_doubled : Binds K fd_doubled ["_law_d", "_law_nodes"] []
  f_bent : Addr
  fd_bent : FuncData
  F_bent : FnP K "_law_bent" s_bent f_bent fd_bent
  m_bent : mg "_law_bent" = some (.ref f_bent)
  b_bent : Binds K fd_bent ["_law_d", "_law_nodes", "_law_n"] []
  f_leaders : Addr
  fd_leaders : FuncData
  F_leaders : FnP K "_law_leaders" s_leaders f_leaders fd_leaders
  m_leaders : mg "_law_leaders" = some (.ref f_leaders)
  b_leaders : Binds K fd_leaders ["_law_nodes"] []
  f_classes_taken : Addr
  fd_classes_taken : FuncData
  F_classes_taken : FnP K "_law_classes_taken" s_classes_taken f_classes_taken fd_classes_taken
  m_classes_taken : mg "_law_classes_taken" = some (.ref f_classes_taken)
  b_classes_taken : Binds K fd_classes_taken ["_law_nodes", "_law_paper"] []
  f_joined : Addr
  fd_joined : FuncData
  F_joined : FnP K "_law_joined" s_joined f_joined fd_joined
  m_joined : mg "_law_joined" = some (.ref f_joined)
  b_joined : Binds K fd_joined ["_law_leaders_here", "_law_a", "_law_b"] []
  f_links : Addr
  fd_links : FuncData
  F_links : FnP K "_law_links" s_links f_links fd_links
  m_links : mg "_law_links" = some (.ref f_links)
  b_links : Binds K fd_links ["_law_node"] []
  f_resets_joined : Addr
  fd_resets_joined : FuncData
  F_resets_joined : FnP K "_law_resets_joined" s_resets_joined f_resets_joined fd_resets_joined
  m_resets_joined : mg "_law_resets_joined" = some (.ref f_resets_joined)
  b_resets_joined : Binds K fd_resets_joined ["_law_node", "_law_other", "_law_whole", "_law_leaders_here"] []
  f_closure : Addr
  fd_closure : FuncData
  F_closure : FnP K "_law_closure" s_closure f_closure fd_closure
  m_closure : mg "_law_closure" = some (.ref f_closure)
  b_closure : Binds K fd_closure ["_law_nodes", "_law_whole", "_law_leaders_here"] []
  f_twin_flow : Addr
  fd_twin_flow : FuncData
  F_twin_flow : FnP K "_law_twin_flow" s_twin_flow f_twin_flow fd_twin_flow
  m_twin_flow : mg "_law_twin_flow" = some (.ref f_twin_flow)
  b_twin_flow : Binds K fd_twin_flow ["_law_d", "_law_pool_here", "_law_most"] []
  f_some_paper : Addr
  fd_some_paper : FuncData
  F_some_paper : FnP K "_law_some_paper" s_some_paper f_some_paper fd_some_paper
  m_some_paper : mg "_law_some_paper" = some (.ref f_some_paper)
  b_some_paper : Binds K fd_some_paper ["_law_d", "_law_nodes", "_law_whole"] []
  f_spoilt_paper : Addr
  fd_spoilt_paper : FuncData
  F_spoilt_paper : FnP K "_law_spoilt_paper" s_spoilt_paper f_spoilt_paper fd_spoilt_paper
  m_spoilt_paper : mg "_law_spoilt_paper" = some (.ref f_spoilt_paper)
  b_spoilt_paper : Binds K fd_spoilt_paper ["_law_d", "_law_nodes", "_law_paper"] []
  f_law : Addr
  fd_law : FuncData
  F_law : FnP K "law" s_law f_law fd_law
  m_law : mg "law" = some (.ref f_law)
  b_law : Binds K fd_law ["_law_script"] []
  z_abs : mg "abs" = none
  z_bool : mg "bool" = none
  z_divmod : mg "divmod" = none
  z_enumerate : mg "enumerate" = none
  z_int : mg "int" = none
  z_isinstance : mg "isinstance" = none
  z_len : mg "len" = none
  z_list : mg "list" = none
  z_max : mg "max" = none
  z_min : mg "min" = none
  z_range : mg "range" = none
  z_set : mg "set" = none
  z_sorted : mg "sorted" = none
  z_tuple : mg "tuple" = none
  mg_COUNTS : mg "COUNTS" = some (.ref (He.ga K "COUNTS"))
  es_COUNTS : Array DictEntry
  n_COUNTS : Nat
  kx_COUNTS : KDict K w (He.ga K "COUNTS") es_COUNTS n_COUNTS
  kd_COUNTS : ∀ q ∈ tab_COUNTS, KDct K w (He.ga K "COUNTS") q.1 q.2
  no_COUNTS : ∀ z ∈ not_COUNTS, PySem.W.nsIn K (He.ga K "COUNTS") z = some none
def Tx.tbs {K : PySem.W.Frag} {mg : Str → Option Value} {w : World} {base : Heap} (T : Tx K mg w base) : List Addr := []



/-! ### promises of defs with so many arguments -/
def sp0 (R : Hp → VK → Prop) : Sp := fun vs H Q _ => vs = [] ∧ R H Q
def sp1 (R : V → Hp → VK → Prop) : Sp := fun vs H Q _ => ∃ x, vs = [x] ∧ R x H Q
def sp2 (R : V → V → Hp → VK → Prop) : Sp := fun vs H Q _ => ∃ x y, vs = [x, y] ∧ R x y H Q
def sp3 (R : V → V → V → Hp → VK → Prop) : Sp := fun vs H Q _ => ∃ x y z, vs = [x, y, z] ∧ R x y z H Q
section
variable {P : Program} {w : World} {K : PySem.W.Frag} {mg : Str → Option Value} {base : Heap} {x : Str} {st : Stmt} {f : Addr} {fd : FuncData} {N ps : List Str} {k : Nat} {dvs : List V} {kws : List (Str × V)}
theorem okR {sp : Sp} (F : FunD K x x (defArgs st) (defBody st) (defScope st) dvs kws f fd) (S : FnScope N ps (defScope st)) (len : ∀ vs H Q E, sp vs H Q E → vs.length = ps.length)
    (body : ∀ (cdv : Value) (A : Around) (outer : List Env) (s : Shared) (H : Hp) (vs : List V) (Q : VK) (E : XK), Room k (A.deeper (envOfC x (defScope st) s.heap.objs.size f cdv)) → sp vs H Q E →
      ∃ t, PSs (cxOf CX0 P w K mg base N x (defScope st) f cdv A outer s H E).nox (defBody st) t ∧ t { nx := fun _ H' => Q .non H', rt := Q } (start N vs) H) : FnOk P w K mg base CX0 (k + 1) f fd ps sp := by
  refine F.ok S len fun cdv A outer s H vs Q E hr h => ?_
  obtain ⟨t, h1, h2⟩ := body cdv A outer s H vs Q E hr h
  exact ⟨t, h1.nox, h2⟩
theorem okR0 {R : Hp → VK → Prop} (F : FunD K x x (defArgs st) (defBody st) (defScope st) dvs kws f fd) (S : FnScope N ps (defScope st)) (hl : ps.length = 0)
    (body : ∀ (cdv : Value) (A : Around) (outer : List Env) (s : Shared) (H : Hp) (Q : VK) (E : XK), Room k (A.deeper (envOfC x (defScope st) s.heap.objs.size f cdv)) → R H Q →
      ∃ t, PSs (cxOf CX0 P w K mg base N x (defScope st) f cdv A outer s H E).nox (defBody st) t ∧ t { nx := fun _ H' => Q .non H', rt := Q } (start N []) H) : FnOk P w K mg base CX0 (k + 1) f fd ps (sp0 R) := by
  refine okR F S (fun vs H Q E h => ?_) fun cdv A outer s H vs Q E hr h => ?_
  · obtain ⟨rfl, _⟩ := h
    exact hl.symm
  · obtain ⟨rfl, h⟩ := h
    exact body cdv A outer s H Q E hr h
theorem okR1 {R : V → Hp → VK → Prop} (F : FunD K x x (defArgs st) (defBody st) (defScope st) dvs kws f fd) (S : FnScope N ps (defScope st)) (hl : ps.length = 1)
    (body : ∀ (cdv : Value) (A : Around) (outer : List Env) (s : Shared) (H : Hp) (Q : VK) (E : XK) (a : V), Room k (A.deeper (envOfC x (defScope st) s.heap.objs.size f cdv)) → R a H Q →
      ∃ t, PSs (cxOf CX0 P w K mg base N x (defScope st) f cdv A outer s H E).nox (defBody st) t ∧ t { nx := fun _ H' => Q .non H', rt := Q } (start N [a]) H) : FnOk P w K mg base CX0 (k + 1) f fd ps (sp1 R) := by
  refine okR F S (fun vs H Q E h => ?_) fun cdv A outer s H vs Q E hr h => ?_
  · obtain ⟨_, rfl, _⟩ := h
    exact hl.symm
  · obtain ⟨a, rfl, h⟩ := h
    exact body cdv A outer s H Q E a hr h
theorem okR2 {R : V → V → Hp → VK → Prop} (F : FunD K x x (defArgs st) (defBody st) (defScope st) dvs kws f fd) (S : FnScope N ps (defScope st)) (hl : ps.length = 2)
    (body : ∀ (cdv : Value) (A : Around) (outer : List Env) (s : Shared) (H : Hp) (Q : VK) (E : XK) (a b : V), Room k (A.deeper (envOfC x (defScope st) s.heap.objs.size f cdv)) → R a b H Q →
      ∃ t, PSs (cxOf CX0 P w K mg base N x (defScope st) f cdv A outer s H E).nox (defBody st) t ∧ t { nx := fun _ H' => Q .non H', rt := Q } (start N [a, b]) H) : FnOk P w K mg base CX0 (k + 1) f fd ps (sp2 R) := by
  refine okR F S (fun vs H Q E h => ?_) fun cdv A outer s H vs Q E hr h => ?_
  · obtain ⟨_, _, rfl, _⟩ := h
    exact hl.symm
  · obtain ⟨a, b, rfl, h⟩ := h
    exact body cdv A outer s H Q E a b hr h
theorem okR3 {R : V → V → V → Hp → VK → Prop} (F : FunD K x x (defArgs st) (defBody st) (defScope st) dvs kws f fd) (S : FnScope N ps (defScope st)) (hl : ps.length = 3)
    (body : ∀ (cdv : Value) (A : Around) (outer : List Env) (s : Shared) (H : Hp) (Q : VK) (E : XK) (a b c : V), Room k (A.deeper (envOfC x (defScope st) s.heap.objs.size f cdv)) → R a b c H Q →
      ∃ t, PSs (cxOf CX0 P w K mg base N x (defScope st) f cdv A outer s H E).nox (defBody st) t ∧ t { nx := fun _ H' => Q .non H', rt := Q } (start N [a, b, c]) H) : FnOk P w K mg base CX0 (k + 1) f fd ps (sp3 R) := by
  refine okR F S (fun vs H Q E h => ?_) fun cdv A outer s H vs Q E hr h => ?_
  · obtain ⟨_, _, _, rfl, _⟩ := h
    exact hl.symm
  · obtain ⟨a, b, c, rfl, h⟩ := h
    exact body cdv A outer s H Q E a b c hr h
end
/-! ### heaps: all but the object at d stays -/
def Keep (d : Addr) (H H' : Hp) : Prop := ∀ b o, H b = some o → b ≠ d → H' b = some o
theorem Keep.refl (d : Addr) (H : Hp) : Keep d H H := fun _ _ h _ => h
theorem Keep.trans {d : Addr} {H H1 H2 : Hp} (a : Keep d H H1) (b : Keep d H1 H2) : Keep d H H2 := fun c o h n => b c o (a c o h n) n
theorem Keep.of {d : Addr} {H H1 : Hp} (a : Same H H1) : Keep d H H1 := fun c o h _ => a c o h
theorem Keep.new {d p : Addr} {H : Hp} {o : HO} (h : H p = none) : Keep d H (upd H p o) := fun b u e _ => by
  rw [upd_ne (ne_of_none e h)]
  exact e
theorem Keep.at {d : Addr} {H : Hp} {o : HO} : Keep d H (upd H d o) := fun b u e n => by
  rw [upd_ne n]
  exact e
theorem same_new {H : Hp} {p : Addr} {o : HO} (h : H p = none) : Same H (upd H p o) := fun b u e => by
  rw [upd_ne (ne_of_none e h)]
  exact e
theorem upd_else {H : Hp} {a b : Addr} {o u : HO} (h : H b = some u) (n : b ≠ a) : upd H a o b = some u := by
  rw [upd_ne n]
  exact h
theorem sl (n : Nat) (h : n ≤ 1000 := by decide) : n ≤ sizeLine := Nat.le_of_lt (small1000 h)
/-- a list's item by a written place -/
theorem at_n {xs : List V} {v : V} (j : Nat) (h : xs[j]? = some v) : atI xs (j : Int) = some v := atI_nat h
theorem yes {σ : L2.St} {H : Hp} {A B : Hp → Prop} (h : A H) : tYes σ H fun b H' => if b = true then A H' else B H' := by
  show if true = true then A H else B H
  rw [if_pos rfl]
  exact h

/-! ### the law's draws: d holds the script's numbers (a list at c), a place and three numbers -/
def Dr (d c : Addr) (H : Hp) : Prop := ∃ (cells : List Int) (i : Nat) (big seed cnt : Int), H d = some (.lst [.ref c, .int i, .int big, .int seed, .int cnt]) ∧ H c = some (.lst (cells.map V.int)) ∧ c ≠ d
theorem Dr.same {d c : Addr} {H H' : Hp} (h : Dr d c H) (s : Same H H') : Dr d c H' := by
  obtain ⟨cells, i, big, seed, cnt, h1, h2, h3⟩ := h
  exact ⟨cells, i, big, seed, cnt, s _ _ h1, s _ _ h2, h3⟩
theorem Dr.new {d c p : Addr} {H : Hp} {o : HO} (h : Dr d c H) (n : H p = none) : Dr d c (upd H p o) := h.same (same_new n)
theorem Dr.there {d c : Addr} {H : Hp} (h : Dr d c H) : ∃ xs, H d = some (.lst xs) := by
  obtain ⟨cells, i, big, seed, cnt, h1, h2, h3⟩ := h
  exact ⟨_, h1⟩
theorem Dr.dne {d c p : Addr} {H : Hp} (h : Dr d c H) (n : H p = none) : p ≠ d := by
  obtain ⟨_, h1⟩ := h.there
  exact (ne_of_none h1 n).symm
theorem Dr.cne {d c p : Addr} {H : Hp} (h : Dr d c H) (n : H p = none) : p ≠ c := by
  obtain ⟨cells, i, big, seed, cnt, h1, h2, h3⟩ := h
  exact (ne_of_none h2 n).symm
/-- another object than d and c is written -/
theorem Dr.else {d c p : Addr} {H : Hp} {o : HO} (h : Dr d c H) (n1 : p ≠ d) (n2 : p ≠ c) : Dr d c (upd H p o) := by
  obtain ⟨cells, i, big, seed, cnt, h1, h2, h3⟩ := h
  exact ⟨cells, i, big, seed, cnt, upd_else h1 n1.symm, upd_else h2 n2.symm, h3⟩
def rBegin (K : PySem.W.Frag) : V → Hp → VK → Prop := fun x H Q => ∃ (a : Addr) (ns : List Int), x = .ref a ∧ SqL K H a (ns.map V.int) ∧ ns.length ≤ 63 ∧
  ∀ (d c : Addr) (H' : Hp), Dr d c H' → Same H H' → Q (.ref d) H'
def rMixed : V → V → Hp → VK → Prop := fun x y H Q => ∃ (d c : Addr) (z : Int), x = .ref d ∧ y = .int z ∧ Dr d c H ∧ ∀ (r : Int) (H' : Hp), Dr d c H' → Keep d H H' → Q (.int r) H'
def rDraw : V → V → Hp → VK → Prop := fun x y H Q => ∃ (d c : Addr) (m : Int), x = .ref d ∧ y = .int m ∧ Dr d c H ∧ 0 < m ∧ m < 1000000000 ∧ ∀ (r : Int) (H' : Hp), 0 ≤ r → r < m → Dr d c H' → Keep d H H' → Q (.int r) H'
def rRare : V → V → Hp → VK → Prop := fun x y H Q => ∃ (d c : Addr) (m : Int), x = .ref d ∧ y = .int m ∧ Dr d c H ∧ 4 < m ∧ m < 1000000000 ∧ ∀ (r : Bool) (H' : Hp), Dr d c H' → Keep d H H' → Q (.bl r) H'
section
variable {P : Program} {w : World} {K : PySem.W.Frag} {mg : Str → Option Value} {base : Heap}
theorem ok_begin (T : Tx K mg w base) : FnOk P w K mg base CX0 1 T.f_begin T.fd_begin ["_law_script"] (sp1 (rBegin K)) := by
  refine okR1 T.F_begin sc_begin rfl fun cdv A outer s H Q E x hr h => ?_
  obtain ⟨a, ns, rfl, hS, h63, q⟩ := h
  refine ⟨_, pss_one (ps_ret (pe_lst (pa_cons (pe_lc (own := [("_law_cell", 1)]) (g := gName 1) (tt := tYes) rfl sc_begin.nd (pi_list (pv 0)) (blkOk_by (N := ["_law_script", "_law_cell"]) (sc := defScope s_begin) (by decide +kernel)) (fun _ _ _ _ _ => pg_name (i := 1) sc_begin.nd rfl (Or.inl rfl)) (fun _ _ _ _ _ => pts_nil) (fun _ _ _ _ _ => (pe_callTy call_int1 (by rfl) T.z_int (by decide +kernel) (pa_cons (pv 1) pa_nil)))) (pa_cons pe_int (pa_cons pe_int (pa_cons pe_int (pa_cons pe_int pa_nil))))))), ?_⟩
  refine ⟨_, rfl, a, rfl, ⟨_, hS⟩, fun D hD => lc_list (K := K) (a := a) (xs := ns.map V.int) (fun i H' => H' = upd H D (.lst ((ns.take i).map V.int))) rfl ?_ ?_ ?_⟩
  · rintro i H' _ rfl
    exact (same_new hD).seq hS
  · rintro i x H' hi rfl
    rw [List.getElem?_map] at hi
    obtain ⟨z, hz, rfl⟩ := Option.map_eq_some_iff.mp hi
    refine ⟨rfl, yes ?_⟩
    refine ⟨_, rfl, .inl ⟨_, rfl, ?_⟩⟩
    refine ⟨_, upd_same, ?_, ?_⟩
    · rw [List.length_map, List.length_take]
      exact small1000 (by omega)
    · rw [upd_upd, List.take_add_one, hz, List.map_append] <;> rfl
  · rintro H' rfl
    rw [show (List.map V.int ns).length = ns.length from List.length_map _, List.take_length]
    refine ⟨sl 5, fun p hp => ?_⟩
    have hDp : D ≠ p := ne_of_none upd_same hp
    exact q p D _ ⟨ns, 0, 0, 1234577, 0, upd_same, upd_else upd_same hDp, hDp⟩ ((same_new hD).trans (same_new hp))
theorem ok_mixed (T : Tx K mg w base) : FnOk P w K mg base CX0 1 T.f_mixed T.fd_mixed ["_law_d", "_law_cell"] (sp2 rMixed) := by
  refine okR2 T.F_mixed sc_mixed rfl fun cdv A outer s H Q E x y hr h => ?_
  obtain ⟨d, c, z, rfl, rfl, ⟨cells, i, big, seed, cnt, h1, h2, hn⟩, q⟩ := h
  refine ⟨_, pss_cons (ps_asg (pe_op op_add (pe_ix ix_list (pv 0) pe_int (fun _ _ => rfl)) pe_int) (pg_sub (pv 0) pe_int set_list))
      (pss_cons (ps_asg (pe_op op_mod (pe_callTy call_int1 (by rfl) T.z_int (by decide +kernel) (pa_cons (pe_op op_add (pe_op op_add (pe_op op_mul (pe_ix ix_list (pv 0) pe_int (fun _ _ => rfl)) pe_int) (pe_op op_mul (pe_op op_add (pv 1) (pe_ix ix_list (pv 0) pe_int (fun _ _ => rfl))) pe_int)) pe_int) pa_nil)) pe_int) (pg_sub (pv 0) pe_int set_list))
      (pss_cons (ps_asg (pe_op op_mod (pe_callTy call_int1 (by rfl) T.z_int (by decide +kernel) (pa_cons (pe_op op_add (pe_op op_add (pe_op op_mul (pe_ix ix_list (pv 0) pe_int (fun _ _ => rfl)) pe_int) (pe_op op_mul (pe_ix ix_list (pv 0) pe_int (fun _ _ => rfl)) pe_int)) pe_int) pa_nil)) pe_int) (pg_sub (pv 0) pe_int set_list))
      (pss_one (ps_ret (pe_op op_fdiv (pe_ix ix_list (pv 0) pe_int (fun _ _ => rfl)) pe_int))))), ?_⟩
  refine ⟨_, rfl, d, _, _, _, rfl, rfl, SqL.of h1, at_n 4 rfl, _, _, rfl, rfl, _, rfl, d, _, _, 4, rfl, rfl, h1, rfl, ?_⟩
  refine ⟨_, rfl, d, _, _, _, rfl, rfl, SqL.of upd_same, at_n 3 rfl, _, _, rfl, rfl, .inr (by decide), _, rfl, _, rfl, d, _, _, _, rfl, rfl, SqL.of upd_same, at_n 4 rfl, _, _, rfl, rfl, _, _, rfl, rfl, .inr (by decide), _, _, rfl, rfl, _, _, rfl, rfl, .inl ⟨_, rfl, ?_⟩⟩
  refine ⟨_, _, rfl, rfl, (by show (0 : Int) < 2147483647; decide), _, rfl, d, _, _, 3, rfl, rfl, upd_same, rfl, ?_⟩
  rw [upd_upd]
  refine ⟨_, rfl, d, _, _, _, rfl, rfl, SqL.of upd_same, at_n 3 rfl, _, _, rfl, rfl, .inr (by decide), _, rfl, d, _, _, _, rfl, rfl, SqL.of upd_same, at_n 4 rfl, _, _, rfl, rfl, .inr (by decide), _, _, rfl, rfl, _, _, rfl, rfl, .inl ⟨_, rfl, ?_⟩⟩
  refine ⟨_, _, rfl, rfl, (by show (0 : Int) < 2147483629; decide), _, rfl, d, _, _, 3, rfl, rfl, upd_same, rfl, ?_⟩
  rw [upd_upd]
  refine ⟨_, rfl, d, _, _, _, rfl, rfl, SqL.of upd_same, at_n 3 rfl, _, _, rfl, rfl, ⟨by decide, by decide⟩, ?_⟩
  exact q _ _ ⟨cells, i, big, _, _, upd_same, upd_else h2 hn, hn⟩ Keep.at
theorem ok_draw_digit (T : Tx K mg w base) : FnOk P w K mg base CX0 1 T.f_draw_digit T.fd_draw_digit ["_law_d", "_law_many"] (sp2 rDraw) := by
  refine okR2 T.F_draw_digit sc_draw_digit rfl fun cdv A outer s H Q E x y hr h => ?_
  obtain ⟨d, c, m, rfl, rfl, ⟨cells, i, big, seed, cnt, h1, h2, hn⟩, m0, m1, q⟩ := h
  refine ⟨_, pss_cons (ps_set (i := 2) sc_draw_digit.nd rfl (Or.inl rfl) (pe_callB call_divmod (by rfl) T.z_divmod (by decide +kernel) (pa_cons (pe_ix ix_list (pv 0) pe_int (fun _ _ => rfl)) (pa_cons (pv 1) pa_nil))))
      (pss_cons (ps_asg (pe_ix ix_tup (pv 2) pe_int (fun _ _ => rfl)) (pg_sub (pv 0) pe_int set_list))
      (pss_one (ps_ret (pe_ix ix_tup (pv 2) pe_int (fun _ _ => rfl))))), ?_⟩
  refine ⟨_, rfl, d, _, _, _, rfl, rfl, SqL.of h1, at_n 2 rfl, _, rfl, _, _, rfl, ⟨m0, by omega⟩, fun p hp => ?_⟩
  have hdp : d ≠ p := ne_of_none h1 hp
  have hcp : c ≠ p := ne_of_none h2 hp
  refine ⟨_, rfl, p, _, _, _, rfl, rfl, SqT.of upd_same, at_n 0 rfl, _, rfl, d, _, _, 2, rfl, rfl, upd_else h1 hdp, rfl, ?_⟩
  refine ⟨_, rfl, p, _, _, _, rfl, rfl, SqT.of (upd_else upd_same hdp.symm), at_n 1 rfl, ?_⟩
  refine q _ _ (Int.emod_nonneg _ (by omega)) (Int.emod_lt_of_pos _ m0) ⟨cells, i, _, seed, cnt, upd_same, upd_else (upd_else h2 hcp) hn, hn⟩ ((Keep.new hp).trans Keep.at)
theorem ok_draw (T : Tx K mg w base) : FnOk P w K mg base CX0 2 T.f_draw T.fd_draw ["_law_d", "_law_many"] (sp2 rDraw) := by
  refine okR2 T.F_draw sc_draw rfl fun cdv A outer s H Q E x y hr h => ?_
  obtain ⟨d, c, m, rfl, rfl, ⟨cells, i, big, seed, cnt, h1, h2, hn⟩, m0, m1, q⟩ := h
  have dr : Dr d c H := ⟨cells, i, big, seed, cnt, h1, h2, hn⟩
  refine ⟨_, pss_cons (ps_if (pt_cmpR op_gt (pe_ix ix_list (pv 0) pe_int (fun _ _ => rfl)) pe_int (nomark _)) (pss_one (ps_ret (pe_call (ok_draw_digit T) (hr.mono (by decide)) rfl T.m_draw_digit T.F_draw_digit.kp T.b_draw_digit .nil pass0 (pa_cons (pv 0) (pa_cons (pv 1) pa_nil))))) pss_nil)
      (pss_cons (ps_if (pt_cmpR op_lt (pe_ix ix_list (pv 0) pe_int (fun _ _ => rfl)) (pe_callB call_len_seq (by rfl) T.z_len (by decide +kernel) (pa_cons (pe_ix ix_list (pv 0) pe_int (fun _ _ => rfl)) pa_nil)) (nomark _)) (pss_cons (ps_set (i := 2) sc_draw.nd rfl (Or.inl rfl) (pe_ix ix_list (pe_ix ix_list (pv 0) pe_int (fun _ _ => rfl)) (pe_ix ix_list (pv 0) pe_int (fun _ _ => rfl)) (fun _ _ => rfl)))
      (pss_cons (ps_asg (pe_op op_add (pe_ix ix_list (pv 0) pe_int (fun _ _ => rfl)) pe_int) (pg_sub (pv 0) pe_int set_list))
      (pss_cons (ps_if (pt_cmpR op_ge (pe_callB call_abs (by rfl) T.z_abs (by decide +kernel) (pa_cons (pv 2) pa_nil)) (pe_op op_pow pe_int pe_int) (nomark _)) (pss_cons (ps_asg (pe_op op_and (pe_op op_fdiv (pe_callB call_abs (by rfl) T.z_abs (by decide +kernel) (pa_cons (pv 2) pa_nil)) pe_int) (pe_op op_sub (pe_op op_shl pe_int pe_int) pe_int)) (pg_sub (pv 0) pe_int set_list))
      (pss_one (ps_ret (pe_call (ok_draw_digit T) (hr.mono (by decide)) rfl T.m_draw_digit T.F_draw_digit.kp T.b_draw_digit .nil pass0 (pa_cons (pv 0) (pa_cons (pv 1) pa_nil)))))) pss_nil)
      (pss_one (ps_ret (pe_op op_mod (pe_callTy call_int1 (by rfl) T.z_int (by decide +kernel) (pa_cons (pe_call (ok_mixed T) (hr.mono (by decide)) rfl T.m_mixed T.F_mixed.kp T.b_mixed .nil pass0 (pa_cons (pv 0) (pa_cons (pv 2) pa_nil))) pa_nil)) (pv 1))))))) pss_nil)
      (pss_one (ps_ret (pe_op op_mod (pe_callTy call_int1 (by rfl) T.z_int (by decide +kernel) (pa_cons (pe_call (ok_mixed T) (hr.mono (by decide)) rfl T.m_mixed T.F_mixed.kp T.b_mixed .nil pass0 (pa_cons (pv 0) (pa_cons pe_int pa_nil))) pa_nil)) (pv 1))))), ?_⟩
  -- if d[2] > 0
  refine ⟨_, rfl, d, _, _, _, rfl, rfl, SqL.of h1, at_n 2 rfl, _, _, rfl, rfl, _, rfl, ite2 (fun _ => ?_) (fun _ => ?_)⟩
  · exact ⟨_, rfl, _, rfl, _, _, rfl, d, c, m, rfl, rfl, dr, m0, m1, q⟩
  -- if d[1] < len(d[0])
  refine ⟨_, rfl, d, _, _, _, rfl, rfl, SqL.of h1, at_n 1 rfl, _, rfl, d, _, _, _, rfl, rfl, SqL.of h1, at_n 0 rfl, c, _, rfl, .inl (SqL.of h2), _, _, rfl, rfl, _, rfl, ite2 (fun hc => ?_) (fun _ => ?_)⟩
  · have hi : i < cells.length := by
      have e : (i : Int) < ((cells.map V.int).length : Int) := of_decide_eq_true hc
      rw [List.length_map] at e
      omega
    obtain ⟨z, hz⟩ : ∃ z, cells[i]? = some z := ⟨cells[i], List.getElem?_eq_getElem hi⟩
    have hz' : (cells.map V.int)[i]? = some (.int z) := by
      rw [List.getElem?_map, hz]
      rfl
    -- cell = d[0][d[1]]; d[1] = d[1] + 1
    refine ⟨_, rfl, d, _, _, _, rfl, rfl, SqL.of h1, at_n 0 rfl, _, rfl, d, _, _, _, rfl, rfl, SqL.of h1, at_n 1 rfl, c, _, _, _, rfl, rfl, SqL.of h2, at_n i hz', ?_⟩
    refine ⟨_, rfl, d, _, _, _, rfl, rfl, SqL.of h1, at_n 1 rfl, _, _, rfl, rfl, _, rfl, d, _, _, 1, rfl, rfl, h1, rfl, ?_⟩
    have dr1 : Dr d c (upd H d (.lst [.ref c, .int (i + 1), .int big, .int seed, .int cnt])) := ⟨cells, i + 1, big, seed, cnt, upd_same, upd_else h2 hn, hn⟩
    -- if abs(cell) >= 10 ** 18
    refine ⟨_, rfl, _, rfl, _, _, rfl, rfl, ⟨by decide, by decide, by decide⟩, _, _, rfl, rfl, _, rfl, ite2 (fun _ => ?_) (fun _ => ?_)⟩
    · refine ⟨_, rfl, _, rfl, _, _, rfl, rfl, ⟨by decide, by decide⟩, _, _, rfl, rfl, ⟨by decide, by decide, by decide⟩, _, _, rfl, rfl, _, _, rfl, rfl, _, rfl, d, _, _, 2, rfl, rfl, upd_same, rfl, ?_⟩
      rw [upd_upd]
      refine ⟨_, rfl, _, rfl, _, _, rfl, d, c, m, rfl, rfl, ⟨cells, i + 1, _, seed, cnt, upd_same, upd_else h2 hn, hn⟩, m0, m1, fun r H' r0 r1 dr' kp => ?_⟩
      exact q r H' r0 r1 dr' (Keep.at.trans kp)
    · refine ⟨_, rfl, _, rfl, _, _, rfl, d, c, z, rfl, rfl, dr1, fun r H' dr' kp => .inl ⟨_, rfl, ?_⟩⟩
      exact ⟨_, rfl, _, _, rfl, rfl, m0, q _ _ (Int.emod_nonneg _ (by omega)) (Int.emod_lt_of_pos _ m0) dr' (Keep.at.trans kp)⟩
  · refine ⟨_, rfl, _, _, rfl, d, c, 7, rfl, rfl, dr, fun r H' dr' kp => .inl ⟨_, rfl, ?_⟩⟩
    exact ⟨_, rfl, _, _, rfl, rfl, m0, q _ _ (Int.emod_nonneg _ (by omega)) (Int.emod_lt_of_pos _ m0) dr' kp⟩
end

/-! ### data of tuples, in a heap -/
mutual
def Td (H : Hp) : PyData → V → Prop
  | .none, v => v = .non
  | .bool b, v => v = .bl b
  | .int i, v => v = .int i
  | .str x, v => v = .str x
  | .tuple ds, v => ∃ a xs, v = .ref a ∧ H a = some (.tup xs) ∧ TdAll H ds xs
  | .list _, _ => False
  | .dict _, _ => False
def TdAll (H : Hp) : List PyData → List V → Prop
  | [], xs => xs = []
  | d :: ds, xs => ∃ v r, xs = v :: r ∧ Td H d v ∧ TdAll H ds r
end
/-- tuples stay -/
def TS (H H' : Hp) : Prop := ∀ b xs, H b = some (.tup xs) → H' b = some (.tup xs)
theorem TS.refl (H : Hp) : TS H H := fun _ _ e => e
theorem TS.of {H H' : Hp} (s : Same H H') : TS H H' := fun b xs e => s b _ e
theorem TS.keep {d : Addr} {H H' : Hp} (k : Keep d H H') (h : ∃ xs, H d = some (.lst xs)) : TS H H' := fun b xs e => by
  obtain ⟨ys, h⟩ := h
  refine k b _ e ?_
  rintro rfl
  rw [h] at e
  cases e
theorem TS.trans {H H1 H2 : Hp} (a : TS H H1) (b : TS H1 H2) : TS H H2 := fun c o h => b c o (a c o h)
theorem TS.wr {H : Hp} {l : Addr} {xs : List V} {o : HO} (h : H l = some (.lst xs)) : TS H (upd H l o) := fun b ys e => by
  refine upd_else e ?_
  rintro rfl
  rw [h] at e
  cases e
theorem TS.dict {H : Hp} {l : Addr} {xs : List (Key × V)} {o : HO} (h : H l = some (.dK xs)) : TS H (upd H l o) := fun b ys e => by
  refine upd_else e ?_
  rintro rfl
  rw [h] at e
  cases e
theorem TS.new {H : Hp} {p : Addr} {o : HO} (h : H p = none) : TS H (upd H p o) := TS.of (same_new h)
theorem TS.dr {d c : Addr} {H H' : Hp} (dr : Dr d c H) (k : Keep d H H') : TS H H' := TS.keep k dr.there
mutual
theorem Td.mono {H H' : Hp} (s : TS H H') : ∀ (d : PyData) (v : V), Td H d v → Td H' d v
  | .none, _, h => h
  | .bool _, _, h => h
  | .int _, _, h => h
  | .str _, _, h => h
  | .tuple ds, _, ⟨a, xs, e, h1, h2⟩ => ⟨a, xs, e, s _ _ h1, TdAll.mono s ds xs h2⟩
  | .list _, _, h => h
  | .dict _, _, h => h
theorem TdAll.mono {H H' : Hp} (s : TS H H') : ∀ (ds : List PyData) (xs : List V), TdAll H ds xs → TdAll H' ds xs
  | [], _, h => h
  | d :: ds, _, ⟨v, r, e, h1, h2⟩ => ⟨v, r, e, Td.mono s d v h1, TdAll.mono s ds r h2⟩
end
mutual
theorem Td.dp {K : PySem.W.Frag} {H : Hp} : ∀ (d : PyData) (v : V), Td H d v → Dp K H v d
  | .none, _, h => by cases h; exact .non
  | .bool b, _, h => by cases h; exact .bl b
  | .int i, _, h => by cases h; exact .int i
  | .str x, _, h => by cases h; exact .str x
  | .tuple ds, _, ⟨a, xs, e, h1, h2⟩ => by subst e; exact .tup (SqT.of h1) (TdAll.dp ds xs h2)
  | .list _, _, h => h.elim
  | .dict _, _, h => h.elim
theorem TdAll.dp {K : PySem.W.Frag} {H : Hp} : ∀ (ds : List PyData) (xs : List V), TdAll H ds xs → DpAll K H xs ds
  | [], _, h => by cases h; exact .nil
  | d :: ds, _, ⟨v, r, e, h1, h2⟩ => by subst e; exact .cons (Td.dp d v h1) (TdAll.dp ds r h2)
end
theorem TdAll.len {H : Hp} : ∀ (ds : List PyData) (xs : List V), TdAll H ds xs → xs.length = ds.length
  | [], _, h => by cases h; rfl
  | _ :: ds, _, ⟨v, r, e, _, h2⟩ => by subst e; exact congrArg Nat.succ (TdAll.len ds r h2)
theorem TdAll.app {H : Hp} : ∀ (ds es : List PyData) (xs ys : List V), TdAll H ds xs → TdAll H es ys → TdAll H (ds ++ es) (xs ++ ys)
  | [], _, _, _, h, k => by cases h; exact k
  | _ :: ds, es, _, ys, ⟨v, r, e, h1, h2⟩, k => by subst e; exact ⟨v, r ++ ys, rfl, h1, TdAll.app ds es r ys h2 k⟩
theorem TdAll.tk {H : Hp} : ∀ (n : Nat) (ds : List PyData) (xs : List V), TdAll H ds xs → TdAll H (ds.take n) (xs.take n)
  | 0, _, _, _ => by simp only [List.take_zero]; exact rfl
  | _ + 1, [], _, h => by cases h; exact rfl
  | n + 1, _ :: ds, _, ⟨v, r, e, h1, h2⟩ => by subst e; exact ⟨v, r.take n, rfl, h1, TdAll.tk n ds r h2⟩
theorem TdAll.dr {H : Hp} : ∀ (n : Nat) (ds : List PyData) (xs : List V), TdAll H ds xs → TdAll H (ds.drop n) (xs.drop n)
  | 0, _, _, h => h
  | _ + 1, [], _, h => by cases h; exact rfl
  | n + 1, _ :: ds, _, ⟨v, r, e, h1, h2⟩ => by subst e; exact TdAll.dr n ds r h2
theorem TdAll.at {H : Hp} : ∀ (i : Nat) (ds : List PyData) (xs : List V) (d : PyData), TdAll H ds xs → ds[i]? = some d → ∃ v, xs[i]? = some v ∧ Td H d v
  | _, [], _, _, _, e => by simp at e
  | 0, _ :: ds, _, d, ⟨v, r, e, h1, h2⟩, k => by
    subst e
    simp at k
    subst k
    exact ⟨v, rfl, h1⟩
  | i + 1, _ :: ds, _, d, ⟨v, r, e, h1, h2⟩, k => by
    subst e
    obtain ⟨u, e1, e2⟩ := TdAll.at i ds r d h2 (by simpa using k)
    exact ⟨u, by simpa using e1, e2⟩
mutual
def plainD : PyData → Bool
  | .none => true
  | .bool _ => false
  | .int _ => true
  | .str x => PyData.strOk x
  | .tuple ds => plainAll ds
  | .list _ => false
  | .dict _ => false
def plainAll : List PyData → Bool
  | [] => true
  | d :: ds => plainD d && plainAll ds
end
mutual
theorem plain_lay : ∀ d : PyData, plainD d = true → PyData.canLay0 d = true
  | .none, _ => rfl
  | .bool _, h => by cases h
  | .int _, _ => rfl
  | .str _, h => h
  | .tuple ds, h => plain_layAll ds h
  | .list _, h => by cases h
  | .dict _, h => by cases h
theorem plain_layAll : ∀ ds : List PyData, plainAll ds = true → PyData.canLayAll0 ds = true
  | [], _ => rfl
  | d :: ds, h => by
    have h' := Bool.and_eq_true_iff.mp h
    show (PyData.canLay0 d && PyData.canLayAll0 ds) = true
    rw [plain_lay d h'.1, plain_layAll ds h'.2]
    rfl
end
mutual
theorem eqv_eq : ∀ d e : PyData, plainD d = true → plainD e = true → PyData.eqv d e = true → d = e
  | .none, e, _, he, h => by cases e <;> first | rfl | cases h
  | .bool _, _, hd, _, _ => by cases hd
  | .int i, e, _, he, h => by
    cases e <;> first | cases h | cases he | skip
    have := beq_iff_eq.mp (show (i == _) = true from h)
    rw [this]
  | .str x, e, _, _, h => by
    cases e <;> first | cases h | skip
    have := beq_iff_eq.mp (show (x == _) = true from h)
    rw [this]
  | .tuple ds, e, hd, he, h => by
    cases e <;> first | cases h | skip
    exact congrArg PyData.tuple (eqvAll_eq ds _ hd he h)
  | .list _, _, hd, _, _ => by cases hd
  | .dict _, _, hd, _, _ => by cases hd
theorem eqvAll_eq : ∀ ds es : List PyData, plainAll ds = true → plainAll es = true → PyData.eqvAll ds es = true → ds = es
  | [], [], _, _, _ => rfl
  | [], _ :: _, _, _, h => by cases h
  | _ :: _, [], _, _, h => by cases h
  | d :: ds, e :: es, hd, he, h => by
    have h1 := Bool.and_eq_true_iff.mp hd
    have h2 := Bool.and_eq_true_iff.mp he
    have h3 := Bool.and_eq_true_iff.mp (show (PyData.eqv d e && PyData.eqvAll ds es) = true from h)
    rw [eqv_eq d e h1.1 h2.1 h3.1, eqvAll_eq ds es h1.2 h2.2 h3.2]
end
theorem eqv_iff {d e : PyData} (hd : plainD d = true) (he : plainD e = true) : PyData.eqv d e = true ↔ d = e :=
  ⟨eqv_eq d e hd he, fun h => by rw [h]; exact SeqAt.eqv_refl e (plain_lay e he)⟩
theorem eqvAll_iff {d e : List PyData} (hd : plainAll d = true) (he : plainAll e = true) : PyData.eqvAll d e = true ↔ d = e :=
  ⟨eqvAll_eq d e hd he, fun h => by
    have h2 := SeqAt.eqv_refl (.tuple e) (plain_layAll e he)
    rw [h]
    exact h2⟩

/-! ### slices and sums of tuples, as data -/
def cutD (ds : List PyData) (lo hi : Option Int) : List PyData := (ds.drop (HT.sIx ds.length 0 lo)).take (HT.sIx ds.length ds.length hi - HT.sIx ds.length 0 lo)
theorem slD {K : PySem.W.Frag} {H : Hp} {v : V} {ds : List PyData} {lo hi : Option Int} {Q : VK} (h : Td H (.tuple ds) v)
    (q : ∀ (p : V) (H' : Hp), Same H H' → Td H' (.tuple (cutD ds lo hi)) p → Q p H') : rSlA K v lo hi H Q := by
  obtain ⟨a, xs, rfl, ha, hx⟩ := h
  have hl := TdAll.len _ _ hx
  refine ⟨a, xs, rfl, SqT.of ha, fun w => ?_, fun _ p hp => ?_⟩
  · rw [hl] at w
    refine q (.ref a) H (Same.refl _) ⟨a, xs, rfl, ha, ?_⟩
    have e : cutD ds lo hi = ds := by
      unfold cutD
      rw [w.1, w.2, List.drop_zero, Nat.sub_zero, List.take_length]
    rw [e]
    exact hx
  · refine q (.ref p) _ (same_new hp) ⟨p, _, rfl, upd_same, ?_⟩
    have e : cutV xs lo hi = (xs.drop (HT.sIx ds.length 0 lo)).take (HT.sIx ds.length ds.length hi - HT.sIx ds.length 0 lo) := by
      unfold cutV
      rw [hl]
    rw [e]
    exact TdAll.mono (TS.new hp) _ _ (TdAll.tk _ _ _ (TdAll.dr _ _ _ hx))
theorem nil_of_len {α β : Type} {xs : List α} {ds : List β} (h : xs.length = ds.length) (e : xs = []) : ds = [] := by
  subst e
  cases ds with
  | nil => rfl
  | cons _ _ => cases h
theorem catD {K : PySem.W.Frag} {H : Hp} {x y : V} {ds es : List PyData} {Q : VK} (hx : Td H (.tuple ds) x) (hy : Td H (.tuple es) y) (hz : ds.length + es.length ≤ 1000)
    (q : ∀ (p : V) (H' : Hp), Same H H' → Td H' (.tuple (ds ++ es)) p → Q p H') : rCatA K x y H Q := by
  obtain ⟨a, xs, rfl, ha, h1⟩ := hx
  obtain ⟨b, ys, rfl, hb, h2⟩ := hy
  have l1 := TdAll.len _ _ h1
  have l2 := TdAll.len _ _ h2
  refine ⟨a, b, xs, ys, rfl, rfl, SqT.of ha, SqT.of hb, Nat.le_of_lt (small1000 (by omega)), fun e => ?_, fun _ e => ?_, fun _ _ p hp => ?_⟩
  · rw [nil_of_len l1 e] at q
    exact q _ H (Same.refl _) ⟨b, ys, rfl, hb, h2⟩
  · rw [nil_of_len l2 e, List.append_nil] at q
    exact q _ H (Same.refl _) ⟨a, xs, rfl, ha, h1⟩
  · exact q _ _ (same_new hp) ⟨p, _, rfl, upd_same, TdAll.mono (TS.new hp) _ _ (TdAll.app _ _ _ _ h1 h2)⟩
theorem slFD {K : PySem.W.Frag} {σ : L2.St} {H : Hp} {v : V} {ds : List PyData} {lo : Option Int} {Q : VK} (h : Td H (.tuple ds) v)
    (q : ∀ (p : V) (H' : Hp), Same H H' → Td H' (.tuple (cutD ds lo none)) p → Q p H') : tNoPart σ H fun u H' => rSlA K v lo u H' Q := slD h q
theorem cut_tail (d : PyData) (ks : List PyData) : cutD (d :: ks) (some 1) none = ks := by
  unfold cutD
  rw [show (some (1 : Int)) = some (((1 : Nat) : Int)) from rfl, HT.sIx_nat, List.length_cons, Nat.min_eq_left (by omega)]
  show ((ks.take (ks.length + 1 - 1))) = ks
  rw [Nat.add_sub_cancel, List.take_length]
theorem or_both {a : Bool} {A B T : Prop} (hA : A) (hT : A → ¬ a = true → T) : if a = true then (if true = true then A else B) else T := by
  by_cases h : a = true
  · rw [if_pos h, if_pos rfl]
    exact hA
  · rw [if_neg h]
    exact hT hA h

/-! ### texts as lists of codes -/
def tx (l : List Nat) : Str := ⟨l.toArray⟩
theorem tx_cps (l : List Nat) : (tx l).cps.toList = l := rfl
theorem tx_len (l : List Nat) : (tx l).length = l.length := by
  show l.toArray.size = l.length
  exact List.size_toArray
theorem len_cps (z : Str) : z.length = z.cps.toList.length := by
  show z.cps.size = _
  rw [Array.length_toList]
theorem tx_eta (z : Str) : tx z.cps.toList = z := by
  obtain ⟨a⟩ := z
  show (⟨a.toList.toArray⟩ : Str) = ⟨a⟩
  rw [Array.toArray_toList]
theorem tx_app (a b : List Nat) : tx a ++ tx b = tx (a ++ b) := by
  show (⟨a.toArray ++ b.toArray⟩ : Str) = ⟨(a ++ b).toArray⟩
  rw [List.append_toArray]
theorem tx_inj {a b : List Nat} (h : tx a = tx b) : a = b := by
  have e : (tx a).cps.toList = (tx b).cps.toList := by rw [h]
  exact e
theorem tx_one (c : Nat) : (⟨#[c]⟩ : Str) = tx [c] := rfl
theorem app_len (a b : Str) : (a ++ b).length = a.length + b.length := by
  show (a.cps ++ b.cps).size = _
  rw [Array.size_append]
  rfl
theorem app_cps (a b : Str) : (a ++ b).cps.toList = a.cps.toList ++ b.cps.toList := by
  show (a.cps ++ b.cps).toList = _
  rw [Array.toList_append]
theorem str_ext {a b : Str} (h : a.cps.toList = b.cps.toList) : a = b := by
  rw [← tx_eta a, ← tx_eta b, h]
theorem sgn (z : Str) (i : Nat) {c : Nat} (h : z.cps.toList[i]? = some c) : atI z.cps.toList (i : Int) = some c := atI_nat h
theorem cut_tx (z : Str) (i j : Nat) (hij : i ≤ j) (hj : i ≤ z.length) : cutS z (some (i : Int)) (some (j : Int)) = tx ((z.cps.toList.drop i).take (j - i)) := by
  unfold cutS
  rw [HT.sIx_nat, HT.sIx_nat, Nat.min_eq_left hj]
  refine congrArg (fun q => (⟨q⟩ : Str)) ?_
  refine congrArg List.toArray ?_
  by_cases h : j ≤ z.length
  · rw [Nat.min_eq_left h]
  · rw [Nat.min_eq_right (by omega), List.take_of_length_le (by rw [List.length_drop, len_cps]; exact Nat.le_refl _), List.take_of_length_le (by rw [List.length_drop, ← len_cps]; omega)]
theorem inV_str (x : Str) (xs : List Str) : inV (.str x) (xs.map V.str) = decide (x ∈ xs) := by
  induction xs with
  | nil => rfl
  | cons y r ih =>
    have e : inV (.str x) ((y :: r).map V.str) = ((y == x) || inV (.str x) (r.map V.str)) := rfl
    rw [e, ih]
    by_cases h : y = x
    · rw [h]
      simp
    · have h2 : ¬ x = y := fun q => h q.symm
      simp [h, h2]
/-- every code is one that a text may have -/
def okB (z : Str) : Bool := z.cps.toList.all fun c => decide (c < 1114112)
theorem okB_app {a b : Str} (h1 : okB a = true) (h2 : okB b = true) : okB (a ++ b) = true := by
  unfold okB at *
  rw [app_cps, List.all_append, h1, h2]
  rfl
theorem okB_mem {z : Str} (h : okB z = true) {c : Nat} (hc : c ∈ z.cps.toList) : okB ⟨#[c]⟩ = true := by
  unfold okB at h
  have h2 := List.all_eq_true.mp h c hc
  show ([c].all fun c => decide (c < 1114112)) = true
  rw [List.all_cons, h2]
  rfl

theorem at_in {xs : List V} {r : Int} (h0 : 0 ≤ r) (h1 : r < (xs.length : Int)) : ∃ v, atI xs r = some v ∧ v ∈ xs := by
  obtain ⟨j, rfl⟩ := Int.eq_ofNat_of_zero_le h0
  exact ⟨xs[j], at_n j (List.getElem?_eq_getElem (by omega)), List.getElem_mem _⟩
theorem at_int {ns : List Int} {r : Int} (h0 : 0 ≤ r) (h1 : r < (ns.length : Int)) : ∃ n, atI (ns.map V.int) r = some (.int n) ∧ n ∈ ns := by
  obtain ⟨v, h, hm⟩ := at_in (xs := ns.map V.int) h0 (by rw [List.length_map]; exact h1)
  obtain ⟨n, hn, rfl⟩ := List.mem_map.mp hm
  exact ⟨n, h, hn⟩
theorem bl_eq {a b : Int} : decide (V.int a = V.int b) = decide (a = b) := decide_eq_decide.mpr ⟨V.int.inj, fun h => by rw [h]⟩

section
variable {P : Program} {w : World} {K : PySem.W.Frag} {mg : Str → Option Value} {base : Heap}
theorem ok_rare (T : Tx K mg w base) : FnOk P w K mg base CX0 3 T.f_rare T.fd_rare ["_law_d", "_law_many"] (sp2 rRare) := by
  refine okR2 T.F_rare sc_rare rfl fun cdv A outer s H Q E x y hr h => ?_
  obtain ⟨d, c, m, rfl, rfl, dr, m0, m1, q⟩ := h
  refine ⟨_, pss_cons (ps_set (i := 2) sc_rare.nd rfl (Or.inl rfl) (pe_op op_fdiv (pv 1) pe_int))
      (pss_cons (ps_if (pt_cmpR op_eq (pe_op op_mod (pe_callTy call_int1 (by rfl) T.z_int (by decide +kernel) (pa_cons (pv 2) pa_nil)) pe_int) pe_int (nomark _)) (pss_one (ps_set (i := 2) sc_rare.nd rfl (Or.inl rfl) (pe_op op_sub (pv 2) pe_int))) pss_nil)
      (pss_one (ps_ret (pe_cmpR op_eq (pe_call (ok_draw T) (hr.mono (by decide)) rfl T.m_draw T.F_draw.kp T.b_draw .nil pass0 (pa_cons (pv 0) (pa_cons (pv 1) pa_nil))) (pv 2) (nomark _))))), ?_⟩
  refine ⟨_, rfl, _, _, rfl, rfl, ⟨by decide, by decide⟩, ?_⟩
  refine ⟨_, rfl, .inl ⟨_, rfl, _, _, rfl, rfl, (by show (0 : Int) < 2; decide), rfl, _, rfl, ite2 (fun _ => ?_) (fun _ => ?_)⟩⟩
  · refine ⟨_, rfl, _, _, rfl, rfl, ?_⟩
    refine ⟨_, rfl, _, rfl, _, _, rfl, d, c, m, rfl, rfl, dr, by omega, m1, fun r H' _ _ dr' kp => ⟨_, rfl, rfl, q _ _ dr' kp⟩⟩
  · refine ⟨_, rfl, _, rfl, _, _, rfl, d, c, m, rfl, rfl, dr, by omega, m1, fun r H' _ _ dr' kp => ⟨_, rfl, rfl, q _ _ dr' kp⟩⟩
end

/-- one of the values of a list -/
def rPickL : V → V → Hp → VK → Prop := fun x y H Q => ∃ (d c p : Addr) (items : List V), x = .ref d ∧ Dr d c H ∧ items ≠ [] ∧ items.length ≤ 1000 ∧ y = .ref p ∧ p ≠ d ∧ H p = some (.lst items) ∧ ∀ (v : V) (H' : Hp), v ∈ items → Dr d c H' → Keep d H H' → Q v H'
section
variable {P : Program} {w : World} {K : PySem.W.Frag} {mg : Str → Option Value} {base : Heap}
theorem ok_pick (T : Tx K mg w base) : FnOk P w K mg base CX0 3 T.f_pick T.fd_pick ["_law_d", "_law_row"] (sp2 rPickL) := by
  refine okR2 T.F_pick sc_pick rfl fun cdv A outer s H Q E x y hr h => ?_
  obtain ⟨d, c, p, items, rfl, dr, hne, hlen, rfl, hpd, hp, q⟩ := h
  have hpos : 0 < items.length := by
    cases items with
    | nil => exact absurd rfl hne
    | cons a r => exact Nat.succ_pos _
  refine ⟨_, pss_one (ps_ret (pe_ix ix_list (pv 1) (pe_call (ok_draw T) (hr.mono (by decide)) rfl T.m_draw T.F_draw.kp T.b_draw .nil pass0 (pa_cons (pv 0) (pa_cons (pe_callB call_len_seq (by rfl) T.z_len (by decide +kernel) (pa_cons (pv 1) pa_nil)) pa_nil))) (fun _ _ => rfl))), ?_⟩
  refine ⟨_, rfl, _, rfl, _, rfl, p, items, rfl, .inl (SqL.of hp), _, _, rfl, d, c, _, rfl, rfl, dr, by omega, by omega, fun r H' r0 r1 dr' kp => ?_⟩
  obtain ⟨j, rfl⟩ := Int.eq_ofNat_of_zero_le r0
  have hj : j < items.length := by omega
  exact ⟨p, items, _, items[j], rfl, rfl, SqL.of (kp _ _ hp hpd), at_n j (List.getElem?_eq_getElem hj), q _ _ (List.getElem_mem hj) dr' kp⟩
end

/-! ### the head -/
def d_is_int : He.DefD := ⟨("is_int", none), "is_int", "is_int", defArgs s_is_int, defBody s_is_int, defScope s_is_int, [], []⟩
def d_is_within : He.DefD := ⟨("is_within", none), "is_within", "is_within", defArgs s_is_within, defBody s_is_within, defScope s_is_within, [], []⟩
def d_is_number_of : He.DefD := ⟨("is_number_of", none), "is_number_of", "is_number_of", defArgs s_is_number_of, defBody s_is_number_of, defScope s_is_number_of, [], []⟩
def d_p_renumbered : He.DefD := ⟨("renumbered", none), "renumbered", "renumbered", defArgs s_p_renumbered, defBody s_p_renumbered, defScope s_p_renumbered, [], []⟩
def d_judge_classes : He.DefD := ⟨("judge_classes", none), "judge_classes", "judge_classes", defArgs s_judge_classes, defBody s_judge_classes, defScope s_judge_classes, [], []⟩
def d_begin : He.DefD := ⟨("_law_begin", none), "_law_begin", "_law_begin", defArgs s_begin, defBody s_begin, defScope s_begin, [], []⟩
def d_mixed : He.DefD := ⟨("_law_mixed", none), "_law_mixed", "_law_mixed", defArgs s_mixed, defBody s_mixed, defScope s_mixed, [], []⟩
def d_draw : He.DefD := ⟨("_law_draw", none), "_law_draw", "_law_draw", defArgs s_draw, defBody s_draw, defScope s_draw, [], []⟩
def d_draw_digit : He.DefD := ⟨("_law_draw_digit", none), "_law_draw_digit", "_law_draw_digit", defArgs s_draw_digit, defBody s_draw_digit, defScope s_draw_digit, [], []⟩
def d_pick : He.DefD := ⟨("_law_pick", none), "_law_pick", "_law_pick", defArgs s_pick, defBody s_pick, defScope s_pick, [], []⟩
def d_pop : He.DefD := ⟨("_law_pop", none), "_law_pop", "_law_pop", defArgs s_pop, defBody s_pop, defScope s_pop, [], []⟩
def d_rare : He.DefD := ⟨("_law_rare", none), "_law_rare", "_law_rare", defArgs s_rare, defBody s_rare, defScope s_rare, [], []⟩
def d_shuffled : He.DefD := ⟨("_law_shuffled", none), "_law_shuffled", "_law_shuffled", defArgs s_shuffled, defBody s_shuffled, defScope s_shuffled, [], []⟩
def d_pool : He.DefD := ⟨("_law_pool", none), "_law_pool", "_law_pool", defArgs s_pool, defBody s_pool, defScope s_pool, [], []⟩
def d_kind_values : He.DefD := ⟨("_law_kind_values", none), "_law_kind_values", "_law_kind_values", defArgs s_kind_values, defBody s_kind_values, defScope s_kind_values, [], []⟩
def d_ends : He.DefD := ⟨("_law_ends", none), "_law_ends", "_law_ends", defArgs s_ends, defBody s_ends, defScope s_ends, [], []⟩
def d_value : He.DefD := ⟨("_law_value", none), "_law_value", "_law_value", defArgs s_value, defBody s_value, defScope s_value, [], []⟩
def d_num : He.DefD := ⟨("_law_num", none), "_law_num", "_law_num", defArgs s_num, defBody s_num, defScope s_num, [], []⟩
def d_plain_kind : He.DefD := ⟨("_law_plain_kind", none), "_law_plain_kind", "_law_plain_kind", defArgs s_plain_kind, defBody s_plain_kind, defScope s_plain_kind, [], []⟩
def d_renumbered : He.DefD := ⟨("_law_renumbered", none), "_law_renumbered", "_law_renumbered", defArgs s_renumbered, defBody s_renumbered, defScope s_renumbered, [], []⟩
def d_closed_flow : He.DefD := ⟨("_law_closed_flow", none), "_law_closed_flow", "_law_closed_flow", defArgs s_closed_flow, defBody s_closed_flow, defScope s_closed_flow, [], []⟩
def d_one_of : He.DefD := ⟨("_law_one_of", none), "_law_one_of", "_law_one_of", defArgs s_one_of, defBody s_one_of, defScope s_one_of, [], []⟩
def d_op_words : He.DefD := ⟨("_law_op_words", none), "_law_op_words", "_law_op_words", defArgs s_op_words, defBody s_op_words, defScope s_op_words, [], []⟩
def d_op_node : He.DefD := ⟨("_law_op_node", none), "_law_op_node", "_law_op_node", defArgs s_op_node, defBody s_op_node, defScope s_op_node, [], []⟩
def d_merge_node : He.DefD := ⟨("_law_merge_node", none), "_law_merge_node", "_law_merge_node", defArgs s_merge_node, defBody s_merge_node, defScope s_merge_node, [], []⟩
def d_input_node : He.DefD := ⟨("_law_input_node", none), "_law_input_node", "_law_input_node", defArgs s_input_node, defBody s_input_node, defScope s_input_node, [], []⟩
def d_delay_node : He.DefD := ⟨("_law_delay_node", none), "_law_delay_node", "_law_delay_node", defArgs s_delay_node, defBody s_delay_node, defScope s_delay_node, [], []⟩
def d_more_nodes : He.DefD := ⟨("_law_more_nodes", none), "_law_more_nodes", "_law_more_nodes", defArgs s_more_nodes, defBody s_more_nodes, defScope s_more_nodes, [], []⟩
def d_base : He.DefD := ⟨("_law_base", none), "_law_base", "_law_base", defArgs s_base, defBody s_base, defScope s_base, [], []⟩
def d_mates : He.DefD := ⟨("_law_mates", none), "_law_mates", "_law_mates", defArgs s_mates, defBody s_mates, defScope s_mates, [], []⟩
def d_doubled : He.DefD := ⟨("_law_doubled", none), "_law_doubled", "_law_doubled", defArgs s_doubled, defBody s_doubled, defScope s_doubled, [], []⟩
def d_bent : He.DefD := ⟨("_law_bent", none), "_law_bent", "_law_bent", defArgs s_bent, defBody s_bent, defScope s_bent, [], []⟩
def d_leaders : He.DefD := ⟨("_law_leaders", none), "_law_leaders", "_law_leaders", defArgs s_leaders, defBody s_leaders, defScope s_leaders, [], []⟩
def d_classes_taken : He.DefD := ⟨("_law_classes_taken", none), "_law_classes_taken", "_law_classes_taken", defArgs s_classes_taken, defBody s_classes_taken, defScope s_classes_taken, [], []⟩
def d_joined : He.DefD := ⟨("_law_joined", none), "_law_joined", "_law_joined", defArgs s_joined, defBody s_joined, defScope s_joined, [], []⟩
def d_links : He.DefD := ⟨("_law_links", none), "_law_links", "_law_links", defArgs s_links, defBody s_links, defScope s_links, [], []⟩
def d_resets_joined : He.DefD := ⟨("_law_resets_joined", none), "_law_resets_joined", "_law_resets_joined", defArgs s_resets_joined, defBody s_resets_joined, defScope s_resets_joined, [], []⟩
def d_closure : He.DefD := ⟨("_law_closure", none), "_law_closure", "_law_closure", defArgs s_closure, defBody s_closure, defScope s_closure, [], []⟩
def d_twin_flow : He.DefD := ⟨("_law_twin_flow", none), "_law_twin_flow", "_law_twin_flow", defArgs s_twin_flow, defBody s_twin_flow, defScope s_twin_flow, [], []⟩
def d_some_paper : He.DefD := ⟨("_law_some_paper", none), "_law_some_paper", "_law_some_paper", defArgs s_some_paper, defBody s_some_paper, defScope s_some_paper, [], []⟩
def d_spoilt_paper : He.DefD := ⟨("_law_spoilt_paper", none), "_law_spoilt_paper", "_law_spoilt_paper", defArgs s_spoilt_paper, defBody s_spoilt_paper, defScope s_spoilt_paper, [], []⟩
def d_law : He.DefD := ⟨("law", none), "law", "law", defArgs s_law, defBody s_law, defScope s_law, [], []⟩
def fn : List He.DefD := [d_is_int, d_is_within, d_is_number_of, d_p_renumbered, d_judge_classes, d_begin, d_mixed, d_draw, d_draw_digit, d_pick, d_pop, d_rare, d_shuffled, d_pool, d_kind_values, d_ends, d_value, d_num, d_plain_kind, d_renumbered, d_closed_flow, d_one_of, d_op_words, d_op_node, d_merge_node, d_input_node, d_delay_node, d_more_nodes, d_base, d_mates, d_doubled, d_bent, d_leaders, d_classes_taken, d_joined, d_links, d_resets_joined, d_closure, d_twin_flow, d_some_paper, d_spoilt_paper, d_law]
def ers : List ErD := []
def fa : List He.Fa := [.glo "is_int", .glo "is_within", .glo "is_number_of", .glo "renumbered", .glo "judge_classes", .glo "_law_begin", .glo "_law_mixed", .glo "_law_draw", .glo "_law_draw_digit", .glo "_law_pick", .glo "_law_pop", .glo "_law_rare", .glo "_law_shuffled", .glo "_law_pool", .glo "_law_kind_values", .glo "_law_ends", .glo "_law_value", .glo "_law_num", .glo "_law_plain_kind", .glo "_law_renumbered", .glo "_law_closed_flow", .glo "_law_one_of", .glo "_law_op_words", .glo "_law_op_node", .glo "_law_merge_node", .glo "_law_input_node", .glo "_law_delay_node", .glo "_law_more_nodes", .glo "_law_base", .glo "_law_mates", .glo "_law_doubled", .glo "_law_bent", .glo "_law_leaders", .glo "_law_classes_taken", .glo "_law_joined", .glo "_law_links", .glo "_law_resets_joined", .glo "_law_closure", .glo "_law_twin_flow", .glo "_law_some_paper", .glo "_law_spoilt_paper", .glo "law", .free "abs", .free "bool", .free "divmod", .free "enumerate", .free "int", .free "isinstance", .free "len", .free "list", .free "max", .free "min", .free "range", .free "set", .free "sorted", .free "tuple", .glo "COUNTS"]
def dtab_COUNTS : List (Str × He.Dv) := [(("not" : Str), .int 1), (("and" : Str), .int 2), (("or" : Str), .int 2), (("xor" : Str), .int 2), (("eq" : Str), .int 2), (("ne" : Str), .int 2), (("lt" : Str), .int 2), (("le" : Str), .int 2), (("neg" : Str), .int 1), (("add" : Str), .int 2), (("sub" : Str), .int 2), (("mul" : Str), .int 2), (("div" : Str), .int 2), (("min" : Str), .int 2), (("max" : Str), .int 2), (("mid" : Str), .int 3), (("as" : Str), .int 1), (("pick" : Str), .int 3), (("vote" : Str), .int 3), (("row" : Str), .non), (("at" : Str), .int 2), (("put" : Str), .int 3), (("sum" : Str), .int 1), (("any" : Str), .int 1), (("all" : Str), .int 1)]
def exB (K : PySem.W.Frag) : Bool := (He.valsB K (He.ga K "COUNTS") dtab_COUNTS && not_COUNTS.all (fun z => He.eqO (PySem.W.nsIn K (He.ga K "COUNTS") z) (some none)))
def keys_COUNTS : List Str := (["not", "and", "or", "xor", "eq", "ne", "lt", "le", "neg", "add", "sub", "mul", "div", "min", "max", "mid", "as", "pick", "vote", "row"] : List Str) ++ (["at", "put", "sum", "any", "all"] : List Str)
def tabs : List He.Tab := [(fun K => He.ga K "COUNTS", keys_COUNTS)]
abbrev theRow : PySem.W.OpenRow := PySem.W.OpenLaw.row PySem.Challenge.rw_keepsgoing_k49_classes_judged
def tfs : List He.Defn := []
def hookM : PySem.W.Hook := He.hookX 4 fa fn tabs tfs exB
def obM (s : PySem.W.SharedT) : He.AlX := He.obsX 4 fa fn tabs tfs exB (HandSHeadRun.getT s)
theorem obM_eq (s : PySem.W.SharedT) : obM s = hookM.obs s.abs := He.obsX_eq (HandSHeadRun.getT_eq s)
def others : List PySem.Str := (["is_int", "is_within", "is_number_of", "renumbered", "judge_classes", "_law_begin", "_law_mixed", "_law_draw", "_law_draw_digit", "_law_pick", "_law_pop", "_law_rare", "_law_shuffled", "_law_pool", "_law_kind_values", "_law_ends", "_law_value", "_law_num", "_law_plain_kind", "_law_renumbered"] : List PySem.Str) ++ (["_law_closed_flow", "_law_one_of", "_law_op_words", "_law_op_node", "_law_merge_node", "_law_input_node", "_law_delay_node", "_law_more_nodes", "_law_base", "_law_mates", "_law_doubled", "_law_bent", "_law_leaders", "_law_classes_taken", "_law_joined", "_law_links", "_law_resets_joined", "_law_closure", "_law_twin_flow", "_law_some_paper"] : List PySem.Str) ++ (["_law_spoilt_paper", "COUNTS"] : List PySem.Str)
abbrev RunM (w : World) : Prop := HandSHeadRun.RunEq theRow (PySem.W.view theRow.prog [46]) hookM obM 20000 others w
theorem runF (w : World) : RunM (w.withFollow "special-get-raises" false) := by
  intro os
  kernel_rfl
theorem runT (w : World) : RunM (w.withFollow "special-get-raises" true) := by
  intro os
  kernel_rfl
theorem runM (w : World) : RunM w := PySem.W.byRow2 "special-get-raises" (P := RunM) runF runT w

/-! ### promises of defs with four and five arguments -/
def sp4 (R : V → V → V → V → Hp → VK → Prop) : Sp := fun vs H Q _ => ∃ x y z u, vs = [x, y, z, u] ∧ R x y z u H Q
def sp5 (R : V → V → V → V → V → Hp → VK → Prop) : Sp := fun vs H Q _ => ∃ x y z u v, vs = [x, y, z, u, v] ∧ R x y z u v H Q

section
variable {P : Program} {w : World} {K : PySem.W.Frag} {mg : Str → Option Value} {base : Heap}
theorem okR4 {x : Str} {st : Stmt} {f : Addr} {fd : FuncData} {N ps : List Str} {k : Nat} {R : V → V → V → V → Hp → VK → Prop} (F : FunD K x x (defArgs st) (defBody st) (defScope st) [] [] f fd) (S : FnScope N ps (defScope st)) (hl : ps.length = 4)
    (body : ∀ (cdv : Value) (A : Around) (outer : List Env) (s : Shared) (H : Hp) (Q : VK) (E : XK) (a b c d : V), Room k (A.deeper (envOfC x (defScope st) s.heap.objs.size f cdv)) → R a b c d H Q →
      ∃ t, PSs (cxOf CX0 P w K mg base N x (defScope st) f cdv A outer s H E).nox (defBody st) t ∧ t { nx := fun _ H' => Q .non H', rt := Q } (start N [a, b, c, d]) H) : FnOk P w K mg base CX0 (k + 1) f fd ps (sp4 R) := by
  refine okR F S (fun vs H Q E h => ?_) fun cdv A outer s H vs Q E hr h => ?_
  · obtain ⟨_, _, _, _, rfl, _⟩ := h
    exact hl.symm
  · obtain ⟨a, b, c, d, rfl, h⟩ := h
    exact body cdv A outer s H Q E a b c d hr h
end

/-! ### two lists, side by side -/
def All2 {α β : Type} (R : α → β → Prop) : List α → List β → Prop
  | [], [] => True
  | a :: as, b :: bs => R a b ∧ All2 R as bs
  | _, _ => False
theorem All2.imp {α β : Type} {R S : α → β → Prop} (h : ∀ a b, R a b → S a b) : ∀ {as : List α} {bs : List β}, All2 R as bs → All2 S as bs
  | [], [], _ => trivial
  | [], _ :: _, z => z.elim
  | _ :: _, [], z => z.elim
  | _ :: _, _ :: _, z => ⟨h _ _ z.1, All2.imp h z.2⟩
theorem All2.len {α β : Type} {R : α → β → Prop} : ∀ {as : List α} {bs : List β}, All2 R as bs → as.length = bs.length
  | [], [], _ => rfl
  | [], _ :: _, z => z.elim
  | _ :: _, [], z => z.elim
  | _ :: _, _ :: _, z => congrArg Nat.succ (All2.len z.2)
theorem All2.at {α β : Type} {R : α → β → Prop} : ∀ {as : List α} {bs : List β} {i : Nat} {a : α}, All2 R as bs → as[i]? = some a → ∃ b, bs[i]? = some b ∧ R a b
  | [], _, _, _, _, e => by simp at e
  | _ :: _, [], _, _, z, _ => z.elim
  | a :: _, b :: _, 0, _, z, e => by
    simp at e
    subst e
    exact ⟨b, rfl, z.1⟩
  | _ :: as, _ :: bs, i + 1, _, z, e => by
    obtain ⟨b, h1, h2⟩ := All2.at (i := i) z.2 (by simpa using e)
    exact ⟨b, by simpa using h1, h2⟩
theorem All2.at' {α β : Type} {R : α → β → Prop} : ∀ {as : List α} {bs : List β} {i : Nat} {b : β}, All2 R as bs → bs[i]? = some b → ∃ a, as[i]? = some a ∧ R a b
  | _, [], _, _, _, e => by simp at e
  | [], _ :: _, _, _, z, _ => z.elim
  | a :: _, b :: _, 0, _, z, e => by
    simp at e
    subst e
    exact ⟨a, rfl, z.1⟩
  | _ :: as, _ :: bs, i + 1, _, z, e => by
    obtain ⟨b, h1, h2⟩ := All2.at' (i := i) z.2 (by simpa using e)
    exact ⟨b, by simpa using h1, h2⟩
theorem All2.app {α β : Type} {R : α → β → Prop} : ∀ {as : List α} {bs : List β} {cs : List α} {ds : List β}, All2 R as bs → All2 R cs ds → All2 R (as ++ cs) (bs ++ ds)
  | [], [], _, _, _, h => h
  | [], _ :: _, _, _, z, _ => z.elim
  | _ :: _, [], _, _, z, _ => z.elim
  | _ :: _, _ :: _, _, _, z, h => ⟨z.1, All2.app z.2 h⟩
theorem All2.snoc {α β : Type} {R : α → β → Prop} {a : α} {b : β} {as : List α} {bs : List β} (h : R a b) (z : All2 R as bs) : All2 R (as ++ [a]) (bs ++ [b]) := All2.app z ⟨h, trivial⟩

def rTupOf (K : PySem.W.Frag) : List V → Hp → VK → Prop := fun xs H Q => ∃ p ys, xs = [.ref p] ∧ ((SqL K H p ys ∧ ∀ l, H l = none → Q (.ref l) (upd H l (.tup ys))) ∨ (SqT K H p ys ∧ Q (.ref p) H))
theorem call_tup {X : Cx} : CallR X (.type "tuple") (rTupOf X.K) := call_tuple_of

theorem td0 {H : Hp} {p : Addr} (hp : H p = none) : Td (upd H p (.tup [])) (.tuple []) (.ref p) := ⟨p, _, rfl, upd_same, rfl⟩
theorem td1 {H : Hp} {p : Addr} {a : V} {x : PyData} (hp : H p = none) (h1 : Td H x a) : Td (upd H p (.tup [a])) (.tuple [x]) (.ref p) := ⟨p, _, rfl, upd_same, a, _, rfl, Td.mono (TS.new hp) _ _ h1, rfl⟩
theorem td2 {H : Hp} {p : Addr} {a b : V} {x y : PyData} (hp : H p = none) (h1 : Td H x a) (h2 : Td H y b) : Td (upd H p (.tup [a, b])) (.tuple [x, y]) (.ref p) :=
  ⟨p, _, rfl, upd_same, a, _, rfl, Td.mono (TS.new hp) _ _ h1, b, _, rfl, Td.mono (TS.new hp) _ _ h2, rfl⟩
theorem td3 {H : Hp} {p : Addr} {a b c : V} {x y z : PyData} (hp : H p = none) (h1 : Td H x a) (h2 : Td H y b) (h3 : Td H z c) : Td (upd H p (.tup [a, b, c])) (.tuple [x, y, z]) (.ref p) :=
  ⟨p, _, rfl, upd_same, a, _, rfl, Td.mono (TS.new hp) _ _ h1, b, _, rfl, Td.mono (TS.new hp) _ _ h2, c, _, rfl, Td.mono (TS.new hp) _ _ h3, rfl⟩
theorem td4 {H : Hp} {p : Addr} {a b c d : V} {x y z u : PyData} (hp : H p = none) (h1 : Td H x a) (h2 : Td H y b) (h3 : Td H z c) (h4 : Td H u d) : Td (upd H p (.tup [a, b, c, d])) (.tuple [x, y, z, u]) (.ref p) :=
  ⟨p, _, rfl, upd_same, a, _, rfl, Td.mono (TS.new hp) _ _ h1, b, _, rfl, Td.mono (TS.new hp) _ _ h2, c, _, rfl, Td.mono (TS.new hp) _ _ h3, d, _, rfl, Td.mono (TS.new hp) _ _ h4, rfl⟩
theorem td5 {H : Hp} {p : Addr} {a b c d e : V} {x y z u v : PyData} (hp : H p = none) (h1 : Td H x a) (h2 : Td H y b) (h3 : Td H z c) (h4 : Td H u d) (h5 : Td H v e) : Td (upd H p (.tup [a, b, c, d, e])) (.tuple [x, y, z, u, v]) (.ref p) :=
  ⟨p, _, rfl, upd_same, a, _, rfl, Td.mono (TS.new hp) _ _ h1, b, _, rfl, Td.mono (TS.new hp) _ _ h2, c, _, rfl, Td.mono (TS.new hp) _ _ h3, d, _, rfl, Td.mono (TS.new hp) _ _ h4, e, _, rfl, Td.mono (TS.new hp) _ _ h5, rfl⟩

/-! ### list.extend with a tuple -/
theorem extT_meets (l : Addr) (items : Array Value) (n : Nat) (b : Addr) (ob : Obj) (items2 : Array Value) (n2 : Nat) (hc : ob.cls = .type "tuple") (hd : ob.data = .seq items2 n2) (hs0 : ¬(!items.isEmpty && Builtin.List.listTooLong (items.size + items2.size)) = true) (hs1 : items.size ≤ sizeLine) (hs2 : items.size + items2.size ≤ sizeLine + 1) :
    Meets (Builtin.«list.extend» ⟨[.ref l, .ref b], []⟩) (fun _ R s => s.heap.get? l = some { cls := .type "list", dict := none, data := .seq items n, slots := #[] } ∧ s.heap.get? b = some ob ∧ R (.ok (.ret Value.none)) { s with heap := s.heap.update l (Obj.mapSeq fun x => x ++ items2), toks := s.toks }) :=
  .of_wp fun prog w A R s h => by
    obtain ⟨cls, dict, data, slots⟩ := ob
    simp only at hc hd
    subst hc hd
    obtain ⟨hp, gs, dr, tk, os⟩ := s
    obtain ⟨hl, hb, h⟩ := h
    have k1 := PySem.AutoSeq1.sub_tuple_tuple
    have k2 := PySem.AutoSeq1.sub_list_list
    have k3 := PySem.AutoSeq1.sub_tuple_list
    have k4 := PySem.AutoSeq1.sub_list_tuple
    have k5 : (items ++ items2).size ≤ sizeLine + 1 := by rw [Array.size_append]; exact hs2
    wp_walk using (wpAny_updateSeq hl rfl (hz := hs1) (_hz' := k5)), PySem.AutoSeq1.wpAny_loadPart' hl, PySem.AutoSeq1.wpAny_loadPart' hb
    exact ⟨_, rfl, h⟩
section
variable {X : Cx}
def rExtT (K : PySem.W.Frag) : V → List V → Hp → VK → Prop := fun x vs H Q => ∃ l b xs ys, x = .ref l ∧ vs = [.ref b] ∧ H l = some (.lst xs) ∧ SqT K H b ys ∧ xs.length + ys.length ≤ sizeLine ∧ Q .non (upd H l (.lst (xs ++ ys)))
theorem mt_extT : MtM X "list.extend" (rExtT X.K) := by
  intro pins s σ H x vs v us Q I rx rv h
  obtain ⟨l, b, xs, ys, rfl, rfl, hH, hB, hz, q⟩ := h
  cases rx
  obtain ⟨u, rfl, ru⟩ := rv.one
  cases ru
  obtain ⟨z, its, n, r, hl, e⟩ := I.lstM hH
  obtain ⟨its2, r2, ⟨ob, e2, hc2, n2, hd2⟩, z2⟩ := I.tuple hB
  have hl2 := r2.length
  have hsz : its.toArray.size + its2.toArray.size ≤ sizeLine := by rw [List.size_toArray, List.size_toArray]; omega
  have hlong : ¬ (!its.toArray.isEmpty && Builtin.List.listTooLong (its.toArray.size + its2.toArray.size)) = true := by
    rw [notLongL hsz, Bool.and_false]
    exact Bool.false_ne_true
  refine call_meets PySem.F.slot_list_extend ⟨_, e, rfl⟩ PySem.F.entry_list_extend (PySem.F.args_list_extend_2 _ _)
    (extT_meets l its.toArray n b ob its2.toArray n2 hc2 hd2 hlong (by rw [List.size_toArray]; omega) (by omega)) ⟨e, e2, ?_⟩
  refine ⟨.non, _, I.lset (its' := its ++ its2) hH e (by simp) (r.append r2) ?_, rfl, q⟩
  rw [List.length_append]
  omega
end

/-! ### set(a list of ints) -/
abbrev freshSet (w : World) : Obj := { cls := .type "set", dict := none, data := .set #[] 0 (.fresh 0 0 (!w.params.followText "set-order")) }
section
variable {P : Program} {w : World} {A : Around} {E : Value → Shared → Prop} {s : Shared}
/-- what set.__init__ does with a list of ints, the empty set being at S, the last object of the heap -/
theorem init_ints {S l : Addr} {items : Array Value} (ns : List Int) (hS : s.heap.objs.size = S + 1) (hset : s.heap.get? S = some (freshSet w)) (hlS : l < S) (hh : A.handled = none) (hl : s.heap.IsList l items) (hit : IntsAre items.toList ns) (hb : ns.length + 1 < scanBound) {R : Value → Shared → Prop}
    (h : ∀ (h' : Heap) (tk c : Nat), SetR w h' S (fun j => decide (j ∈ ns)) c → c ≤ ns.length → (∀ b o, b < S → s.heap.get? b = some o → h'.get? b = some o) → R .none { s with heap := h', toks := tk }) :
    wpAny (model P w) A.in1 (Builtin.«set.__init__» ⟨[.ref S, .ref l], []⟩) (fun fin s' => ∃ v, fin = Fin.done (Flow.ret v) ∧ R v s') E s := by
  have hsz : items.size = ns.length := by
    have := IntsAre.length hit
    rwa [Array.length_toList] at this
  obtain ⟨ol, hol, hcl, nl, hdl⟩ := id hl
  obtain ⟨c0, d0, data0, sl0⟩ := ol
  simp only at hcl hdl
  subst hcl hdl
  have k1 := PySem.F.sub_list_set
  have k2 := PySem.F.sub_list_frozenset
  have k3 : (Value.type "list" == Value.type "dict") = false := by decide
  have hTS : s.TypeIs (.ref S) "set" := ⟨_, hset, rfl⟩
  unfold Builtin.«set.__init__» noKeywords Builtin.Frozenset.updateFrom
  generalize hPI : pyIter = PI
  obtain ⟨hp, gs, dr, tk0, os⟩ := s
  wp_walk
  subst hPI
  refine wpAny_pyIter_list ⟨_, hol, rfl, nl, rfl⟩ ?_
  refine wpAny_bind (wpAny_runValue ?_)
  have hIs : ({ cls := .type "list_iterator", data := .fields #[.ref l, .int 0 0] } : Obj) = { cls := .type "list_iterator", data := .fields #[.ref l, .int 0 0] } := rfl
  have hne : l ≠ hp.objs.size := Nat.ne_of_lt (Heap.lt_size hol)
  have hSne : S ≠ hp.objs.size := by
    have e : hp.objs.size = S + 1 := hS
    rw [e]
    exact Nat.ne_of_lt (Nat.lt_succ_self S)
  have hSl : S ≠ l := Nat.ne_of_gt hlS
  have val : ∀ (i : Nat) (v : Value), items[i]? = some v → ∃ k t, ns[i]? = some k ∧ v = .int k t := fun i v hv => by
    have hi : i < ns.length := by rw [← hsz]; exact (Array.getElem?_eq_some_iff.mp hv).1
    obtain ⟨t, ht⟩ := hit.get i ns[i] (List.getElem?_eq_getElem hi)
    rw [Array.getElem?_toList] at ht
    rw [ht] at hv
    exact ⟨_, t, List.getElem?_eq_getElem hi, (Option.some.inj hv).symm⟩
  refine set_update_ints ((Walks.list (by simp [hh]) hp.objs.size l hne items).toS) S (by simp [hSne, hSl]) ns hsz hb val items.size 0 _ (by omega) (Nat.zero_le _)
    ⟨⟨_, Heap.get?_push_size _ rfl, rfl, rfl⟩, ⟨_, Heap.get?_push_of_some _ hol, rfl, nl, rfl⟩⟩ ⟨0, Nat.le_refl 0, setR_new_at (Heap.get?_push_of_some _ hset)⟩ fun s' c hm hc hS' => ?_
  obtain ⟨hp', gs', dr', tk', os'⟩ := s'
  have eg : gs' = gs := hm.gens
  have ed : dr' = dr := hm.drawn
  have eo : os' = os := hm.os
  subst eg ed eo
  show wpAny _ _ _ _ _ _
  refine wpAny_pure ?_
  show wpAny _ _ (ret Value.none) _ _ _
  rw [hsz] at hc
  refine wpAny_pure ⟨_, rfl, h hp' tk' c hS' hc fun b o hb2 e => ?_⟩
  refine hm.heap b o ?_ (Heap.get?_push_of_some _ e)
  have n1 : b ≠ S := Nat.ne_of_lt hb2
  have n2 : b ≠ hp.objs.size := by
    have e : hp.objs.size = S + 1 := hS
    rw [e]
    exact Nat.ne_of_lt (Nat.lt_succ_of_lt hb2)
  simp [n1, n2]
end
section
variable {P : Program} {w : World} {A : Around} {E : Value → Shared → Prop} {s : Shared}
theorem set_of_ints {l : Addr} {items : Array Value} (ns : List Int) {Q : Value → Shared → Prop} (hh : A.handled = none) (hl : s.heap.IsList l items) (hit : IntsAre items.toList ns) (hb : ns.length + 1 < scanBound)
    (h : ∀ (h' : Heap) (tk c : Nat), SetR w h' s.heap.objs.size (fun j => decide (j ∈ ns)) c → c ≤ ns.length → (∀ b o, s.heap.get? b = some o → h'.get? b = some o) → Q (.ref s.heap.objs.size) { s with heap := h', toks := tk }) :
    wpAny (model P w) A (call (.type "set") [.ref l]) Q E s := by
  have m1 := PySem.F.called_set.mro
  obtain ⟨_, _, m1⟩ := m1
  have m2 := PySem.F.called_set.made
  have m3 := PySem.F.called_set.sub
  have m4 := PySem.F.called_set.notType
  have m5 := PySem.F.called_set.canCreate
  have m6 := PySem.F.typeCall_set_1 (.ref l)
  refine wpAny_call (codeAny_of_tree ?_)
  show wpAny _ _ (callAny (.type "set") _) _ _ _
  refine wpAny_pure ⟨Code.quiet_builtin _ (by decide +kernel), codeAny_builtin PySem.F.entry_type_call ?_⟩
  rw [Around.under_plain (weight_type_call_type "set" [.ref l] []) rfl]
  repeat (any_goals (first | assumption | wp_step))
  have s1S : (s.heap.push (freshSet w)).get? s.heap.objs.size = some (freshSet w) := Heap.get?_push_size _ rfl
  refine codeAny_mono (code_set_led1 (.ref l) (E := E) (Q₁ := fun o t => o = .ref s.heap.objs.size ∧ t = { s with heap := s.heap.push (freshSet w) }) ⟨rfl, rfl⟩) fun r t hr => ?_
  rcases r with e | fl
  · exact hr
  cases fl with
  | ret o =>
    obtain ⟨rfl, rfl⟩ := hr
    have ty : Shared.TypeIs { s with heap := s.heap.push (freshSet w) } (.ref s.heap.objs.size) "set" := ⟨_, s1S, rfl⟩
    have n1 := PySem.F.called_set.init.lookup
    have n2 := PySem.F.called_set.init.bind (.ref s.heap.objs.size)
    repeat (any_goals (first | assumption | wp_step))
    have hlS : l < s.heap.objs.size := let ⟨_, ho, _⟩ := hl; Heap.lt_size ho
    have hl1 : (s.heap.push (freshSet w)).IsList l items := let ⟨o, ho, r⟩ := hl; ⟨o, Heap.get?_push_of_some _ ho, r⟩
    refine codeAny_mono (codeAny_call_builtin (R := wants (fun v u => v = .none ∧ ∃ h' tk c, u = { s with heap := h', toks := tk } ∧ SetR w h' s.heap.objs.size (fun j => decide (j ∈ ns)) c ∧ c ≤ ns.length ∧ ∀ b o, s.heap.get? b = some o → h'.get? b = some o) E) PySem.F.called_set.init.plain PySem.F.entry_set_init (check_set_init_1 ty ?_)) fun r u hr => ?_
    · refine wpAny_mono (init_ints (A := A.in1) (s := { s with heap := s.heap.push (freshSet w) }) (S := s.heap.objs.size) (l := l) (items := items) ns (Heap.size_push ..) s1S hlS (by simp [hh]) hl1 hit hb
        (R := fun v u => v = .none ∧ ∃ h' tk c, u = { s with heap := h', toks := tk } ∧ SetR w h' s.heap.objs.size (fun j => decide (j ∈ ns)) c ∧ c ≤ ns.length ∧ ∀ b o, s.heap.get? b = some o → h'.get? b = some o)
        fun h' tk c q1 q2 q3 => ⟨rfl, h', tk, c, rfl, q1, q2, fun b o e => q3 b o (Heap.lt_size e) (Heap.get?_push_of_some _ e)⟩) (fun fin u hf => ?_) fun _ _ e => e
      obtain ⟨v, rfl, hv⟩ := hf
      exact hv
    · rcases r with e | fl
      · exact hr
      cases fl with
      | ret v =>
        obtain ⟨rfl, h', tk, c, rfl, q1, q2, q3⟩ := hr
        repeat (any_goals (first | assumption | wp_step))
        exact h _ _ _ q1 q2 q3
      | _ => exact hr.elim
  | _ => exact hr.elim
end
section
variable {X : Cx}
/-- set(xs), xs a list of ints -/
def rSetOfI (K : PySem.W.Frag) (w : World) : List V → Hp → VK → Prop := fun xs H Q => ∃ (l : Addr) (ns : List Int), xs = [V.ref l] ∧ SqL K H l (ns.map V.int) ∧ ns.length ≤ 1000 ∧ ∀ (a : Addr) (c : Nat), H a = none → c ≤ ns.length → Q (.ref a) (upd H a (SetO w a (fun j => decide (j ∈ ns)) c))
theorem cr_setOfI (hc : X.calm = true) : CallR X (.type "set") (rSetOfI X.K X.w) := by
  intro pins s σ H xs us Q I r h
  obtain ⟨l, ns, rfl, hl, hn, q⟩ := h
  rw [Vals.ref1 r]
  obtain ⟨its, rv, pl, hz⟩ := I.list hl
  have hi : IntsAre its.toArray.toList ns := ints_of_vals rv
  have hno : H s.heap.objs.size = none := I.hok.fresh (Nat.le_refl _)
  refine set_of_ints (P := X.prog) (w := X.w) ns (I.ok.hd hc) pl.isList hi (by unfold scanBound; omega) fun h' tk c R hcn k => ?_
  exact ⟨.ref s.heap.objs.size, upd H s.heap.objs.size (SetO X.w s.heap.objs.size (fun j => decide (j ∈ ns)) c), I.laid (t' := tk) k (Nat.le_refl _) (setO_new R), rfl, q _ c hno hcn⟩
end

/-! ### max, min, set of a tuple of ints; len of a set -/
section
variable {P : Program} {w : World} {A : Around} {E : Value → Shared → Prop} {s : Shared}
/-- a tuple's iterator, over ints -/
theorem tup_walk {l : Addr} {its : Array Value} {Q : Value → Shared → Prop} (hh : A.handled = none) (hl : s.heap.IsTuple l its) (h : ∀ (I : Addr) (s2 : Shared) (St : Nat → Heap → Prop), PySem.Walks P w A I [I, l] [I] its.size (fun i v => its[i]? = some v) St → St 0 s2.heap → (∀ b ∈ [I, l], b < s2.heap.objs.size) →
    (∀ h' tk, (∀ b o, b ∉ [I] → s2.heap.get? b = some o → h'.get? b = some o) → ∃ h'' tk', ({ s2 with heap := h', toks := tk } : Shared) = { s with heap := h'', toks := tk' } ∧ ∀ b o, s.heap.get? b = some o → h''.get? b = some o) → Q (.ref I) s2) : wpAny (model P w) A (pyIter (.ref l)) Q E s := by
  have ll : l < s.heap.objs.size := let ⟨_, ho, _⟩ := hl; Heap.lt_size ho
  refine wpAny_pyIter_tuple hl ?_
  refine h s.heap.objs.size _ _ (PySem.Walks.tuple hh s.heap.objs.size l (Nat.ne_of_lt ll) its) ⟨⟨_, Heap.get?_push_size _ rfl, rfl, rfl⟩, hl.push _⟩ (fun b hb => ?_) fun h' tk k => ⟨h', tk, rfl, fun b o e => k b o (fun z => ?_) (Heap.get?_push_of_some _ e)⟩
  · show b < (s.heap.push _).objs.size
    rw [Heap.size_push]
    rcases List.mem_cons.mp hb with rfl | hb
    · exact Nat.lt_succ_self _
    · rw [List.mem_singleton.mp hb]
      exact Nat.lt_succ_of_lt ll
  · rw [List.mem_singleton.mp z] at e
    exact absurd (Heap.lt_size e) (Nat.lt_irrefl _)
theorem max_tup {l : Addr} {its : List Value} {ns : List Int} {Q : Value → Shared → Prop} (hh : A.handled = none) (hl : s.heap.IsTuple l its.toArray) (hi : IntsAre its ns) (hne : 0 < ns.length)
    (h : ∀ h' tk M t', (∀ b o, s.heap.get? b = some o → h'.get? b = some o) → M ∈ ns → (∀ a, a ∈ ns → a ≤ M) → Q (.int M t') { s with heap := h', toks := tk }) : wpAny (model P w) A (call (.builtin "max") [.ref l]) Q E s := by
  obtain ⟨xs, e⟩ := hi.allInts.items
  have hn : numsOf (intItems xs).toList = ns := by
    rw [← e]
    exact hi.numsOf
  rw [nums_intItems] at hn
  subst hn
  rw [e] at hl
  have hsz : 0 < xs.size := by simpa using hne
  refine call_max_walk (tup_walk (A := A.in1) hh hl fun I s2 St W st hlt back => ?_)
  refine ⟨I, [I, l], [I], _, _, St, _, rfl, W, st, hlt, by simpa [intItems] using hsz, CmpOf.ints_gt (numAt xs) (fun _ _ => intItems_at), fun v h' tk hv k => ?_⟩
  obtain ⟨h'', tk', e2, k2⟩ := back h' tk k
  rw [e2]
  have hv : (intItems xs)[argBest (fun i j => decide (numAt xs i > numAt xs j)) (xs.size - 1)]? = some v := by simpa [intItems] using hv
  obtain ⟨t, rfl⟩ := intItems_at hv
  obtain ⟨h1, h2⟩ := argBest_gt (numAt xs) (xs.size - 1)
  refine h h'' tk' _ t k2 ?_ fun a ha => ?_
  · rw [numAt_eq]
    exact PySem.getD_mem (by rw [List.length_map, Array.length_toList]; omega)
  · obtain ⟨j, hj, rfl⟩ := PySem.mem_getD ha
    rw [List.length_map, Array.length_toList] at hj
    rw [← numAt_eq]
    exact h2 j (by omega)
end
section
variable {X : Cx}
def rMaxT (K : PySem.W.Frag) : List V → Hp → VK → Prop := fun vs H Q => ∃ (a : Addr) (ns : List Int), vs = [V.ref a] ∧ SqT K H a (ns.map V.int) ∧ 0 < ns.length ∧ ∀ m, m ∈ ns → (∀ y, y ∈ ns → y ≤ m) → Q (.int m) H
theorem cr_maxT (hc : X.calm = true) : CallR X (.builtin "max") (rMaxT X.K) := by
  intro pins s σ H vs us Q I r h
  obtain ⟨a, ns, rfl, hs, hne, q⟩ := h
  obtain ⟨its, rv, hl, _⟩ := I.tuple hs
  rw [Vals.ref1 r]
  exact max_tup (I.ok.hd hc) hl rv.ints hne fun h' tk m t' hk h1 h2 => ⟨.int _, H, I.kept hk, ⟨_, rfl⟩, q m h1 h2⟩
def rSetTup (K : PySem.W.Frag) (w : World) : List V → Hp → VK → Prop := fun xs H Q => ∃ (l : Addr) (ns : List Int), xs = [V.ref l] ∧ SqT K H l (ns.map V.int) ∧ ns.length ≤ 1000 ∧ ∀ (a : Addr) (c : Nat), H a = none → c ≤ ns.length → Q (.ref a) (upd H a (SetO w a (fun j => decide (j ∈ ns)) c))
theorem cr_setTup (hc : X.calm = true) : CallR X (.type "set") (rSetTup X.K X.w) := by
  intro pins s σ H xs us Q I r h
  obtain ⟨l, ns, rfl, hl, hn, q⟩ := h
  rw [Vals.ref1 r]
  obtain ⟨its, rv, pl, hz⟩ := I.tuple hl
  have hno : H s.heap.objs.size = none := I.hok.fresh (Nat.le_refl _)
  refine call_set_tupI (P := X.prog) (w := X.w) ns (I.ok.hd hc) pl (ints_of_vals rv) (by unfold scanBound; omega) fun h' tk c R hcn k => ?_
  exact ⟨.ref s.heap.objs.size, upd H s.heap.objs.size (SetO X.w s.heap.objs.size (fun j => decide (j ∈ ns)) c), I.laid (t' := tk) k (Nat.le_refl _) (setO_new R), rfl, q _ c hno hcn⟩
/-- set(xs), xs a list or a tuple of ints -/
def rSetAny (K : PySem.W.Frag) (w : World) : List V → Hp → VK → Prop := fun xs H Q => rSetOfI K w xs H Q ∨ rSetTup K w xs H Q
theorem cr_setAny (hc : X.calm = true) : CallR X (.type "set") (rSetAny X.K X.w) := CallR.or (cr_setOfI hc) (cr_setTup hc)
def rLenSetO (w : World) : List V → Hp → VK → Prop := fun xs H Q => ∃ (a : Addr) (S : Int → Bool) (n : Nat), xs = [V.ref a] ∧ H a = some (SetO w a S n) ∧ ∀ L : List Int, L.Nodup → L.length = n → (∀ k, S k = true ↔ k ∈ L) → Q (.int (n : Int)) H
theorem cr_lenSetO : CallR X (.builtin "len") (rLenSetO X.w) := by
  intro pins s σ H xs us Q I r h
  obtain ⟨a, S, n, rfl, ha, q⟩ := h
  rw [Vals.ref1 r]
  obtain ⟨o, es, ep, t, ho, hex, hd, g, nd, hm, hb, hf, hn, _⟩ := setO_get I ha
  refine call_len_set ho hex hd hf (by unfold scanBound at hb; omega) ⟨.int n, H, I.tok _, ⟨_, by rw [hn]⟩, q (es.toList.map keyOf) nd (by rw [List.length_map, Array.length_toList]; exact hn) hm⟩
end

/-! ### tuple(zip(xs, ys)) of two lists -/
structure ZSt (z TI TO i1 i2 l1 l2 S : Addr) (xs ys : Array Value) (i : Nat) (h : Heap) : Prop where
  pr : IsPair h TI (.ref i1) (.ref i2)
  a1 : h.IsListIter i1 l1 i
  a2 : h.IsListIter i2 l2 i
  b1 : h.IsList l1 xs
  b2 : h.IsList l2 ys
  zz : (IsZip h z TI TO .none ∧ ∃ a b, IsPair h TO a b) ∨ ∃ T f oT, IsZipHeld h z TI TO T f ∧ h.get? T = some oT ∧ T ≠ z ∧ T ≠ i1 ∧ T ≠ i2 ∧ T ≠ S
theorem ZSt.frame {z TI TO i1 i2 l1 l2 S : Addr} {xs ys : Array Value} {i : Nat} {h h' : Heap} (x : ZSt z TI TO i1 i2 l1 l2 S xs ys i h) (n : S ∉ [z, TI, TO, i1, i2, l1, l2]) (k : ∀ b o, b ≠ S → h.get? b = some o → h'.get? b = some o) : ZSt z TI TO i1 i2 l1 l2 S xs ys i h' := by
  simp only [List.mem_cons, List.not_mem_nil, or_false, not_or] at n
  obtain ⟨n1, n2, n3, n4, n5, n6, n7⟩ := n
  refine ⟨k _ _ (Ne.symm n2) x.pr, x.a1.at fun o e => k _ o (Ne.symm n4) e, x.a2.at fun o e => k _ o (Ne.symm n5) e, x.b1.at fun o e => k _ o (Ne.symm n6) e, x.b2.at fun o e => k _ o (Ne.symm n7) e, ?_⟩
  rcases x.zz with ⟨hz, a, b, hT⟩ | ⟨T, f, oT, hz, hT, r1, r2, r3, r4⟩
  · exact .inl ⟨k _ _ (Ne.symm n1) hz, a, b, k _ _ (Ne.symm n3) hT⟩
  · exact .inr ⟨T, f, oT, k _ _ (Ne.symm n1) hz, k _ _ r4 hT, r1, r2, r3, r4⟩
/-- the pairs that were made so far -/
structure Zmade (B : Nat) (xs ys : Array Value) (as : List Addr) (h : Heap) : Prop where
  got : ∀ (j : Nat) (T : Addr), as[j]? = some T → ∃ x y, xs[j]? = some x ∧ ys[j]? = some y ∧ IsPair h T x y
  lo : ∀ T ∈ as, B ≤ T ∧ T < h.objs.size
  up : as.Pairwise (· < ·)
theorem Zmade.keep {B : Nat} {xs ys : Array Value} {as : List Addr} {h h' : Heap} (m : Zmade B xs ys as h) (k : ∀ b o, B ≤ b → h.get? b = some o → h'.get? b = some o) (sz : h.objs.size ≤ h'.objs.size) : Zmade B xs ys as h' :=
  ⟨fun j T e => by
    obtain ⟨x, y, e1, e2, e3⟩ := m.got j T e
    exact ⟨x, y, e1, e2, k _ _ (m.lo T (List.mem_of_getElem? e)).1 e3⟩, fun T hT => ⟨(m.lo T hT).1, Nat.lt_of_lt_of_le (m.lo T hT).2 sz⟩, m.up⟩
theorem Zmade.keepT {B : Nat} {xs ys : Array Value} {as : List Addr} {h h' : Heap} (m : Zmade B xs ys as h) (k : ∀ b o, B ≤ b → h.get? b = some o → h'.get? b = some o) : Zmade B xs ys as h' :=
  ⟨fun j T e => by
    obtain ⟨x, y, e1, e2, e3⟩ := m.got j T e
    exact ⟨x, y, e1, e2, k _ _ (m.lo T (List.mem_of_getElem? e)).1 e3⟩, fun T hT => ⟨(m.lo T hT).1, by
      obtain ⟨j, hj⟩ := List.mem_iff_getElem?.mp hT
      obtain ⟨_, _, _, _, e3⟩ := m.got j T hj
      exact Heap.lt_size (k _ _ (m.lo T hT).1 e3)⟩, m.up⟩
theorem Zmade.push {B : Nat} {xs ys : Array Value} {as : List Addr} {h h' : Heap} {x y : Value} (m : Zmade B xs ys as h) (hB : B ≤ h.objs.size) (k : ∀ b o, B ≤ b → h.get? b = some o → h'.get? b = some o) (sz : h'.objs.size = h.objs.size + 1) (ex : xs[as.length]? = some x) (ey : ys[as.length]? = some y) (hp : IsPair h' h.objs.size x y) : Zmade B xs ys (as ++ [h.objs.size]) h' := by
  have m' := m.keep k (by omega)
  refine ⟨fun j T e => ?_, fun T hT => ?_, ?_⟩
  · rcases Nat.lt_trichotomy j as.length with hj | rfl | hj
    · rw [List.getElem?_append_left hj] at e
      exact m'.got j T e
    · rw [List.getElem?_append_right (Nat.le_refl _), Nat.sub_self] at e
      cases e
      exact ⟨x, y, ex, ey, hp⟩
    · rw [List.getElem?_eq_none (by rw [List.length_append]; exact hj)] at e
      cases e
  · rcases List.mem_append.mp hT with hT | hT
    · exact m'.lo T hT
    · rw [List.mem_singleton.mp hT]
      exact ⟨hB, by rw [sz]; exact Nat.lt_succ_self _⟩
  · refine List.pairwise_append.mpr ⟨m.up, List.pairwise_singleton _ _, fun a ha b hb => ?_⟩
    rw [List.mem_singleton.mp hb]
    exact (m.lo a ha).2
section
variable {P : Program} {w : World} {A : Around} {E : Value → Shared → Prop}
theorem zip_loop {z TI TO i1 i2 l1 l2 S : Addr} (hh : A.handled = none) (D : ZipApart z TI TO i1 i2 l1 l2) (hS : S ∉ [z, TI, TO, i1, i2, l1, l2]) (xs ys : Array Value) (hl : xs.size = ys.size) (hsz : xs.size ≤ sizeLine) (B : Nat) (fx : ∀ b ∈ [z, TO, i1, i2, S], b < B) (res : Value) {R : Result → Shared → Prop} :
    ∀ (k i : Nat) (s : Shared) (acc : Array Value) (c : Nat) (as : List Addr), xs.size - i = k → i ≤ xs.size → ZSt z TI TO i1 i2 l1 l2 S xs ys i s.heap → s.heap.get? S = some { cls := .type "list", dict := none, data := .seq acc c, slots := #[] } → acc.toList = as.map Value.ref → as.length = i → Zmade B xs ys as s.heap → B ≤ s.heap.objs.size →
      (∀ (h' : Heap) (tk : Nat) (acc' : Array Value) (c' : Nat) (as' : List Addr), h'.get? S = some { cls := .type "list", dict := none, data := .seq acc' c', slots := #[] } → acc'.toList = as'.map Value.ref → as'.length = xs.size → Zmade B xs ys as' h' → (∀ b o, b ∉ [z, TO, i1, i2, S] → s.heap.get? b = some o → h'.get? b = some o) → R (.ok (.ret res)) { s with heap := h', toks := tk }) →
      codeAny (model P w) A (.builtin "list.extend.loop" ⟨[.ref S, .ref z, res], []⟩) R s := by
  have nf : ∀ {b : Addr}, B ≤ b → b ∉ [z, TO, i1, i2, S] := fun hb hm => absurd (fx _ hm) (Nat.not_lt.mpr hb)
  intro k
  induction k with
  | zero =>
    intro i s acc c as hk hi st hSo ha hal hm hB q
    have e : i = xs.size := by omega
    subst e
    refine codeAny_builtin PySem.F.entry_extend_loop ?_
    rw [Around.under_plainId PySem.F.plain_extend_loop _]
    show wpAny _ A.in1 (pyNext (.ref z) >>= _) _ _ s
    have hend : xs[xs.size]? = none ∨ ys[xs.size]? = none := .inl (Array.getElem?_eq_none (Nat.le_refl _))
    have hS' := hS
    simp only [List.mem_cons, List.not_mem_nil, or_false, not_or] at hS'
    have fin : ∀ h' : Heap, (∀ b o, b ≠ z → b ≠ TO → b ≠ i1 → b ≠ i2 → s.heap.get? b = some o → h'.get? b = some o) → R (.ok (.ret res)) { s with heap := h' } := fun h' kp => by
      have far : ∀ b o, B ≤ b → s.heap.get? b = some o → h'.get? b = some o := fun b o hb e => by
        have := nf hb
        simp only [List.mem_cons, List.not_mem_nil, or_false, not_or] at this
        exact kp b o this.1 this.2.1 this.2.2.1 this.2.2.2.1 e
      refine q h' s.toks acc c as (kp _ _ hS'.1 hS'.2.2.1 hS'.2.2.2.1 hS'.2.2.2.2.1 hSo) ha hal (hm.keepT far) fun b o hb e => ?_
      simp only [List.mem_cons, List.not_mem_nil, or_false, not_or] at hb
      exact kp b o hb.1 hb.2.1 hb.2.2.1 hb.2.2.2.1 e
    rcases st.zz with ⟨hz, x0, y0, hT⟩ | ⟨T, f, oT, hz, hT, r1, r2, r3, r4⟩
    · exact wpAny_bind (wpAny_pyNext_zip_end hh D hz st.pr hT st.a1 st.a2 st.b1 st.b2 hend fun h' kp => wpAny_pure (fin h' kp))
    · exact wpAny_bind (wpAny_pyNext_zip_end_held hh D hz hT st.pr st.a1 st.a2 st.b1 st.b2 hend fun h' kp => wpAny_pure (fin h' fun b o n1 _ n3 n4 e => kp b o n1 n3 n4 e))
  | succ k ih =>
    intro i s acc c as hk hi st hSo ha hal hm hB q
    have hS' := hS
    simp only [List.mem_cons, List.not_mem_nil, or_false, not_or] at hS'
    have hix : i < xs.size := by omega
    have ex := Array.getElem?_eq_getElem hix
    have ey := Array.getElem?_eq_getElem (show i < ys.size by omega)
    refine codeAny_builtin PySem.F.entry_extend_loop ?_
    rw [Around.under_plainId PySem.F.plain_extend_loop _]
    show wpAny _ A.in1 (pyNext (.ref z) >>= _) _ _ s
    have nz : ∀ {b o}, s.heap.get? b = some o → s.heap.objs.size ≠ b := fun e => Nat.ne_of_gt (Heap.lt_size e)
    have nS : s.heap.objs.size ≠ S := nz hSo
    have n1 : s.heap.objs.size ≠ i1 := let ⟨_, e, _⟩ := st.a1; nz e
    have n2 : s.heap.objs.size ≠ i2 := let ⟨_, e, _⟩ := st.a2; nz e
    -- behind one item
    have go : ∀ h' : Heap, ZSt z TI TO i1 i2 l1 l2 S xs ys (i + 1) h' → IsPair h' s.heap.objs.size xs[i] ys[i] → h'.objs.size = s.heap.objs.size + 1 → (∀ b o, b ≠ z → b ≠ TO → b ≠ i1 → b ≠ i2 → s.heap.get? b = some o → h'.get? b = some o) →
        wpAny (model P w) A.in1 (updateSeq S (·.push (.ref s.heap.objs.size)) >>= fun _ => again (.builtin "list.extend.loop" ⟨[.ref S, .ref z, res], []⟩)) (fun fin t => match fin with
          | .done f => R (.ok f) t
          | .again c' => c'.quiet = true ∧ codeAny (model P w) A c' R t) (fun e t => R (.error e) t) { s with heap := h' } := fun h' st' hp hz kp => by
      have hS2 := kp _ _ hS'.1 hS'.2.2.1 hS'.2.2.2.1 hS'.2.2.2.2.1 hSo
      have la : acc.size = i := by rw [← hal, ← List.length_map (f := Value.ref) (as := as), ← ha, Array.length_toList]
      have far : ∀ b o, B ≤ b → s.heap.get? b = some o → h'.get? b = some o := fun b o hb e => by
        have := nf hb
        simp only [List.mem_cons, List.not_mem_nil, or_false, not_or] at this
        exact kp b o this.1 this.2.1 this.2.2.1 this.2.2.2.1 e
      have mm := hm.push hB far hz (by rw [hal]; exact ex) (by rw [hal]; exact ey) hp
      have SB : S < B := fx S (by simp)
      have oth : ∀ b o, b ≠ S → h'.get? b = some o → (h'.update S (Obj.mapSeq (·.push (.ref s.heap.objs.size)))).get? b = some o := fun b o n e => (Heap.get?_update_other _ _ (Ne.symm n)).trans e
      refine wpAny_bind ?_
      refine wpAny_updateSeq hS2 rfl (wpAny_pure ⟨plainId_quiet PySem.F.plain_extend_loop _, ih (i + 1) _ (acc.push (.ref s.heap.objs.size)) _ (as ++ [s.heap.objs.size]) (by omega) (by omega) (st'.frame hS oth) (Heap.get?_update_self _ hS2 rfl) ?_ (by rw [List.length_append, hal]; rfl)
        (mm.keepT fun b o hb e => oth b o (fun z => absurd SB (by rw [← z]; exact Nat.not_lt.mpr hb)) e) ?_ fun h2 tk2 acc2 c2 as2 w1 w2 w3 w4 w5 => ?_⟩) (by rw [la]; omega) (by show (acc.push _).size ≤ sizeLine + 1; rw [Array.size_push, la]; omega)
      · rw [Array.toList_push, ha, List.map_append]
        rfl
      · show B ≤ (h'.update S _).objs.size
        rw [Heap.size_update, hz]
        omega
      · refine q h2 tk2 acc2 c2 as2 w1 w2 w3 w4 fun b o hb e => w5 b o hb (oth b o (fun z => hb (by simp [z])) ?_)
        simp only [List.mem_cons, List.not_mem_nil, or_false, not_or] at hb
        exact kp b o hb.1 hb.2.1 hb.2.2.1 hb.2.2.2.1 e
    rcases st.zz with ⟨hz, x0, y0, hT⟩ | ⟨T, f, oT, hz, hT, r1, r2, r3, r4⟩
    · refine wpAny_bind (wpAny_pyNext_zip_item D hz st.pr hT st.a1 st.a2 st.b1 st.b2 ex ey fun h' q1 q2 q3 q4 q5 q6 kp => ?_)
      have st' : ZSt z TI TO i1 i2 l1 l2 S xs ys (i + 1) h' := ⟨kp _ _ D.TIz D.TITO D.TIi1 D.TIi2 st.pr, q3, q4, st.b1.at fun o e => kp _ o D.l1z D.l1TO D.l1i1 D.l1i2 e, st.b2.at fun o e => kp _ o D.l2z D.l2TO D.l2i1 D.l2i2 e, .inr ⟨_, false, _, q1, q5, nz hz, n1, n2, nS⟩⟩
      exact go h' st' q5 q6 kp
    · refine wpAny_bind (wpAny_pyNext_zip_item_held D hz hT st.pr st.a1 st.a2 st.b1 st.b2 ex ey fun h' q1 q3 q4 q5 q6 kp => ?_)
      have st' : ZSt z TI TO i1 i2 l1 l2 S xs ys (i + 1) h' := ⟨kp _ _ D.TIz D.TIi1 D.TIi2 st.pr, q3, q4, st.b1.at fun o e => kp _ o D.l1z D.l1i1 D.l1i2 e, st.b2.at fun o e => kp _ o D.l2z D.l2i1 D.l2i2 e, .inr ⟨T, true, oT, q1, kp _ _ r1 r2 r3 hT, r1, r2, r3, r4⟩⟩
      exact go h' st' q5 q6 fun b o n1 _ n3 n4 e => kp b o n1 n3 n4 e
end

section
variable {P : Program} {w : World} {A : Around} {E : Value → Shared → Prop} {s : Shared}
theorem zip_no_len : typeLookup (.type "zip") "__len__" = pure none := am_miss_of_fast (by decide +kernel)
theorem zip_no_hint : typeLookup (.type "zip") "__length_hint__" = pure none := am_miss_of_fast (by decide +kernel)
theorem collect_zip {z TI TO i1 i2 l1 l2 : Addr} {xs ys : Array Value} {Q : List Value → Shared → Prop} (hh : A.handled = none) (D : ZipApart z TI TO i1 i2 l1 l2) (fx : ∀ b ∈ [z, TI, TO, i1, i2, l1, l2], b < s.heap.objs.size) (hl : xs.size = ys.size) (hsz : xs.size ≤ sizeLine)
    (hz : IsZip s.heap z TI TO .none) (hTI : IsPair s.heap TI (.ref i1) (.ref i2)) (hTO : ∃ a b, IsPair s.heap TO a b) (h1 : s.heap.IsListIter i1 l1 0) (h2 : s.heap.IsListIter i2 l2 0) (b1 : s.heap.IsList l1 xs) (b2 : s.heap.IsList l2 ys)
    (q : ∀ (h' : Heap) (tk : Nat) (acc : Array Value) (as : List Addr), acc.toList = as.map Value.ref → as.length = xs.size → Zmade (s.heap.objs.size + 1) xs ys as h' → (∀ b o, b ∉ [z, TO, i1, i2] → s.heap.get? b = some o → h'.get? b = some o) → Q acc.toList { s with heap := h', toks := tk }) :
    wpAny (model P w) A (collect (.ref z)) Q E s := by
  have hS : s.heap.objs.size ∉ [z, TI, TO, i1, i2, l1, l2] := fun hm => Nat.lt_irrefl _ (fx _ hm)
  have hSz : s.heap.objs.size ≠ z := fun e => hS (by rw [e]; exact List.mem_cons_self)
  have st : ZSt z TI TO i1 i2 l1 l2 s.heap.objs.size xs ys 0 s.heap := ⟨hTI, h1, h2, b1, b2, .inl ⟨hz, hTO⟩⟩
  unfold collect
  refine wpAny_bind (wpAny_runValue (codeAny_builtin PySem.F.entry_proto_collect ?_))
  rw [Around.under_plainId PySem.F.plain_proto_collect _]
  show wpAny _ A.in1 (newList [] >>= fun l => again (.builtin "list.__iadd__" ⟨[l, .ref z], []⟩)) _ _ s
  refine wpAny_bind (wpAny_newObj_type ?_)
  refine wpAny_pure ⟨plainId_quiet PySem.F.plain_list_iadd _, codeAny_builtin PySem.F.entry_list_iadd ?_⟩
  rw [Around.under_plainId PySem.F.plain_list_iadd _]
  have st1 := st.frame hS (h' := s.heap.push { cls := .type "list", data := .seq ([] : List Value).toArray }) fun b o _ e => Heap.get?_push_of_some _ e
  have hz1 : IsZip (s.heap.push { cls := .type "list", data := .seq ([] : List Value).toArray }) z TI TO .none := Heap.get?_push_of_some _ hz
  have ty : ({ s with heap := s.heap.push { cls := .type "list", data := .seq ([] : List Value).toArray } } : Shared).TypeIs (.ref z) "zip" := ⟨_, hz1, rfl⟩
  show wpAny _ A.in1 (Builtin.List.listExtendWith (.ref s.heap.objs.size) (.ref z) (.ref s.heap.objs.size)) _ _ _
  unfold Builtin.List.listExtendWith
  refine wpAny_bind (wpAny_typeOf ty ?_)
  have e1 : Builtin.List.listSameRef (.ref s.heap.objs.size) (.ref z) = false := by simp [Builtin.List.listSameRef, hSz]
  have e2 : (Value.type "zip" == Value.type "list") = false := by decide
  have e3 : (Value.type "zip" == Value.type "tuple") = false := by decide
  simp only [e1, e2, e3, Bool.or_false, Bool.false_eq_true, if_false]
  refine wpAny_bind (wpAny_pyIter_zip hz1 ?_)
  refine wpAny_bind (wpAny_holding ?_)
  unfold Builtin.List.listLengthHint
  refine wpAny_bind (wpAny_specialOf ty zip_no_len ?_)
  show wpAny _ A.in1 (specialOf (Value.ref z) (Str.ofString "__length_hint__") >>= _) _ _ _
  refine wpAny_bind (wpAny_specialOf ty zip_no_hint ?_)
  refine wpAny_pure ?_
  show wpAny _ A.in1 (rule "list.extend.makes-room" >>= fun _ => Builtin.List.listTouch (.ref s.heap.objs.size) >>= fun _ =>
    again (.builtin "list.extend.loop" ⟨[.ref s.heap.objs.size, .ref z, .ref s.heap.objs.size], []⟩)) _ _ _
  refine wpAny_bind (wpAny_rule ?_)
  have g1 : (s.heap.push { cls := .type "list", data := .seq ([] : List Value).toArray }).get? s.heap.objs.size = some { cls := .type "list", data := .seq ([] : List Value).toArray } := Heap.get?_push_size _ rfl
  refine wpAny_bind ?_
  show wpAny _ A.in1 (updateSeq s.heap.objs.size (·.push .none) >>= fun _ => updateSeq s.heap.objs.size (·.pop)) _ _ _
  refine wpAny_bind (wpAny_updateSeq g1 rfl ?_)
  have g2 := Heap.get?_update_self (Obj.mapSeq (·.push Value.none)) g1 rfl
  refine wpAny_updateSeq g2 rfl ?_
  have g3 := Heap.get?_update_self (Obj.mapSeq (·.pop)) g2 rfl
  have oth : ∀ b o, b ≠ s.heap.objs.size → (s.heap.push { cls := .type "list", data := .seq ([] : List Value).toArray }).get? b = some o →
      (((s.heap.push { cls := .type "list", data := .seq ([] : List Value).toArray }).update s.heap.objs.size (Obj.mapSeq (·.push Value.none))).update s.heap.objs.size (Obj.mapSeq (·.pop))).get? b = some o :=
    fun b o n e => (Heap.get?_update_other _ _ (Ne.symm n)).trans ((Heap.get?_update_other _ _ (Ne.symm n)).trans e)
  have lt1 : ∀ b ∈ [z, TO, i1, i2, s.heap.objs.size], b < s.heap.objs.size + 1 := fun b hb => by
    simp only [List.mem_cons, List.not_mem_nil, or_false] at hb
    rcases hb with rfl | rfl | rfl | rfl | rfl
    · exact Nat.lt_succ_of_lt (fx _ (by simp))
    · exact Nat.lt_succ_of_lt (fx _ (by simp))
    · exact Nat.lt_succ_of_lt (fx _ (by simp))
    · exact Nat.lt_succ_of_lt (fx _ (by simp))
    · exact Nat.lt_succ_self _
  refine wpAny_pure ⟨plainId_quiet PySem.F.plain_extend_loop _, zip_loop (A := A) hh D hS xs ys hl hsz (s.heap.objs.size + 1) lt1 _ xs.size 0 _ _ _ [] rfl (Nat.zero_le _) (st1.frame hS oth) g3 rfl rfl ⟨(fun j T e => by cases e), (fun T hT => by cases hT), List.Pairwise.nil⟩ ?_ fun h' tk acc c as w1 w2 w3 w4 w5 => ?_⟩
  · rw [Heap.size_update, Heap.size_update, Heap.size_push]
    exact Nat.le_refl _
  · show wpAny _ A (load s.heap.objs.size >>= _) _ _ _
    refine wpAny_bind (wpAny_load w1 ?_)
    refine wpAny_pure (q h' tk acc as w2 w3 w4 fun b o hb e => ?_)
    have nb : b ≠ s.heap.objs.size := Nat.ne_of_lt (Heap.lt_size e)
    refine w5 b o (fun hm => hb ?_) (oth b o nb (Heap.get?_push_of_some _ e))
    simp only [List.mem_cons, List.not_mem_nil, or_false] at hm ⊢
    rcases hm with h | h | h | h | h
    · exact .inl h
    · exact .inr (.inl h)
    · exact .inr (.inr (.inl h))
    · exact .inr (.inr (.inr h))
    · exact absurd h nb
end

section
variable {P : Program} {w : World} {A : Around} {E : Value → Shared → Prop} {s : Shared}
theorem tuple_of_zip {z TI TO i1 i2 l1 l2 : Addr} {xs ys : Array Value} {Q : Value → Shared → Prop} (hh : A.handled = none) (D : ZipApart z TI TO i1 i2 l1 l2) (fx : ∀ b ∈ [z, TI, TO, i1, i2, l1, l2], b < s.heap.objs.size) (hl : xs.size = ys.size) (hsz : xs.size ≤ sizeLine)
    (hz : IsZip s.heap z TI TO .none) (hTI : IsPair s.heap TI (.ref i1) (.ref i2)) (hTO : ∃ a b, IsPair s.heap TO a b) (h1 : s.heap.IsListIter i1 l1 0) (h2 : s.heap.IsListIter i2 l2 0) (b1 : s.heap.IsList l1 xs) (b2 : s.heap.IsList l2 ys)
    (q : ∀ (h' : Heap) (tk : Nat) (acc : Array Value) (as : List Addr), acc.toList = as.map Value.ref → as.length = xs.size → Zmade (s.heap.objs.size + 1) xs ys as h' → (∀ b o, b ∉ [z, TO, i1, i2] → s.heap.get? b = some o → h'.get? b = some o) →
      Q (.ref h'.objs.size) { s with heap := h'.push { cls := .type "tuple", data := .seq acc }, toks := tk }) :
    wpAny (model P w) A (call (.type "tuple") [.ref z]) Q E s := by
  refine callType_codes (Q₁ := fun obj t => t.TypeIs obj "tuple" ∧ Q obj t) PySem.F.called_tuple (PySem.F.typeCall_tuple_1 _) PySem.F.entry_object_init ?_ fun obj t ht =>
    ⟨ht.1, PySem.F.args_object_init_2 obj _, object_init_meets PySem.F.called_tuple.init.lookup PySem.F.called_tuple.made (by decide) P w A.in1 _ t ⟨ht.1, rfl, ht.2⟩⟩
  refine codeAny_of_tree ?_
  show wpAny _ A.in1.in1 (do checkBuiltinCall "tuple.__new__" ⟨[.type "tuple", .ref z], []⟩; again (.builtin "tuple.__new__" ⟨[.type "tuple", .ref z], []⟩)) _ _ s
  refine wpAny_bind (wpAny_of_eq (PySem.F.newCall_tuple_1 _) (wpAny_pure ⟨plainId_quiet PySem.F.plain_tuple_new _, codeAny_builtin PySem.F.entry_tuple_new ?_⟩))
  rw [Around.under_plainId PySem.F.plain_tuple_new _]
  have k1 := sub_tuple_self
  have k2 := init_tuple_lookup
  have k3 := madeHere_tuple
  have k4 : s.TypeIs (.ref z) "zip" := ⟨_, hz, rfl⟩
  wp_walk using wpAny_typeOf k4, collect_zip (A := A.in1.in1) hh D fx hl hsz hz hTI hTO h1 h2 b1 b2
  intro h' tk acc as w1 w2 w3 w4
  show wpAny _ _ (Builtin.Tuple.tupleExact acc.toList.toArray >>= fun v => ret v) _ _ _
  unfold Builtin.Tuple.tupleExact
  have la : acc.size = xs.size := by rw [← w2, ← List.length_map (f := Value.ref) (as := as), ← w1, Array.length_toList]
  refine wpAny_bind (wpAny_newObj_type ?_ (by show acc.toList.toArray.size ≤ sizeLine; simp only [Array.toArray_toList]; omega))
  refine wpAny_pure ?_
  rw [Array.toArray_toList]
  exact ⟨⟨_, Heap.get?_push_size _ rfl, rfl⟩, q h' tk acc as w1 w2 w3 w4⟩
end
/-! ### the rule -/
def putZ : Hp → List Addr → List (V × V) → Hp
  | H, a :: as, p :: r => putZ (upd H a (.tup [p.1, p.2])) as r
  | H, _, _ => H
theorem putZ_off {b : Addr} : ∀ (as : List Addr) (r : List (V × V)) (H : Hp), b ∉ as → putZ H as r b = H b
  | [], _, _, _ => rfl
  | _ :: _, [], _, _ => rfl
  | a :: as, p :: r, H, h => (putZ_off as r _ fun z => h (List.mem_cons_of_mem _ z)).trans (upd_ne fun z => h (by rw [z]; exact List.mem_cons_self))
theorem putZ_on : ∀ (as : List Addr) (r : List (V × V)) (H : Hp), as.Nodup → ∀ (j : Nat) (t : Addr) (x y : V), as[j]? = some t → r[j]? = some (x, y) → putZ H as r t = some (.tup [x, y])
  | a :: as, p :: r, H, n, 0, t, x, y, h1, h2 => by
    cases h1
    cases h2
    exact (putZ_off as r _ (List.nodup_cons.mp n).1).trans upd_same
  | a :: as, p :: r, H, n, j + 1, t, x, y, h1, h2 => putZ_on as r _ (List.nodup_cons.mp n).2 j t x y h1 h2
  | [], _, _, _, _, _, _, _, h1, _ => by cases h1
  | _ :: _, [], _, _, _, _, _, _, _, h2 => by cases h2
def tTupZip (K : PySem.W.Frag) (ta : TA) : TE := fun σ H Q => ta σ H fun vs H1 => ∃ (a b : Addr) (xs ys : List V), vs = [.ref a, .ref b] ∧ SqL K H1 a xs ∧ SqL K H1 b ys ∧ xs.length = ys.length ∧
  ∀ (p : Addr) (ts : List Addr) (H' : Hp), H1 p = none → (∀ t ∈ ts, H1 t = none) → ts.length = xs.length → (∀ b o, H1 b = some o → H' b = some o) → H' p = some (.tup (ts.map V.ref)) →
    (∀ (j : Nat) (t : Addr), ts[j]? = some t → ∃ x y, xs[j]? = some x ∧ ys[j]? = some y ∧ H' t = some (.tup [x, y])) → Q (.ref p) H'

section
variable {X : Cx} {e e2 : Expr} {ta : TA} {p p2 pos pos2 : Pos}
theorem pe_tupZip (hc : X.calm = true) (ha : PA X [e, e2] ta) (hg : Gl X "tuple") (hm : X.mg "tuple" = none) (hv : bootBuiltins "tuple" = some (.type "tuple")) (hg2 : Gl X "zip") (hm2 : X.mg "zip" = none)
    (hs : starEach [.Call (.Name "zip" p2) [e, e2] [] pos2] X.env = (false, eval (.Call (.Name "zip" p2) [e, e2] [] pos2) X.env) :: starEach [] X.env := by rfl)
    (hs2 : starEach [e, e2] X.env = (false, eval e X.env) :: starEach [e2] X.env := by rfl) (hpl : (backTo pos2 (starEach [e2] X.env)).any (·.1) = false := by rfl) :
    PE X (.Call (.Name "tuple" p) [.Call (.Name "zip" p2) [e, e2] [] pos2] [] pos) (tTupZip X.K ta) := by
  refine ⟨fun pins s σ H Q I hq => ?_⟩
  refine wpAny_Call_Name_kw (ld_blt I hg hm hv ?_)
  refine PyProof.Rows.callWith_type1 ?_ hs rfl
  rw [hs]
  show wpAny _ _ (spliced ((false, eval (.Call (.Name "zip" p2) [e, e2] [] pos2) X.env) :: backTo pos (starEach [] X.env))) _ _ s
  refine Calls.spliced_cons ?_
  refine wpAny_Call_Name_kw (ld_blt I hg2 hm2 PyProof.Rows.boot_zip (PyProof.Rows.callWith_type1 (thn (ha.run pos2 pins s σ H _ I hq) fun us s1 ⟨vs, H1, I1, r1, q1⟩ => ?_) hs2 hpl))
  obtain ⟨a, b, xs, ys, ev, hx, hy, hxy, q⟩ := q1
  subst ev
  obtain ⟨u1, u2, rfl, c1, c2⟩ : ∃ u1 u2, us = [u1, u2] ∧ u1 = Value.ref a ∧ u2 = Value.ref b := by
    cases r1 with
    | cons r rr =>
      cases rr with
      | cons r' rr =>
        cases rr
        cases r
        cases r'
        exact ⟨_, _, rfl, rfl, rfl⟩
  subst c1 c2
  obtain ⟨its, rv, q1, z1⟩ := I1.list hx
  obtain ⟨its2, rv2, q2, z2⟩ := I1.list hy
  have l1 := rv.length
  have l2 := rv2.length
  have la : a < s1.heap.objs.size := q1.lt
  have lb : b < s1.heap.objs.size := q2.lt
  refine call_zip_2 q1.isList q2.isList fun h0 hz hTI hTO h1 h2 hsz hk => ?_
  refine Calls.spliced_nil ?_
  have D := PySem.W.ktu_apart s1.heap.objs.size a b la lb
  refine tuple_of_zip (s := { s1 with heap := h0 }) (I1.ok.hd hc) D (fun c hc => ?_) (by simp; omega) (by simp; omega) hz hTI ⟨_, _, hTO⟩ h1 h2 (q1.isList.at fun o e => hk _ o e) (q2.isList.at fun o e => hk _ o e) fun h' tk acc as w1 w2 w3 w4 => ?_
  · show c < h0.objs.size
    rw [hsz]
    simp only [List.mem_cons, List.not_mem_nil, or_false] at hc
    rcases hc with rfl | rfl | rfl | rfl | rfl | rfl | rfl <;> first | exact Nat.add_lt_add_left (by decide) _ | exact Nat.lt_add_of_pos_right (by decide) | exact Nat.lt_of_lt_of_le la (Nat.le_add_right _ _) | exact Nat.lt_of_lt_of_le lb (Nat.le_add_right _ _)
  have hs0 : s1.heap.objs.size ≤ h0.objs.size + 1 := by
    rw [hsz]
    exact Nat.le_add_right _ 6
  have old : ∀ c o, s1.heap.get? c = some o → (h'.push { cls := .type "tuple", data := .seq acc }).get? c = some o := fun c o e => by
    refine Heap.get?_push_of_some _ (w4 c o (fun hm => ?_) (hk c o e))
    have lc := Heap.lt_size e
    simp only [List.mem_cons, List.not_mem_nil, or_false] at hm
    rcases hm with h | h | h | h
    · exact absurd lc (by rw [h]; exact Nat.not_lt.mpr (Nat.le_add_right _ _))
    · exact absurd lc (by rw [h]; exact Nat.not_lt.mpr (Nat.le_add_right _ _))
    · exact absurd lc (by rw [h]; exact Nat.lt_irrefl _)
    · exact absurd lc (by rw [h]; exact Nat.not_lt.mpr (Nat.le_add_right _ _))
  have lo : ∀ t ∈ as, s1.heap.objs.size ≤ t ∧ t < h'.objs.size := fun t ht => ⟨Nat.le_trans hs0 (w3.lo t ht).1, (w3.lo t ht).2⟩
  have hps : s1.heap.objs.size ≤ h'.objs.size := by
    refine Nat.le_trans (Nat.le_add_right _ 2) (Nat.le_of_lt (Heap.lt_size (w4 _ _ (fun hm => ?_) hTI)))
    simp only [List.mem_cons, List.not_mem_nil, or_false] at hm
    rcases hm with h | h | h | h
    · exact D.TIz h
    · exact D.TITO h
    · exact D.TIi1 h
    · exact D.TIi2 h
  have pn : h'.objs.size ∉ as := fun z => Nat.lt_irrefl _ (lo _ z).2
  have nd : as.Nodup := List.Pairwise.imp (fun {a b} (h : a < b) => Nat.ne_of_lt h) w3.up
  have new : ∀ t ∈ as, H1 t = none := fun t ht => I1.hok.fresh (lo t ht).1
  have newp : H1 h'.objs.size = none := I1.hok.fresh hps
  have len : as.length = xs.length := by rw [w2, List.size_toArray, ← l1]
  have zlen : ∀ (j : Nat) (t : Addr), as[j]? = some t → ∃ x y, xs[j]? = some x ∧ ys[j]? = some y ∧ (xs.zip ys)[j]? = some (x, y) := fun j t e => by
    have hj : j < as.length := (List.getElem?_eq_some_iff.mp e).1
    refine ⟨xs[j], ys[j], List.getElem?_eq_getElem (by omega), List.getElem?_eq_getElem (by omega), ?_⟩
    rw [List.getElem?_eq_getElem (by rw [List.length_zip]; omega), List.getElem_zip]
  have off : ∀ c, c ∉ as → c ≠ h'.objs.size → putZ (upd H1 h'.objs.size (.tup (as.map V.ref))) as (xs.zip ys) c = H1 c := fun c n1 n2 => (putZ_off as _ _ n1).trans (upd_ne n2)
  have atp : putZ (upd H1 h'.objs.size (.tup (as.map V.ref))) as (xs.zip ys) h'.objs.size = some (.tup (as.map V.ref)) := (putZ_off as _ _ pn).trans upd_same
  have att : ∀ (j : Nat) (t : Addr), as[j]? = some t → ∃ x y, xs[j]? = some x ∧ ys[j]? = some y ∧ putZ (upd H1 h'.objs.size (.tup (as.map V.ref))) as (xs.zip ys) t = some (.tup [x, y]) := fun j t e => by
    obtain ⟨x, y, e1, e2, e3⟩ := zlen j t e
    exact ⟨x, y, e1, e2, putZ_on as _ _ nd j t x y e e3⟩
  have kp : ∀ c u, H1 c = some u → putZ (upd H1 h'.objs.size (.tup (as.map V.ref))) as (xs.zip ys) c = some u := fun c u e => by
    rw [off c (fun z => by rw [new c z] at e; cases e) (fun z => by rw [z, newp] at e; cases e)]
    exact e
  have low : ∀ c o, s1.heap.get? c = some o → c ∉ as ∧ c ≠ h'.objs.size := fun c o e => ⟨fun z => absurd (Heap.lt_size e) (Nat.not_lt.mpr (lo c z).1), fun z => absurd (Heap.lt_size e) (by rw [z]; exact Nat.not_lt.mpr hps)⟩
  refine ⟨.ref h'.objs.size, putZ (upd H1 h'.objs.size (.tup (as.map V.ref))) as (xs.zip ys), ?_, rfl, q _ as _ newp new len kp atp att⟩
  refine I1.call' (ch := []) rfl ⟨fun b o q _ _ _ => old b o q, fun b o q _ _ _ => ⟨o.slots, old b o q⟩, fun b o q n _ => ?_, fun b o q _ => ⟨o, old b o q⟩, fun b xs q => kp b _ q, fun b o u q => kp b _ q, fun b ps q => ⟨#[], by rw [kp b _ q]; simp⟩⟩ (fun c u e => ?_) I1.bare fun b z => by simp at z
  · obtain ⟨n1, n2⟩ := low b o q
    rw [off b n1 n2]
    exact n
  · by_cases m1 : c ∈ as
    · obtain ⟨j, hj⟩ := List.mem_iff_getElem?.mp m1
      obtain ⟨x, y, e1, e2, e3⟩ := att j c hj
      rw [e3] at e
      cases e
      obtain ⟨v1, v2, g1, g2, g3⟩ := w3.got j c hj
      obtain ⟨t1, k1, r1⟩ := rv.get e1
      obtain ⟨t2, k2, r2⟩ := rv2.get e2
      have i1 : v1 = t1 := by
        have : its[j]? = some v1 := by simpa using g1
        rw [k1] at this
        exact (Option.some.inj this).symm
      have i2 : v2 = t2 := by
        have : its2[j]? = some v2 := by simpa using g2
        rw [k2] at this
        exact (Option.some.inj this).symm
      subst i1 i2
      exact ⟨by show 2 ≤ sizeLine; decide, [v1, v2], .cons r1 (.cons r2 .nil), ⟨_, Heap.get?_push_of_some _ g3, rfl, _, rfl⟩⟩
    · by_cases m2 : c = h'.objs.size
      · subst m2
        rw [atp] at e
        cases e
        have ea : acc.toList.toArray = acc := Array.toArray_toList
        refine ⟨by rw [List.length_map]; omega, acc.toList, by rw [w1]; exact LiI.vals_refs as, ?_⟩
        rw [ea]
        exact ⟨_, Heap.get?_push_size _ rfl, rfl, _, rfl⟩
      · rw [off c m1 m2] at e
        exact (I1.hok c u e).stay (fun d v _ y => old d v y) (fun d y => kp d _ y) fun d xs y => kp d _ y
end

/-! ### enumerate(a tuple) -/
theorem enum_new1 {v : Value} {o : Obj} {G : Heap → Prop} (B : PySem.Begins v o G) :
    Meets (Builtin.«enumerate.__new__» ⟨[.type "enumerate", v], []⟩) (fun _ R s => G s.heap ∧
      R (.ok (.ret (.ref (s.heap.push o).objs.size))) { s with heap := (s.heap.push o).push { cls := .type "enumerate", data := .fields #[.none, .bool false, .ref s.heap.objs.size, rawInt 0, .none, .none] } }) :=
  .of_wp fun prog w A R s h => by
    obtain ⟨hp, gs, dr, tk, os⟩ := s
    obtain ⟨h1, h⟩ := h
    have k1 := sub_enumerate
    have k2 : ∀ {A' : Around} {E : Value → Shared → Prop} {Q : Value → Shared → Prop}, Q (.ref hp.objs.size) ⟨hp.push o, gs, dr, tk, os⟩ → wpAny (model prog w) A' (pyIter v) Q E ⟨hp, gs, dr, tk, os⟩ :=
      fun q => B.iter prog w _ _ ⟨hp, gs, dr, tk, os⟩ _ h1 q
    wp_walk using k2
    refine wpAny_stack_any fun st => wpAny_pure ?_
    split
    · rename_i c _ _ _ _ _
      cases (c == Value.type "enumerate")
      · wp_walk using k2
        exact ⟨_, rfl, h⟩
      · wp_walk using k2
        exact ⟨_, rfl, h⟩
    · wp_walk using k2
      exact ⟨_, rfl, h⟩
section
variable {P : Program} {w : World} {A : Around} {E : Value → Shared → Prop} {s : Shared}
theorem enum_of_tuple {t : Addr} {items : Array Value} {Q : Value → Shared → Prop} (ht : s.heap.IsTuple t items)
    (h : ∀ h', IsEnum h' (s.heap.objs.size + 1) s.heap.objs.size 0 .none → h'.IsTupleIter s.heap.objs.size t 0 → (∀ b o, s.heap.get? b = some o → h'.get? b = some o) → Q (.ref (s.heap.objs.size + 1)) { s with heap := h' }) :
    wpAny (model P w) A (call (.type "enumerate") [.ref t]) Q E s := by
  have B := PySem.begins_tuple t items
  refine callType_new PySem.F.called_enumerate (by decide) (PySem.F.typeCall_enumerate_1 _) (PySem.F.newCall_enumerate_1 _) (fun obj => PySem.F.args_object_init_2 obj _) PySem.F.entry_enumerate_new (enum_new1 B) ⟨ht, ?_⟩
  generalize ho : ({ cls := .type "tuple_iterator", data := .fields #[.ref t, .int 0 0] } : Obj) = o
  have hz : (s.heap.push o).objs.size = s.heap.objs.size + 1 := Heap.size_push ..
  show _ ∧ _
  rw [hz]
  have he : IsEnum ((s.heap.push o).push { cls := .type "enumerate", data := .fields #[.none, .bool false, .ref s.heap.objs.size, rawInt 0, .none, .none] }) (s.heap.objs.size + 1) s.heap.objs.size 0 .none := by
    have e := Heap.get?_push_size (s.heap.push o) (o := { cls := .type "enumerate", data := .fields #[.none, .bool false, .ref s.heap.objs.size, rawInt 0, .none, .none] }) rfl
    rwa [hz] at e
  refine ⟨⟨_, he, rfl⟩, h _ he ?_ fun b o x => Heap.get?_push_of_some _ (Heap.get?_push_of_some _ x)⟩
  subst ho
  exact ⟨_, Heap.get?_push_of_some _ (Heap.get?_push_size _ rfl), rfl, rfl⟩
end
def IteT (K : PySem.W.Frag) (a : Addr) : It :=
  ⟨fun i H => ∃ (xs : List V) (x : V), SqT K H a xs ∧ xs[i]? = some x, fun i H v H' => ∃ T x, v = .ref T ∧ H T = none ∧ H' = upd H T (.tup [.int (i : Nat), x]) ∧ ∀ xs, SqT K H a xs → xs[i]? = some x, fun i H => ∃ xs : List V, SqT K H a xs ∧ xs.length = i⟩
theorem turn_enumT {P : Program} {w : World} {K : PySem.W.Frag} {elts : List Expr} {kk : Nat} {tpos : Pos} (a e it : Addr) (hae : a ≠ e) (hai : a ≠ it) :
    Turn P w K (.Tuple elts kk tpos) (IteT K a) [e, it] e (fun i h => (∃ old, IsEnum h e it ((i : Nat) : Int) old) ∧ h.IsTupleIter it a i ∧ e ≠ it) where
  mem := by simp
  obj := fun i h st b hb => by
    obtain ⟨⟨old, he⟩, ⟨o, ho, hc, hd⟩, _⟩ := st
    rcases (show b = e ∨ b = it by simpa using hb) with rfl | rfl
    · exact ⟨_, he, fun v q => nomatch q⟩
    · exact ⟨o, ho, fun v q => by rw [hd] at q; cases q⟩
  keep := fun i h h' st k => let ⟨⟨old, he⟩, hi, hne⟩ := st; ⟨⟨old, k e (by simp) _ he⟩, hi.at fun o q => k it (by simp) o q, hne⟩
  item := by
    intro X hP hw hK hc i pins s σ H E I hf st hg
    subst hP hw hK
    obtain ⟨⟨old, he⟩, hit, hne⟩ := st
    obtain ⟨xs, x, hq, hx⟩ := hg
    obtain ⟨its, rv, p, hz⟩ := I.tuple hq
    obtain ⟨u, hu, ru⟩ := rv.get hx
    have hu' : its.toArray[i]? = some u := by simpa using hu
    have hlt : i < its.toArray.size := (Array.getElem?_eq_some_iff.mp hu').1
    have D := PySem.Draws.tuple (prog := X.prog) (w := X.w) (A := X.A.in1) (I.ok.hd hc) it a hai its.toArray
    have hel : e < s.heap.objs.size := Heap.lt_size he
    have hil : it < s.heap.objs.size := let ⟨_, q, _⟩ := hit; Heap.lt_size q
    refine wpAny_pyNext_enum_itemD D he ⟨hit, p⟩ hlt hne (by simp [hne, Ne.symm hae]) fun y h' tk hy ho hst hT hsz hk => ?_
    have ey : y = u := by rw [hu'] at hy; exact (Option.some.inj hy).symm
    subst ey
    refine ⟨_, rfl, wpAny_letOwnedTupleGo_enum (s := { s with heap := h', toks := tk + 1 }) ho fun h'' he' sb => ?_⟩
    have hT2 : h''.get? s.heap.objs.size = some { cls := .type "tuple", data := .seq #[.int i tk, y] } := (sb.2 _ (Nat.ne_of_gt hel)).trans hT
    have new : ObjOk X.prog X.w (upd H s.heap.objs.size (.tup [.int (i : Nat), x])) h'' s.heap.objs.size (.tup [.int (i : Nat), x]) :=
      ⟨by show 2 ≤ sizeLine; decide, [.int i tk, y], .cons ⟨_, rfl⟩ (.cons ru .nil), ⟨_, hT2, rfl, _, rfl⟩⟩
    have I1 : Inv X pins σ (upd H s.heap.objs.size (.tup [.int (i : Nat), x])) { s with heap := h'', toks := tk + 1 } :=
      I.turnedNew (ch := [e, it]) (fun b ob hb q => (sb.2 b (fun z => hb (by simp [z]))).trans (hk b ob (fun z => hb (by simp [z])) (fun z => hb (by simp [z])) q)) hf (Nat.le_refl _) new
    refine ⟨.ref s.heap.objs.size, _, I1, rfl, ⟨_, x, rfl, I.hok.fresh (Nat.le_refl _), rfl, fun ys hy => by rw [I.tuple_inj hy hq]; exact hx⟩, ⟨⟨y, ?_⟩, hst.1.at fun o q => (sb.2 it (Ne.symm hne)).trans q, hne⟩, fun b hb => ?_⟩
    · rw [show ((i + 1 : Nat) : Int) = (i : Int) + 1 by omega]
      exact he'
    · have hb' : b < s.heap.objs.size := by
        rcases (show b = e ∨ b = it by simpa using hb) with rfl | rfl
        · exact hel
        · exact hil
      rw [upd_ne (Nat.ne_of_lt hb')]
      exact (hf b hb).1
  done := by
    intro X hP hw hK hc i pins s σ H E I hf st hg
    subst hP hw hK
    obtain ⟨⟨old, he⟩, hit, hne⟩ := st
    obtain ⟨xs, hq, hx⟩ := hg
    obtain ⟨its, rv, p, hz⟩ := I.tuple hq
    have hl := rv.length
    have D := PySem.Draws.tuple (prog := X.prog) (w := X.w) (A := X.A.in1) (I.ok.hd hc) it a hai its.toArray
    obtain ⟨f0, f1, f2, f3, f4, f5⟩ := hf it (by simp)
    refine wpAny_pyNext_enum_endD D he ⟨?_, p⟩ fun h' eb => ⟨rfl, I.turned (t' := s.toks) (fun b o hb q => eb b o hb q) f0 f1 f3 f4 f5⟩
    rw [List.size_toArray, ← hl, hx]
    exact hit
  self := fun A i s Q E st h => let ⟨⟨_, he⟩, _⟩ := st; wpAny_pyIter_enum he h
def iEnumT (K : PySem.W.Frag) (ta : TA) : TI := fun σ H R => ta σ H fun vs H1 => ∃ a xs, vs = [.ref a] ∧ SqT K H1 a xs ∧ R (IteT K a) H1
theorem pi_enumT {X : Cx} {e : Expr} {ta : TA} {p pos tpos : Pos} {elts : List Expr} {kk : Nat} (hg : Gl X "enumerate") (hm : X.mg "enumerate" = none) (ha : PA X [e] ta) (hs : starEach [e] X.env = [(false, eval e X.env)] := by rfl) :
    PI X (.Tuple elts kk tpos) (.Call (.Name "enumerate" p) [e] [] pos) (iEnumT X.K ta) := by
  refine ⟨fun pins s σ H R I h => ?_⟩
  refine wpAny_Call_Name_kw (ld_blt I hg hm boot_enumerate (PyProof.Rows.callWith_type1 (thn (ha.run pos pins s σ H _ I h) fun us s1 ⟨vs, H1, I1, r1, q1⟩ => ?_) hs rfl))
  obtain ⟨a, xs, ex, hq, q⟩ := q1
  subst ex
  rw [Vals.ref1 r1]
  obtain ⟨its, rv, pt, hz⟩ := I1.tuple hq
  have la : a < s1.heap.objs.size := let ⟨_, ho, _⟩ := pt; Heap.lt_size ho
  refine enum_of_tuple (show s1.heap.IsTuple a its.toArray from pt) fun h' he hit hk => wpAny_pyIter_enum he ?_
  have I2 : Inv X pins σ H1 { s1 with heap := h' } := I1.kept (t' := s1.toks) hk
  refine ⟨s1.heap.objs.size + 1, [s1.heap.objs.size + 1, s1.heap.objs.size], _, _, H1, rfl, I2, turn_enumT a (s1.heap.objs.size + 1) s1.heap.objs.size (Nat.ne_of_lt (Nat.lt_succ_of_lt la)) (Nat.ne_of_lt la), ⟨⟨.none, he⟩, hit, Nat.succ_ne_self _⟩, fun b hb => ?_, q⟩
  have hle : s1.heap.objs.size ≤ b := by
    rcases (show b = s1.heap.objs.size + 1 ∨ b = s1.heap.objs.size by simpa using hb) with z | z
    · rw [z]; exact Nat.le_add_right _ _
    · rw [z]; exact Nat.le_refl _
  exact I1.fpOk hle (I1.hok.fresh hle)
theorem for_enumT {K : PySem.W.Frag} {a : Addr} {xs : List V} {g : TG} {tb : L2.TS} {D : Ends} {σ : L2.St} {H : Hp} (Pv : Nat → L2.St → Hp → Prop) (h0 : Pv 0 σ H) (hl : ∀ i σ H, i ≤ xs.length → Pv i σ H → SqT K H a xs)
    (hs : ∀ (i : Nat) (x : V) (T : Addr) (σ : L2.St) (H : Hp), xs[i]? = some x → Pv i σ H → H T = none → g (.ref T) σ (upd H T (.tup [.int (i : Nat), x])) fun σ2 H2 => tb { D with nx := Pv (i + 1), ct := Pv (i + 1), bk := D.nx } σ2 H2) (hd : ∀ σ H, Pv xs.length σ H → D.nx σ H) :
    ∃ W : Nat → Nat → L2.St → Hp → Prop, (∃ m, W 0 m σ H) ∧ ∀ i m σ H, W i m σ H →
      ((IteT K a).stop i H ∧ D.nx σ H) ∨ ((IteT K a).go i H ∧ ∃ N : L2.St → Hp → Prop, (∀ σ' H', N σ' H' → ∃ m', m' < m ∧ W (i + 1) m' σ' H') ∧ ∀ y H', (IteT K a).yld i H y H' → g y σ H' fun σ2 H2 => tb { D with nx := N, ct := N, bk := D.nx } σ2 H2) := by
  refine ⟨fun i m σ H => m = xs.length - i ∧ i ≤ xs.length ∧ Pv i σ H, ⟨xs.length, rfl, Nat.zero_le _, h0⟩, ?_⟩
  rintro i m σ H ⟨rfl, hi, p⟩
  have q := hl i σ H hi p
  by_cases hlt : i < xs.length
  · refine .inr ⟨⟨xs, xs[i], q, List.getElem?_eq_getElem hlt⟩, Pv (i + 1), fun σ' H' p' => ⟨xs.length - (i + 1), by omega, rfl, hlt, p'⟩, fun y H' hy => ?_⟩
    obtain ⟨T, x, rfl, hT, rfl, hx⟩ := hy
    exact hs i x T σ H (hx xs q) p hT
  · have e : i = xs.length := by omega
    refine .inl ⟨⟨xs, q, e.symm⟩, hd σ H ?_⟩
    rw [← e]
    exact p

/-! ### tuples whose one object is known (so that their methods can be called) -/
section
variable {X : Cx}
def Fz (H : Hp) (p : Addr) (ys : List V) : Prop := ∃ o : Obj, H p = some (.frz o (.tup ys)) ∧ o.dict = none
theorem Fz.sq {K : PySem.W.Frag} {H : Hp} {p : Addr} {ys : List V} (h : Fz H p ys) : SqT K H p ys := by
  obtain ⟨o, h, _⟩ := h
  exact .inl (.inr ⟨o, h⟩)
theorem Fz.same {H H' : Hp} {p : Addr} {ys : List V} (h : Fz H p ys) (s : Same H H') : Fz H' p ys := by
  obtain ⟨o, h, d⟩ := h
  exact ⟨o, s _ _ h, d⟩
theorem call_tuple_fz : CallR X (.type "tuple") (fun xs H Q => ∃ p ys, xs = [.ref p] ∧ SqL X.K H p ys ∧ ∀ l o, H l = none → Fz (upd H l o) l ys → Q (.ref l) (upd H l o)) := by
  intro pins s σ H xs us Q I r h
  obtain ⟨p, ys, rfl, hq, q⟩ := h
  obtain ⟨u, rfl, rx⟩ := vals1 r
  cases rx
  obtain ⟨its, r', pl, hz⟩ := I.list hq
  have hlen := r'.length
  refine call_tuple_list pl.isList (fun h' kp => ?_) (by simp only [List.size_toArray] <;> omega)
  have I1 : Inv X pins σ H { s with heap := h' } := I.kept (t' := s.toks) kp
  have I2 : Inv X pins σ (upd H h'.objs.size (.frz { cls := .type "tuple", data := .seq its.toArray } (.tup ys))) { s with heap := h'.push { cls := .type "tuple", data := .seq its.toArray } } :=
    I1.laid (t' := s.toks) (fun b o e => Heap.get?_push_of_some _ e) (Nat.le_refl _) (show ObjOk X.prog X.w _ _ _ (.frz _ (.tup ys)) from ⟨Heap.get?_push_size _ rfl, hz, its, r', IsTup.new _ _⟩)
  exact ⟨.ref h'.objs.size, _, I2, rfl, q _ _ (I1.hok.fresh (Nat.le_refl _)) ⟨_, upd_same, rfl⟩⟩
def tBMT (r : V → List V → Hp → VK → Prop) (to : TE) (t : TA) : TE := fun σ H Q => to σ H fun x H1 => ∃ p ys, x = .ref p ∧ Fz H1 p ys ∧ t σ H1 fun vs H2 => r x vs H2 Q
theorem pe_bmT {name : Str} {id : String} {r : V → List V → Hp → VK → Prop} {o e : Expr} {es : List Expr} {to : TE} {t : TA} {apos cpos : Pos} (slot : Slot "tuple" name id) (hty : typeOf (.builtin id) = pure (.type "method_descriptor")) (hm : MtR X id r) (ho : PE X o to) (ha : PA X (e :: es) t)
    (hbase : attributeBase o name X.env (eval o X.env) = eval o X.env := by rfl)
    (hfew : ((backTo cpos (starEach (e :: es) X.env)).all (fun x => !x.1) && (backToKw cpos (keywordEach [] X.env)).all (fun x => x.1.isSome)
      && decide ((e :: es).length + ([] : List Keyword).length + (if ([] : List Keyword).isEmpty then 0 else 1) < 30)) = true := by rfl)
    (hline : (apos.endLine == cpos.line) = true := by rfl) (hs : starEach (e :: es) X.env = (false, eval e X.env) :: starEach es X.env := by rfl) (hplain : (backTo cpos (starEach es X.env)).any (·.1) = false := by rfl) :
    PE X (.Call (.Attribute o name apos) (e :: es) [] cpos) (tBMT r to t) := by
  refine ⟨fun pins s σ H Q I h => ?_⟩
  refine wpAny_Call_method_late hbase hfew hline rfl (thn (ho.run pins s σ H _ I h) fun v s1 ⟨x, H1, I1, r1, p, ys, ex, fz, q1⟩ => ?_)
  subst ex
  obtain ⟨ob, hob, hdn⟩ := fz
  obtain rfl : v = Value.ref p := r1
  obtain ⟨e1, _, its, rv, o2, e2, hc, _⟩ := I1.hok p _ hob
  refine ⟨"tuple", id, PySem.F.plainAttrs_tuple, slot, hty, ⟨o2, e2, hc⟩, (fun a ea => by cases ea; exact ⟨ob, e1, hdn⟩), ?_⟩
  have hA := ha.run cpos pins s1 σ H1 _ I1 q1
  rw [hs] at hA ⊢
  refine Calls.callWith_builtin (by show (false || (backTo cpos (starEach es X.env)).any (·.1)) = false; rw [hplain] <;> rfl) (Calls.evalArgs_plain ?_)
  exact thn hA fun us s2 ⟨vs, H2, I2, r2, q2⟩ => hm pins s2 σ H2 (.ref p) vs (.ref p) us Q I2 rfl r2 q2
end

/-! ### the value layer: what names hold, without the heap -/
/-- an item of a list of lists -/
inductive Itm where
  | d (x : PyData)
  | l (ys : List PyData)
inductive Cel where
  | no
  | dat (d : PyData)
  | own (xs : List PyData)
  | arg (xs : List PyData)
  /-- a list of one's own whose items may be lists of one's own; the same while one of these is at work -/
  | box (xs : List Itm)
  | pnd (xs : List Itm)
  /-- a dict of one's own, its values data -/
  | dic (kvs : List (Key × PyData))
  /-- a dict of one's own, its keys rows of ints -/
  | dit (kvs : List (List Int × PyData))
  /-- a locked dict that is being walked -/
  | lck (o : Obj) (ws : List (List Key × V)) (kvs : List (List Int × PyData))
  /-- an error at a that is handled, its dict at d, what stands in it -/
  | exn (a d : Addr) (fs : List (Str × PyData))
  /-- two tuples that are walked together, the second one at b -/
  | two (b : Addr) (xs ys : List PyData)
  | drw
  | bor (i : Nat)
  /-- the k-th list in the list of slot i -/
  | sub (i k : Nat)
abbrev PEnv := List Cel
abbrev Stk := List (V × Cel)
def FzV (H : Hp) (v : V) : Prop := ∃ p ys, v = .ref p ∧ Fz H p ys
/-- a row of ints, as a dict's key -/
abbrev ikey (ks : List Int) : List Key := ks.map Sum.inl
mutual
/-- data in a heap; the lists in it stand at places of Z, which nobody writes; .dict [(_, t)] is a tuple t whose methods may be called -/
def Da (K : PySem.W.Frag) (Z : Addr → Prop) (H : Hp) : PyData → V → Prop
  | .none, v => v = .non
  | .bool b, v => v = .bl b
  | .int i, v => v = .int i
  | .str x, v => v = .str x
  | .tuple ds, v => ∃ a xs, v = .ref a ∧ SqT K H a xs ∧ DaAll K Z H ds xs
  | .list ds, v => ∃ a xs, v = .ref a ∧ Z a ∧ H a = some (.lst xs) ∧ DaAll K Z H ds xs
  | .dict kvs, v => DaKv K Z H kvs v
def DaAll (K : PySem.W.Frag) (Z : Addr → Prop) (H : Hp) : List PyData → List V → Prop
  | [], xs => xs = []
  | d :: ds, xs => ∃ v r, xs = v :: r ∧ Da K Z H d v ∧ DaAll K Z H ds r
def DaKv (K : PySem.W.Frag) (Z : Addr → Prop) (H : Hp) : List (PyData × PyData) → V → Prop
  | [], _ => False
  | (.bool _, _) :: r, v => ∃ (a : Addr) (o : Obj) (ws : List (List Key × V)), v = .ref a ∧ H a = some (.frz o (.dT ws)) ∧ DaEs K Z H r ws
  | (.int _, d) :: _, v => ∃ (a : Addr) (ks : List Int), v = .ref a ∧ H a = some (.tup (ks.map V.int)) ∧ d = .tuple (ks.map .int)
  | p :: _, v => DaPr K Z H p v
/-- a frozen dict's pairs -/
def DaEs (K : PySem.W.Frag) (Z : Addr → Prop) (H : Hp) : List (PyData × PyData) → List (List Key × V) → Prop
  | [], ws => ws = []
  | (k, d) :: r, ws => ∃ (v : V) (t : List (List Key × V)) (ks : List Int), ws = (ikey ks, v) :: t ∧ k = .tuple (ks.map .int) ∧ Da K Z H d v ∧ DaEs K Z H r t
def DaPr (K : PySem.W.Frag) (Z : Addr → Prop) (H : Hp) : PyData × PyData → V → Prop
  | (_, d), v => Da K Z H d v ∧ FzV H v
end
/-- a tuple whose methods may be called -/
def ftp (ds : List PyData) : PyData := .dict [(.none, .tuple ds)]
/-- a tuple of ints that may be a dict's key -/
def keyD (ks : List Int) : PyData := .dict [(.int 0, .tuple (ks.map .int))]
/-- a dict that nobody writes any more -/
def dicD (kvs : List (List Int × PyData)) : PyData := .dict ((.bool true, .none) :: kvs.map fun p => (.tuple (p.1.map .int), p.2))
/-- what may be written -/
def WrO (o : HO) : Prop := (∃ xs, o = .lst xs) ∨ (∃ kvs, o = .dK kvs) ∨ ∃ kvs, o = .dT kvs
/-- data stays -/
structure Mv (K : PySem.W.Frag) (Z : Addr → Prop) (H : Hp) (Z' : Addr → Prop) (H' : Hp) : Prop where
  tup : ∀ a xs, SqT K H a xs → SqT K H' a xs
  lst : ∀ a xs, Z a → H a = some (.lst xs) → Z' a ∧ H' a = some (.lst xs)
  fz : ∀ a xs, Fz H a xs → Fz H' a xs
  tb : ∀ a, GxR.TabG H a → GxR.TabG H' a
  ky : ∀ a xs, H a = some (.tup xs) → H' a = some (.tup xs)
  dt : ∀ a o ws, H a = some (.frz o (.dT ws)) → H' a = some (.frz o (.dT ws))
  xd : ∀ a fs, H a = some (.xd fs) → H' a = some (.xd fs)
theorem FzV.mv {K : PySem.W.Frag} {Z Z' : Addr → Prop} {H H' : Hp} (m : Mv K Z H Z' H') {v : V} : FzV H v → FzV H' v := fun ⟨p, ys, e, h⟩ => ⟨p, ys, e, m.fz p ys h⟩
mutual
theorem Da.mv {K : PySem.W.Frag} {Z Z' : Addr → Prop} {H H' : Hp} (m : Mv K Z H Z' H') : ∀ (d : PyData) (v : V), Da K Z H d v → Da K Z' H' d v
  | .none, _, h => h
  | .bool _, _, h => h
  | .int _, _, h => h
  | .str _, _, h => h
  | .tuple ds, _, ⟨a, xs, e, h1, h2⟩ => ⟨a, xs, e, m.tup _ _ h1, DaAll.mv m ds xs h2⟩
  | .list ds, _, ⟨a, xs, e, z, h1, h2⟩ => ⟨a, xs, e, (m.lst _ _ z h1).1, (m.lst _ _ z h1).2, DaAll.mv m ds xs h2⟩
  | .dict kvs, v, h => DaKv.mv m kvs v h
theorem DaAll.mv {K : PySem.W.Frag} {Z Z' : Addr → Prop} {H H' : Hp} (m : Mv K Z H Z' H') : ∀ (ds : List PyData) (xs : List V), DaAll K Z H ds xs → DaAll K Z' H' ds xs
  | [], _, h => h
  | d :: ds, _, ⟨v, r, e, h1, h2⟩ => ⟨v, r, e, Da.mv m d v h1, DaAll.mv m ds r h2⟩
theorem DaKv.mv {K : PySem.W.Frag} {Z Z' : Addr → Prop} {H H' : Hp} (m : Mv K Z H Z' H') : ∀ (kvs : List (PyData × PyData)) (v : V), DaKv K Z H kvs v → DaKv K Z' H' kvs v
  | [], _, h => h
  | (.bool _, _) :: r, _, ⟨a, o, ws, e, h1, h2⟩ => ⟨a, o, ws, e, m.dt _ _ _ h1, DaEs.mv m r ws h2⟩
  | (.int _, d) :: _, v, ⟨a, ks, e, h1, h2⟩ => ⟨a, ks, e, m.ky _ _ h1, h2⟩
  | (.none, d) :: _, v, h => DaPr.mv m (.none, d) v h
  | (.str x, d) :: _, v, h => DaPr.mv m (.str x, d) v h
  | (.tuple x, d) :: _, v, h => DaPr.mv m (.tuple x, d) v h
  | (.list x, d) :: _, v, h => DaPr.mv m (.list x, d) v h
  | (.dict x, d) :: _, v, h => DaPr.mv m (.dict x, d) v h
theorem DaEs.mv {K : PySem.W.Frag} {Z Z' : Addr → Prop} {H H' : Hp} (m : Mv K Z H Z' H') : ∀ (kvs : List (PyData × PyData)) (ws : List (List Key × V)), DaEs K Z H kvs ws → DaEs K Z' H' kvs ws
  | [], _, h => h
  | (k, d) :: r, _, ⟨v, t, ks, e, e2, h1, h2⟩ => ⟨v, t, ks, e, e2, Da.mv m d v h1, DaEs.mv m r t h2⟩
theorem DaPr.mv {K : PySem.W.Frag} {Z Z' : Addr → Prop} {H H' : Hp} (m : Mv K Z H Z' H') : ∀ (p : PyData × PyData) (v : V), DaPr K Z H p v → DaPr K Z' H' p v
  | (_, d), v, h => ⟨Da.mv m d v h.1, FzV.mv m h.2⟩
end
mutual
theorem Da.dp {K : PySem.W.Frag} {Z : Addr → Prop} {H : Hp} : ∀ (d : PyData) (v : V), PyData.canLay0 d = true → Da K Z H d v → Dp K H v d
  | .none, _, _, h => by cases h; exact .non
  | .bool b, _, _, h => by cases h; exact .bl b
  | .int i, _, _, h => by cases h; exact .int i
  | .str x, _, _, h => by cases h; exact .str x
  | .tuple ds, _, l, ⟨a, xs, e, h1, h2⟩ => by subst e; exact .tup h1 (DaAll.dp ds xs l h2)
  | .list ds, _, l, ⟨a, xs, e, _, h1, h2⟩ => by subst e; exact .lst (SqL.of h1) (DaAll.dp ds xs l h2)
  | .dict _, _, l, _ => by cases l
theorem DaAll.dp {K : PySem.W.Frag} {Z : Addr → Prop} {H : Hp} : ∀ (ds : List PyData) (xs : List V), PyData.canLayAll0 ds = true → DaAll K Z H ds xs → DpAll K H xs ds
  | [], _, _, h => by cases h; exact .nil
  | d :: ds, _, l, ⟨v, r, e, h1, h2⟩ => by
    have l' : (PyData.canLay0 d && PyData.canLayAll0 ds) = true := l
    rw [Bool.and_eq_true] at l'
    subst e
    exact .cons (Da.dp d v l'.1 h1) (DaAll.dp ds r l'.2 h2)
end
section
variable {K : PySem.W.Frag} {Z Z' : Addr → Prop} {H H' : Hp}
theorem Mv.ofT (W : Addr → Prop) (k : ∀ b o, H b = some o → (∀ ps, o ≠ .tbl ps) → ¬ W b → H' b = some o) (w : ∀ b, W b → ∃ o, H b = some o ∧ WrO o ∧ ¬ Z b) (z : ∀ a, Z a → Z' a) (tb : ∀ a, GxR.TabG H a → GxR.TabG H' a) : Mv K Z H Z' H' := by
  refine ⟨fun a xs h => ?_, fun a xs hz h => ⟨z _ hz, ?_⟩, fun a xs ⟨o, h, hd⟩ => ⟨o, k a _ h (fun _ z => by cases z) fun h' => ?_, hd⟩, tb, fun a xs h => k a _ h (fun _ z => by cases z) fun h' => ?_, fun a o ws h => k a _ h (fun _ z => by cases z) fun h' => ?_, fun a fs h => k a _ h (fun _ z => by cases z) fun h' => ?_⟩
  · have nw : ∀ o, H a = some o → ¬ WrO o → (∀ ps, o ≠ .tbl ps) → H' a = some o := fun o e n n2 => k a o e n2 fun h => by
      obtain ⟨o', e2, w', _⟩ := w a h
      rw [e] at e2
      cases e2
      exact n w'
    rcases h with (h | ⟨o, h⟩) | h
    · exact .inl (.inl (nw _ h (by rintro (⟨_, z⟩ | ⟨_, z⟩ | ⟨_, z⟩) <;> cases z) fun _ z => by cases z))
    · exact .inl (.inr ⟨o, nw _ h (by rintro (⟨_, z⟩ | ⟨_, z⟩ | ⟨_, z⟩) <;> cases z) fun _ z => by cases z⟩)
    · exact .inr h
  · have nw : ¬ W a := fun h => by
      obtain ⟨_, _, _, n⟩ := w a h
      exact n hz
    exact k _ _ h (fun _ z => by cases z) nw
  · obtain ⟨o', e2, w', _⟩ := w a h'
    rw [h] at e2
    cases e2
    rcases w' with ⟨_, z⟩ | ⟨_, z⟩ | ⟨_, z⟩ <;> cases z
  · obtain ⟨o', e2, w', _⟩ := w a h'
    rw [h] at e2
    cases e2
    rcases w' with ⟨_, z⟩ | ⟨_, z⟩ | ⟨_, z⟩ <;> cases z
  · obtain ⟨o', e2, w', _⟩ := w a h'
    rw [h] at e2
    cases e2
    rcases w' with ⟨_, z⟩ | ⟨_, z⟩ | ⟨_, z⟩ <;> cases z
  · obtain ⟨o', e2, w', _⟩ := w a h'
    rw [h] at e2
    cases e2
    rcases w' with ⟨_, z⟩ | ⟨_, z⟩ | ⟨_, z⟩ <;> cases z
theorem Mv.ofW (W : Addr → Prop) (k : ∀ b o, H b = some o → ¬ W b → H' b = some o) (w : ∀ b, W b → ∃ o, H b = some o ∧ WrO o ∧ ¬ Z b) (z : ∀ a, Z a → Z' a) : Mv K Z H Z' H' :=
  Mv.ofT W (fun b o e _ n => k b o e n) w z fun a ⟨ps, e, t⟩ => ⟨ps, k a _ e (fun h => by
    obtain ⟨o', e2, w', _⟩ := w a h
    rw [e] at e2
    cases e2
    rcases w' with ⟨_, z⟩ | ⟨_, z⟩ | ⟨_, z⟩
    · cases z
    · cases z
    · cases z), t⟩
theorem Mv.of (W : Addr → Prop) (k : ∀ b o, H b = some o → ¬ W b → H' b = some o) (w : ∀ b, W b → ∃ xs, H b = some (.lst xs) ∧ ¬ Z b) (z : ∀ a, Z a → Z' a) : Mv K Z H Z' H' :=
  Mv.ofW W k (fun b h => by
    obtain ⟨xs, e, n⟩ := w b h
    exact ⟨_, e, .inl ⟨xs, rfl⟩, n⟩) z
theorem Mv.same (s : Same H H') (z : ∀ a, Z a → Z' a) : Mv K Z H Z' H' := Mv.of (fun _ => False) (fun b o e _ => s b o e) (fun _ h => h.elim) z
theorem Mv.wr {l : Addr} {xs : List V} {o : HO} (h : H l = some (.lst xs)) (n : ¬ Z l) : Mv K Z H Z (upd H l o) :=
  Mv.of (fun b => b = l) (fun b u e n => upd_else e n) (fun b e => by subst e; exact ⟨xs, h, n⟩) fun _ z => z
theorem DaAll.len : ∀ (ds : List PyData) (xs : List V), DaAll K Z H ds xs → xs.length = ds.length
  | [], _, h => by cases h; rfl
  | _ :: ds, _, ⟨v, r, e, _, h2⟩ => by subst e; exact congrArg Nat.succ (DaAll.len ds r h2)
theorem DaAll.app : ∀ (ds es : List PyData) (xs ys : List V), DaAll K Z H ds xs → DaAll K Z H es ys → DaAll K Z H (ds ++ es) (xs ++ ys)
  | [], _, _, _, h, k => by cases h; exact k
  | _ :: ds, es, _, ys, ⟨v, r, e, h1, h2⟩, k => by subst e; exact ⟨v, r ++ ys, rfl, h1, DaAll.app ds es r ys h2 k⟩
theorem DaAll.ints : ∀ ks : List Int, DaAll K Z H (ks.map .int) (ks.map V.int)
  | [] => rfl
  | i :: ks => ⟨.int i, ks.map V.int, rfl, rfl, DaAll.ints ks⟩
theorem DaAll.one {d : PyData} {v : V} (h : Da K Z H d v) : DaAll K Z H [d] [v] := ⟨v, [], rfl, h, rfl⟩
theorem DaAll.tk : ∀ (n : Nat) (ds : List PyData) (xs : List V), DaAll K Z H ds xs → DaAll K Z H (ds.take n) (xs.take n)
  | 0, _, _, _ => by simp only [List.take_zero]; exact rfl
  | _ + 1, [], _, h => by cases h; exact rfl
  | n + 1, _ :: ds, _, ⟨v, r, e, h1, h2⟩ => by subst e; exact ⟨v, r.take n, rfl, h1, DaAll.tk n ds r h2⟩
theorem DaAll.dr : ∀ (n : Nat) (ds : List PyData) (xs : List V), DaAll K Z H ds xs → DaAll K Z H (ds.drop n) (xs.drop n)
  | 0, _, _, h => h
  | _ + 1, [], _, h => by cases h; exact rfl
  | n + 1, _ :: ds, _, ⟨v, r, e, h1, h2⟩ => by subst e; exact DaAll.dr n ds r h2
theorem DaAll.at : ∀ (i : Nat) (ds : List PyData) (xs : List V) (d : PyData), DaAll K Z H ds xs → ds[i]? = some d → ∃ v, xs[i]? = some v ∧ Da K Z H d v
  | _, [], _, _, _, e => by simp at e
  | 0, _ :: ds, _, d, ⟨v, r, e, h1, h2⟩, k => by
    subst e
    simp at k
    subst k
    exact ⟨v, rfl, h1⟩
  | i + 1, _ :: ds, _, d, ⟨v, r, e, h1, h2⟩, k => by
    subst e
    obtain ⟨u, e1, e2⟩ := DaAll.at i ds r d h2 (by simpa using k)
    exact ⟨u, by simpa using e1, e2⟩
theorem DaAll.at' : ∀ (i : Nat) (ds : List PyData) (xs : List V) (v : V), DaAll K Z H ds xs → xs[i]? = some v → ∃ d, ds[i]? = some d ∧ Da K Z H d v := fun i ds xs v h e => by
  have l := h.len
  have hi : i < ds.length := by
    have := (List.getElem?_eq_some_iff.mp e).1
    omega
  obtain ⟨u, e1, e2⟩ := DaAll.at i ds xs _ h (List.getElem?_eq_getElem hi)
  rw [e] at e1
  cases e1
  exact ⟨_, List.getElem?_eq_getElem hi, e2⟩
theorem DaAll.set : ∀ (i : Nat) (ds : List PyData) (xs : List V) (d : PyData) (v : V), DaAll K Z H ds xs → Da K Z H d v → DaAll K Z H (ds.set i d) (xs.set i v)
  | _, [], _, _, _, h, _ => by cases h; exact rfl
  | 0, _ :: ds, _, d, v, ⟨u, r, e, h1, h2⟩, k => by subst e; exact ⟨v, r, rfl, k, h2⟩
  | i + 1, _ :: ds, _, d, v, ⟨u, r, e, h1, h2⟩, k => by subst e; exact ⟨u, r.set i v, rfl, h1, DaAll.set i ds r d v h2 k⟩
theorem DaAll.ins : ∀ (ds es : List PyData) (xs ys : List V), DaAll K Z H ds xs → DaAll K Z H es ys → DaAll K Z H (ds ++ es) (xs ++ ys) := DaAll.app
end
/-- what stays the same through a def's run -/
structure Gam where
  dc : Option (Addr × Addr)
  H0 : Hp
  Z0 : Addr → Prop
  M0 : Addr → Prop
  V0 : List V
  /-- the tables of code objects, which may grow -/
  tbs : List Addr
structure Gam.Ok (G : Gam) : Prop where
  w1 : ∀ a, G.Z0 a → G.H0 a ≠ none
  w2 : ∀ a, G.M0 a → ¬ G.Z0 a ∧ ∃ o, G.H0 a = some o ∧ WrO o
  w3 : ∀ d c, G.dc = some (d, c) → ¬ G.Z0 d ∧ ¬ G.Z0 c ∧ ¬ G.M0 d ∧ ¬ G.M0 c ∧ G.H0 d ≠ none ∧ G.H0 c ≠ none
/-- the addresses of the lists in a list -/
def subs : List Itm → List V → List Addr
  | .l _ :: xs, .ref b :: vs => b :: subs xs vs
  | _ :: xs, _ :: vs => subs xs vs
  | _, _ => []
def ItAll (K : PySem.W.Frag) (Z : Addr → Prop) (H : Hp) : List Itm → List V → Prop
  | [], vs => vs = []
  | .d x :: xs, vs => ∃ v r, vs = v :: r ∧ Da K Z H x v ∧ ItAll K Z H xs r
  | .l ys :: xs, vs => ∃ b us r, vs = .ref b :: r ∧ H b = some (.lst us) ∧ DaAll K Z H ys us ∧ ItAll K Z H xs r
/-- what a cell owns -/
def celFoot (H : Hp) (p : Cel) (ov : Option V) : List Addr := match p, ov with
  | .own _, some (.ref a) => [a]
  | .arg _, some (.ref a) => [a]
  | .box xs, some (.ref a) => a :: (match H a with
    | some (.lst vs) => subs xs vs
    | _ => [])
  | .pnd xs, some (.ref a) => a :: (match H a with
    | some (.lst vs) => subs xs vs
    | _ => [])
  | .dic _, some (.ref a) => [a]
  | .dit _, some (.ref a) => [a]
  | _, _ => []
def OwnS (H : Hp) (σ : L2.St) (env : PEnv) (i : Nat) (b : Addr) : Prop := ∃ ov p, σ[i]? = some ov ∧ env[i]? = some p ∧ b ∈ celFoot H p ov
def OwnT (H : Hp) (t : V × Cel) (b : Addr) : Prop := b ∈ celFoot H t.2 (some t.1)
def BoxOk (K : PySem.W.Frag) (G : Gam) (Z : Addr → Prop) (H : Hp) (ov : Option V) (xs : List Itm) : Prop := ∃ a vs, ov = some (.ref a) ∧ H a = some (.lst vs) ∧ ItAll K Z H xs vs ∧ (∀ b ∈ a :: subs xs vs, ¬ Z b ∧ G.H0 b = none) ∧ (a :: subs xs vs).Nodup
/-- a dict's pairs -/
def KvAll (K : PySem.W.Frag) (Z : Addr → Prop) (H : Hp) : List (Key × PyData) → List (Key × V) → Prop
  | [], ws => ws = []
  | p :: kvs, ws => ∃ v r, ws = (p.1, v) :: r ∧ Da K Z H p.2 v ∧ KvAll K Z H kvs r
/-- the same, its keys rows of ints -/
def KtAll (K : PySem.W.Frag) (Z : Addr → Prop) (H : Hp) : List (List Int × PyData) → List (List Key × V) → Prop
  | [], ws => ws = []
  | p :: kvs, ws => ∃ v r, ws = (ikey p.1, v) :: r ∧ Da K Z H p.2 v ∧ KtAll K Z H kvs r
/-- an error's fields -/
def XdAll (K : PySem.W.Frag) (Z : Addr → Prop) (H : Hp) : List (Str × PyData) → List (Str × V) → Prop
  | [], ws => ws = []
  | p :: kvs, ws => ∃ v r, ws = (p.1, v) :: r ∧ Da K Z H p.2 v ∧ XdAll K Z H kvs r
def CelOk (K : PySem.W.Frag) (G : Gam) (Z : Addr → Prop) (H : Hp) : Option V → Cel → Prop
  | _, .no => True
  | ov, .dat d => ∃ v, ov = some v ∧ Da K Z H d v
  | ov, .own xs => ∃ a vs, ov = some (.ref a) ∧ H a = some (.lst vs) ∧ DaAll K Z H xs vs ∧ ¬ Z a ∧ G.H0 a = none
  | ov, .arg xs => ∃ a vs, ov = some (.ref a) ∧ H a = some (.lst vs) ∧ DaAll K Z H xs vs ∧ ¬ Z a ∧ G.M0 a
  | ov, .box xs => BoxOk K G Z H ov xs
  | ov, .pnd xs => BoxOk K G Z H ov xs
  | ov, .dic kvs => ∃ a ws, ov = some (.ref a) ∧ H a = some (.dK ws) ∧ KvAll K Z H kvs ws ∧ ¬ Z a ∧ G.H0 a = none
  | ov, .dit kvs => ∃ a ws, ov = some (.ref a) ∧ H a = some (.dT ws) ∧ KtAll K Z H kvs ws ∧ ¬ Z a ∧ G.H0 a = none
  | ov, .lck o ws kvs => ∃ a, ov = some (.ref a) ∧ H a = some (.frz o (.dT ws)) ∧ KtAll K Z H kvs ws
  | ov, .exn a d fs => ∃ ws, ov = some (.ref a) ∧ H d = some (.xd ws) ∧ XdAll K Z H fs ws
  | ov, .two b xs ys => ∃ v, ov = some v ∧ Da K Z H (.tuple xs) v ∧ Da K Z H (.tuple ys) (.ref b)
  | ov, .drw => ∃ d c, G.dc = some (d, c) ∧ ov = some (.ref d)
  | ov, .bor _ => ∃ v, ov = some v
  | ov, .sub _ _ => ∃ v, ov = some v
/-- may be borrowed -/
def Lendable : Cel → Prop
  | .own _ => True
  | .arg _ => True
  | .box _ => True
  | .pnd _ => True
  | .dic _ => True
  | .dit _ => True
  | .dat (.list _) => True
  | _ => False
structure StZ (K : PySem.W.Frag) (G : Gam) (Z : Addr → Prop) (H : Hp) (σ : L2.St) (env : PEnv) (T : Stk) : Prop where
  gok : G.Ok
  sl : ∀ (i : Nat) (p : Cel), env[i]? = some p → ∃ ov : Option V, σ[i]? = some ov ∧ CelOk K G Z H ov p
  tm : ∀ t ∈ T, CelOk K G Z H (some t.1) t.2
  bo : ∀ t ∈ T, ∀ i : Nat, t.2 = Cel.bor i → σ[i]? = some (some t.1) ∧ ∃ c, env[i]? = some c ∧ Lendable c
  pn : ∀ t ∈ T, ∀ i k : Nat, t.2 = Cel.sub i k → ∃ a vs xs, σ[i]? = some (some (.ref a)) ∧ env[i]? = some (Cel.pnd xs) ∧ H a = some (.lst vs) ∧ vs[k]? = some t.1
  pu : T.Pairwise (fun t u => ∀ i k k', t.2 = Cel.sub i k → u.2 ≠ Cel.sub i k')
  s1 : ∀ i j a, OwnS H σ env i a → OwnS H σ env j a → i = j
  s2 : T.Pairwise (fun t u => ∀ a, OwnT H t a → ¬ OwnT H u a)
  s3 : ∀ i a t, OwnS H σ env i a → t ∈ T → ¬ OwnT H t a
  ta : ∀ t ∈ T, ∀ xs, t.2 ≠ Cel.arg xs
  ar : ∀ (j : Nat) xs, env[j]? = some (Cel.arg xs) → ∃ v : V, G.V0[j]? = some v ∧ σ[j]? = some (some v)
  z1 : ∀ a, G.Z0 a → Z a
  z2 : ∀ a, Z a → G.Z0 a ∨ G.H0 a = none
  z3 : ∀ a, Z a → H a ≠ none
  fr : ∀ b o, G.H0 b = some o → (∀ ps, o ≠ .tbl ps) → ¬ G.M0 b → (∀ d c, G.dc = some (d, c) → b ≠ d) → H b = some o
  al : ∀ b, G.H0 b ≠ none → H b ≠ none
  dr : ∀ d c, G.dc = some (d, c) → Dr d c H
  tb : ∀ b, GxR.TabG G.H0 b → GxR.TabG H b
  tk : ∀ b ∈ G.tbs, GxR.TabG H b
def StE (K : PySem.W.Frag) (G : Gam) (H : Hp) (σ : L2.St) (env : PEnv) (T : Stk) : Prop := ∃ Z, StZ K G Z H σ env T

section
variable {K : PySem.W.Frag} {G : Gam} {Z Z' : Addr → Prop} {H H' : Hp} {σ : L2.St} {env : PEnv} {T : Stk}
def OwnA (H : Hp) (σ : L2.St) (env : PEnv) (T : Stk) (a : Addr) : Prop := (∃ i, OwnS H σ env i a) ∨ ∃ t ∈ T, OwnT H t a
theorem ItAll.subs_at : ∀ {xs : List Itm} {vs : List V} {b : Addr}, ItAll K Z H xs vs → b ∈ subs xs vs → ∃ us, H b = some (.lst us)
  | [], _, _, h, hb => by cases h; cases hb
  | .d x :: xs, _, b, ⟨v, r, e, h1, h2⟩, hb => by subst e; exact ItAll.subs_at h2 hb
  | .l ys :: xs, _, b, ⟨c, us, r, e, h1, h2, h3⟩, hb => by
    subst e
    rcases List.mem_cons.mp hb with rfl | hb
    · exact ⟨us, h1⟩
    · exact ItAll.subs_at h3 hb
theorem ItAll.mv (m : Mv K Z H Z' H') : ∀ {xs : List Itm} {vs : List V}, (∀ b us, b ∈ subs xs vs → H b = some (.lst us) → H' b = some (.lst us)) → ItAll K Z H xs vs → ItAll K Z' H' xs vs
  | [], _, _, h => h
  | .d x :: xs, _, k, ⟨v, r, e, h1, h2⟩ => by subst e; exact ⟨v, r, rfl, Da.mv m _ _ h1, ItAll.mv m k h2⟩
  | .l ys :: xs, _, k, ⟨c, us, r, e, h1, h2, h3⟩ => by
    subst e
    exact ⟨c, us, r, rfl, k c us List.mem_cons_self h1, DaAll.mv m _ _ h2, ItAll.mv m (fun b us hb => k b us (List.mem_cons_of_mem _ hb)) h3⟩
theorem ItAll.len : ∀ {xs : List Itm} {vs : List V}, ItAll K Z H xs vs → vs.length = xs.length
  | [], _, h => by cases h; rfl
  | .d x :: xs, _, ⟨v, r, e, h1, h2⟩ => by subst e; exact congrArg Nat.succ (ItAll.len h2)
  | .l ys :: xs, _, ⟨c, us, r, e, h1, h2, h3⟩ => by subst e; exact congrArg Nat.succ (ItAll.len h3)
theorem BoxOk.foot {ov : Option V} {xs : List Itm} (h : BoxOk K G Z H ov xs) : ∃ a vs, ov = some (.ref a) ∧ H a = some (.lst vs) ∧ celFoot H (.box xs) ov = a :: subs xs vs ∧ celFoot H (.pnd xs) ov = a :: subs xs vs := by
  obtain ⟨a, vs, rfl, h1, _⟩ := h
  have e : ∀ z : List V, H a = some (.lst z) → (a :: (match H a with | some (.lst vs) => subs xs vs | _ => [])) = a :: subs xs z := fun z h => by rw [h]
  exact ⟨a, vs, rfl, h1, e vs h1, e vs h1⟩
/-- what is owned is a list, not frozen, one's own or handed down -/
theorem CelOk.own {ov : Option V} {p : Cel} {b : Addr} (h : CelOk K G Z H ov p) (hb : b ∈ celFoot H p ov) : (∃ o, H b = some o ∧ WrO o) ∧ ¬ Z b ∧ (G.H0 b = none ∨ G.M0 b) := by
  have bx : ∀ {xs}, BoxOk K G Z H ov xs → (∃ a vs, ov = some (.ref a) ∧ H a = some (.lst vs) ∧ b ∈ a :: subs xs vs) → (∃ o, H b = some o ∧ WrO o) ∧ ¬ Z b ∧ (G.H0 b = none ∨ G.M0 b) := fun {xs} ⟨a, vs, e, h1, h2, h3, _⟩ ⟨a', vs', e', h1', hm⟩ => by
    rw [e] at e'
    cases e'
    rw [h1] at h1'
    cases h1'
    refine ⟨?_, (h3 b hm).1, .inl (h3 b hm).2⟩
    rcases List.mem_cons.mp hm with rfl | hm
    · exact ⟨_, h1, .inl ⟨vs, rfl⟩⟩
    · obtain ⟨us, e⟩ := ItAll.subs_at h2 hm
      exact ⟨_, e, .inl ⟨us, rfl⟩⟩
  cases p with
  | own xs =>
    obtain ⟨a, vs, rfl, h1, h2, h3, h4⟩ := h
    rw [List.mem_singleton.mp hb]
    exact ⟨⟨_, h1, .inl ⟨vs, rfl⟩⟩, h3, .inl h4⟩
  | arg xs =>
    obtain ⟨a, vs, rfl, h1, h2, h3, h4⟩ := h
    rw [List.mem_singleton.mp hb]
    exact ⟨⟨_, h1, .inl ⟨vs, rfl⟩⟩, h3, .inr h4⟩
  | box xs =>
    obtain ⟨a, vs, e, h1, e1, e2⟩ := BoxOk.foot h
    exact bx h ⟨a, vs, e, h1, e1 ▸ hb⟩
  | pnd xs =>
    obtain ⟨a, vs, e, h1, e1, e2⟩ := BoxOk.foot h
    exact bx h ⟨a, vs, e, h1, e2 ▸ hb⟩
  | dic kvs =>
    obtain ⟨a, ws, rfl, h1, h2, h3, h4⟩ := h
    rw [List.mem_singleton.mp hb]
    exact ⟨⟨_, h1, .inr (.inl ⟨ws, rfl⟩)⟩, h3, .inl h4⟩
  | dit kvs =>
    obtain ⟨a, ws, rfl, h1, h2, h3, h4⟩ := h
    rw [List.mem_singleton.mp hb]
    exact ⟨⟨_, h1, .inr (.inr ⟨ws, rfl⟩)⟩, h3, .inl h4⟩
  | _ => cases ov <;> cases hb
theorem KvAll.mv (m : Mv K Z H Z' H') : ∀ (kvs : List (Key × PyData)) (ws : List (Key × V)), KvAll K Z H kvs ws → KvAll K Z' H' kvs ws
  | [], _, h => h
  | _ :: kvs, _, ⟨v, r, e, h1, h2⟩ => ⟨v, r, e, Da.mv m _ _ h1, KvAll.mv m kvs r h2⟩
theorem KtAll.mv (m : Mv K Z H Z' H') : ∀ (kvs : List (List Int × PyData)) (ws : List (List Key × V)), KtAll K Z H kvs ws → KtAll K Z' H' kvs ws
  | [], _, h => h
  | _ :: kvs, _, ⟨v, r, e, h1, h2⟩ => ⟨v, r, e, Da.mv m _ _ h1, KtAll.mv m kvs r h2⟩
theorem XdAll.mv (m : Mv K Z H Z' H') : ∀ (kvs : List (Str × PyData)) (ws : List (Str × V)), XdAll K Z H kvs ws → XdAll K Z' H' kvs ws
  | [], _, h => h
  | _ :: kvs, _, ⟨v, r, e, h1, h2⟩ => ⟨v, r, e, Da.mv m _ _ h1, XdAll.mv m kvs r h2⟩
/-- a cell stays as it is -/
theorem CelOk.mv {ov : Option V} {p : Cel} (m : Mv K Z H Z' H') (kp : ∀ b o, b ∈ celFoot H p ov → H b = some o → H' b = some o) (nz : ∀ b ∈ celFoot H p ov, ¬ Z' b) (h : CelOk K G Z H ov p) : CelOk K G Z' H' ov p ∧ celFoot H' p ov = celFoot H p ov := by
  cases p with
  | no => exact ⟨trivial, by cases ov <;> rfl⟩
  | dat d => obtain ⟨v, e, h⟩ := h; exact ⟨⟨v, e, Da.mv m _ _ h⟩, by cases ov <;> rfl⟩
  | own xs =>
    obtain ⟨a, vs, rfl, h1, h2, h3, h4⟩ := h
    exact ⟨⟨a, vs, rfl, kp a _ List.mem_cons_self h1, DaAll.mv m _ _ h2, nz a List.mem_cons_self, h4⟩, rfl⟩
  | arg xs =>
    obtain ⟨a, vs, rfl, h1, h2, h3, h4⟩ := h
    exact ⟨⟨a, vs, rfl, kp a _ List.mem_cons_self h1, DaAll.mv m _ _ h2, nz a List.mem_cons_self, h4⟩, rfl⟩
  | box xs =>
    obtain ⟨a, vs, e, h1, e1, _⟩ := BoxOk.foot h
    obtain ⟨a', vs', e', h1', h2, h3, h4⟩ := h
    rw [e] at e'
    cases e'
    rw [h1] at h1'
    cases h1'
    rw [e1] at kp nz
    have k1 := kp a _ List.mem_cons_self h1
    have ok : BoxOk K G Z' H' ov xs := ⟨a, vs, e, k1, ItAll.mv m (fun b us hb => kp b _ (List.mem_cons_of_mem _ hb)) h2, fun b hb => ⟨nz b hb, (h3 b hb).2⟩, h4⟩
    refine ⟨ok, ?_⟩
    rw [e1]
    subst e
    show a :: (match H' a with | some (.lst vs) => subs xs vs | _ => []) = _
    rw [k1]
  | pnd xs =>
    obtain ⟨a, vs, e, h1, _, e1⟩ := BoxOk.foot h
    obtain ⟨a', vs', e', h1', h2, h3, h4⟩ := h
    rw [e] at e'
    cases e'
    rw [h1] at h1'
    cases h1'
    rw [e1] at kp nz
    have k1 := kp a _ List.mem_cons_self h1
    have ok : BoxOk K G Z' H' ov xs := ⟨a, vs, e, k1, ItAll.mv m (fun b us hb => kp b _ (List.mem_cons_of_mem _ hb)) h2, fun b hb => ⟨nz b hb, (h3 b hb).2⟩, h4⟩
    refine ⟨ok, ?_⟩
    rw [e1]
    subst e
    show a :: (match H' a with | some (.lst vs) => subs xs vs | _ => []) = _
    rw [k1]
  | dic kvs =>
    obtain ⟨a, ws, rfl, h1, h2, h3, h4⟩ := h
    exact ⟨⟨a, ws, rfl, kp a _ List.mem_cons_self h1, KvAll.mv m _ _ h2, nz a List.mem_cons_self, h4⟩, rfl⟩
  | dit kvs =>
    obtain ⟨a, ws, rfl, h1, h2, h3, h4⟩ := h
    exact ⟨⟨a, ws, rfl, kp a _ List.mem_cons_self h1, KtAll.mv m _ _ h2, nz a List.mem_cons_self, h4⟩, rfl⟩
  | lck o ws kvs =>
    obtain ⟨a, rfl, h1, h2⟩ := h
    exact ⟨⟨a, rfl, m.dt _ _ _ h1, KtAll.mv m _ _ h2⟩, rfl⟩
  | two b xs ys =>
    obtain ⟨v, rfl, h1, h2⟩ := h
    exact ⟨⟨v, rfl, Da.mv m _ _ h1, Da.mv m _ _ h2⟩, by cases v <;> rfl⟩
  | exn a d fs =>
    obtain ⟨ws, rfl, h1, h2⟩ := h
    exact ⟨⟨ws, rfl, m.xd _ _ h1, XdAll.mv m _ _ h2⟩, rfl⟩
  | drw => exact ⟨h, by cases ov <;> rfl⟩
  | bor i => exact ⟨h, by cases ov <;> rfl⟩
  | sub i k => exact ⟨h, by cases ov <;> rfl⟩
theorem StZ.ownS (s : StZ K G Z H σ env T) {i : Nat} {a : Addr} (o : OwnS H σ env i a) : (∃ o, H a = some o ∧ WrO o) ∧ ¬ Z a ∧ (G.H0 a = none ∨ G.M0 a) := by
  obtain ⟨ov, p, e1, e2, hb⟩ := o
  obtain ⟨ov', e3, ok⟩ := s.sl i p e2
  rw [e1] at e3
  cases e3
  exact ok.own hb
theorem StZ.own_any (s : StZ K G Z H σ env T) {a : Addr} (o : OwnA H σ env T a) : ∃ u, (G.H0 a = none ∨ G.M0 a) ∧ H a = some u ∧ ¬ Z a := by
  rcases o with ⟨i, o⟩ | ⟨t, ht, o⟩
  · obtain ⟨⟨us, h1, _⟩, h2, h3⟩ := s.ownS o
    exact ⟨us, h3, h1, h2⟩
  · obtain ⟨⟨us, h1, _⟩, h2, h3⟩ := (s.tm t ht).own o
    exact ⟨us, h3, h1, h2⟩
theorem Gam.Ok.ne (g : G.Ok) {a d c : Addr} (h : G.H0 a = none ∨ G.M0 a) (e : G.dc = some (d, c)) : a ≠ d ∧ a ≠ c := by
  obtain ⟨_, _, h1, h2, h3, h4⟩ := g.w3 d c e
  rcases h with h | h
  · exact ⟨fun e => h3 (e ▸ h), fun e => h4 (e ▸ h)⟩
  · exact ⟨fun e => h1 (e ▸ h), fun e => h2 (e ▸ h)⟩
theorem StZ.zd (s : StZ K G Z H σ env T) {d c : Addr} (e : G.dc = some (d, c)) : ¬ Z d ∧ ¬ Z c := by
  obtain ⟨h1, h2, _, _, h3, h4⟩ := s.gok.w3 d c e
  exact ⟨fun z => (s.z2 _ z).elim h1 h3, fun z => (s.z2 _ z).elim h2 h4⟩
theorem StZ.h0 (s : StZ K G Z H σ env T) {a : Addr} (h : H a = none) : G.H0 a = none := by
  cases q : G.H0 a with
  | none => rfl
  | some o => exact absurd h (s.al a (by rw [q]; exact fun z => by cases z))
theorem StZ.move (s : StZ K G Z H σ env T) (m : Mv K Z H Z' H') (ow : ∀ a o, OwnA H σ env T a → H a = some o → H' a = some o) (on : ∀ a, OwnA H σ env T a → ¬ Z' a)
    (z1 : ∀ a, Z a → Z' a) (z2 : ∀ a, Z' a → Z a ∨ G.H0 a = none) (z3 : ∀ a, Z' a → H' a ≠ none)
    (fr : ∀ b o, H b = some o → G.H0 b = some o → (∀ ps, o ≠ .tbl ps) → ¬ G.M0 b → (∀ d c, G.dc = some (d, c) → b ≠ d) → H' b = some o) (al : ∀ b, H b ≠ none → H' b ≠ none) (dr : ∀ d c, G.dc = some (d, c) → Dr d c H') : StZ K G Z' H' σ env T := by
  have S : ∀ {i p ov}, env[i]? = some p → σ[i]? = some ov → CelOk K G Z H ov p → CelOk K G Z' H' ov p ∧ celFoot H' p ov = celFoot H p ov := fun {i p ov} e e1 ok =>
    ok.mv m (fun b us hb => ow b us (.inl ⟨i, ov, p, e1, e, hb⟩)) fun b hb => on b (.inl ⟨i, ov, p, e1, e, hb⟩)
  have Tm : ∀ {t}, t ∈ T → CelOk K G Z' H' (some t.1) t.2 ∧ celFoot H' t.2 (some t.1) = celFoot H t.2 (some t.1) := fun {t} ht =>
    (s.tm t ht).mv m (fun b us hb => ow b us (.inr ⟨t, ht, hb⟩)) fun b hb => on b (.inr ⟨t, ht, hb⟩)
  have bS : ∀ {i a}, OwnS H' σ env i a → OwnS H σ env i a := fun {i a} ⟨ov, p, e1, e2, hb⟩ => by
    obtain ⟨ov', e3, ok⟩ := s.sl i p e2
    rw [e1] at e3
    cases e3
    rw [(S e2 e1 ok).2] at hb
    exact ⟨ov, p, e1, e2, hb⟩
  have bT : ∀ {t a}, t ∈ T → OwnT H' t a → OwnT H t a := fun {t a} ht hb => by
    unfold OwnT at hb ⊢
    rw [(Tm ht).2] at hb
    exact hb
  refine ⟨s.gok, fun i p e => ?_, fun t ht => (Tm ht).1, s.bo, fun t ht i k e => ?_, s.pu, fun i j a o1 o2 => s.s1 i j a (bS o1) (bS o2), ?_, fun i a t o ht o2 => s.s3 i a t (bS o) ht (bT ht o2), s.ta, s.ar, fun a h => z1 a (s.z1 a h), fun a h => (z2 a h).elim (s.z2 a) .inr, z3, fun b o e n0 n1 n2 => fr b o (s.fr b o e n0 n1 n2) e n0 n1 n2, fun b e => al b (s.al b e), dr, fun b h => m.tb b (s.tb b h), fun b h => m.tb b (s.tk b h)⟩
  · obtain ⟨ov, e1, ok⟩ := s.sl i p e
    exact ⟨ov, e1, (S e e1 ok).1⟩
  · obtain ⟨a, vs, xs, e1, e2, h1, h2⟩ := s.pn t ht i k e
    refine ⟨a, vs, xs, e1, e2, ow a _ (.inl ⟨i, some (.ref a), .pnd xs, e1, e2, List.mem_cons_self⟩) h1, h2⟩
  · exact s.s2.imp_of_mem fun {t u} ht hu h a o1 o2 => h a (bT ht o1) (bT hu o2)
theorem upd_some {H : Hp} {a b : Addr} {o : HO} (h : H b ≠ none) : upd H a o b ≠ none := by
  unfold upd
  split
  · exact fun z => by cases z
  · exact h
theorem StZ.alloc (s : StZ K G Z H σ env T) {p : Addr} (o : HO) (hp : H p = none) : StZ K G Z (upd H p o) σ env T :=
  s.move (Mv.same (same_new hp) fun _ z => z) (fun a vs _ e => same_new hp _ _ e) (fun a oa => by obtain ⟨_, _, _, n⟩ := s.own_any oa; exact n)
    (fun _ z => z) (fun _ z => .inl z) (fun a z => upd_some (s.z3 a z)) (fun b u e _ _ _ _ => same_new hp _ _ e) (fun b e => upd_some e) fun d c e => (s.dr d c e).new hp
theorem StZ.push (s : StZ K G Z H σ env T) {v : V} {p : Cel} (ok : CelOk K G Z H (some v) p) (h1 : ∀ i, p ≠ Cel.bor i) (h0 : ∀ i k, p ≠ Cel.sub i k) (h2 : ∀ xs, p ≠ Cel.arg xs) (sep : ∀ a, a ∈ celFoot H p (some v) → ¬ OwnA H σ env T a) : StZ K G Z H σ env ((v, p) :: T) where
  gok := s.gok
  sl := s.sl
  tm := fun t ht => by
    rcases List.mem_cons.mp ht with rfl | ht
    · exact ok
    · exact s.tm t ht
  bo := fun t ht i e => by
    rcases List.mem_cons.mp ht with rfl | ht
    · exact absurd e (h1 i)
    · exact s.bo t ht i e
  pn := fun t ht i k e => by
    rcases List.mem_cons.mp ht with rfl | ht
    · exact absurd e (h0 i k)
    · exact s.pn t ht i k e
  pu := List.pairwise_cons.mpr ⟨fun u hu i k k' e => absurd e (h0 i k), s.pu⟩
  s1 := s.s1
  s2 := List.pairwise_cons.mpr ⟨fun u hu a o1 o2 => sep a o1 (.inr ⟨u, hu, o2⟩), s.s2⟩
  s3 := fun i a t o ht o2 => by
    rcases List.mem_cons.mp ht with rfl | ht
    · exact sep a o2 (.inl ⟨i, o⟩)
    · exact s.s3 i a t o ht o2
  ta := fun t ht xs => by
    rcases List.mem_cons.mp ht with rfl | ht
    · exact h2 xs
    · exact s.ta t ht xs
  ar := s.ar
  z1 := s.z1
  z2 := s.z2
  z3 := s.z3
  fr := s.fr
  al := s.al
  dr := s.dr
  tb := s.tb
  tk := s.tk
theorem StZ.dat (s : StZ K G Z H σ env T) {v : V} {d : PyData} (h : Da K Z H d v) : StZ K G Z H σ env ((v, .dat d) :: T) :=
  s.push ⟨v, rfl, h⟩ (fun _ e => by cases e) (fun _ _ e => by cases e) (fun _ e => by cases e) fun a o => by cases o
theorem StZ.drw (s : StZ K G Z H σ env T) {d c : Addr} (h : G.dc = some (d, c)) : StZ K G Z H σ env ((.ref d, .drw) :: T) :=
  s.push ⟨d, c, h, rfl⟩ (fun _ e => by cases e) (fun _ _ e => by cases e) (fun _ e => by cases e) fun a o => by cases o
/-- a new tuple -/
theorem StZ.newTup (s : StZ K G Z H σ env T) {p : Addr} {ds : List PyData} {vs : List V} (hp : H p = none) (h : DaAll K Z H ds vs) : StZ K G Z (upd H p (.tup vs)) σ env ((.ref p, .dat (.tuple ds)) :: T) :=
  (s.alloc _ hp).dat ⟨p, vs, rfl, SqT.of upd_same, DaAll.mv (Mv.same (same_new hp) fun _ z => z) _ _ h⟩
theorem StZ.fresh (s : StZ K G Z H σ env T) {p : Addr} (hp : H p = none) : ¬ OwnA H σ env T p := fun oa => by
  obtain ⟨vs, _, e2, _⟩ := s.own_any oa
  rw [hp] at e2
  cases e2
/-- a new list -/
theorem StZ.newLst (s : StZ K G Z H σ env T) {p : Addr} {ds : List PyData} {vs : List V} (hp : H p = none) (h : DaAll K Z H ds vs) : StZ K G Z (upd H p (.lst vs)) σ env ((.ref p, .own ds) :: T) := by
  have s2 := s.alloc (.lst vs) hp
  refine s2.push ⟨p, vs, rfl, upd_same, DaAll.mv (Mv.same (same_new hp) fun _ z => z) _ _ h, fun z => s.z3 p z hp, s.h0 hp⟩ (fun _ e => by cases e) (fun _ _ e => by cases e) (fun _ e => by cases e) fun a o oa => ?_
  rw [List.mem_singleton.mp o] at oa
  refine s.fresh hp ?_
  rcases oa with ⟨i, ov, q, e1, e2, hb⟩ | ⟨t, ht, hb⟩
  · obtain ⟨ov', e3, ok⟩ := s.sl i q e2
    rw [e1] at e3
    cases e3
    have kp := (ok.mv (Mv.same (same_new (o := .lst vs) hp) fun _ z => z) (fun b us _ e => same_new hp _ _ e) fun b hb => (ok.own hb).2.1).2
    rw [kp] at hb
    exact .inl ⟨i, ov, q, e1, e2, hb⟩
  · have ok := s.tm t ht
    have kp := (ok.mv (Mv.same (same_new (o := .lst vs) hp) fun _ z => z) (fun b us _ e => same_new hp _ _ e) fun b hb => (ok.own hb).2.1).2
    unfold OwnT at hb
    rw [kp] at hb
    exact .inr ⟨t, ht, hb⟩
theorem StZ.sub {T' : Stk} (s : StZ K G Z H σ env T) (h : T'.Sublist T) : StZ K G Z H σ env T' :=
  ⟨s.gok, s.sl, fun t ht => s.tm t (h.subset ht), fun t ht => s.bo t (h.subset ht), fun t ht => s.pn t (h.subset ht), s.pu.sublist h, s.s1, s.s2.sublist h, fun i a t o ht => s.s3 i a t o (h.subset ht), fun t ht => s.ta t (h.subset ht), s.ar, s.z1, s.z2, s.z3, s.fr, s.al, s.dr, s.tb, s.tk⟩
theorem StZ.pop {t : V × Cel} (s : StZ K G Z H σ env (t :: T)) : StZ K G Z H σ env T := s.sub (List.sublist_cons_self _ _)
theorem StZ.topDat {v : V} {d : PyData} (s : StZ K G Z H σ env ((v, .dat d) :: T)) : Da K Z H d v := by
  obtain ⟨w, e, h⟩ := s.tm _ (List.mem_cons_self)
  cases e
  exact h
theorem StZ.topSep {t : V × Cel} (s : StZ K G Z H σ env (t :: T)) {a : Addr} (o : OwnT H t a) : ¬ OwnA H σ env T a := by
  rintro (⟨i, o2⟩ | ⟨u, hu, o2⟩)
  · exact s.s3 i a _ o2 List.mem_cons_self o
  · exact (List.pairwise_cons.mp s.s2).1 u hu a o o2
theorem StZ.topOwn {v : V} {xs : List PyData} (s : StZ K G Z H σ env ((v, .own xs) :: T)) : ∃ a vs, v = .ref a ∧ H a = some (.lst vs) ∧ DaAll K Z H xs vs ∧ ¬ Z a ∧ G.H0 a = none ∧ ¬ OwnA H σ env T a := by
  obtain ⟨a, vs, e, h1, h2, h3, h4⟩ := s.tm _ (List.mem_cons_self)
  cases e
  exact ⟨a, vs, rfl, h1, h2, h3, h4, s.topSep (t := (.ref a, .own xs)) List.mem_cons_self⟩
theorem StZ.topDrw {v : V} (s : StZ K G Z H σ env ((v, .drw) :: T)) : ∃ d c, v = .ref d ∧ G.dc = some (d, c) := by
  obtain ⟨d, c, h, e⟩ := s.tm _ (List.mem_cons_self)
  cases e
  exact ⟨d, c, rfl, h⟩
/-- lists that nobody will write any more -/
theorem StZ.frzL {F : List Addr} (s : StZ K G Z H σ env T) (h1 : ∀ a ∈ F, H a ≠ none ∧ G.H0 a = none ∧ ¬ OwnA H σ env T a) : StZ K G (fun b => Z b ∨ b ∈ F) H σ env T := by
  refine s.move (Mv.same (Same.refl _) fun _ z => .inl z) (fun _ _ _ e => e) (fun b ob z => ?_) (fun _ z => .inl z) (fun b z => ?_) (fun b z => ?_) (fun b o e _ _ _ _ => e) (fun _ e => e) s.dr
  · obtain ⟨_, _, _, n⟩ := s.own_any ob
    rcases z with z | z
    · exact n z
    · exact (h1 b z).2.2 ob
  · exact z.elim .inl fun z => .inr (h1 b z).2.1
  · exact z.elim (s.z3 b) fun z => (h1 b z).1
theorem StZ.frzT {v : V} {xs : List PyData} (s : StZ K G Z H σ env ((v, .own xs) :: T)) : StE K G H σ env ((v, .dat (.list xs)) :: T) := by
  obtain ⟨a, vs, rfl, h1, h2, h3, h4, no⟩ := s.topOwn
  have s2 := s.pop.frzL (F := [a]) fun b hb => by rw [List.mem_singleton.mp hb]; exact ⟨by rw [h1]; exact fun z => (by cases z), h4, no⟩
  exact ⟨_, s2.dat ⟨a, vs, rfl, .inr List.mem_cons_self, h1, DaAll.mv (Mv.same (Same.refl _) fun _ z => .inl z) _ _ h2⟩⟩
/-- a slot's content is changed: by a value of its own -/
theorem StZ.put (s : StZ K G Z H σ env T) {i : Nat} {v : V} {p : Cel} (hi : i < env.length) (ok : CelOk K G Z H (some v) p) (h2 : ∀ xs, p ≠ Cel.arg xs) (nb : ∀ t ∈ T, t.2 ≠ Cel.bor i ∧ ∀ k, t.2 ≠ Cel.sub i k)
    (sep : ∀ a, a ∈ celFoot H p (some v) → ¬ (∃ j, j ≠ i ∧ OwnS H σ env j a) ∧ ∀ t ∈ T, ¬ OwnT H t a) : StZ K G Z H (σ.set i (some v)) (env.set i p) T := by
  have hs : i < σ.length := by
    obtain ⟨ov, e, _⟩ := s.sl i _ (List.getElem?_eq_getElem hi)
    exact (List.getElem?_eq_some_iff.mp e).1
  have back : ∀ j a, j ≠ i → OwnS H (σ.set i (some v)) (env.set i p) j a → OwnS H σ env j a := fun j a n o => by
    unfold OwnS at o
    rw [List.getElem?_set_ne n.symm, List.getElem?_set_ne n.symm] at o
    exact o
  have at_i : ∀ a, OwnS H (σ.set i (some v)) (env.set i p) i a → a ∈ celFoot H p (some v) := fun a o => by
    unfold OwnS at o
    rw [List.getElem?_set_self hs, List.getElem?_set_self hi] at o
    obtain ⟨ov, q, e1, e2, hb⟩ := o
    cases e1
    cases e2
    exact hb
  refine ⟨s.gok, fun j q e => ?_, s.tm, fun t ht j e => ?_, fun t ht j k e => ?_, s.pu, fun j k a o1 o2 => ?_, s.s2, fun j a t o ht o2 => ?_, s.ta, fun j xs e => ?_, s.z1, s.z2, s.z3, s.fr, s.al, s.dr, s.tb, s.tk⟩
  · by_cases n : j = i
    · subst n
      rw [List.getElem?_set_self hi] at e
      cases e
      exact ⟨_, List.getElem?_set_self hs, ok⟩
    · rw [List.getElem?_set_ne (Ne.symm n)] at e ⊢
      exact s.sl j q e
  · obtain ⟨o1, o2⟩ := s.bo t ht j e
    have n : j ≠ i := fun z => (nb t ht).1 (z ▸ e)
    exact ⟨by rw [List.getElem?_set_ne n.symm]; exact o1, by rw [List.getElem?_set_ne n.symm]; exact o2⟩
  · obtain ⟨a, vs, xs, e1, e2, h⟩ := s.pn t ht j k e
    have n : j ≠ i := fun z => (nb t ht).2 k (z ▸ e)
    exact ⟨a, vs, xs, by rw [List.getElem?_set_ne n.symm]; exact e1, by rw [List.getElem?_set_ne n.symm]; exact e2, h⟩
  · by_cases n1 : j = i
    · by_cases n2 : k = i
      · rw [n1, n2]
      · subst n1
        exact absurd ⟨k, n2, back k a n2 o2⟩ (sep a (at_i a o1)).1
    · by_cases n2 : k = i
      · subst n2
        exact absurd ⟨j, n1, back j a n1 o1⟩ (sep a (at_i a o2)).1
      · exact s.s1 j k a (back j a n1 o1) (back k a n2 o2)
  · by_cases n : j = i
    · subst n
      exact (sep a (at_i a o)).2 t ht o2
    · exact s.s3 j a t (back j a n o) ht o2
  · by_cases n : j = i
    · subst n
      rw [List.getElem?_set_self hi] at e
      exact absurd (Option.some.inj e) (h2 xs)
    · rw [List.getElem?_set_ne (Ne.symm n)] at e ⊢
      exact s.ar j xs e
/-- name = the last value -/
theorem StZ.setTop {v : V} {p : Cel} (s : StZ K G Z H σ env ((v, p) :: T)) {i : Nat} (hi : i < env.length) (nb : ∀ t ∈ T, t.2 ≠ Cel.bor i ∧ ∀ k, t.2 ≠ Cel.sub i k) : StZ K G Z H (σ.set i (some v)) (env.set i p) T :=
  s.pop.put hi (s.tm _ List.mem_cons_self) (fun xs => s.ta _ List.mem_cons_self xs) nb fun a o => ⟨fun ⟨j, _, oj⟩ => s.topSep (t := (v, p)) o (.inl ⟨j, oj⟩), fun t ht ot => s.topSep (t := (v, p)) o (.inr ⟨t, ht, ot⟩)⟩
theorem StZ.setD {v : V} {d : PyData} (s : StZ K G Z H σ env ((v, .dat d) :: T)) {i : Nat} (hi : i < env.length) (nb : ∀ t ∈ T, t.2 ≠ Cel.bor i ∧ ∀ k, t.2 ≠ Cel.sub i k) : StZ K G Z H (σ.set i (some v)) (env.set i (.dat d)) T := s.setTop hi nb
/-- slot i is changed in place, with what the value on the stack brings -/
theorem StZ.chg {v : V} {q : Cel} (s : StZ K G Z H σ env ((v, q) :: T)) {i : Nat} {ov : Option V} {p p' : Cel} (e1 : σ[i]? = some ov) (e2 : env[i]? = some p) (ok : CelOk K G Z H' ov p')
    (ft : ∀ b, b ∈ celFoot H' p' ov → b ∈ celFoot H p ov ∨ b ∈ celFoot H q (some v)) (kp : ∀ b o, b ∉ celFoot H p ov → H b = some o → H' b = some o) (al : ∀ b, H b ≠ none → H' b ≠ none)
    (lend : (∃ t ∈ T, t.2 = Cel.bor i) → Lendable p') (nsub : ∀ t ∈ T, ∀ k, t.2 ≠ Cel.sub i k) (ar : ∀ xs, p' = .arg xs → ∃ ys, p = .arg ys) : StZ K G Z H' σ (env.set i p') T := by
  have hi := (List.getElem?_eq_some_iff.mp e2).1
  obtain ⟨ov0, e3, ok0⟩ := s.sl i p e2
  rw [e1] at e3
  cases e3
  have oi : ∀ {b}, b ∈ celFoot H p ov → OwnS H σ env i b := fun {b} hb => ⟨ov, p, e1, e2, hb⟩
  have m : Mv K Z H Z H' := Mv.ofW (fun b => b ∈ celFoot H p ov) (fun b o e n => kp b o n e) (fun b hb => by
    obtain ⟨⟨us, h1, w⟩, h2, _⟩ := ok0.own hb
    exact ⟨us, h1, w, h2⟩) fun _ z => z
  have S : ∀ {j r ow}, j ≠ i → env[j]? = some r → σ[j]? = some ow → CelOk K G Z H ow r → CelOk K G Z H' ow r ∧ celFoot H' r ow = celFoot H r ow := fun {j r ow} n e e' ok =>
    ok.mv m (fun b us hb h => kp b _ (fun z => n (s.s1 j i b ⟨ow, r, e', e, hb⟩ (oi z))) h) fun b hb => (ok.own hb).2.1
  have Tm : ∀ {t}, t ∈ T → CelOk K G Z H' (some t.1) t.2 ∧ celFoot H' t.2 (some t.1) = celFoot H t.2 (some t.1) := fun {t} ht =>
    (s.tm t (List.mem_cons_of_mem _ ht)).mv m (fun b us hb h => kp b _ (fun z => s.s3 i b t (oi z) (List.mem_cons_of_mem _ ht) hb) h) fun b hb => ((s.tm t (List.mem_cons_of_mem _ ht)).own hb).2.1
  have bS : ∀ {j a}, OwnS H' σ (env.set i p') j a → OwnS H σ env j a ∨ (j = i ∧ a ∈ celFoot H q (some v)) := fun {j a} ⟨ow, r, e, e', hb⟩ => by
    by_cases n : j = i
    · subst n
      rw [List.getElem?_set_self hi] at e'
      cases e'
      rw [e1] at e
      cases e
      exact (ft a hb).elim (fun h => .inl (oi h)) fun h => .inr ⟨rfl, h⟩
    · rw [List.getElem?_set_ne (Ne.symm n)] at e'
      obtain ⟨ow', e3, okj⟩ := s.sl j r e'
      rw [e] at e3
      cases e3
      rw [(S n e' e okj).2] at hb
      exact .inl ⟨ow, r, e, e', hb⟩
  have bT : ∀ {t a}, t ∈ T → OwnT H' t a → OwnT H t a := fun {t a} ht hb => by
    unfold OwnT at hb ⊢
    rw [(Tm ht).2] at hb
    exact hb
  have hM : ∀ {b}, b ∈ celFoot H p ov → G.H0 b = none ∨ G.M0 b := fun {b} hb => (ok0.own hb).2.2
  refine ⟨s.gok, fun j r e => ?_, fun t ht => (Tm ht).1, fun t ht j e => ?_, fun t ht j k e => ?_, (List.pairwise_cons.mp s.pu).2, fun j k a o1 o2 => ?_, (List.pairwise_cons.mp s.s2).2.imp_of_mem fun {t u} ht hu h a o1 o2 => h a (bT ht o1) (bT hu o2), fun j a t o ht o2 => ?_, fun t ht => s.ta t (List.mem_cons_of_mem _ ht), fun j xs e => ?_, s.z1, s.z2, fun b z => al b (s.z3 b z), fun b o e n0 n1 n2 => kp b o (fun z => ?_) (s.fr b o e n0 n1 n2), fun b e => al b (s.al b e), fun d c e => ?_, fun b h => m.tb b (s.tb b h), fun b h => m.tb b (s.tk b h)⟩
  · by_cases n : j = i
    · subst n
      rw [List.getElem?_set_self hi] at e
      cases e
      exact ⟨ov, e1, ok⟩
    · rw [List.getElem?_set_ne (Ne.symm n)] at e
      obtain ⟨ow, e3, okj⟩ := s.sl j r e
      exact ⟨ow, e3, (S n e e3 okj).1⟩
  · obtain ⟨o1, c, o2, o3⟩ := s.bo t (List.mem_cons_of_mem _ ht) j e
    refine ⟨o1, ?_⟩
    by_cases n : j = i
    · subst n
      exact ⟨p', List.getElem?_set_self hi, lend ⟨t, ht, e⟩⟩
    · exact ⟨c, by rw [List.getElem?_set_ne (Ne.symm n)]; exact o2, o3⟩
  · obtain ⟨a, vs, xs, o1, o2, o3, o4⟩ := s.pn t (List.mem_cons_of_mem _ ht) j k e
    have n : j ≠ i := fun z => nsub t ht k (z ▸ e)
    refine ⟨a, vs, xs, o1, by rw [List.getElem?_set_ne n.symm]; exact o2, kp a _ (fun z => n (s.s1 j i a ⟨_, _, o1, o2, List.mem_cons_self⟩ (oi z))) o3, o4⟩
  · rcases bS o1 with h1 | ⟨rfl, h1⟩
    · rcases bS o2 with h2 | ⟨rfl, h2⟩
      · exact s.s1 j k a h1 h2
      · exact absurd (Or.inl ⟨j, h1⟩) (s.topSep (t := (v, q)) h2)
    · rcases bS o2 with h2 | ⟨rfl, h2⟩
      · exact absurd (Or.inl ⟨k, h2⟩) (s.topSep (t := (v, q)) h1)
      · rfl
  · rcases bS o with h1 | ⟨rfl, h1⟩
    · exact s.s3 j a t h1 (List.mem_cons_of_mem _ ht) (bT ht o2)
    · exact s.topSep (t := (v, q)) h1 (.inr ⟨t, ht, bT ht o2⟩)
  · by_cases n : j = i
    · subst n
      rw [List.getElem?_set_self hi] at e
      obtain ⟨ys, rfl⟩ := ar xs (Option.some.inj e)
      exact s.ar j ys e2
    · rw [List.getElem?_set_ne (Ne.symm n)] at e
      exact s.ar j xs e
  · rcases hM z with z | z
    · rw [z] at e
      cases e
    · exact n1 z
  · obtain ⟨cells, k, big, seed, cnt, h1, h2, h3⟩ := s.dr d c e
    exact ⟨cells, k, big, seed, cnt, kp d _ (fun z => (s.gok.ne (hM z) e).1 rfl) h1, kp c _ (fun z => (s.gok.ne (hM z) e).2 rfl) h2, h3⟩
/-- what a slot holds is said otherwise: the heap stays -/
theorem StZ.say {i : Nat} {ov : Option V} {p p' : Cel} (s : StZ K G Z H σ env T) (e1 : σ[i]? = some ov) (e2 : env[i]? = some p) (ok : CelOk K G Z H ov p') (ft : ∀ b, b ∈ celFoot H p' ov → b ∈ celFoot H p ov)
    (lend : (∃ t ∈ T, t.2 = Cel.bor i) → Lendable p') (nsub : ∀ t ∈ T, ∀ k, t.2 ≠ Cel.sub i k) (ar : ∀ xs, p' = .arg xs → ∃ ys, p = .arg ys) : StZ K G Z H σ (env.set i p') T :=
  (s.dat (v := .non) (d := .none) rfl).chg e1 e2 ok (fun b h => .inl (ft b h)) (fun b o _ e => e) (fun _ e => e) lend nsub ar
theorem StZ.nosub (s : StZ K G Z H σ env T) {i : Nat} {p : Cel} (e : env[i]? = some p) (h : ∀ xs, p ≠ .pnd xs) : ∀ t ∈ T, ∀ k, t.2 ≠ Cel.sub i k := fun t ht k z => by
  obtain ⟨_, _, xs, _, e2, _⟩ := s.pn t ht i k z
  rw [e] at e2
  exact h xs (Option.some.inj e2)
/-- a slot is forgotten -/
theorem StZ.fgt (s : StZ K G Z H σ env T) {i : Nat} (hi : i < env.length) (nb : ∀ t ∈ T, t.2 ≠ Cel.bor i ∧ ∀ k, t.2 ≠ Cel.sub i k) : StZ K G Z H σ (env.set i .no) T := by
  have e := List.getElem?_eq_getElem hi
  obtain ⟨ov, e1, _⟩ := s.sl i _ e
  exact s.say e1 e trivial (fun b h => by cases ov <;> cases h) (fun ⟨t, ht, z⟩ => absurd z (nb t ht).1) (fun t ht => (nb t ht).2) fun xs z => by cases z
/-- the slots that nobody knows may hold anything -/
theorem StZ.sig {σ' : L2.St} (s : StZ K G Z H σ env T) (h : ∀ (i : Nat) (p : Cel), env[i]? = some p → p ≠ Cel.no → σ'[i]? = σ[i]?) (h2 : ∀ (i : Nat) (p : Cel), env[i]? = some p → ∃ ov : Option V, σ'[i]? = some ov) : StZ K G Z H σ' env T := by
  have back : ∀ j a, OwnS H σ' env j a → OwnS H σ env j a := fun j a ⟨ov, p, e1, e2, hb⟩ => by
    have n : p ≠ .no := fun z => by subst z; cases ov <;> cases hb
    exact ⟨ov, p, by rw [← h j p e2 n]; exact e1, e2, hb⟩
  refine ⟨s.gok, fun j q e => ?_, s.tm, fun t ht j e => ?_, fun t ht j k e => ?_, s.pu, fun j k a o1 o2 => s.s1 j k a (back j a o1) (back k a o2), s.s2, fun j a t o ht o2 => s.s3 j a t (back j a o) ht o2, s.ta, fun j xs e => ?_, s.z1, s.z2, s.z3, s.fr, s.al, s.dr, s.tb, s.tk⟩
  · by_cases n : q = .no
    · subst n
      obtain ⟨ov, e2⟩ := h2 j _ e
      exact ⟨ov, e2, trivial⟩
    · rw [h j q e n]
      exact s.sl j q e
  · obtain ⟨e1, c, o2, o3⟩ := s.bo t ht j e
    exact ⟨by rw [h j c o2 (fun z => by subst z; exact o3)]; exact e1, c, o2, o3⟩
  · obtain ⟨a, vs, xs, e1, e2, o⟩ := s.pn t ht j k e
    exact ⟨a, vs, xs, by rw [h j _ e2 (fun z => by cases z)]; exact e1, e2, o⟩
  · obtain ⟨v, e1, e2⟩ := s.ar j xs e
    exact ⟨v, e1, by rw [h j _ e (fun z => by cases z)]; exact e2⟩
/-- a borrowed list on the stack -/
theorem StZ.pushB (s : StZ K G Z H σ env T) {i : Nat} {v : V} {c : Cel} (e : σ[i]? = some (some v)) (h : env[i]? = some c) (l : Lendable c) : StZ K G Z H σ env ((v, .bor i) :: T) where
  gok := s.gok
  sl := s.sl
  tm := fun t ht => by
    rcases List.mem_cons.mp ht with rfl | ht
    · exact ⟨_, rfl⟩
    · exact s.tm t ht
  bo := fun t ht j e2 => by
    rcases List.mem_cons.mp ht with rfl | ht
    · cases e2
      exact ⟨e, c, h, l⟩
    · exact s.bo t ht j e2
  pn := fun t ht j k e2 => by
    rcases List.mem_cons.mp ht with rfl | ht
    · cases e2
    · exact s.pn t ht j k e2
  pu := List.pairwise_cons.mpr ⟨fun u hu j k k' e2 => (by cases e2), s.pu⟩
  s1 := s.s1
  s2 := List.pairwise_cons.mpr ⟨fun u hu b o1 => (by cases o1), s.s2⟩
  s3 := fun j b t o1 ht o2 => by
    rcases List.mem_cons.mp ht with rfl | ht
    · cases o2
    · exact s.s3 j b t o1 ht o2
  ta := fun t ht ys => by
    rcases List.mem_cons.mp ht with rfl | ht
    · exact fun z => by cases z
    · exact s.ta t ht ys
  ar := s.ar
  z1 := s.z1
  z2 := s.z2
  z3 := s.z3
  fr := s.fr
  al := s.al
  dr := s.dr
  tb := s.tb
  tk := s.tk
/-- a list on top of the stack is written -/
theorem StZ.wrT {a : Addr} {xs ys : List PyData} {us : List V} (s : StZ K G Z H σ env ((.ref a, .own xs) :: T)) (h : DaAll K Z H ys us) : StZ K G Z (upd H a (.lst us)) σ env ((.ref a, .own ys) :: T) := by
  obtain ⟨a', vs, e, h1, h2, h3, h4, no⟩ := s.topOwn
  cases e
  have m : Mv K Z H Z (upd H a (.lst us)) := Mv.wr h1 h3
  have s2 : StZ K G Z (upd H a (.lst us)) σ env T := s.pop.move m (fun b ws ob e => upd_else e fun z => no (z ▸ ob)) (fun b ob => by obtain ⟨_, _, _, n⟩ := s.pop.own_any ob; exact n) (fun _ z => z) (fun _ z => .inl z) (fun b z => upd_some (s.z3 b z))
    (fun b u e e0 _ _ _ => upd_else e fun z => by rw [z, h4] at e0; cases e0) (fun b e => upd_some e) fun d c e => by
      obtain ⟨n1, n2⟩ := s.gok.ne (.inl h4) e
      exact (s.dr d c e).else n1 n2
  refine s2.push ⟨a, us, rfl, upd_same, DaAll.mv m _ _ h, h3, h4⟩ (fun _ e => by cases e) (fun _ _ e => by cases e) (fun _ e => by cases e) fun b o ob => ?_
  rw [List.mem_singleton.mp o] at ob
  refine no ?_
  rcases ob with ⟨i, ov, q, e1, e2, hb⟩ | ⟨t, ht, hb⟩
  · obtain ⟨ov', e3, ok⟩ := s.sl i q e2
    rw [e1] at e3
    cases e3
    have kp := (ok.mv m (fun b us' hb e => upd_else e fun z => no (.inl ⟨i, ov, q, e1, e2, z ▸ hb⟩)) fun b hb => (ok.own hb).2.1).2
    rw [kp] at hb
    exact .inl ⟨i, ov, q, e1, e2, hb⟩
  · have ok := s.pop.tm t ht
    have kp := (ok.mv m (fun b us' hb e => upd_else e fun z => no (.inr ⟨t, ht, z ▸ hb⟩)) fun b hb => (ok.own hb).2.1).2
    unfold OwnT at hb
    rw [kp] at hb
    exact .inr ⟨t, ht, hb⟩
end

/-! ### readings over the value layer -/
/-- one of two ways, by an answer -/
inductive IfP (b : Bool) (A B : Prop) : Prop where
  | t (h : b = true) (x : A)
  | f (h : b = false) (x : B)
theorem IfP.both {b : Bool} {A B : Prop} (h1 : b = true → A) (h2 : b = false → B) : IfP b A B := by
  cases b with
  | true => exact .t rfl (h1 rfl)
  | false => exact .f rfl (h2 rfl)
theorem IfP.tt {A B : Prop} (h : IfP true A B) : A := by
  cases h with
  | t _ x => exact x
  | f h _ => cases h
theorem IfP.ff {A B : Prop} (h : IfP false A B) : B := by
  cases h with
  | t h _ => cases h
  | f _ x => exact x
abbrev PK := Cel → PEnv → Prop
abbrev PEx := PEnv → PK → Prop
abbrev PAs := PEnv → (List Cel → PEnv → Prop) → Prop
abbrev PTst := PEnv → (Bool → PEnv → Prop) → Prop
def psh (T : Stk) : List V → List Cel → Stk
  | v :: vs, p :: ps => psh ((v, p) :: T) vs ps
  | _, _ => T
def tE (K : PySem.W.Frag) (G : Gam) (f : PEx) : TE := fun σ H Q => ∃ env T C, StE K G H σ env T ∧ f env C ∧ ∀ p env' v H', C p env' → StE K G H' σ env' ((v, p) :: T) → Q v H'
def tA (K : PySem.W.Frag) (G : Gam) (f : PAs) : TA := fun σ H Q => ∃ env T C, StE K G H σ env T ∧ f env C ∧ ∀ ps env' vs H', C ps env' → vs.length = ps.length → StE K G H' σ env' (psh T vs ps) → Q vs H'
def tQ (K : PySem.W.Frag) (G : Gam) (f : PTst) : TT := fun σ H Q => ∃ env T C, StE K G H σ env T ∧ f env C ∧ ∀ b env' H', C b env' → StE K G H' σ env' T → Q b H'
theorem _root_.L2.PE.le {X : Cx} {e : Expr} {t t' : TE} (h : PE X e t) (k : ∀ σ H Q, t' σ H Q → t σ H Q) : PE X e t' := ⟨fun pins s σ H Q I q => h.run pins s σ H Q I (k _ _ _ q)⟩
theorem _root_.L2.PT.le {X : Cx} {e : Expr} {t t' : TT} (h : PT X e t) (k : ∀ σ H Q, t' σ H Q → t σ H Q) : PT X e t' := ⟨fun pins s σ H Q I q => h.run pins s σ H Q I (k _ _ _ q)⟩
theorem _root_.L2.PW.le {X : Cx} {e : Expr} {t t' : TT} (h : PW X e t) (k : ∀ σ H Q, t' σ H Q → t σ H Q) : PW X e t' := ⟨fun wh pins s σ H Q I q => h.run wh pins s σ H Q I (k _ _ _ q)⟩
theorem _root_.L2.PA.le {X : Cx} {es : List Expr} {t t' : TA} (h : PA X es t) (k : ∀ σ H Q, t' σ H Q → t σ H Q) : PA X es t' := ⟨fun pos pins s σ H Q I q => h.run pos pins s σ H Q I (k _ _ _ q)⟩
theorem _root_.L2.PS.le {X : Cx} {st : Stmt} {t t' : L2.TS} (h : PS X st t) (k : ∀ D σ H, t' D σ H → t D σ H) : PS X st t' := ⟨fun pins s σ H D I q => h.run pins s σ H D I (k _ _ _ q)⟩
theorem _root_.L2.PSs.le {X : Cx} {st : List Stmt} {t t' : L2.TS} (h : PSs X st t) (k : ∀ D σ H, t' D σ H → t D σ H) : PSs X st t' := ⟨fun pins s σ H D I q => h.run pins s σ H D I (k _ _ _ q)⟩
theorem _root_.L2.PG.le {X : Cx} {e : Expr} {t t' : TG} (h : PG X e t) (k : ∀ v σ H Q, t' v σ H Q → t v σ H Q) : PG X e t' := ⟨fun pins s σ H v u Q I r q => h.run pins s σ H v u Q I r (k _ _ _ _ q)⟩
theorem _root_.L2.PI.le {X : Cx} {tg iter : Expr} {t t' : TI} (h : PI X tg iter t) (k : ∀ σ H R, t' σ H R → t σ H R) : PI X tg iter t' := ⟨fun pins s σ H R I q => h.run pins s σ H R I (k _ _ _ q)⟩
/-- the items of a list; of a list or a tuple; data -/
def lstAt : Option Cel → Option (List PyData)
  | some (.own xs) => some xs
  | some (.arg xs) => some xs
  | some (.dat (.list xs)) => some xs
  | _ => none
def subAt (k : Nat) : Option Cel → Option (List PyData)
  | some (.pnd xs) => (match xs[k]? with
    | some (.l ys) => some ys
    | _ => none)
  | _ => none
def lstOf (env : PEnv) : Cel → Option (List PyData)
  | .dat (.list ds) => some ds
  | .own xs => some xs
  | .bor i => lstAt env[i]?
  | .sub i k => subAt k env[i]?
  | _ => none
def Itm.dat : Itm → PyData
  | .d x => x
  | .l ys => .list ys
def itemsOf (env : PEnv) : Cel → Option (List PyData)
  | .dat (.tuple ds) => some ds
  | .dat (.dict [(.none, .tuple ds)]) => some ds
  | .dat (.dict [(.int _, .tuple ds)]) => some ds
  | p => lstOf env p
def datOf (env : PEnv) : Cel → Option PyData
  | .dat d => some d
  | p => (lstOf env p).map .list
section
variable {K : PySem.W.Frag} {G : Gam} {Z : Addr → Prop} {H : Hp} {σ : L2.St} {env : PEnv} {T : Stk} {v : V} {p : Cel} {ds : List PyData} {d : PyData}
theorem ItAll.at : ∀ {xs : List Itm} {vs : List V} {k : Nat} {ys : List PyData}, ItAll K Z H xs vs → xs[k]? = some (.l ys) → ∃ b us, vs[k]? = some (.ref b) ∧ H b = some (.lst us) ∧ DaAll K Z H ys us ∧ b ∈ subs xs vs
  | [], _, _, _, _, e => by cases e
  | .d x :: xs, _, 0, ys, _, e => by cases e
  | .d x :: xs, _, k + 1, ys, ⟨v, r, e1, h1, h2⟩, e => by
    subst e1
    obtain ⟨b, us, e1, e2, e3, e4⟩ := ItAll.at h2 (by simpa using e)
    exact ⟨b, us, by simpa using e1, e2, e3, e4⟩
  | .l y :: xs, _, 0, ys, ⟨b, us, r, e1, h1, h2, h3⟩, e => by
    subst e1
    cases e
    exact ⟨b, us, rfl, h1, h2, List.mem_cons_self⟩
  | .l y :: xs, _, k + 1, ys, ⟨c, us, r, e1, h1, h2, h3⟩, e => by
    subst e1
    obtain ⟨b, us, e1, e2, e3, e4⟩ := ItAll.at h3 (by simpa using e)
    exact ⟨b, us, by simpa using e1, e2, e3, List.mem_cons_of_mem _ e4⟩
theorem ItAll.frz : ∀ {xs : List Itm} {vs : List V}, ItAll K Z H xs vs → (∀ b ∈ subs xs vs, Z b) → DaAll K Z H (xs.map Itm.dat) vs
  | [], _, h, _ => h
  | .d x :: xs, _, ⟨v, r, e1, h1, h2⟩, z => by subst e1; exact ⟨v, r, rfl, h1, ItAll.frz h2 z⟩
  | .l y :: xs, _, ⟨b, us, r, e1, h1, h2, h3⟩, z => by
    subst e1
    exact ⟨.ref b, r, rfl, ⟨b, us, rfl, z b List.mem_cons_self, h1, h2⟩, ItAll.frz h3 fun c hc => z c (List.mem_cons_of_mem _ hc)⟩
/-- the lists of a slot are frozen -/
theorem StZ.frzS (s : StZ K G Z H σ env T) {i : Nat} {ov : Option V} {p p' : Cel} {F : List Addr} (e1 : σ[i]? = some ov) (e2 : env[i]? = some p) (hF : ∀ a ∈ F, a ∈ celFoot H p ov ∧ G.H0 a = none)
    (ok : CelOk K G (fun b => Z b ∨ b ∈ F) H ov p') (ft : ∀ b, b ∈ celFoot H p' ov → b ∈ celFoot H p ov) (lend : Lendable p') (nsub : ∀ t ∈ T, ∀ k, t.2 ≠ Cel.sub i k) (ar : ∀ xs, p' ≠ .arg xs) :
    StZ K G (fun b => Z b ∨ b ∈ F) H σ (env.set i p') T := by
  have hi := (List.getElem?_eq_some_iff.mp e2).1
  have m : Mv K Z H (fun b => Z b ∨ b ∈ F) H := Mv.same (Same.refl _) fun _ z => .inl z
  have oi : ∀ {b}, b ∈ celFoot H p ov → OwnS H σ env i b := fun {b} hb => ⟨ov, p, e1, e2, hb⟩
  have bS : ∀ {j a}, OwnS H σ (env.set i p') j a → OwnS H σ env j a := fun {j a} ⟨ow, r, e, e', hb⟩ => by
    by_cases n : j = i
    · subst n
      rw [List.getElem?_set_self hi] at e'
      cases e'
      rw [e1] at e
      cases e
      exact oi (ft a hb)
    · rw [List.getElem?_set_ne (Ne.symm n)] at e'
      exact ⟨ow, r, e, e', hb⟩
  refine ⟨s.gok, fun j q e => ?_, fun t ht => ?_, fun t ht j e => ?_, fun t ht j k e => ?_, s.pu, fun j l b o1 o2 => s.s1 j l b (bS o1) (bS o2), s.s2, fun j b t ob ht => s.s3 j b t (bS ob) ht, s.ta, fun j ys e => ?_, fun b z => .inl (s.z1 b z), fun b z => ?_, fun b z => ?_, s.fr, s.al, s.dr, s.tb, s.tk⟩
  · by_cases n : j = i
    · subst n
      rw [List.getElem?_set_self hi] at e
      cases e
      exact ⟨ov, e1, ok⟩
    · rw [List.getElem?_set_ne (Ne.symm n)] at e
      obtain ⟨ow, e3, okj⟩ := s.sl j q e
      exact ⟨ow, e3, (okj.mv m (fun _ _ _ h => h) fun b hb z => z.elim (okj.own hb).2.1 fun z => n (s.s1 j i b ⟨ow, q, e3, e, hb⟩ (oi (hF b z).1))).1⟩
  · exact ((s.tm t ht).mv m (fun _ _ _ h => h) fun b hb z => z.elim ((s.tm t ht).own hb).2.1 fun z => s.s3 i b t (oi (hF b z).1) ht hb).1
  · obtain ⟨o1, c, o2, o3⟩ := s.bo t ht j e
    refine ⟨o1, ?_⟩
    by_cases n : j = i
    · subst n
      exact ⟨p', List.getElem?_set_self hi, lend⟩
    · exact ⟨c, by rw [List.getElem?_set_ne (Ne.symm n)]; exact o2, o3⟩
  · obtain ⟨a, vs, xs, o1, o2, o3⟩ := s.pn t ht j k e
    have n : j ≠ i := fun z => nsub t ht k (z ▸ e)
    exact ⟨a, vs, xs, o1, by rw [List.getElem?_set_ne (Ne.symm n)]; exact o2, o3⟩
  · by_cases n : j = i
    · subst n
      rw [List.getElem?_set_self hi] at e
      exact absurd (Option.some.inj e) (ar ys)
    · rw [List.getElem?_set_ne (Ne.symm n)] at e
      exact s.ar j ys e
  · exact z.elim (s.z2 b) fun z => .inr (hF b z).2
  · exact z.elim (s.z3 b) fun z => by
      obtain ⟨⟨us, h, _⟩, _⟩ := s.ownS (oi (hF b z).1)
      rw [h]
      exact fun z => by cases z
theorem StZ.lst (s : StZ K G Z H σ env T) (ht : (v, p) ∈ T) (e : lstOf env p = some ds) : ∃ a vs, v = .ref a ∧ H a = some (.lst vs) ∧ DaAll K Z H ds vs := by
  have ok := s.tm _ ht
  cases p with
  | no => cases e
  | dat d =>
    cases d <;> first | cases e | skip
    obtain ⟨w, e2, a, xs, e3, _, h1, h2⟩ := ok
    cases e2
    exact ⟨a, xs, e3, h1, h2⟩
  | own xs =>
    cases e
    obtain ⟨a, vs, e2, h1, h2, _⟩ := ok
    cases e2
    exact ⟨a, vs, rfl, h1, h2⟩
  | arg xs => cases e
  | box xs => cases e
  | pnd xs => cases e
  | dic kvs => cases e
  | dit kvs => cases e
  | lck o ws kvs => cases e
  | exn a d fs => cases e
  | two b xs ys => cases e
  | drw => cases e
  | bor i =>
    obtain ⟨e1, c, h, _⟩ := s.bo _ ht i rfl
    have e : lstAt env[i]? = some ds := e
    rw [h] at e
    obtain ⟨ov, e2, ok⟩ := s.sl i _ h
    rw [e1] at e2
    cases e2
    unfold lstAt at e
    split at e
    · next q =>
      cases q
      cases e
      obtain ⟨a, vs, e3, h1, h2, _⟩ := ok
      cases e3
      exact ⟨a, vs, rfl, h1, h2⟩
    · next q =>
      cases q
      cases e
      obtain ⟨a, vs, e3, h1, h2, _⟩ := ok
      cases e3
      exact ⟨a, vs, rfl, h1, h2⟩
    · next q =>
      cases q
      cases e
      obtain ⟨w, e3, a, vs, e4, _, h1, h2⟩ := ok
      cases e3
      exact ⟨a, vs, e4, h1, h2⟩
    · cases e
  | sub i k =>
    obtain ⟨a, vs, xs, e1, h, h1, h2⟩ := s.pn _ ht i k rfl
    have e : subAt k env[i]? = some ds := e
    rw [h] at e
    obtain ⟨ov, e2, a', vs', e3, k1, k2, _⟩ := s.sl i _ h
    rw [e1] at e2
    cases e2
    cases e3
    rw [h1] at k1
    cases k1
    have e : (match xs[k]? with | some (.l ys) => some ys | _ => none) = some ds := e
    split at e
    · next ys q =>
      cases e
      obtain ⟨b, us, k3, k4, k5, _⟩ := ItAll.at k2 q
      rw [h2] at k3
      cases k3
      exact ⟨b, us, rfl, k4, k5⟩
    · cases e
theorem StZ.its (s : StZ K G Z H σ env T) (ht : (v, p) ∈ T) (e : itemsOf env p = some ds) : ∃ a vs, v = .ref a ∧ (H a = some (.lst vs) ∨ SqT K H a vs) ∧ DaAll K Z H ds vs := by
  have go : lstOf env p = some ds → ∃ a vs, v = .ref a ∧ (H a = some (.lst vs) ∨ SqT K H a vs) ∧ DaAll K Z H ds vs := fun e => by
    obtain ⟨a, vs, e1, h1, h2⟩ := s.lst ht e
    exact ⟨a, vs, e1, .inl h1, h2⟩
  unfold itemsOf at e
  split at e
  · cases e
    obtain ⟨w, e2, a, xs, e3, h1, h2⟩ := s.tm _ ht
    cases e2
    exact ⟨a, xs, e3, .inr h1, h2⟩
  · cases e
    obtain ⟨w, e2, ⟨a, xs, e3, h1, h2⟩, _⟩ := s.tm _ ht
    cases e2
    exact ⟨a, xs, e3, .inr h1, h2⟩
  · cases e
    obtain ⟨w, e2, a, ks, e3, h1, h2⟩ := s.tm _ ht
    cases e2
    cases h2
    exact ⟨a, _, e3, .inr (SqT.of h1), DaAll.ints ks⟩
  · exact go e
theorem StZ.seq (s : StZ K G Z H σ env T) (ht : (v, p) ∈ T) (e : itemsOf env p = some ds) : ∃ a vs, v = .ref a ∧ (SqL K H a vs ∨ SqT K H a vs) ∧ DaAll K Z H ds vs := by
  obtain ⟨a, vs, e1, h | h, h2⟩ := s.its ht e
  · exact ⟨a, vs, e1, .inl (SqL.of h), h2⟩
  · exact ⟨a, vs, e1, .inr h, h2⟩
theorem StZ.datT (s : StZ K G Z H σ env T) (ht : (v, .dat d) ∈ T) : Da K Z H d v := by
  obtain ⟨w, e, h⟩ := s.tm _ ht
  cases e
  exact h
/-- data, its lists anywhere -/
abbrev Db (K : PySem.W.Frag) (H : Hp) (v : V) (d : PyData) : Prop := Da K (fun _ => True) H d v
theorem Da.db {d : PyData} {v : V} (h : Da K Z H d v) : Db K H v d := Da.mv ⟨fun _ _ h => h, fun _ _ _ h => ⟨trivial, h⟩, fun _ _ h => h, fun _ h => h, fun _ _ h => h, fun _ _ _ h => h, fun _ _ h => h⟩ d v h
theorem DaAll.db {ds : List PyData} {vs : List V} (h : DaAll K Z H ds vs) : DaAll K (fun _ => True) H ds vs := DaAll.mv ⟨fun _ _ h => h, fun _ _ _ h => ⟨trivial, h⟩, fun _ _ h => h, fun _ h => h, fun _ _ h => h, fun _ _ _ h => h, fun _ _ h => h⟩ ds vs h
theorem StZ.db (s : StZ K G Z H σ env T) (ht : (v, p) ∈ T) (e : datOf env p = some d) : Db K H v d := by
  have go : (lstOf env p).map .list = some d → Db K H v d := fun e => by
    obtain ⟨ds, e1, rfl⟩ := Option.map_eq_some_iff.mp e
    obtain ⟨a, vs, rfl, h1, h2⟩ := s.lst ht e1
    exact ⟨a, vs, rfl, trivial, h1, h2.db⟩
  cases p with
  | dat d' =>
    cases e
    exact (s.datT ht).db
  | _ => exact go e
end
/-! ### names, constants, displays -/
def pVar (i : Nat) : PEx := fun env C => match env[i]? with
  | some (.dat d) => C (.dat d) env
  | some .drw => C .drw env
  | some (.own xs) => C (.dat (.list xs)) (env.set i (.dat (.list xs)))
  | some (.box xs) => C (.dat (.list (xs.map Itm.dat))) (env.set i (.dat (.list (xs.map Itm.dat))))
  | _ => False
def pBor (i : Nat) : PEx := fun env C => match env[i]? with
  | some (.dat d) => C (.dat d) env
  | some .drw => C .drw env
  | some (.own _) => C (.bor i) env
  | some (.arg _) => C (.bor i) env
  | some (.box _) => C (.bor i) env
  | some (.dic _) => C (.bor i) env
  | some (.dit _) => C (.bor i) env
  | _ => False
def pC (d : PyData) : PEx := fun env C => C (.dat d) env
def pFrz (f : PEx) : PEx := fun env C => f env fun p e => match p with
  | .dat d => C (.dat d) e
  | .own xs => C (.dat (.list xs)) e
  | _ => False
def pNil : PAs := fun env C => C [] env
def pCons (f : PEx) (g : PAs) : PAs := fun env C => f env fun p e => g e fun ps e' => C (p :: ps) e'
def datsOf : List Cel → Option (List PyData)
  | [] => some []
  | .dat d :: ps => (datsOf ps).map (d :: ·)
  | _ => none
def pTup (g : PAs) : PEx := fun env C => g env fun ps e => match datsOf ps with
  | some ds => ds.length ≤ sizeLine ∧ C (.dat (.tuple ds)) e
  | none => False
def pLst (g : PAs) : PEx := fun env C => g env fun ps e => match datsOf ps with
  | some ds => ds.length ≤ sizeLine ∧ C (.own ds) e
  | none => False
section
variable {X : Cx} {G : Gam} {e a b c : Expr} {es : List Expr} {pos : Pos}
theorem pe_varP {i : Nat} {x : Str} (h : PE X (.Name x pos) (tVar i)) : PE X (.Name x pos) (tE X.K G (pVar i)) := h.le fun σ H Q ⟨env, T, C, ⟨Z, s⟩, h, k⟩ => by
  unfold pVar at h
  split at h
  · next d he =>
    obtain ⟨ov, e1, v, rfl, hd⟩ := s.sl i _ he
    exact ⟨v, e1, k _ _ _ _ h ⟨Z, s.dat hd⟩⟩
  · next he =>
    obtain ⟨ov, e1, d, c, hd, rfl⟩ := s.sl i _ he
    exact ⟨_, e1, k _ _ _ _ h ⟨Z, s.drw hd⟩⟩
  · next xs he =>
    obtain ⟨ov, e1, a, vs, rfl, h1, h2, h3, h4⟩ := s.sl i _ he
    have da : Da X.K (fun b => Z b ∨ b ∈ [a]) H (.list xs) (.ref a) := ⟨a, vs, rfl, .inr List.mem_cons_self, h1, DaAll.mv (Mv.same (Same.refl _) fun _ z => .inl z) _ _ h2⟩
    have s2 := s.frzS (F := [a]) (p' := .dat (.list xs)) e1 he (fun b hb => ⟨hb, by rw [List.mem_singleton.mp hb]; exact h4⟩) ⟨_, rfl, da⟩ (fun b hb => by cases hb) trivial (s.nosub he fun _ z => by cases z) fun _ z => by cases z
    exact ⟨_, e1, k _ _ _ _ h ⟨_, s2.dat da⟩⟩
  · next xs he =>
    obtain ⟨ov, e1, ok⟩ := s.sl i _ he
    obtain ⟨a, vs, e, h1, h2, h3, h4⟩ := id ok
    obtain ⟨a', vs', e', h1', ef, _⟩ := BoxOk.foot ok
    rw [e] at e'
    cases e'
    rw [h1] at h1'
    cases h1'
    subst e
    have it : ItAll X.K (fun b => Z b ∨ b ∈ a :: subs xs vs) H xs vs := ItAll.mv (Mv.same (Same.refl _) fun _ z => .inl z) (fun _ _ _ h => h) h2
    have da : Da X.K (fun b => Z b ∨ b ∈ a :: subs xs vs) H (.list (xs.map Itm.dat)) (.ref a) := ⟨a, vs, rfl, .inr List.mem_cons_self, h1, ItAll.frz it fun b hb => .inr (List.mem_cons_of_mem _ hb)⟩
    have s2 := s.frzS (F := a :: subs xs vs) (p' := .dat (.list (xs.map Itm.dat))) e1 he (fun b hb => ⟨ef ▸ hb, (h3 b hb).2⟩) ⟨_, rfl, da⟩ (fun b hb => by cases hb) trivial (s.nosub he fun _ z => by cases z) fun _ z => by cases z
    exact ⟨_, e1, k _ _ _ _ h ⟨_, s2.dat da⟩⟩
  · exact h.elim
theorem pe_borP {i : Nat} {x : Str} (h : PE X (.Name x pos) (tVar i)) : PE X (.Name x pos) (tE X.K G (pBor i)) := h.le fun σ H Q ⟨env, T, C, ⟨Z, s⟩, h, k⟩ => by
  unfold pBor at h
  split at h
  · next d he =>
    obtain ⟨ov, e1, v, rfl, hd⟩ := s.sl i _ he
    exact ⟨v, e1, k _ _ _ _ h ⟨Z, s.dat hd⟩⟩
  · next he =>
    obtain ⟨ov, e1, d, c, hd, rfl⟩ := s.sl i _ he
    exact ⟨_, e1, k _ _ _ _ h ⟨Z, s.drw hd⟩⟩
  · next xs he =>
    obtain ⟨ov, e1, a, vs, rfl, _⟩ := s.sl i _ he
    exact ⟨_, e1, k _ _ _ _ h ⟨Z, s.pushB e1 he trivial⟩⟩
  · next xs he =>
    obtain ⟨ov, e1, a, vs, rfl, _⟩ := s.sl i _ he
    exact ⟨_, e1, k _ _ _ _ h ⟨Z, s.pushB e1 he trivial⟩⟩
  · next xs he =>
    obtain ⟨ov, e1, a, vs, rfl, _⟩ := s.sl i _ he
    exact ⟨_, e1, k _ _ _ _ h ⟨Z, s.pushB e1 he trivial⟩⟩
  · next xs he =>
    obtain ⟨ov, e1, a, vs, rfl, _⟩ := s.sl i _ he
    exact ⟨_, e1, k _ _ _ _ h ⟨Z, s.pushB e1 he trivial⟩⟩
  · next xs he =>
    obtain ⟨ov, e1, a, vs, rfl, _⟩ := s.sl i _ he
    exact ⟨_, e1, k _ _ _ _ h ⟨Z, s.pushB e1 he trivial⟩⟩
  · exact h.elim
theorem pe_cP {d : PyData} {v : V} (h : PE X e (tC v)) (hd : ∀ K Z H, Da K Z H d v := by intro _ _ _; exact rfl) : PE X e (tE X.K G (pC d)) := h.le fun σ H Q ⟨env, T, C, ⟨Z, s⟩, h, k⟩ => k _ _ _ _ h ⟨Z, s.dat (hd _ _ _)⟩
theorem pe_frzP {f : PEx} (h : PE X e (tE X.K G f)) : PE X e (tE X.K G (pFrz f)) := h.le fun σ H Q ⟨env, T, C, s, h, k⟩ => ⟨env, T, _, s, h, fun p env' v H' hc s' => by
  cases p with
  | dat d => exact k _ _ _ _ hc s'
  | own xs =>
    obtain ⟨Z, s'⟩ := s'
    exact k _ _ _ _ hc s'.frzT
  | _ => exact hc.elim⟩
theorem pa_nilP : PA X [] (tA X.K G pNil) := pa_nil.le fun σ H Q ⟨env, T, C, s, h, k⟩ => k [] env [] H h rfl s
theorem pa_consP {f : PEx} {g : PAs} (ha : PE X e (tE X.K G f)) (hr : PA X es (tA X.K G g)) (hs : starEach (e :: es) X.env = (false, eval e X.env) :: starEach es X.env := by rfl) : PA X (e :: es) (tA X.K G (pCons f g)) :=
  (pa_cons ha hr hs).le fun σ H Q ⟨env, T, C, s, h, k⟩ => ⟨env, T, _, s, h, fun p e1 v H1 h1 s1 => ⟨e1, (v, p) :: T, _, s1, h1, fun ps e2 vs H2 h2 l2 s2 => k (p :: ps) e2 (v :: vs) H2 h2 (congrArg Nat.succ l2) s2⟩⟩
theorem StZ.dats {K : PySem.W.Frag} {Z : Addr → Prop} {H : Hp} {σ : L2.St} {env : PEnv} : ∀ (ps : List Cel) (vs : List V) (T : Stk) (ds : List PyData), vs.length = ps.length → datsOf ps = some ds → StZ K G Z H σ env (psh T vs ps) → DaAll K Z H ds vs ∧ StZ K G Z H σ env T
  | [], [], T, ds, _, e, s => by
    cases e
    exact ⟨rfl, s⟩
  | [], _ :: _, _, _, l, _, _ => by cases l
  | _ :: _, [], _, _, l, _, _ => by cases l
  | .dat d :: ps, v :: vs, T, ds, l, e, s => by
    obtain ⟨ds', e2, rfl⟩ := Option.map_eq_some_iff.mp (show (datsOf ps).map (d :: ·) = some ds from e)
    obtain ⟨h1, h2⟩ := StZ.dats ps vs ((v, .dat d) :: T) ds' (Nat.succ.inj l) e2 s
    exact ⟨⟨v, vs, rfl, h2.topDat, h1⟩, h2.pop⟩
  | .no :: _, _, _, _, _, e, _ => by cases e
  | .own _ :: _, _, _, _, _, e, _ => by cases e
  | .arg _ :: _, _, _, _, _, e, _ => by cases e
  | .drw :: _, _, _, _, _, e, _ => by cases e
  | .bor _ :: _, _, _, _, _, e, _ => by cases e
  | .box _ :: _, _, _, _, _, e, _ => by cases e
  | .pnd _ :: _, _, _, _, _, e, _ => by cases e
  | .sub _ _ :: _, _, _, _, _, e, _ => by cases e
  | .dic _ :: _, _, _, _, _, e, _ => by cases e
  | .dit _ :: _, _, _, _, _, e, _ => by cases e
  | .lck _ _ _ :: _, _, _, _, _, e, _ => by cases e
  | .exn _ _ _ :: _, _, _, _, _, e, _ => by cases e
  | .two _ _ _ :: _, _, _, _, _, e, _ => by cases e
theorem pe_tupP {g : PAs} {x1} (h : PA X es (tA X.K G g)) : PE X (.Tuple es x1 pos) (tE X.K G (pTup g)) := (pe_tup h).le fun σ H Q ⟨env, T, C, s, h, k⟩ => ⟨env, T, _, s, h, fun ps e1 vs H1 h1 l1 ⟨Z, s1⟩ => by
  split at h1
  · next ds e =>
    obtain ⟨ha, s2⟩ := StZ.dats ps vs T ds l1 e s1
    refine ⟨by rw [ha.len]; exact h1.1, fun p hp => k _ _ _ _ h1.2 ⟨Z, s2.newTup hp ha⟩⟩
  · exact h1.elim⟩
theorem pe_lstP {g : PAs} (h : PA X es (tA X.K G g)) : PE X (.List es pos) (tE X.K G (pLst g)) := (pe_lst h).le fun σ H Q ⟨env, T, C, s, h, k⟩ => ⟨env, T, _, s, h, fun ps e1 vs H1 h1 l1 ⟨Z, s1⟩ => by
  split at h1
  · next ds e =>
    obtain ⟨ha, s2⟩ := StZ.dats ps vs T ds l1 e s1
    refine ⟨by rw [ha.len]; exact h1.1, fun p hp => k _ _ _ _ h1.2 ⟨Z, s2.newLst hp ha⟩⟩
  · exact h1.elim⟩
end

/-! ### operators -/
theorem opr_or {X : Cx} {f : Value → Value → Sem Value} {r r' : R2} (h : OpR X f r) (h' : OpR X f r') : OpR X f (fun x y H Q => r x y H Q ∨ r' x y H Q) := by
  intro pins s σ H x y v u Q I rx ry q
  rcases q with q | q
  · exact h pins s σ H x y v u Q I rx ry q
  · exact h' pins s σ H x y v u Q I rx ry q
abbrev POp := PEnv → Cel → Cel → PK → Prop
def LiftO (K : PySem.W.Frag) (G : Gam) (r : R2) (rp : POp) : Prop := ∀ (Z : Addr → Prop) (H : Hp) (σ : L2.St) (env : PEnv) (T : Stk) (x y : V) (pa pb : Cel) (C : PK) (Q : VK), StZ K G Z H σ env ((y, pb) :: (x, pa) :: T) → rp env pa pb C →
  (∀ p env' v H', C p env' → StE K G H' σ env' ((v, p) :: T) → Q v H') → r x y H Q
def pBin (rp : POp) (fa fb : PEx) : PEx := fun env C => fa env fun pa e1 => fb e1 fun pb e2 => rp e2 pa pb C
def pInt (g : Int → Int → PyData) (c : Int → Int → Prop) : POp := fun env pa pb C => match pa, pb with
  | .dat (.int i), .dat (.int j) => c i j ∧ C (.dat (g i j)) env
  | _, _ => False
def pInt0 (g : Int → Int → PyData) : POp := fun env pa pb C => match pa, pb with
  | .dat (.int i), .dat (.int j) => C (.dat (g i j)) env
  | _, _ => False
def pAdd : POp := fun env pa pb C => match pa, pb with
  | .dat (.int i), .dat (.int j) => C (.dat (.int (i + j))) env
  | .dat (.str a), .dat (.str b) => a.length + b.length ≤ sizeLine ∧ C (.dat (.str (a ++ b))) env
  | .dat (.tuple ds), .dat (.tuple es) => ds.length + es.length ≤ sizeLine ∧ C (.dat (.tuple (ds ++ es))) env
  | pa, pb => match lstOf env pa, lstOf env pb with
    | some xs, some ys => xs.length + ys.length ≤ sizeLine ∧ C (.own (xs ++ ys)) env
    | _, _ => False
def pMul : POp := fun env pa pb C => match pa, pb with
  | .dat (.int i), .dat (.int j) => CMul i j ∧ C (.dat (.int (i * j))) env
  | pa, .dat (.int k) => match lstOf env pa with
    | some xs => -(2 ^ 63) ≤ k ∧ k < 2 ^ 63 ∧ xs.length * k.toNat ≤ sizeLine ∧ C (.own (List.replicate k.toNat xs).flatten) env
    | _ => False
  | _, _ => False
/-- == of scalars -/
def eqS : PyData → PyData → Option Bool
  | .none, .none => some true
  | .int i, .int j => some (decide (i = j))
  | .bool i, .bool j => some (decide (i = j))
  | .str i, .str j => some (decide (i = j))
  | .none, .int _ => some false
  | .int _, .none => some false
  | .none, .str _ => some false
  | .str _, .none => some false
  | .none, .bool _ => some false
  | .bool _, .none => some false
  | _, _ => none
def pEq : POp := fun env pa pb C => match datOf env pa, datOf env pb with
  | some d, some e => match eqS d e with
    | some b => C (.dat (.bool b)) env
    | none => SeqAt.shaped d = true ∧ SeqAt.shaped e = true ∧ C (.dat (.bool (PyData.eqv d e))) env
  | _, _ => False
def pNe : POp := fun env pa pb C => match datOf env pa, datOf env pb with
  | some d, some e => match eqS d e with
    | some b => C (.dat (.bool (!b))) env
    | none => SeqAt.shaped d = true ∧ SeqAt.shaped e = true ∧ C (.dat (.bool (!PyData.eqv d e))) env
  | _, _ => False
def flatD : PyData → Bool
  | .none => true
  | .bool _ => true
  | .int _ => true
  | .str _ => true
  | _ => false
def pIn (neg : Bool) : POp := fun env pa pb C => match datOf env pa, itemsOf env pb with
  | some d, some ds => ((flatD d = true ∧ ∀ z ∈ ds, flatD z = true) ∨ (SeqAt.shaped d = true ∧ PyData.canLayAll0 ds = true)) ∧ C (.dat (.bool (neg ^^ (ds.any fun z => PyData.eqv z d)))) env
  | _, _ => False
def isNone : PyData → Bool
  | .none => true
  | _ => false
def pIs (neg : Bool) : POp := fun env pa pb C => match datOf env pa, pb with
  | some d, .dat .none => C (.dat (.bool (neg ^^ isNone d))) env
  | _, _ => False
def pIx : POp := fun env pa pb C => match itemsOf env pa, pb with
  | some ds, .dat (.int i) => ∃ d, atI ds i = some d ∧ C (.dat d) env
  | _, _ => False
section
variable {X : Cx} {G : Gam} {e a b c : Expr} {es : List Expr} {pos : Pos} {fa fb : PEx} {rp : POp} {r : R2}
theorem binP (l : LiftO X.K G r rp) : ∀ σ H Q, tE X.K G (pBin rp fa fb) σ H Q → tOp r (tE X.K G fa) (tE X.K G fb) σ H Q := fun σ H Q ⟨env, T, C, s, h, k⟩ =>
  ⟨env, T, _, s, h, fun pa e1 x H1 h1 s1 => ⟨e1, _, _, s1, h1, fun pb e2 y H2 h2 ⟨Z, s2⟩ => l Z H2 σ e2 T x y pa pb C Q s2 h2 k⟩⟩
theorem pe_opP {op : Operator} (ho : OpR X (binaryOp op) r) (l : LiftO X.K G r rp) (ha : PE X a (tE X.K G fa)) (hb : PE X b (tE X.K G fb)) : PE X (.BinOp a op b pos) (tE X.K G (pBin rp fa fb)) := (pe_op ho ha hb).le (binP l)
theorem pe_cmpP {op : CmpOp} (ho : OpR X (compareOp op) r) (l : LiftO X.K G r rp) (ha : PE X a (tE X.K G fa)) (hb : PE X b (tE X.K G fb)) (hm : behindInMarks op b = false) : PE X (.Compare a [op] [b] pos) (tE X.K G (pBin rp fa fb)) := (pe_cmpR ho ha hb hm).le (binP l)
theorem pe_ixP (ha : PE X a (tE X.K G fa)) (hb : PE X b (tE X.K G fb)) (hs : PlainIx b) (l : LiftO X.K G (rIx X.K) pIx) : PE X (.Subscript a b pos) (tE X.K G (pBin pIx fa fb)) := (pe_ix ix_seq ha hb hs).le (binP l)
variable {K : PySem.W.Frag}
theorem li_int {g : Int → Int → PyData} {gv : Int → Int → V} {c : Int → Int → Prop} (hg : ∀ K Z H i j, Da K Z H (g i j) (gv i j) := by intro _ _ _ _ _; exact rfl) : LiftO K G (rI c gv) (pInt g c) := by
  intro Z H σ env T x y pa pb C Q s h k
  unfold pInt at h
  split at h
  · have h1 := s.topDat
    have h2 := s.pop.topDat
    cases h1
    cases h2
    exact ⟨_, _, rfl, rfl, h.1, k _ _ _ _ h.2 ⟨Z, s.pop.pop.dat (hg _ _ _ _ _)⟩⟩
  · exact h.elim
theorem li_int0 {g : Int → Int → PyData} {gv : Int → Int → V} (hg : ∀ K Z H i j, Da K Z H (g i j) (gv i j) := by intro _ _ _ _ _; exact rfl) : LiftO K G (rI0 gv) (pInt0 g) := by
  intro Z H σ env T x y pa pb C Q s h k
  unfold pInt0 at h
  split at h
  · have h1 := s.topDat
    have h2 := s.pop.topDat
    cases h1
    cases h2
    exact ⟨_, _, rfl, rfl, k _ _ _ _ h ⟨Z, s.pop.pop.dat (hg _ _ _ _ _)⟩⟩
  · exact h.elim
/-- ints, texts, tuples, lists -/
def rAddP (K : PySem.W.Frag) : R2 := fun x y H Q => (rI0 (fun i j => .int (i + j)) x y H Q ∨ (∃ i j, x = .str i ∧ y = .str j ∧ i.length + j.length ≤ sizeLine ∧ Q (.str (i ++ j)) H)) ∨ (rCatA K x y H Q ∨ rCat x y H Q)
theorem op_addP : OpR X (binaryOp .Add) (rAddP X.K) := opr_or (opr_or op_add op_add_str) (opr_or op_catA op_cat)
theorem nil_of_lenP {α β : Type} {xs : List α} {ds : List β} (h : xs.length = ds.length) (e : xs = []) : ds = [] := by
  subst e
  cases ds with
  | nil => rfl
  | cons _ _ => cases h
theorem li_add : LiftO K G (rAddP K) pAdd := by
  intro Z H σ env T x y pa pb C Q s h k
  unfold pAdd at h
  split at h
  · have h1 := s.topDat
    have h2 := s.pop.topDat
    cases h1
    cases h2
    exact .inl (.inl ⟨_, _, rfl, rfl, k _ _ _ _ h ⟨Z, s.pop.pop.dat rfl⟩⟩)
  · have h1 := s.topDat
    have h2 := s.pop.topDat
    cases h1
    cases h2
    exact .inl (.inr ⟨_, _, rfl, rfl, h.1, k _ _ _ _ h.2 ⟨Z, s.pop.pop.dat rfl⟩⟩)
  · next ds es =>
    obtain ⟨b, ys, rfl, hb, hy⟩ := s.topDat
    obtain ⟨a, xs, rfl, ha, hx⟩ := s.pop.topDat
    have l1 := hx.len
    have l2 := hy.len
    refine .inr (.inl ⟨a, b, xs, ys, rfl, rfl, ha, hb, by rw [l1, l2]; exact h.1, fun e => k _ _ _ _ h.2 ⟨Z, s.pop.pop.dat ?_⟩, fun _ e => k _ _ _ _ h.2 ⟨Z, s.pop.pop.dat ?_⟩, fun _ _ p hp => k _ _ _ _ h.2 ⟨Z, s.pop.pop.newTup hp (DaAll.app _ _ _ _ hx hy)⟩⟩)
    · rw [nil_of_lenP l1 e]
      exact ⟨b, ys, rfl, hb, hy⟩
    · rw [nil_of_lenP l2 e, List.append_nil]
      exact ⟨a, xs, rfl, ha, hx⟩
  · split at h
    · next xs ys e1 e2 =>
      obtain ⟨b, us, rfl, hb, hy⟩ := s.lst List.mem_cons_self e2
      obtain ⟨a, vs, rfl, ha, hx⟩ := s.lst (List.mem_cons_of_mem _ List.mem_cons_self) e1
      exact .inr (.inr ⟨a, b, vs, us, rfl, rfl, ha, hb, by rw [hx.len, hy.len]; exact h.1, fun p hp => k _ _ _ _ h.2 ⟨Z, s.pop.pop.newLst hp (DaAll.app _ _ _ _ hx hy)⟩⟩)
    · exact h.elim
def rMulP : R2 := fun x y H Q => rI CMul (fun i j => .int (i * j)) x y H Q ∨ rRep x y H Q
theorem op_mulP : OpR X (binaryOp .Mult) rMulP := opr_or op_mul op_rep
theorem rep_da {Z : Addr → Prop} {H : Hp} {ds : List PyData} {vs : List V} (h : DaAll K Z H ds vs) : ∀ n : Nat, DaAll K Z H (List.replicate n ds).flatten (List.replicate n vs).flatten
  | 0 => rfl
  | n + 1 => by
    rw [List.replicate_succ, List.replicate_succ, List.flatten_cons, List.flatten_cons]
    exact DaAll.app _ _ _ _ h (rep_da h n)
theorem li_mul : LiftO K G rMulP pMul := by
  intro Z H σ env T x y pa pb C Q s h k
  unfold pMul at h
  split at h
  · have h1 := s.topDat
    have h2 := s.pop.topDat
    cases h1
    cases h2
    exact .inl ⟨_, _, rfl, rfl, h.1, k _ _ _ _ h.2 ⟨Z, s.pop.pop.dat rfl⟩⟩
  · split at h
    · next xs e1 =>
      have h1 := s.topDat
      cases h1
      obtain ⟨a, vs, rfl, ha, hx⟩ := s.lst (List.mem_cons_of_mem _ List.mem_cons_self) e1
      exact .inr ⟨a, _, vs, rfl, rfl, ha, h.1, h.2.1, by rw [hx.len]; exact h.2.2.1, fun p hp => k _ _ _ _ h.2.2.2 ⟨Z, s.pop.pop.newLst hp (rep_da hx _)⟩⟩
    · exact h.elim
  · exact h.elim
theorem eqS_ok {H : Hp} {d e : PyData} {x y : V} {b : Bool} (h : eqS d e = some b) (hd : Db K H x d) (he : Db K H y e) : scal x y = true ∧ b = decide (x = y) := by
  unfold eqS at h
  split at h <;> first
    | cases h
      done
    | (cases h; cases hd; cases he; exact ⟨rfl, by first | rfl | simp⟩)
def rEqP (K : PySem.W.Frag) : R2 := fun x y H Q => rEq x y H Q ∨ rEqD K x y H Q
theorem op_eqP (hu : X.A.units + 64 < cLine) : OpR X (compareOp .Eq) (rEqP X.K) := opr_or op_eq (op_eqD hu)
theorem li_eq : LiftO K G (rEqP K) pEq := by
  intro Z H σ env T x y pa pb C Q s h k
  unfold pEq at h
  split at h
  · next d e e1 e2 =>
    have hy := s.db List.mem_cons_self e2
    have hx := s.db (List.mem_cons_of_mem _ List.mem_cons_self) e1
    split at h
    · next b eb =>
      obtain ⟨h1, h2⟩ := eqS_ok eb hx hy
      refine .inl ⟨h1, ?_⟩
      rw [← h2]
      exact k _ _ _ _ h ⟨Z, s.pop.pop.dat rfl⟩
    · exact .inr ⟨d, e, Da.dp _ _ (SeqAt.canLay_of_shaped h.1) hx, Da.dp _ _ (SeqAt.canLay_of_shaped h.2.1) hy, h.1, h.2.1, k _ _ _ _ h.2.2 ⟨Z, s.pop.pop.dat rfl⟩⟩
  · exact h.elim
def rNeP (K : PySem.W.Frag) : R2 := fun x y H Q => rNe x y H Q ∨ rNeD K x y H Q
theorem op_neP (hu : X.A.units + 64 < cLine) : OpR X (compareOp .NotEq) (rNeP X.K) := opr_or op_ne (op_neD hu)
theorem li_ne : LiftO K G (rNeP K) pNe := by
  intro Z H σ env T x y pa pb C Q s h k
  unfold pNe at h
  split at h
  · next d e e1 e2 =>
    have hy := s.db List.mem_cons_self e2
    have hx := s.db (List.mem_cons_of_mem _ List.mem_cons_self) e1
    split at h
    · next b eb =>
      obtain ⟨h1, h2⟩ := eqS_ok eb hx hy
      refine .inl ⟨h1, ?_⟩
      rw [← h2]
      exact k _ _ _ _ h ⟨Z, s.pop.pop.dat rfl⟩
    · exact .inr ⟨d, e, Da.dp _ _ (SeqAt.canLay_of_shaped h.1) hx, Da.dp _ _ (SeqAt.canLay_of_shaped h.2.1) hy, h.1, h.2.1, k _ _ _ _ h.2.2 ⟨Z, s.pop.pop.dat rfl⟩⟩
  · exact h.elim
/-- in, not in: lists and tuples of flat items, or of any data -/
def rInD (K : PySem.W.Frag) (neg : Bool) : R2 := fun x y H Q => ∃ d ds, Dp K H x d ∧ (Dp K H y (.list ds) ∨ Dp K H y (.tuple ds)) ∧ SeqAt.shaped d = true ∧ PyData.canLayAll0 ds = true ∧ Q (.bl (neg ^^ (ds.any fun z => PyData.eqv z d))) H
theorem room_inP {d : PyData} {n u : Nat} (sd : SeqAt.shaped d = true) (hu : u + 65 < cLine) : u + 1 + min n d.depth < cLine := by
  unfold SeqAt.shaped at sd
  have h := (Bool.and_eq_true_iff.mp sd).2
  have h := of_decide_eq_true h
  omega
theorem op_inD (hu : X.A.units + 65 < cLine) : OpR X (compareOp .In) (rInD X.K false) := by
  intro pins s σ H x y v u Q I rx ry h
  obtain ⟨d, ds, hd, he, sd, se, q⟩ := h
  obtain ⟨as, r1⟩ := Dp.reads I d x v hd rx
  rw [Bool.false_xor] at q
  rcases he with he | he
  · obtain ⟨bs, r2⟩ := Dp.reads I (.list ds) y u he ry
    exact SeqAt.in_list_reads r2 r1 se (SeqAt.canLay_of_shaped sd) (room_inP sd hu) ⟨.bl _, H, I, rfl, q⟩
  · obtain ⟨bs, r2⟩ := Dp.reads I (.tuple ds) y u he ry
    exact SeqAt.in_tuple_reads r2 r1 se (SeqAt.canLay_of_shaped sd) (room_inP sd hu) ⟨.bl _, H, I, rfl, q⟩
theorem op_ninD (hu : X.A.units + 65 < cLine) : OpR X (compareOp .NotIn) (rInD X.K true) := by
  intro pins s σ H x y v u Q I rx ry h
  obtain ⟨d, ds, hd, he, sd, se, q⟩ := h
  obtain ⟨as, r1⟩ := Dp.reads I d x v hd rx
  rw [Bool.true_xor] at q
  rcases he with he | he
  · obtain ⟨bs, r2⟩ := Dp.reads I (.list ds) y u he ry
    exact SeqAt.notIn_list_reads r2 r1 se (SeqAt.canLay_of_shaped sd) (room_inP sd hu) ⟨.bl _, H, I, rfl, q⟩
  · obtain ⟨bs, r2⟩ := Dp.reads I (.tuple ds) y u he ry
    exact SeqAt.notIn_tuple_reads r2 r1 se (SeqAt.canLay_of_shaped sd) (room_inP sd hu) ⟨.bl _, H, I, rfl, q⟩
def rInP (K : PySem.W.Frag) (neg : Bool) : R2 := fun x y H Q => rIn K neg x y H Q ∨ rInD K neg x y H Q
theorem op_inP (hu : X.A.units + 65 < cLine) : OpR X (compareOp .In) (rInP X.K false) := opr_or op_in_seq (op_inD hu)
theorem op_ninP (hu : X.A.units + 65 < cLine) : OpR X (compareOp .NotIn) (rInP X.K true) := opr_or op_notIn_seq (op_ninD hu)
theorem flat_ok {H : Hp} {d : PyData} {x : V} (hd : Db K H x d) (f : flatD d = true) : flatV x = true := by
  cases d <;> first | (cases hd; rfl) | cases f
theorem flat_eq {H : Hp} {d e : PyData} {x y : V} (hd : Db K H x d) (he : Db K H y e) (fd : flatD d = true) (fe : flatD e = true) : eqV y x = PyData.eqv e d := by
  cases d <;> first | cases fd; done | (cases e <;> first | cases fe; done | (cases hd; cases he; rfl))
theorem flat_any {H : Hp} {d : PyData} {x : V} (hd : Db K H x d) (fd : flatD d = true) : ∀ (ds : List PyData) (vs : List V), DaAll K (fun _ => True) H ds vs → (∀ z ∈ ds, flatD z = true) → vs.all flatV = true ∧ inV x vs = ds.any fun z => PyData.eqv z d
  | [], _, h, _ => by
    cases h
    exact ⟨rfl, rfl⟩
  | z :: ds, _, ⟨v, r, e, h1, h2⟩, f => by
    subst e
    obtain ⟨a1, a2⟩ := flat_any hd fd ds _ h2 fun z hz => f z (List.mem_cons_of_mem _ hz)
    refine ⟨?_, ?_⟩
    · rw [List.all_cons, a1, flat_ok h1 (f z List.mem_cons_self)]
      rfl
    · unfold inV at a2 ⊢
      rw [List.any_cons, List.any_cons, a2, flat_eq hd h1 fd (f z List.mem_cons_self)]
theorem li_in {neg : Bool} : LiftO K G (rInP K neg) (pIn neg) := by
  intro Z H σ env T x y pa pb C Q s h k
  unfold pIn at h
  split at h
  · next d ds e1 e2 =>
    have hx := s.db (List.mem_cons_of_mem _ List.mem_cons_self) e1
    obtain ⟨a, vs, rfl, ha, hy⟩ := s.seq List.mem_cons_self e2
    obtain ⟨h | h, hc⟩ := h
    · obtain ⟨f1, f2⟩ := flat_any hx h.1 ds vs hy.db h.2
      refine .inl ⟨a, vs, rfl, ha, flat_ok hx h.1, f1, ?_⟩
      have := k _ _ _ _ hc ⟨Z, s.pop.pop.dat (v := .bl (neg ^^ (ds.any fun z => PyData.eqv z d))) rfl⟩
      rw [← f2] at this
      cases neg with
      | false => rw [Bool.false_xor] at this; exact this
      | true => rw [Bool.true_xor] at this; exact this
    · refine .inr ⟨d, ds, Da.dp _ _ (SeqAt.canLay_of_shaped h.1) hx, ?_, h.1, h.2, k _ _ _ _ hc ⟨Z, s.pop.pop.dat rfl⟩⟩
      rcases ha with ha | ha
      · exact .inl (.lst ha (DaAll.dp _ _ h.2 hy))
      · exact .inr (.tup ha (DaAll.dp _ _ h.2 hy))
  · exact h.elim
theorem none_dp {H : Hp} {d : PyData} {x : V} (h : Db K H x d) : decide (x = V.non) = isNone d := by
  cases d with
  | none => cases h; rfl
  | bool b => cases h; simp [isNone]
  | int b => cases h; simp [isNone]
  | str b => cases h; simp [isNone]
  | tuple ds => obtain ⟨a, _, rfl, _⟩ := h; simp [isNone]
  | list ds => obtain ⟨a, _, rfl, _⟩ := h; simp [isNone]
  | dict kvs =>
    cases kvs with
    | nil => exact h.elim
    | cons p r =>
      obtain ⟨k, d⟩ := p
      have : ∃ a, x = V.ref a := by
        cases k <;> first | (obtain ⟨a, ws, e, _⟩ := h; exact ⟨a, e⟩) | (obtain ⟨a, o, ws, e, _⟩ := h; exact ⟨a, e⟩) | (obtain ⟨_, p, _, e, _⟩ := h; exact ⟨p, e⟩)
      obtain ⟨a, rfl⟩ := this
      simp [isNone]
def rIsP (neg : Bool) : R2 := fun x y H Q => y = .non ∧ Q (.bl (neg ^^ decide (x = .non))) H
theorem op_isP : OpR X (compareOp .Is) (rIsP false) := fun pins s σ H x y v u Q I rx ry h => op_isN pins s σ H x y v u Q I rx ry ⟨h.1, by have := h.2; rw [Bool.false_xor] at this; exact this⟩
theorem op_nisP : OpR X (compareOp .IsNot) (rIsP true) := fun pins s σ H x y v u Q I rx ry h => op_notN pins s σ H x y v u Q I rx ry ⟨h.1, by have := h.2; rw [Bool.true_xor] at this; exact this⟩
theorem li_is {neg : Bool} : LiftO K G (rIsP neg) (pIs neg) := by
  intro Z H σ env T x y pa pb C Q s h k
  unfold pIs at h
  split at h
  · next d e1 =>
    have hx := s.db (List.mem_cons_of_mem _ List.mem_cons_self) e1
    have hy := s.topDat
    cases hy
    refine ⟨rfl, ?_⟩
    rw [none_dp hx]
    exact k _ _ _ _ h ⟨Z, s.pop.pop.dat rfl⟩
  · exact h.elim
theorem atI_da {Z : Addr → Prop} {H : Hp} {ds : List PyData} {vs : List V} {i : Int} {d : PyData} (h : DaAll K Z H ds vs) (e : atI ds i = some d) : ∃ v, atI vs i = some v ∧ Da K Z H d v := by
  unfold atI at e ⊢
  rw [h.len]
  cases q : ixN ds.length i with
  | none => rw [q] at e; cases e
  | some j =>
    rw [q] at e
    exact DaAll.at j ds vs d h e
theorem li_ix : LiftO K G (rIx K) pIx := by
  intro Z H σ env T x y pa pb C Q s h k
  unfold pIx at h
  split at h
  · next ds i e1 =>
    obtain ⟨d, e2, hc⟩ := h
    obtain ⟨a, vs, rfl, ha, hx⟩ := s.seq (List.mem_cons_of_mem _ List.mem_cons_self) e1
    have h1 := s.topDat
    cases h1
    obtain ⟨v, e3, hv⟩ := atI_da hx e2
    have fin := k _ _ _ _ hc ⟨Z, s.pop.pop.dat hv⟩
    rcases ha with ha | ha
    · exact .inl ⟨a, vs, _, v, rfl, rfl, ha, e3, fin⟩
    · exact .inr (.inl ⟨a, vs, _, v, rfl, rfl, ha, e3, fin⟩)
  · exact h.elim
/-! ### slices -/
def pNoPart : PEnv → (Option Int → PEnv → Prop) → Prop := fun env C => C none env
def pPart (f : PEx) : PEnv → (Option Int → PEnv → Prop) → Prop := fun env C => f env fun p e => match p with
  | .dat (.int i) => C (some i) e
  | _ => False
def tPo (K : PySem.W.Frag) (G : Gam) (f : PEnv → (Option Int → PEnv → Prop) → Prop) : TO := fun σ H Q => ∃ env T C, StE K G H σ env T ∧ f env C ∧ ∀ o env' H', C o env' → StE K G H' σ env' T → Q o H'
theorem _root_.L2.PO.le {X : Cx} {e : Option Expr} {t t' : TO} (h : PO X e t) (k : ∀ σ H Q, t' σ H Q → t σ H Q) : PO X e t' := ⟨fun pins s σ H Q I q => h.run pins s σ H Q I (k _ _ _ q)⟩
theorem po_noneP : PO X none (tPo X.K G pNoPart) := po_none.le fun σ H Q ⟨env, T, C, s, h, k⟩ => k _ _ _ h s
theorem po_someP (h : PE X e (tE X.K G fa)) : PO X (some e) (tPo X.K G (pPart fa)) := (po_some h).le fun σ H Q ⟨env, T, C, s, h, k⟩ => ⟨env, T, _, s, h, fun p e1 v H1 h1 ⟨Z, s1⟩ => by
  split at h1
  · have := s1.topDat
    cases this
    exact ⟨_, rfl, k _ _ _ h1 ⟨Z, s1.pop⟩⟩
  · exact h1.elim⟩
def cutP (ds : List PyData) (lo hi : Option Int) : List PyData := (ds.drop (HT.sIx ds.length 0 lo)).take (HT.sIx ds.length ds.length hi - HT.sIx ds.length 0 lo)
def pSl (f : PEx) (l u : PEnv → (Option Int → PEnv → Prop) → Prop) : PEx := fun env C => f env fun p e1 => l e1 fun lo e2 => u e2 fun hi e3 => match p with
  | .dat (.tuple ds) => C (.dat (.tuple (cutP ds lo hi))) e3
  | p => match lstOf e3 p with
    | some xs => C (.own (cutP xs lo hi)) e3
    | none => False
theorem cut_da {Z : Addr → Prop} {H : Hp} {ds : List PyData} {vs : List V} (lo hi : Option Int) (h : DaAll K Z H ds vs) : DaAll K Z H (cutP ds lo hi) (cutV vs lo hi) := by
  unfold cutP cutV
  rw [h.len]
  exact DaAll.tk _ _ _ (DaAll.dr _ _ _ h)
theorem pe_sliceP {lo hi : Option Expr} {fl fu : PEnv → (Option Int → PEnv → Prop) → Prop} {p2 : Pos} (he : PE X e (tE X.K G fa)) (hl : PO X lo (tPo X.K G fl)) (hu : PO X hi (tPo X.K G fu)) : PE X (.Subscript e (.Slice lo hi none p2) pos) (tE X.K G (pSl fa fl fu)) :=
  (pe_slice (SlR.or sl_tupA sl_list) he hl hu).le fun σ H Q ⟨env, T, C, s, h, k⟩ => ⟨env, T, _, s, h, fun p e1 v H1 h1 s1 => ⟨e1, _, _, s1, h1, fun lo e2 H2 h2 s2 => ⟨e2, _, _, s2, h2, fun hi e3 H3 h3 ⟨Z, s3⟩ => by
    split at h3
    · next ds _ =>
      obtain ⟨a, vs, rfl, ha, hx⟩ := s3.topDat
      have lx := hx.len
      refine .inl ⟨a, vs, rfl, ha, fun w => k _ _ _ _ h3 ⟨Z, s3.pop.dat ⟨a, vs, rfl, ha, ?_⟩⟩, fun _ p hp => k _ _ _ _ h3 ⟨Z, s3.pop.newTup hp (cut_da lo hi hx)⟩⟩
      rw [lx] at w
      have e : cutP ds lo hi = ds := by
        unfold cutP
        rw [w.1, w.2, List.drop_zero, Nat.sub_zero, List.take_length]
      rw [e]
      exact hx
    · split at h3
      · next xs e4 =>
        obtain ⟨a, vs, rfl, ha, hx⟩ := s3.lst List.mem_cons_self e4
        exact .inr ⟨a, vs, rfl, SqL.of ha, fun p hp => k _ _ _ _ h3 ⟨Z, s3.pop.newLst hp (cut_da lo hi hx)⟩⟩
      · exact h3.elim⟩⟩⟩
/-! ### and, or, not, if -/
def pAnd (fa fb : PEx) : PEx := fun env C => fa env fun p e => match p with
  | .dat (.bool b) => IfP b (fb e C) (C (.dat (.bool false)) e)
  | _ => False
def pOr (fa fb : PEx) : PEx := fun env C => fa env fun p e => match p with
  | .dat (.bool b) => IfP b (C (.dat (.bool true)) e) (fb e C)
  | _ => False
def pNot (fa : PEx) : PEx := fun env C => fa env fun p e => match p with
  | .dat (.bool b) => C (.dat (.bool (!b))) e
  | _ => False
def pNeg (fa : PEx) : PEx := fun env C => fa env fun p e => match p with
  | .dat (.int i) => C (.dat (.int (-i))) e
  | _ => False
def pIfE (t : PTst) (fa fb : PEx) : PEx := fun env C => t env fun b e => IfP b (fa e C) (fb e C)
theorem pe_oneP {op : BoolOp} (ha : PE X a (tE X.K G fa)) : PE X (.BoolOp op [a] pos) (tE X.K G fa) := pe_one ha
theorem pe_andP {rest : List Expr} (ha : PE X a (tE X.K G fa)) (hb : PE X (.BoolOp .And (b :: rest) pos) (tE X.K G fb)) : PE X (.BoolOp .And (a :: b :: rest) pos) (tE X.K G (pAnd fa fb)) := (pe_and ha hb).le fun σ H Q ⟨env, T, C, s, h, k⟩ => ⟨env, T, _, s, h, fun p e1 v H1 h1 ⟨Z, s1⟩ => by
  split at h1
  · have := s1.topDat
    cases this
    refine ⟨_, rfl, ?_⟩
    rcases h1 with ⟨rfl, h1⟩ | ⟨rfl, h1⟩
    · exact ⟨e1, T, C, ⟨Z, s1.pop⟩, h1, k⟩
    · exact k _ _ _ _ h1 ⟨Z, s1.pop.dat rfl⟩
  · exact h1.elim⟩
theorem pe_orP {rest : List Expr} (ha : PE X a (tE X.K G fa)) (hb : PE X (.BoolOp .Or (b :: rest) pos) (tE X.K G fb)) : PE X (.BoolOp .Or (a :: b :: rest) pos) (tE X.K G (pOr fa fb)) := (pe_or ha hb).le fun σ H Q ⟨env, T, C, s, h, k⟩ => ⟨env, T, _, s, h, fun p e1 v H1 h1 ⟨Z, s1⟩ => by
  split at h1
  · have := s1.topDat
    cases this
    refine ⟨_, rfl, ?_⟩
    rcases h1 with ⟨rfl, h1⟩ | ⟨rfl, h1⟩
    · exact k _ _ _ _ h1 ⟨Z, s1.pop.dat rfl⟩
    · exact ⟨e1, T, C, ⟨Z, s1.pop⟩, h1, k⟩
  · exact h1.elim⟩
theorem pe_notP (ha : PE X a (tE X.K G fa)) : PE X (.UnaryOp .Not a pos) (tE X.K G (pNot fa)) := (pe_not ha).le fun σ H Q ⟨env, T, C, s, h, k⟩ => ⟨env, T, _, s, h, fun p e1 v H1 h1 ⟨Z, s1⟩ => by
  split at h1
  · have := s1.topDat
    cases this
    exact ⟨_, rfl, k _ _ _ _ h1 ⟨Z, s1.pop.dat rfl⟩⟩
  · exact h1.elim⟩
theorem pe_negP (ha : PE X a (tE X.K G fa)) : PE X (.UnaryOp .USub a pos) (tE X.K G (pNeg fa)) := (pe_un un_neg ha).le fun σ H Q ⟨env, T, C, s, h, k⟩ => ⟨env, T, _, s, h, fun p e1 v H1 h1 ⟨Z, s1⟩ => by
  split at h1
  · have := s1.topDat
    cases this
    exact ⟨_, rfl, k _ _ _ _ h1 ⟨Z, s1.pop.dat rfl⟩⟩
  · exact h1.elim⟩
theorem pe_ifP {t : PTst} (hc : PT X c (tQ X.K G t)) (ha : PE X a (tE X.K G fa)) (hb : PE X b (tE X.K G fb)) : PE X (.IfExp c a b pos) (tE X.K G (pIfE t fa fb)) := (pe_ifExp hc ha hb).le fun σ H Q ⟨env, T, C, s, h, k⟩ => ⟨env, T, _, s, h, fun b e1 H1 h1 s1 => by
  cases b with
  | true => exact ⟨e1, T, C, s1, h1.tt, k⟩
  | false => exact ⟨e1, T, C, s1, h1.ff, k⟩⟩
/-! ### tests -/
def pTst (fa : PEx) : PTst := fun env C => fa env fun p e => match p with
  | .dat (.bool b) => C b e
  | _ => False
/-- by truth -/
def truth (env : PEnv) : Cel → Option Bool
  | .dat .none => some false
  | .dat (.bool b) => some b
  | .dat (.int i) => some (i != 0)
  | p => (itemsOf env p).map fun ds => !ds.isEmpty
def pTru (fa : PEx) : PTst := fun env C => fa env fun p e => match truth e p with
  | some b => C b e
  | none => False
def pTnot (t : PTst) : PTst := fun env C => t env fun b e => C (!b) e
def pTand (t u : PTst) : PTst := fun env C => t env fun b e => IfP b (u e C) (C false e)
def pTor (t u : PTst) : PTst := fun env C => t env fun b e => IfP b (C true e) (u e C)
theorem pt_valP (h : PE X e (tE X.K G fa)) (he : ∀ whole, isTrue e X.env whole = (do let v ← whole; standAt e.pos; holding [v] (truthy v)) := by intro _; rfl) : PT X e (tQ X.K G (pTst fa)) := (pt_val h he).le fun σ H Q ⟨env, T, C, s, h, k⟩ => ⟨env, T, _, s, h, fun p e1 v H1 h1 ⟨Z, s1⟩ => by
  split at h1
  · have := s1.topDat
    cases this
    exact ⟨_, rfl, k _ _ _ h1 ⟨Z, s1.pop⟩⟩
  · exact h1.elim⟩
theorem pt_truP (h : PE X e (tE X.K G fa)) (he : ∀ whole, isTrue e X.env whole = (do let v ← whole; standAt e.pos; holding [v] (truthy v)) := by intro _; rfl) : PT X e (tQ X.K G (pTru fa)) := (pt_truth h he).le fun σ H Q ⟨env, T, C, s, h, k⟩ => ⟨env, T, _, s, h, fun p e1 v H1 h1 ⟨Z, s1⟩ => by
  split at h1
  · next b eb =>
    refine ⟨b, ?_, k _ _ _ h1 ⟨Z, s1.pop⟩⟩
    have go : (itemsOf e1 p).map (fun ds => !ds.isEmpty) = some b → TruV X.K v H1 b := fun eb => by
      obtain ⟨ds, e2, rfl⟩ := Option.map_eq_some_iff.mp eb
      obtain ⟨a, vs, rfl, ha, hx⟩ := s1.seq List.mem_cons_self e2
      have : vs.isEmpty = ds.isEmpty := by
        have := hx.len
        cases vs <;> cases ds <;> first | rfl | cases this
      rcases ha with ha | ha
      · exact .inl ⟨vs, ha, by rw [this]⟩
      · exact .inr (.inl ⟨vs, ha, by rw [this]⟩)
    unfold truth at eb
    split at eb
    · have := s1.topDat
      cases this
      cases eb
      exact rfl
    · have := s1.topDat
      cases this
      cases eb
      exact rfl
    · have := s1.topDat
      cases this
      cases eb
      exact rfl
    · exact go eb
  · exact h1.elim⟩
theorem pt_cmpP {op : CmpOp} (ho : OpR X (compareOp op) r) (l : LiftO X.K G r rp) (ha : PE X a (tE X.K G fa)) (hb : PE X b (tE X.K G fb)) (hm : behindInMarks op b = false) : PT X (.Compare a [op] [b] pos) (tQ X.K G (pTst (pBin rp fa fb))) :=
  (pt_cmpR ho ha hb hm).le fun σ H Q ⟨env, T, C, s, h, k⟩ => binP l _ _ _ ⟨env, T, _, s, h, fun p e1 v H1 h1 ⟨Z, s1⟩ => by
    split at h1
    · have := s1.topDat
      cases this
      exact ⟨_, rfl, k _ _ _ h1 ⟨Z, s1.pop⟩⟩
    · exact h1.elim⟩
theorem pt_notP {t : PTst} (h : PT X e (tQ X.K G t)) : PT X (.UnaryOp .Not e pos) (tQ X.K G (pTnot t)) := (pt_not h).le fun σ H Q ⟨env, T, C, s, h, k⟩ => ⟨env, T, _, s, h, fun b e1 H1 h1 s1 => k _ _ _ h1 s1⟩
theorem pw_and1P {t : PTst} (h : PT X a (tQ X.K G t)) : PW X (.BoolOp .And [a] pos) (tQ X.K G t) := pw_and1 h
theorem pw_or1P {t : PTst} (h : PT X a (tQ X.K G t)) : PW X (.BoolOp .Or [a] pos) (tQ X.K G t) := pw_or1 h
theorem pw_andP {t u : PTst} {rest : List Expr} (h : PT X a (tQ X.K G t)) (h2 : PW X (.BoolOp .And (b :: rest) pos) (tQ X.K G u)) : PW X (.BoolOp .And (a :: b :: rest) pos) (tQ X.K G (pTand t u)) := (pw_and h h2).le fun σ H Q ⟨env, T, C, s, h, k⟩ => ⟨env, T, _, s, h, fun b e1 H1 h1 s1 => by
  cases b with
  | true => exact ⟨e1, T, C, s1, h1.tt, k⟩
  | false => exact k _ _ _ h1.ff s1⟩
theorem pw_orP {t u : PTst} {rest : List Expr} (h : PT X a (tQ X.K G t)) (h2 : PW X (.BoolOp .Or (b :: rest) pos) (tQ X.K G u)) : PW X (.BoolOp .Or (a :: b :: rest) pos) (tQ X.K G (pTor t u)) := (pw_or h h2).le fun σ H Q ⟨env, T, C, s, h, k⟩ => ⟨env, T, _, s, h, fun b e1 H1 h1 s1 => by
  cases b with
  | false => exact ⟨e1, T, C, s1, h1.ff, k⟩
  | true => exact k _ _ _ h1.tt s1⟩
end

/-! ### statements over the value layer -/
structure PEnds where
  nx : PEnv → Prop
  rt : Cel → PEnv → Prop
  bk : PEnv → Prop := fun _ => False
  ct : PEnv → Prop := fun _ => False
abbrev PSt := PEnds → PEnv → Prop
def NoBor (T : Stk) : Prop := ∀ t ∈ T, ∀ i, t.2 ≠ Cel.bor i ∧ ∀ k, t.2 ≠ Cel.sub i k
structure EndsOk (K : PySem.W.Frag) (G : Gam) (T : Stk) (E : PEnds) (D : Ends) : Prop where
  nx : ∀ env σ H, E.nx env → StE K G H σ env T → D.nx σ H
  rt : ∀ p env σ v H, E.rt p env → StE K G H σ env ((v, p) :: T) → D.rt v H
  bk : ∀ env σ H, E.bk env → StE K G H σ env T → D.bk σ H
  ct : ∀ env σ H, E.ct env → StE K G H σ env T → D.ct σ H
def tS (K : PySem.W.Frag) (G : Gam) (g : PSt) : L2.TS := fun D σ H => ∃ env T E, NoBor T ∧ StE K G H σ env T ∧ g E env ∧ EndsOk K G T E D
def pNext : PSt := fun E env => E.nx env
def pSeq (g h : PSt) : PSt := fun E env => g { E with nx := h E } env
/-- a join with a word of one's own -/
def pCut (g h : PSt) : PSt := fun E env => ∃ W : PEnv → Prop, g { E with nx := W } env ∧ ∀ env', W env' → h E env'
/-- x = the value -/
def setE (e : PEnv) (i : Nat) (p : Cel) (C : PEnv → Prop) : Prop := match e[i]? with
  | some _ => (match p with
    | .dat d => C (e.set i (.dat d))
    | .own xs => C (e.set i (.own xs))
    | .drw => C (e.set i .drw)
    | .box xs => C (e.set i (.box xs))
    | .dic kvs => C (e.set i (.dic kvs))
    | _ => False)
  | none => False
def pSet (i : Nat) (f : PEx) : PSt := fun E env => f env fun p e => setE e i p E.nx
def pMv (i j : Nat) : PSt := fun E env => match env[j]?, env[i]? with
  | some (.own xs), some _ => E.nx ((env.set j .no).set i (.own xs))
  | some (.dat d), some _ => E.nx (env.set i (.dat d))
  | some (.box xs), some _ => E.nx ((env.set j .no).set i (.box xs))
  | _, _ => False
def pRet (f : PEx) : PSt := fun E env => f env fun p e => E.rt p e
def pRetMv (j : Nat) : PSt := fun E env => match env[j]? with
  | some (.own xs) => E.rt (.own xs) (env.set j .no)
  | some (.dat d) => E.rt (.dat d) env
  | some (.box xs) => E.rt (.box xs) (env.set j .no)
  | _ => False
def pRetN : PSt := fun E env => E.rt (.dat .none) env
def pDrop (f : PEx) : PSt := fun E env => f env fun _ e => E.nx e
def pIf (t : PTst) (a b : PSt) : PSt := fun E env => t env fun c e => IfP c (a E e) (b E e)
def pBreak : PSt := fun E env => E.bk env
def pCont : PSt := fun E env => E.ct env
def pWhile (t : PTst) (b : PSt) : PSt := fun E env => ∃ W : Nat → PEnv → Prop, (∃ m, W m env) ∧ ∀ m env, W m env → t env fun c e => IfP c (b { E with nx := fun e' => ∃ m', m' < m ∧ W m' e', ct := fun e' => ∃ m', m' < m ∧ W m' e', bk := E.nx } e) (E.nx e)
section
variable {K : PySem.W.Frag} {G : Gam} {Z : Addr → Prop} {H : Hp} {σ : L2.St} {env : PEnv} {T : Stk}
theorem StZ.setP {v : V} {p : Cel} (s : StZ K G Z H σ env ((v, p) :: T)) {i : Nat} {C : PEnv → Prop} (h : setE env i p C) (nb : NoBor T) : ∃ env', C env' ∧ StZ K G Z H (σ.set i (some v)) env' T := by
  unfold setE at h
  split at h
  · next hi =>
    have hi := (List.getElem?_eq_some_iff.mp hi).1
    have n : ∀ t ∈ T, t.2 ≠ Cel.bor i ∧ ∀ k, t.2 ≠ Cel.sub i k := fun t ht => nb t ht i
    split at h
    · exact ⟨_, h, s.setTop hi n⟩
    · exact ⟨_, h, s.setTop hi n⟩
    · exact ⟨_, h, s.setTop hi n⟩
    · exact ⟨_, h, s.setTop hi n⟩
    · exact ⟨_, h, s.setTop hi n⟩
    · exact h.elim
  · exact h.elim
/-- the list of slot j comes to the stack -/
theorem StZ.take {j : Nat} {p : Cel} {ov : Option V} (s : StZ K G Z H σ env T) (e : env[j]? = some p) (e1 : σ[j]? = some ov) (pp : (∃ xs, p = .own xs) ∨ ∃ xs, p = .box xs) (nb : NoBor T) : ∃ a, ov = some (.ref a) ∧ StZ K G Z H σ (env.set j .no) ((.ref a, p) :: T) := by
  obtain ⟨ov', e2, ok⟩ := s.sl j _ e
  rw [e1] at e2
  cases e2
  have hj := (List.getElem?_eq_some_iff.mp e).1
  have ⟨a, ea⟩ : ∃ a, ov = some (.ref a) := by
    rcases pp with ⟨xs, rfl⟩ | ⟨xs, rfl⟩
    · obtain ⟨a, vs, e, _⟩ := ok
      exact ⟨a, e⟩
    · obtain ⟨a, vs, e, _⟩ := ok
      exact ⟨a, e⟩
  subst ea
  refine ⟨a, rfl, (s.fgt hj fun t ht => nb t ht j).push ok ?_ ?_ ?_ fun b ob => ?_⟩
  · rcases pp with ⟨xs, rfl⟩ | ⟨xs, rfl⟩ <;> exact fun _ z => by cases z
  · rcases pp with ⟨xs, rfl⟩ | ⟨xs, rfl⟩ <;> exact fun _ _ z => by cases z
  · rcases pp with ⟨xs, rfl⟩ | ⟨xs, rfl⟩ <;> exact fun _ z => by cases z
  rintro (⟨i, ow, q, f1, f2, hb⟩ | ⟨t, ht, ot⟩)
  · by_cases n : i = j
    · subst n
      rw [List.getElem?_set_self hj] at f2
      cases f2
      cases ow <;> cases hb
    · rw [List.getElem?_set_ne (Ne.symm n)] at f2
      exact n (s.s1 i j b ⟨ow, q, f1, f2, hb⟩ ⟨_, p, e1, e, ob⟩)
  · exact s.s3 j b t ⟨_, p, e1, e, ob⟩ ht ot
end
section
variable {X : Cx} {G : Gam} {st : Stmt} {rest : List Stmt} {e c : Expr} {pos : Pos} {g h : PSt} {f : PEx}
theorem pss_nilP : PSs X [] (tS X.K G pNext) := pss_nil.le fun D σ H ⟨env, T, E, nb, s, h, k⟩ => k.nx _ _ _ h s
theorem pss_consP (h1 : PS X st (tS X.K G g)) (h2 : PSs X rest (tS X.K G h)) : PSs X (st :: rest) (tS X.K G (pSeq g h)) := (pss_cons h1 h2).le fun D σ H ⟨env, T, E, nb, s, w, k⟩ =>
  ⟨env, T, _, nb, s, w, fun e1 σ1 H1 h1 s1 => ⟨e1, T, E, nb, s1, h1, k⟩, k.rt, k.bk, k.ct⟩
theorem pss_cutP (h1 : PS X st (tS X.K G g)) (h2 : PSs X rest (tS X.K G h)) : PSs X (st :: rest) (tS X.K G (pCut g h)) := (pss_cons h1 h2).le fun D σ H ⟨env, T, E, nb, s, ⟨W, w1, w2⟩, k⟩ =>
  ⟨env, T, { E with nx := W }, nb, s, w1, fun e1 σ1 H1 h1 s1 => ⟨e1, T, E, nb, s1, w2 _ h1, k⟩, k.rt, k.bk, k.ct⟩
theorem pss_oneP (h1 : PS X st (tS X.K G g)) : PSs X [st] (tS X.K G g) := pss_one h1
theorem ps_passP : PS X (.Pass pos) (tS X.K G pNext) := ps_pass.le fun D σ H ⟨env, T, E, nb, s, h, k⟩ => k.nx _ _ _ h s
theorem ps_breakP : PS X (.Break pos) (tS X.K G pBreak) := ps_break.le fun D σ H ⟨env, T, E, nb, s, h, k⟩ => k.bk _ _ _ h s
theorem ps_contP : PS X (.Continue pos) (tS X.K G pCont) := ps_continue.le fun D σ H ⟨env, T, E, nb, s, h, k⟩ => k.ct _ _ _ h s
/-- any statement that is an assignment to a slot -/
theorem ps_setP {i : Nat} (h : PS X st (tAsg (tE X.K G f) (gName i))) : PS X st (tS X.K G (pSet i f)) := h.le fun D σ H ⟨env, T, E, nb, s, h, k⟩ => ⟨env, T, _, s, h, fun p e1 v H1 h1 ⟨Z, s1⟩ => by
  obtain ⟨e2, h2, s2⟩ := s1.setP h1 nb
  exact k.nx _ _ _ h2 ⟨Z, s2⟩⟩
theorem ps_mvP {i j : Nat} (h : PS X st (tAsg (tVar j) (gName i))) : PS X st (tS X.K G (pMv i j)) := h.le fun D σ H ⟨env, T, E, nb, ⟨Z, s⟩, h, k⟩ => by
  unfold pMv at h
  split at h
  · next xs _ e1 e2 =>
    obtain ⟨ov, e3, _⟩ := s.sl j _ e1
    obtain ⟨a, rfl, s2⟩ := s.take e1 e3 (.inl ⟨_, rfl⟩) nb
    have hi := (List.getElem?_eq_some_iff.mp e2).1
    exact ⟨_, e3, k.nx _ _ _ h ⟨Z, s2.setTop (by rw [List.length_set]; exact hi) fun t ht => nb t ht i⟩⟩
  · next d _ e1 e2 =>
    obtain ⟨ov, e3, v, rfl, hd⟩ := s.sl j _ e1
    have hi := (List.getElem?_eq_some_iff.mp e2).1
    exact ⟨_, e3, k.nx _ _ _ h ⟨Z, (s.dat hd).setD hi fun t ht => nb t ht i⟩⟩
  · next xs _ e1 e2 =>
    obtain ⟨ov, e3, _⟩ := s.sl j _ e1
    obtain ⟨a, rfl, s2⟩ := s.take e1 e3 (.inr ⟨_, rfl⟩) nb
    have hi := (List.getElem?_eq_some_iff.mp e2).1
    exact ⟨_, e3, k.nx _ _ _ h ⟨Z, s2.setTop (by rw [List.length_set]; exact hi) fun t ht => nb t ht i⟩⟩
  · exact h.elim
theorem ps_retP (he : PE X e (tE X.K G f)) : PS X (.Return (some e) pos) (tS X.K G (pRet f)) := (ps_ret he).le fun D σ H ⟨env, T, E, nb, s, h, k⟩ => ⟨env, T, _, s, h, fun p e1 v H1 h1 s1 => k.rt _ _ _ _ _ h1 s1⟩
theorem ps_retMvP {j : Nat} (he : PE X e (tVar j)) : PS X (.Return (some e) pos) (tS X.K G (pRetMv j)) := (ps_ret he).le fun D σ H ⟨env, T, E, nb, ⟨Z, s⟩, h, k⟩ => by
  unfold pRetMv at h
  split at h
  · next xs e1 =>
    obtain ⟨ov, e3, _⟩ := s.sl j _ e1
    obtain ⟨a, rfl, s2⟩ := s.take e1 e3 (.inl ⟨_, rfl⟩) nb
    exact ⟨_, e3, k.rt _ _ _ _ _ h ⟨Z, s2⟩⟩
  · next d e1 =>
    obtain ⟨ov, e3, v, rfl, hd⟩ := s.sl j _ e1
    exact ⟨_, e3, k.rt _ _ _ _ _ h ⟨Z, s.dat hd⟩⟩
  · next xs e1 =>
    obtain ⟨ov, e3, _⟩ := s.sl j _ e1
    obtain ⟨a, rfl, s2⟩ := s.take e1 e3 (.inr ⟨_, rfl⟩) nb
    exact ⟨_, e3, k.rt _ _ _ _ _ h ⟨Z, s2⟩⟩
  · exact h.elim
theorem ps_retNP : PS X (.Return none pos) (tS X.K G pRetN) := ps_retN.le fun D σ H ⟨env, T, E, nb, ⟨Z, s⟩, h, k⟩ => k.rt _ _ _ _ _ h ⟨Z, s.dat rfl⟩
theorem ps_dropP (he : PE X e (tE X.K G f)) (hs : swapsWith e none pos.line X.env = pure false := by rfl) : PS X (.Expr e pos) (tS X.K G (pDrop f)) := (ps_expr he hs).le fun D σ H ⟨env, T, E, nb, s, h, k⟩ => ⟨env, T, _, s, h, fun p e1 v H1 h1 ⟨Z, s1⟩ => k.nx _ _ _ h1 ⟨Z, s1.pop⟩⟩
theorem ps_docP {x j pos'} : PS X (.Expr (.Constant (.str x) j pos) pos') (tS X.K G pNext) := ps_doc.le fun D σ H ⟨env, T, E, nb, s, h, k⟩ => k.nx _ _ _ h s
theorem ps_ifP {t : PTst} {a b : List Stmt} (hc : PT X c (tQ X.K G t)) (ha : PSs X a (tS X.K G g)) (hb : PSs X b (tS X.K G h)) : PS X (.If c a b pos) (tS X.K G (pIf t g h)) := (ps_if hc ha hb).le fun D σ H ⟨env, T, E, nb, s, w, k⟩ => ⟨env, T, _, s, w, fun b e1 H1 h1 s1 => by
  cases b with
  | true => exact ⟨e1, T, E, nb, s1, h1.tt, k⟩
  | false => exact ⟨e1, T, E, nb, s1, h1.ff, k⟩⟩
theorem ps_whileP {t : PTst} {body : List Stmt} (hp : PassesOwn (model X.prog X.w) X.A X.env X.xe) (hc : PT X c (tQ X.K G t)) (hb : PSs X body (tS X.K G g)) : PS X (.While c body [] pos) (tS X.K G (pWhile t g)) :=
  (ps_while hp hc hb).le fun D σ H ⟨env, T, E, nb, s, ⟨W, ⟨m0, w0⟩, turn⟩, k⟩ => ⟨fun m σ H => ∃ env, W m env ∧ StE X.K G H σ env T, ⟨m0, env, w0, s⟩, fun m σ1 H1 ⟨e1, w1, s1⟩ => ⟨e1, T, _, s1, turn m e1 w1, fun b e2 H2 h2 s2 => by
    cases b with
    | true => exact ⟨fun σ H => ∃ m', m' < m ∧ ∃ env, W m' env ∧ StE X.K G H σ env T, fun σ' H' ⟨m', l, x⟩ => ⟨m', l, x⟩, e2, T, _, nb, s2, h2.tt, fun e3 σ3 H3 ⟨m', l, x⟩ s3 => ⟨m', l, e3, x, s3⟩, k.rt, k.nx, fun e3 σ3 H3 ⟨m', l, x⟩ s3 => ⟨m', l, e3, x, s3⟩⟩
    | false => exact k.nx _ _ _ h2.ff s2⟩⟩
/-- x op= e of ints -/
def pAug (i : Nat) (o : Int → Int → Int) (f : PEx) : PSt := fun E env => match env[i]? with
  | some (.dat (.int a)) => f env fun p e => match p, e[i]? with
    | .dat (.int b), some _ => E.nx (e.set i (.dat (.int (o a b))))
    | _, _ => False
  | _ => False
theorem ps_augP {i : Nat} {o : Int → Int → Int} (h : PS X st (tAug i (tE X.K G f) (ipI o))) : PS X st (tS X.K G (pAug i o f)) := h.le fun D σ H ⟨env, T, E, nb, ⟨Z, s⟩, h, k⟩ => by
  unfold pAug at h
  split at h
  · next a e1 =>
    obtain ⟨ov, e3, v, rfl, hd⟩ := s.sl i _ e1
    cases hd
    refine ⟨_, e3, env, T, _, ⟨Z, s⟩, h, fun p e2 v H2 h2 ⟨Z2, s2⟩ => ?_⟩
    split at h2
    · next e4 _ =>
      have := s2.topDat
      cases this
      have hi := (List.getElem?_eq_some_iff.mp e4).1
      exact ⟨_, _, rfl, rfl, k.nx _ _ _ h2 ⟨Z2, (s2.pop.dat (v := .int _) (d := .int _) rfl).setD hi fun t ht => nb t ht i⟩⟩
    · exact h2.elim
  · exact h.elim
end
/-! ### lists that are written -/
def mutE (e : PEnv) (s : Nat) (P : List PyData → (List PyData → Prop) → Prop) (C : PEnv → Prop) : Prop := match e[s]? with
  | some (.own xs) => P xs fun ys => C (e.set s (.own ys))
  | some (.arg xs) => P xs fun ys => C (e.set s (.arg ys))
  | _ => False
section
variable {K : PySem.W.Frag} {G : Gam} {Z : Addr → Prop} {H : Hp} {σ : L2.St} {env : PEnv} {T : Stk}
theorem StZ.mut {s : Nat} {v : V} {P : List PyData → (List PyData → Prop) → Prop} {C : PEnv → Prop} (S : StZ K G Z H σ env T) (e : σ[s]? = some (some v)) (h : mutE env s P C) :
    ∃ (a : Addr) (vs : List V) (xs : List PyData) (c : List PyData → Cel), v = .ref a ∧ H a = some (.lst vs) ∧ DaAll K Z H xs vs ∧ lstAt env[s]? = some xs ∧ P xs (fun ys => C (env.set s (c ys))) ∧ ∀ ys us, DaAll K Z H ys us → StZ K G Z (upd H a (.lst us)) σ (env.set s (c ys)) T := by
  unfold mutE at h
  split at h
  · next xs e1 =>
    obtain ⟨ov, e2, a, vs, rfl, h1, h2, h3, h4⟩ := S.sl s _ e1
    rw [e] at e2
    cases e2
    refine ⟨a, vs, xs, .own, rfl, h1, h2, by rw [e1]; rfl, h, fun ys us hy => ?_⟩
    exact (S.dat (v := .non) (d := .none) rfl).chg (p' := .own ys) e e1 ⟨a, us, rfl, upd_same, DaAll.mv (Mv.wr h1 h3) _ _ hy, h3, h4⟩ (fun b hb => .inl hb) (fun b o n e => upd_else e fun z => n (by rw [z]; exact List.mem_cons_self)) (fun b e => upd_some e) (fun _ => trivial) (S.nosub e1 fun _ z => by cases z) fun ys z => by cases z
  · next xs e1 =>
    obtain ⟨ov, e2, a, vs, rfl, h1, h2, h3, h4⟩ := S.sl s _ e1
    rw [e] at e2
    cases e2
    refine ⟨a, vs, xs, .arg, rfl, h1, h2, by rw [e1]; rfl, h, fun ys us hy => ?_⟩
    exact (S.dat (v := .non) (d := .none) rfl).chg (p' := .arg ys) e e1 ⟨a, us, rfl, upd_same, DaAll.mv (Mv.wr h1 h3) _ _ hy, h3, h4⟩ (fun b hb => .inl hb) (fun b o n e => upd_else e fun z => n (by rw [z]; exact List.mem_cons_self)) (fun b e => upd_some e) (fun _ => trivial) (S.nosub e1 fun _ z => by cases z) fun ys z => ⟨_, rfl⟩
  · exact h.elim
end
/-- the slot holds no dict -/
def notDic (e : PEnv) (s : Nat) (P : Prop) : Prop := match e[s]? with
  | some (.dic _) => False
  | some (.dit _) => False
  | _ => P
/-- o.m(..), o a list of a slot -/
def pMeth (fo : PEx) (ga : PAs) (M : Nat → List Cel → PEnv → PK → Prop) : PEx := fun env C => fo env fun po e1 => match po with
  | .bor s => notDic e1 s (ga e1 fun ps e2 => M s ps e2 C)
  | _ => False
def pMeth0 (fo : PEx) (M : Nat → List Cel → PEnv → PK → Prop) : PEx := fun env C => fo env fun po e1 => match po with
  | .bor s => notDic e1 s (M s [] e1 C)
  | _ => False
def LiftM (K : PySem.W.Frag) (G : Gam) (r : V → List V → Hp → VK → Prop) (M : Nat → List Cel → PEnv → PK → Prop) : Prop := ∀ (Z : Addr → Prop) (H : Hp) (σ : L2.St) (env : PEnv) (T : Stk) (s : Nat) (v : V) (vs : List V) (ps : List Cel) (C : PK) (Q : VK),
  StZ K G Z H σ env (psh ((v, .bor s) :: T) vs ps) → vs.length = ps.length → M s ps env C → (∀ p env' v H', C p env' → StE K G H' σ env' ((v, p) :: T) → Q v H') → r v vs H Q
def mApp (s : Nat) (ps : List Cel) (env : PEnv) (C : PK) : Prop := match ps with
  | [.dat d] => mutE env s (fun xs k => xs.length < sizeLine ∧ k (xs ++ [d])) (C (.dat .none))
  | _ => False
def mIns (s : Nat) (ps : List Cel) (env : PEnv) (C : PK) : Prop := match ps with
  | [.dat (.int i), .dat d] => mutE env s (fun xs k => xs.length < sizeLine ∧ 0 ≤ i ∧ i < 2 ^ 63 ∧ k (xs.take i.toNat ++ [d] ++ xs.drop i.toNat)) (C (.dat .none))
  | _ => False
def mExt (s : Nat) (ps : List Cel) (env : PEnv) (C : PK) : Prop := match ps with
  | [p] => match itemsOf env p with
    | some ds => mutE env s (fun xs k => xs.length + ds.length ≤ sizeLine ∧ k (xs ++ ds)) (C (.dat .none))
    | none => False
  | _ => False
def mPop (s : Nat) (ps : List Cel) (env : PEnv) (C : PK) : Prop := match ps with
  | [] => ∃ d, (∃ xs, lstAt env[s]? = some xs ∧ xs[xs.length - 1]? = some d) ∧ mutE env s (fun xs k => k xs.dropLast) (C (.dat d))
  | _ => False
def mPopAt (s : Nat) (ps : List Cel) (env : PEnv) (C : PK) : Prop := match ps with
  | [.dat (.int i)] => ∃ d k, (∃ xs, lstAt env[s]? = some xs ∧ seqIndex? i xs.length = some k ∧ xs[k]? = some d) ∧ -(2 ^ 63) ≤ i ∧ i < 2 ^ 63 ∧ mutE env s (fun xs c => c (xs.eraseIdx k)) (C (.dat d))
  | _ => False
def mRev (s : Nat) (ps : List Cel) (env : PEnv) (C : PK) : Prop := match ps with
  | [] => mutE env s (fun xs k => k xs.reverse) (C (.dat .none))
  | _ => False
/-- xs[i] = e -/
def pSetIx (fv fo fi : PEx) : PSt := fun E env => fv env fun pv e1 => fo e1 fun po e2 => fi e2 fun pi e3 => match po, pi, pv with
  | .bor s, .dat (.int i), .dat d => mutE e3 s (fun xs k => ∃ j, ixN xs.length i = some j ∧ k (xs.set j d)) E.nx
  | _, _, _ => False
section
variable {X : Cx} {G : Gam} {e : Expr} {pos : Pos} {fo fe fi fv : PEx} {st : Stmt} {K : PySem.W.Frag}
theorem ty_lst {K : PySem.W.Frag} {p : Addr} {xs : List V} {H : Hp} (h : H p = some (.lst xs)) : tyV K "list" (.ref p) H := .inl ⟨rfl, xs, SqL.of h⟩
theorem StZ.borL {Z : Addr → Prop} {H : Hp} {σ : L2.St} {env : PEnv} {T : Stk} {v : V} {s : Nat} (S : StZ K G Z H σ env T) (ht : (v, .bor s) ∈ T) {P : Prop} (nd : notDic env s P) : P ∧ ∃ a vs, v = .ref a ∧ H a = some (.lst vs) := by
  obtain ⟨e1, c, h, l⟩ := S.bo _ ht s rfl
  have pp : (∀ kvs, c ≠ .dic kvs) ∧ (∀ kvs, c ≠ .dit kvs) ∧ P := by
    unfold notDic at nd
    rw [h] at nd
    split at nd
    · exact nd.elim
    · exact nd.elim
    · next n1 n2 => exact ⟨fun kvs z => n1 kvs (by rw [z]), fun kvs z => n2 kvs (by rw [z]), nd⟩
  refine ⟨pp.2.2, ?_⟩
  obtain ⟨ov, e2, ok⟩ := S.sl s _ h
  rw [e1] at e2
  cases e2
  cases c with
  | own xs => obtain ⟨a, vs, e, h1, _⟩ := ok; cases e; exact ⟨a, vs, rfl, h1⟩
  | arg xs => obtain ⟨a, vs, e, h1, _⟩ := ok; cases e; exact ⟨a, vs, rfl, h1⟩
  | box xs => obtain ⟨a, vs, e, h1, _⟩ := ok; cases e; exact ⟨a, vs, rfl, h1⟩
  | pnd xs => obtain ⟨a, vs, e, h1, _⟩ := ok; cases e; exact ⟨a, vs, rfl, h1⟩
  | dat d =>
    cases d with
    | list ds => obtain ⟨w, e, a, vs, e2, _, h1, _⟩ := ok; cases e; exact ⟨a, vs, e2, h1⟩
    | _ => exact l.elim
  | dic kvs => exact absurd rfl (pp.1 kvs)
  | dit kvs => exact absurd rfl (pp.2.1 kvs)
  | _ => exact l.elim
theorem pe_methP {ga : PAs} {r : V → List V → Hp → VK → Prop} {M : Nat → List Cel → PEnv → PK → Prop} (l : LiftM X.K G r M) (h : PE X e (tBM X.K "list" r (tE X.K G fo) (tA X.K G ga))) : PE X e (tE X.K G (pMeth fo ga M)) :=
  h.le fun σ H Q ⟨env, T, C, s, h, k⟩ => ⟨env, T, _, s, h, fun po e1 v H1 h1 ⟨Z1, s1⟩ => by
    split at h1
    · obtain ⟨h1, a, vs, e2, h2⟩ := s1.borL List.mem_cons_self h1
      subst e2
      exact ⟨ty_lst h2, e1, _, _, ⟨Z1, s1⟩, h1, fun ps e2 vs H2 h2 l2 ⟨Z2, s2⟩ => l Z2 H2 σ e2 T _ _ vs ps C Q s2 l2 h2 k⟩
    · exact h1.elim⟩
theorem pe_meth0P {r : V → List V → Hp → VK → Prop} {M : Nat → List Cel → PEnv → PK → Prop} (l : LiftM X.K G r M) (h : PE X e (tBM0 X.K "list" r (tE X.K G fo))) : PE X e (tE X.K G (pMeth0 fo M)) :=
  h.le fun σ H Q ⟨env, T, C, s, h, k⟩ => ⟨env, T, _, s, h, fun po e1 v H1 h1 ⟨Z1, s1⟩ => by
    split at h1
    · obtain ⟨h1, a, vs, e2, h2⟩ := s1.borL List.mem_cons_self h1
      subst e2
      exact ⟨ty_lst h2, l Z1 H1 σ e1 T _ _ [] [] C Q s1 rfl h1 k⟩
    · exact h1.elim⟩
theorem StZ.mutT {Z : Addr → Prop} {H : Hp} {σ : L2.St} {env : PEnv} {T : Stk} {s : Nat} {v : V} {P : List PyData → (List PyData → Prop) → Prop} {C : PEnv → Prop} (S : StZ K G Z H σ env ((v, .bor s) :: T)) (h : mutE env s P C) :
    ∃ (a : Addr) (vs : List V) (xs : List PyData) (c : List PyData → Cel), v = .ref a ∧ H a = some (.lst vs) ∧ DaAll K Z H xs vs ∧ lstAt env[s]? = some xs ∧ P xs (fun ys => C (env.set s (c ys))) ∧ ∀ ys us, DaAll K Z H ys us → StZ K G Z (upd H a (.lst us)) σ (env.set s (c ys)) T :=
  S.pop.mut (S.bo _ List.mem_cons_self s rfl).1 h
theorem lm_app : LiftM K G rAppend mApp := by
  intro Z H σ env T s v vs ps C Q S l h k
  unfold mApp at h
  split at h
  · match vs, l with
    | [u], _ =>
      have S : StZ K G Z H σ env ((u, .dat _) :: (v, .bor s) :: T) := S
      obtain ⟨a, ws, xs, c, rfl, h1, h2, _, ⟨h3, h4⟩, h5⟩ := S.pop.mutT h
      exact ⟨a, ws, u, rfl, rfl, h1, by rw [h2.len]; exact h3, k _ _ _ _ h4 ⟨Z, (h5 _ _ (DaAll.app _ _ _ _ h2 (DaAll.one S.topDat))).dat rfl⟩⟩
  · exact h.elim
theorem lm_ins : LiftM K G (fun x vs H Q => ∃ (l : Addr) (xs : List V) (i : Int) (y : V), x = .ref l ∧ vs = [.int i, y] ∧ H l = some (.lst xs) ∧ xs.length < sizeLine ∧ 0 ≤ i ∧ i < 2 ^ 63 ∧ Q .non (upd H l (.lst (xs.take i.toNat ++ [y] ++ xs.drop i.toNat)))) mIns := by
  intro Z H σ env T s v vs ps C Q S l h k
  unfold mIns at h
  split at h
  · match vs, l with
    | [u, w], _ =>
      have S : StZ K G Z H σ env ((w, .dat _) :: (u, .dat _) :: (v, .bor s) :: T) := S
      have hu := S.pop.topDat
      cases hu
      obtain ⟨a, ws, xs, c, rfl, h1, h2, _, ⟨h3, h4, h5, h6⟩, h7⟩ := S.pop.pop.mutT h
      exact ⟨a, ws, _, w, rfl, rfl, h1, by rw [h2.len]; exact h3, h4, h5, k _ _ _ _ h6 ⟨Z, (h7 _ _ (DaAll.app _ _ _ _ (DaAll.app _ _ _ _ (DaAll.tk _ _ _ h2) (DaAll.one S.topDat)) (DaAll.dr _ _ _ h2))).dat rfl⟩⟩
  · exact h.elim
def rExtP (K : PySem.W.Frag) : V → List V → Hp → VK → Prop := fun x vs H Q => rExtend x vs H Q ∨ rExtT K x vs H Q
theorem mt_extP : MtR X "list.extend" (rExtP X.K) := MtR.or mt_extend mt_extT
theorem lm_ext : LiftM K G (rExtP K) mExt := by
  intro Z H σ env T s v vs ps C Q S l h k
  unfold mExt at h
  split at h
  · next p =>
    match vs, l with
    | [u], _ =>
      have S : StZ K G Z H σ env ((u, p) :: (v, .bor s) :: T) := S
      split at h
      · next ds e =>
        obtain ⟨b, us, rfl, hb, hd⟩ := S.its List.mem_cons_self e
        obtain ⟨a, ws, xs, c, rfl, h1, h2, _, ⟨h3, h4⟩, h5⟩ := S.pop.mutT h
        have fin := k _ _ _ _ h4 ⟨Z, (h5 _ _ (DaAll.app _ _ _ _ h2 hd)).dat rfl⟩
        rcases hb with hb | hb
        · exact .inl ⟨a, b, ws, us, rfl, rfl, h1, hb, by rw [h2.len, hd.len]; exact h3, fin⟩
        · exact .inr ⟨a, b, ws, us, rfl, rfl, h1, hb, by rw [h2.len, hd.len]; exact h3, fin⟩
      · exact h.elim
  · exact h.elim
theorem drop_da {Z : Addr → Prop} {H : Hp} {ds : List PyData} {vs : List V} (h : DaAll K Z H ds vs) : DaAll K Z H ds.dropLast vs.dropLast := by
  rw [List.dropLast_eq_take, List.dropLast_eq_take, h.len]
  exact DaAll.tk _ _ _ h
theorem erase_da {Z : Addr → Prop} {H : Hp} {ds : List PyData} {vs : List V} (k : Nat) (h : DaAll K Z H ds vs) : DaAll K Z H (ds.eraseIdx k) (vs.eraseIdx k) := by
  rw [List.eraseIdx_eq_take_drop_succ, List.eraseIdx_eq_take_drop_succ]
  exact DaAll.app _ _ _ _ (DaAll.tk _ _ _ h) (DaAll.dr _ _ _ h)
theorem rev_da {Z : Addr → Prop} {H : Hp} : ∀ {ds : List PyData} {vs : List V} (h : DaAll K Z H ds vs), DaAll K Z H ds.reverse vs.reverse
  | [], _, h => by cases h; exact rfl
  | d :: ds, _, ⟨v, r, e, h1, h2⟩ => by
    subst e
    rw [List.reverse_cons, List.reverse_cons]
    exact DaAll.app _ _ _ _ (rev_da h2) (DaAll.one h1)
theorem lm_pop : LiftM K G rPop mPop := by
  intro Z H σ env T s v vs ps C Q S l h k
  unfold mPop at h
  split at h
  · match vs, l with
    | [], _ =>
      have S : StZ K G Z H σ env ((v, .bor s) :: T) := S
      obtain ⟨d, ⟨xs, e1, e2⟩, h⟩ := h
      obtain ⟨a, ws, xs', c, rfl, h1, h2, e3, h4, h5⟩ := S.mutT h
      rw [e1] at e3
      cases e3
      obtain ⟨u, e4, hu⟩ := DaAll.at _ _ _ _ h2 e2
      have m : Mv K Z H Z (upd H a (.lst ws.dropLast)) := Mv.wr h1 fun z => by
        obtain ⟨e0, _⟩ := S.bo _ List.mem_cons_self s rfl
        unfold mutE at h
        split at h
        · next ys q =>
          obtain ⟨ov, e2, a', us, e3, k1, k2, k3, _⟩ := S.sl s _ q
          rw [e0] at e2
          cases e2
          cases e3
          exact k3 z
        · next ys q =>
          obtain ⟨ov, e2, a', us, e3, k1, k2, k3, _⟩ := S.sl s _ q
          rw [e0] at e2
          cases e2
          cases e3
          exact k3 z
        · exact h.elim
      exact ⟨a, ws, u, rfl, rfl, h1, by rw [h2.len]; exact e4, k _ _ _ _ h4 ⟨Z, (h5 _ _ (drop_da h2)).dat (Da.mv m _ _ hu)⟩⟩
  · exact h.elim
theorem lm_popAt : LiftM K G rPopAt mPopAt := by
  intro Z H σ env T s v vs ps C Q S l h k
  unfold mPopAt at h
  split at h
  · match vs, l with
    | [w], _ =>
      have S : StZ K G Z H σ env ((w, .dat _) :: (v, .bor s) :: T) := S
      have hw := S.topDat
      cases hw
      have S := S.pop
      obtain ⟨d, n, ⟨xs, e1, e5, e2⟩, b1, b2, h⟩ := h
      obtain ⟨a, ws, xs', c, rfl, h1, h2, e3, h4, h5⟩ := S.mutT h
      rw [e1] at e3
      cases e3
      obtain ⟨u, e4, hu⟩ := DaAll.at _ _ _ _ h2 e2
      have m : Mv K Z H Z (upd H a (.lst (ws.eraseIdx n))) := Mv.wr h1 fun z => by
        obtain ⟨e0, _⟩ := S.bo _ List.mem_cons_self s rfl
        unfold mutE at h
        split at h
        · next ys q =>
          obtain ⟨ov, e2, a', us, e3, k1, k2, k3, _⟩ := S.sl s _ q
          rw [e0] at e2
          cases e2
          cases e3
          exact k3 z
        · next ys q =>
          obtain ⟨ov, e2, a', us, e3, k1, k2, k3, _⟩ := S.sl s _ q
          rw [e0] at e2
          cases e2
          cases e3
          exact k3 z
        · exact h.elim
      exact ⟨a, ws, _, n, u, rfl, rfl, h1, b1, b2, by rw [h2.len]; exact e5, e4, k _ _ _ _ h4 ⟨Z, (h5 _ _ (erase_da n h2)).dat (Da.mv m _ _ hu)⟩⟩
  · exact h.elim
theorem lm_rev : LiftM K G rReverse mRev := by
  intro Z H σ env T s v vs ps C Q S l h k
  unfold mRev at h
  split at h
  · match vs, l with
    | [], _ =>
      have S : StZ K G Z H σ env ((v, .bor s) :: T) := S
      obtain ⟨a, ws, xs, c, rfl, h1, h2, _, h4, h5⟩ := S.mutT h
      exact ⟨a, ws, rfl, rfl, h1, k _ _ _ _ h4 ⟨Z, (h5 _ _ (rev_da h2)).dat rfl⟩⟩
  · exact h.elim
theorem ps_setIxP (h : PS X st (tAsg (tE X.K G fv) (gSub (tE X.K G fo) (tE X.K G fi) rSetL))) : PS X st (tS X.K G (pSetIx fv fo fi)) := h.le fun D σ H ⟨env, T, E, nb, s, h, k⟩ => ⟨env, T, _, s, h, fun pv e1 v H1 h1 s1 => ⟨e1, _, _, s1, h1, fun po e2 o H2 h2 s2 => ⟨e2, _, _, s2, h2, fun pi e3 i H3 h3 ⟨Z, s3⟩ => by
  split at h3
  · have hi := s3.topDat
    cases hi
    obtain ⟨a, ws, xs, c, rfl, k1, k2, _, ⟨j, k3, k4⟩, k5⟩ := s3.pop.mutT h3
    exact ⟨a, ws, _, j, rfl, rfl, k1, by rw [k2.len]; exact k3, k.nx _ _ _ k4 ⟨Z, (k5 _ _ (DaAll.set _ _ _ _ _ k2 s3.pop.pop.topDat)).pop⟩⟩
  · exact h3.elim⟩⟩⟩
end

/-! ### targets, loops, comprehensions -/
abbrev PTg := PyData → PEnv → (PEnv → Prop) → Prop
abbrev PTgs := List PyData → PEnv → (PEnv → Prop) → Prop
abbrev PIt := PEnv → (List PyData → PEnv → Prop) → Prop
def zipS : List V → List PyData → Stk → Stk
  | v :: vs, d :: ds, T => (v, .dat d) :: zipS vs ds T
  | _, _, T => T
/-- vs: the slots that may change -/
def tG (K : PySem.W.Frag) (G : Gam) (ws : Option (List Nat)) (g : PTg) : TG := fun v σ H Q => ∃ env T d C, (ws = none → NoBor T) ∧ StE K G H σ env ((v, .dat d) :: T) ∧ g d env C ∧ ∀ env' σ' H', C env' → StE K G H' σ' env' T → (∀ vs, ws = some vs → wipe σ' vs = wipe σ vs) → Q σ' H'
def tGs (K : PySem.W.Frag) (G : Gam) (ws : Option (List Nat)) (g : PTgs) : TGs := fun vs σ H Q => ∃ env T ds C, (ws = none → NoBor T) ∧ vs.length = ds.length ∧ StE K G H σ env (zipS vs ds T) ∧ g ds env C ∧ ∀ env' σ' H', C env' → StE K G H' σ' env' T → (∀ vs, ws = some vs → wipe σ' vs = wipe σ vs) → Q σ' H'
def pGn (i : Nat) : PTg := fun d env C => match env[i]? with
  | some _ => C (env.set i (.dat d))
  | none => False
/-- a comprehension's own name -/
def pGc (i : Nat) : PTg := fun d env C => match env[i]? with
  | some .no => C (env.set i (.dat d))
  | _ => False
def pGnil : PTgs := fun ds env C => match ds with
  | [] => C env
  | _ => False
def pGcons (g : PTg) (h : PTgs) : PTgs := fun ds env C => match ds with
  | d :: ds => g d env fun e => h ds e C
  | [] => False
def pGtup (n : Nat) (h : PTgs) : PTg := fun d env C => match d with
  | .tuple ds => ds.length = n ∧ h ds env C
  | _ => False
theorem wipe_set {σ : L2.St} {i : Nat} {x : Option V} : ∀ {vs : List Nat}, i ∈ vs → wipe (σ.set i x) vs = wipe σ vs
  | [], h => by cases h
  | v :: vs, h => by
    have comm : ∀ (us : List Nat), wipe (σ.set i x) us = (wipe σ us).set i (if i ∈ us then none else x) := by
      intro us
      induction us with
      | nil => rfl
      | cons u us ih =>
        show (wipe (σ.set i x) us).set u none = ((wipe σ us).set u none).set i _
        rw [ih]
        by_cases e : i = u
        · subst e
          rw [List.set_set, List.set_set, if_pos List.mem_cons_self]
        · rw [List.set_comm _ _ e]
          have : (i ∈ u :: us) ↔ i ∈ us := by rw [List.mem_cons]; exact ⟨fun h => h.elim (fun z => absurd z e) id, .inr⟩
          simp only [this]
    rw [comm, if_pos h]
    have nn : ∀ (us : List Nat), i ∈ us → (wipe σ us)[i]? = none ∨ (wipe σ us)[i]? = some none := by
      intro us hu
      induction us with
      | nil => cases hu
      | cons u us ih =>
        show ((wipe σ us).set u none)[i]? = none ∨ ((wipe σ us).set u none)[i]? = some none
        by_cases e : i = u
        · subst e
          rw [List.getElem?_set]
          split
          · split
            · exact .inr rfl
            · exact .inl rfl
          · next z => exact absurd rfl z
        · rw [List.getElem?_set_ne (Ne.symm e)]
          exact ih (by
            rcases List.mem_cons.mp hu with z | z
            · exact absurd z e
            · exact z)
    refine List.ext_getElem? fun j => ?_
    by_cases e : i = j
    · subst e
      rw [List.getElem?_set]
      rw [if_pos rfl]
      rcases nn _ h with z | z
      · have hl := List.getElem?_eq_none_iff.mp z
        rw [if_neg (by omega), z]
      · have hl := (List.getElem?_eq_some_iff.mp z).1
        rw [if_pos hl, z]
    · rw [List.getElem?_set_ne e]
theorem wipe_wipe {σ : L2.St} {vs : List Nat} : ∀ us : List Nat, (∀ u ∈ us, u ∈ vs) → wipe (wipe σ us) vs = wipe σ vs
  | [], _ => rfl
  | u :: us, h => by
    show wipe ((wipe σ us).set u none) vs = _
    rw [wipe_set (h u List.mem_cons_self)]
    exact wipe_wipe us fun w hw => h w (List.mem_cons_of_mem _ hw)
section
variable {K : PySem.W.Frag} {G : Gam} {Z : Addr → Prop} {H : Hp} {σ : L2.St} {env : PEnv} {T : Stk}
theorem StZ.zip : ∀ {ds : List PyData} {vs : List V}, StZ K G Z H σ env T → DaAll K Z H ds vs → StZ K G Z H σ env (zipS vs ds T)
  | [], _, s, h => by cases h; exact s
  | d :: ds, _, s, ⟨v, r, e, h1, h2⟩ => by subst e; exact (StZ.zip s h2).dat h1
theorem nb_no {p : Cel} (h : ∀ i, p ≠ Cel.bor i) (h2 : ∀ i k, p ≠ Cel.sub i k) (i : Nat) : p ≠ Cel.bor i ∧ ∀ k, p ≠ Cel.sub i k := ⟨h i, h2 i⟩
theorem zipS_bor : ∀ (vs : List V) (ds : List PyData), NoBor T → NoBor (zipS vs ds T)
  | [], _, h => h
  | _ :: _, [], h => h
  | v :: vs, d :: ds, h => fun t ht i => by
    rcases List.mem_cons.mp ht with rfl | ht
    · exact nb_no (by intro i z; cases z) (by intro i k z; cases z) i
    · exact zipS_bor vs ds h t ht i
end
section
variable {X : Cx} {G : Gam} {e tg : Expr} {es : List Expr} {pos : Pos} {ws : Option (List Nat)}
theorem pg_nameP {i : Nat} (h : PG X e (gName i)) : PG X e (tG X.K G none (pGn i)) := h.le fun v σ H Q ⟨env, T, d, C, nb, ⟨Z, s⟩, h, k⟩ => by
  unfold pGn at h
  split at h
  · next hi => exact k _ _ _ h ⟨Z, s.setD (List.getElem?_eq_some_iff.mp hi).1 fun t ht => nb rfl t ht i⟩ fun _ z => by cases z
  · exact h.elim
theorem pg_compP {i : Nat} {vs : List Nat} (h : PG X e (gName i)) (hi : i ∈ vs := by simp) : PG X e (tG X.K G (some vs) (pGc i)) := h.le fun v σ H Q ⟨env, T, d, C, nb, ⟨Z, s⟩, h, k⟩ => by
  unfold pGc at h
  split at h
  · next e1 =>
    refine k _ _ _ h ⟨Z, s.setD (List.getElem?_eq_some_iff.mp e1).1 fun t ht => ⟨fun e2 => ?_, s.pop.nosub e1 (fun _ z => by cases z) t ht⟩⟩ fun us z => by cases z; exact wipe_set hi
    obtain ⟨_, c, k1, k2⟩ := s.pop.bo t ht i e2
    rw [e1] at k1
    cases k1
    exact k2
  · exact h.elim
theorem pgs_nilP : PGs X [] (tGs X.K G ws pGnil) := ⟨fun pins s σ H vs us Q I r ⟨env, T, ds, C, nb, l, st, h, k⟩ => pgs_nil.run pins s σ H vs us Q I r (by
  unfold pGnil at h
  split at h
  · cases vs with
    | nil => exact ⟨rfl, k _ _ _ h st fun _ _ => rfl⟩
    | cons _ _ => cases l
  · exact h.elim)⟩
theorem pgs_consP {g : PTg} {h : PTgs} (h1 : PG X e (tG X.K G ws g)) (h2 : PGs X es (tGs X.K G ws h)) (hs : (assignEach (e :: es) X.env).map (·.2) = assign e X.env :: (assignEach es X.env).map (·.2) := by rfl) : PGs X (e :: es) (tGs X.K G ws (pGcons g h)) :=
  ⟨fun pins s σ H vs us Q I r ⟨env, T, ds, C, nb, l, st, w, k⟩ => (pgs_cons h1 h2 hs).run pins s σ H vs us Q I r (by
    unfold pGcons at w
    split at w
    · next d ds =>
      cases vs with
      | nil => cases l
      | cons v vs =>
        refine ⟨v, vs, rfl, env, zipS vs ds T, d, _, fun z => zipS_bor _ _ (nb z), st, w, fun e1 σ1 H1 w1 s1 hw => ⟨e1, T, ds, C, nb, Nat.succ.inj l, s1, w1, fun e2 σ2 H2 w2 s2 hw2 => k _ _ _ w2 s2 fun us z => (hw2 us z).trans (hw us z)⟩⟩
    · exact w.elim)⟩
theorem pg_tupP {n : Nat} {t : PTgs} {k0 : Nat} (hc : X.calm = true) (h : PGs X es (tGs X.K G ws t)) (hn : (assignEach es X.env).length = n := by rfl) (hst : (assignEach es X.env).findIdx? (·.1) = none := by rfl) : PG X (.Tuple es k0 pos) (tG X.K G ws (pGtup n t)) :=
  (pg_tup hc h hn hst).le fun v σ H Q ⟨env, T, d, C, nb, ⟨Z, s⟩, h, k⟩ => by
    unfold pGtup at h
    split at h
    · next ds =>
      obtain ⟨a, vs, rfl, ha, hx⟩ := s.topDat
      exact ⟨a, vs, rfl, ha, by rw [hx.len]; exact h.1, env, T, ds, C, nb, hx.len, ⟨Z, s.pop.zip hx⟩, h.2, k⟩
    · exact h.elim
end
/-! ### what is walked -/
def Walks (K : PySem.W.Frag) (G : Gam) (J : It) (t : V × Cel) (items : List PyData) : Prop := ∀ (Z : Addr → Prop) (H : Hp) (σ : L2.St) (env : PEnv) (T : Stk), StZ K G Z H σ env T → t ∈ T →
  (∀ i x, items[i]? = some x → J.go i H ∧ ∀ xv H', J.yld i H xv H' → StZ K G Z H' σ env ((xv, .dat x) :: T)) ∧ J.stop items.length H
def tI (K : PySem.W.Frag) (G : Gam) (it : PIt) : TI := fun σ H R => ∃ env T C, StE K G H σ env T ∧ it env C ∧ ∀ items env' t H' J, C items env' → (∀ i, t.2 ≠ Cel.bor i ∧ ∀ k, t.2 ≠ Cel.sub i k) → StE K G H' σ env' (t :: T) → Walks K G J t items → R J H'
def pItems (f : PEx) : PIt := fun env C => f env fun p e => match p with
  | .dat (.tuple ds) => C ds e
  | .dat (.dict [(.none, .tuple ds)]) => C ds e
  | .dat (.list ds) => C ds e
  | .own ds => C ds e
  | _ => False
def rangeP (lo hi : Int) : List PyData := (List.range (hi - lo).toNat).map fun k : Nat => .int (lo + (k : Int))
def pRange1 (g : PAs) : PIt := fun env C => g env fun ps e => match ps with
  | [.dat (.int j)] => -(2 ^ 62) ≤ j ∧ j < 2 ^ 62 ∧ C (rangeP 0 j) e
  | _ => False
def pRange2 (g : PAs) : PIt := fun env C => g env fun ps e => match ps with
  | [.dat (.int i), .dat (.int j)] => (-(2 ^ 62) ≤ i ∧ i < 2 ^ 62 ∧ -(2 ^ 62) ≤ j ∧ j < 2 ^ 62) ∧ C (rangeP i j) e
  | _ => False
section
variable {K : PySem.W.Frag} {G : Gam}
theorem walks_list {a : Addr} {ds : List PyData} {p : Cel} (h : p = .dat (.list ds) ∨ p = .own ds) : Walks K G (Itl K a) (.ref a, p) ds := by
  intro Z H σ env T s ht
  have hl : ∃ vs, H a = some (.lst vs) ∧ DaAll K Z H ds vs := by
    rcases h with rfl | rfl
    · obtain ⟨b, vs, e, h1, h2⟩ := s.lst ht (show lstOf env (.dat (.list ds)) = some ds from rfl)
      cases e
      exact ⟨vs, h1, h2⟩
    · obtain ⟨b, vs, e, h1, h2⟩ := s.lst ht (show lstOf env (.own ds) = some ds from rfl)
      cases e
      exact ⟨vs, h1, h2⟩
  obtain ⟨vs, h1, h2⟩ := hl
  refine ⟨fun i x e => ?_, ⟨vs, SqL.of h1, by rw [h2.len]; exact Nat.le_refl _⟩⟩
  obtain ⟨v, e1, hv⟩ := DaAll.at i ds vs x h2 e
  refine ⟨⟨vs, v, SqL.of h1, e1⟩, fun xv H' y => ?_⟩
  obtain ⟨rfl, y⟩ := y
  have := y vs (SqL.of h1)
  rw [e1] at this
  cases this
  exact s.dat hv
theorem walks_tup {a : Addr} {ds : List PyData} : Walks K G (Itt K a) (.ref a, .dat (.tuple ds)) ds := by
  intro Z H σ env T s ht
  obtain ⟨b, vs, e, h1, h2⟩ := s.datT ht
  cases e
  refine ⟨fun i x e => ?_, ⟨vs, h1, by rw [h2.len]; exact Nat.le_refl _⟩⟩
  obtain ⟨v, e1, hv⟩ := DaAll.at i ds vs x h2 e
  refine ⟨⟨vs, v, h1, e1⟩, fun xv H' y => ?_⟩
  obtain ⟨rfl, y⟩ := y
  have := y vs h1
  rw [e1] at this
  cases this
  exact s.dat hv
theorem walks_range {lo : Int} {n : Nat} {t : V × Cel} {ds : List PyData} (h : ds = (List.range n).map fun k : Nat => .int (lo + (k : Int))) : Walks K G (Itr lo n) t ds := by
  intro Z H σ env T s ht
  subst h
  refine ⟨fun i x e => ?_, by rw [List.length_map, List.length_range]; exact Nat.le_refl _⟩
  rw [List.getElem?_map] at e
  obtain ⟨k, e1, rfl⟩ := Option.map_eq_some_iff.mp e
  have hi := (List.getElem?_eq_some_iff.mp e1).1
  rw [List.length_range] at hi
  rw [List.getElem?_range hi] at e1
  cases e1
  refine ⟨hi, fun xv H' y => ?_⟩
  obtain ⟨rfl, rfl⟩ := y
  exact s.dat rfl
end
section
variable {X : Cx} {G : Gam} {tg l : Expr} {f : PEx} {pos : Pos}
/-- a list or a tuple is walked, as it comes -/
def iSeqP (K : PySem.W.Frag) (tl : TE) : TI := fun σ H R => tl σ H fun x H1 => ∃ a, x = .ref a ∧ ((∃ xs, SqL K H1 a xs ∧ R (Itl K a) H1) ∨ ∃ xs, SqT K H1 a xs ∧ R (Itt K a) H1)
theorem pi_seqP {tl : TE} (hl : PE X l tl) : PI X tg l (iSeqP X.K tl) := by
  constructor
  intro pins s σ H R I h
  refine thn (hl.run pins s σ H _ I h) ?_
  rintro v s1 ⟨x, H1, I1, r1, a, rfl, q | q⟩
  · obtain ⟨xs, hq, q⟩ := q
    cases r1
    obtain ⟨its, rv, pl, hz⟩ := I1.list hq
    refine wpAny_pyIter_list pl.isList ⟨s1.heap.objs.size, [s1.heap.objs.size], _, _, H1, rfl, ?_, turn_list a _, ⟨_, Heap.get?_push_size _ rfl, rfl, rfl⟩, ?_, q⟩
    · exact I1.kept (t' := s1.toks) fun b o => Heap.get?_push_of_some _
    · intro b hb
      rw [List.mem_singleton] at hb
      rw [hb]
      exact I1.fpOk (Nat.le_refl _) (I1.hok.fresh (Nat.le_refl _))
  · obtain ⟨xs, hq, q⟩ := q
    cases r1
    obtain ⟨its, rv, pl, hz⟩ := I1.tuple hq
    refine wpAny_pyIter_tuple (show s1.heap.IsTuple a its.toArray from pl) ⟨s1.heap.objs.size, [s1.heap.objs.size], _, _, H1, rfl, ?_, turn_tuple a _, ⟨_, Heap.get?_push_size _ rfl, rfl, rfl⟩, ?_, q⟩
    · exact I1.kept (t' := s1.toks) fun b o => Heap.get?_push_of_some _
    · intro b hb
      rw [List.mem_singleton] at hb
      rw [hb]
      exact I1.fpOk (Nat.le_refl _) (I1.hok.fresh (Nat.le_refl _))
theorem pi_itemsP (hl : PE X l (tE X.K G f)) : PI X tg l (tI X.K G (pItems f)) := (pi_seqP hl).le fun σ H R ⟨env, T, C, s, h, k⟩ => ⟨env, T, _, s, h, fun p e1 v H1 h1 ⟨Z, s1⟩ => by
  split at h1
  · obtain ⟨a, vs, rfl, ha, hx⟩ := s1.topDat
    exact ⟨a, rfl, .inr ⟨vs, ha, k _ _ _ _ _ h1 (nb_no (fun _ z => by cases z) (fun _ _ z => by cases z)) ⟨Z, s1⟩ walks_tup⟩⟩
  · obtain ⟨⟨a, vs, rfl, ha, hx⟩, _⟩ := s1.topDat
    exact ⟨a, rfl, .inr ⟨vs, ha, k _ _ (_, .dat (.tuple _)) _ _ h1 (nb_no (fun _ z => by cases z) (fun _ _ z => by cases z)) ⟨Z, s1.pop.dat ⟨a, vs, rfl, ha, hx⟩⟩ walks_tup⟩⟩
  · next ds _ =>
    obtain ⟨a, vs, rfl, ha, hx⟩ := s1.lst List.mem_cons_self (show lstOf e1 (.dat (.list ds)) = some ds from rfl)
    exact ⟨a, rfl, .inl ⟨vs, SqL.of ha, k _ _ _ _ _ h1 (nb_no (fun _ z => by cases z) (fun _ _ z => by cases z)) ⟨Z, s1⟩ (walks_list (.inl rfl))⟩⟩
  · next ds _ =>
    obtain ⟨a, vs, rfl, ha, hx⟩ := s1.lst List.mem_cons_self (show lstOf e1 (.own ds) = some ds from rfl)
    exact ⟨a, rfl, .inl ⟨vs, SqL.of ha, k _ _ _ _ _ h1 (nb_no (fun _ z => by cases z) (fun _ _ z => by cases z)) ⟨Z, s1⟩ (walks_list (.inr rfl))⟩⟩
  · exact h1.elim⟩
theorem pi_range1P {g : PAs} (h : PI X tg l (iRng1 (tA X.K G g))) : PI X tg l (tI X.K G (pRange1 g)) := h.le fun σ H R ⟨env, T, C, s, h, k⟩ => ⟨env, T, _, s, h, fun ps e1 vs H1 h1 l1 ⟨Z, s1⟩ => by
  split at h1
  · match vs, l1 with
    | [u], _ =>
      have S : StZ X.K G Z H1 σ e1 ((u, .dat _) :: T) := s1
      have := S.topDat
      cases this
      refine ⟨_, rfl, h1.1, h1.2.1, k _ _ (.non, .dat .none) _ _ h1.2.2 (nb_no (fun _ z => by cases z) (fun _ _ z => by cases z)) ⟨Z, S.pop.dat rfl⟩ (walks_range ?_)⟩
      unfold rangeP
      rw [Int.sub_zero]
  · exact h1.elim⟩
theorem pi_range2P {g : PAs} (h : PI X tg l (iRng2 (tA X.K G g))) : PI X tg l (tI X.K G (pRange2 g)) := h.le fun σ H R ⟨env, T, C, s, h, k⟩ => ⟨env, T, _, s, h, fun ps e1 vs H1 h1 l1 ⟨Z, s1⟩ => by
  split at h1
  · match vs, l1 with
    | [u, w], _ =>
      have S : StZ X.K G Z H1 σ e1 ((w, .dat _) :: (u, .dat _) :: T) := s1
      have h3 := S.topDat
      have h4 := S.pop.topDat
      cases h3
      cases h4
      exact ⟨_, _, rfl, h1.1, k _ _ (.non, .dat .none) _ _ h1.2 (nb_no (fun _ z => by cases z) (fun _ _ z => by cases z)) ⟨Z, S.pop.pop.dat rfl⟩ (walks_range rfl)⟩
  · exact h1.elim⟩
/-! ### for -/
def ForOk (items : List PyData) (e : PEnv) (tgt : PTg) (b : PSt) (E : PEnds) : Prop := ∃ W : Nat → PEnv → Prop, W 0 e ∧ (∀ j x e, items[j]? = some x → W j e → tgt x e fun e2 => b { E with nx := W (j + 1), ct := W (j + 1), bk := E.nx } e2) ∧ ∀ e, W items.length e → E.nx e
def pFor (it : PIt) (tgt : PTg) (b : PSt) : PSt := fun E env => it env fun items e => ForOk items e tgt b E
theorem ps_forP {st : Stmt} {it : PIt} {tgt : PTg} {b : PSt} (h : PS X st (tFor (tI X.K G it) (tG X.K G none tgt) (tS X.K G b))) : PS X st (tS X.K G (pFor it tgt b)) := h.le fun D σ H ⟨env, T, E, nb, s, h, k⟩ => ⟨env, T, _, s, h, fun items e1 t H1 J ⟨W, w0, turn, fin⟩ nbt s1 wk => by
  have nb2 : NoBor (t :: T) := fun u hu i => by
    rcases List.mem_cons.mp hu with rfl | hu
    · exact nbt i
    · exact nb u hu i
  have drop : ∀ {H σ env}, StE X.K G H σ env (t :: T) → StE X.K G H σ env T := fun ⟨Z, s⟩ => ⟨Z, s.pop⟩
  refine ⟨fun i m σ H => m = items.length - i ∧ i ≤ items.length ∧ ∃ env, W i env ∧ StE X.K G H σ env (t :: T), ⟨_, rfl, Nat.zero_le _, e1, w0, s1⟩, ?_⟩
  rintro i m σ2 H2 ⟨rfl, hi, e2, w2, Z2, s2⟩
  obtain ⟨go, stop⟩ := wk Z2 H2 σ2 e2 _ s2 List.mem_cons_self
  by_cases hlt : i < items.length
  · obtain ⟨g1, g2⟩ := go i _ (List.getElem?_eq_getElem hlt)
    refine .inr ⟨g1, fun σ H => ∃ env, W (i + 1) env ∧ StE X.K G H σ env (t :: T), fun σ' H' x => ⟨items.length - (i + 1), by omega, rfl, hlt, x⟩, fun x H3 y => ?_⟩
    refine ⟨e2, t :: T, _, _, fun _ => nb2, ⟨Z2, g2 x H3 y⟩, turn i _ e2 (List.getElem?_eq_getElem hlt) w2, fun e3 σ3 H3 h3 s3 _ => ⟨e3, t :: T, _, nb2, s3, h3, ?_, ?_, ?_, ?_⟩⟩
    · exact fun e4 σ4 H4 h4 s4 => ⟨e4, h4, s4⟩
    · exact fun p e4 σ4 v H4 h4 ⟨Z4, s4⟩ => k.rt p e4 σ4 v H4 h4 ⟨Z4, s4.sub (List.Sublist.cons_cons _ (List.sublist_cons_self _ _))⟩
    · exact fun e4 σ4 H4 h4 s4 => k.nx e4 σ4 H4 h4 (drop s4)
    · exact fun e4 σ4 H4 h4 s4 => ⟨e4, h4, s4⟩
  · have e : i = items.length := by omega
    subst e
    exact .inl ⟨stop, k.nx _ _ _ (fin e2 w2) ⟨Z2, s2.pop⟩⟩⟩
/-! ### [e for x in xs if t] -/
def wipeP (e : PEnv) : List Nat → PEnv
  | [] => e
  | v :: vs => (wipeP e vs).set v .no
/-- names that may be hidden: no lists -/
def fgtB (e : PEnv) : List Nat → Bool
  | [] => true
  | v :: vs => (match e[v]? with
    | some .no => true
    | some (.dat (.list _)) => false
    | some (.dat _) => true
    | some .drw => true
    | _ => false) && fgtB e vs
inductive LcOk (items : List PyData) (e : PEnv) (g : PTg) (t : PTst) (f : PEx) (vs : List Nat) (C : PK) : Prop where
  | mk (hf : fgtB e vs = true) (W : Nat → PEnv → List PyData → Prop) (w0 : W 0 (wipeP e vs) []) (turn : ∀ j x e2 acc, items[j]? = some x → W j e2 acc → g x (wipeP e2 vs) fun e3 => t e3 fun b e4 => IfP b (f e4 (fun p e5 => match p with
      | .dat d => acc.length < sizeLine ∧ W (j + 1) (wipeP e5 vs) (acc ++ [d])
      | _ => False)) (W (j + 1) (wipeP e4 vs) acc)) (fin : ∀ e2 acc, W items.length e2 acc → C (.own acc) (wipeP e2 vs))
def pLc (it : PIt) (g : PTg) (t : PTst) (f : PEx) (vs : List Nat) : PEx := fun env C => it env fun items e => LcOk items e g t f vs C
def pYes : PTst := fun env C => C true env
theorem pts_nilP : PTs X [] (tQ X.K G pYes) := ⟨fun pins s σ H Q I ⟨env, T, C, st, h, k⟩ => pts_nil.run pins s σ H Q I (k _ _ _ h st)⟩
end
section
variable {K : PySem.W.Frag} {G : Gam} {Z : Addr → Prop} {H : Hp} {σ : L2.St} {env : PEnv} {T : Stk}
theorem wipeP_at : ∀ {vs : List Nat} {i : Nat} {p : Cel}, (wipeP env vs)[i]? = some p → p = .no ∨ (env[i]? = some p ∧ i ∉ vs)
  | [], i, p, h => .inr ⟨h, by simp⟩
  | v :: vs, i, p, h => by
    unfold wipeP at h
    by_cases e : v = i
    · subst e
      have hl := (List.getElem?_eq_some_iff.mp h).1
      rw [List.length_set] at hl
      rw [List.getElem?_set_self hl] at h
      cases h
      exact .inl rfl
    · rw [List.getElem?_set_ne e] at h
      rcases wipeP_at h with h | ⟨h1, h2⟩
      · exact .inl h
      · exact .inr ⟨h1, by simp only [List.mem_cons, not_or]; exact ⟨fun z => e z.symm, h2⟩⟩
theorem wipeP_len (vs : List Nat) : (wipeP env vs).length = env.length := by
  induction vs with
  | nil => rfl
  | cons v vs ih => unfold wipeP; rw [List.length_set, ih]
theorem wipeP_no : ∀ {vs : List Nat} {i : Nat}, i ∈ vs → i < env.length → (wipeP env vs)[i]? = some .no
  | [], _, h, _ => by cases h
  | v :: vs, i, h, hl => by
    unfold wipeP
    by_cases e : v = i
    · subst e
      exact List.getElem?_set_self (by rw [wipeP_len]; exact hl)
    · rw [List.getElem?_set_ne e]
      exact wipeP_no ((List.mem_cons.mp h).elim (fun z => absurd z.symm e) id) hl
theorem StZ.wipeS (nb : ∀ v ∈ vs, ∀ t ∈ T, t.2 ≠ Cel.bor v ∧ ∀ k, t.2 ≠ Cel.sub v k) (s : StZ K G Z H σ env T) : StZ K G Z H σ (wipeP env vs) T := by
  induction vs with
  | nil => exact s
  | cons v vs ih =>
    have s2 := ih fun u hu => nb u (List.mem_cons_of_mem _ hu)
    unfold wipeP
    by_cases hv : v < env.length
    · exact s2.fgt (by rw [wipeP_len]; exact hv) (nb v List.mem_cons_self)
    · rw [List.set_eq_of_length_le (by rw [wipeP_len]; omega)]
      exact s2
theorem StZ.wipeA {vs : List Nat} (s : StZ K G Z H σ (wipeP env vs) T) : StZ K G Z H (wipe σ vs) (wipeP env vs) T := by
  refine s.sig (fun i p e n => ?_) fun i p e => ?_
  · rcases wipeP_at e with h | ⟨_, h⟩
    · exact absurd h n
    · exact wipe_out h
  · obtain ⟨ov, e1, _⟩ := s.sl i p e
    have := (List.getElem?_eq_some_iff.mp e1).1
    exact ⟨_, List.getElem?_eq_getElem (by rw [wipe_length]; exact this)⟩
theorem StZ.wipeB {vs : List Nat} (s : StZ K G Z H (wipe σ vs) (wipeP env vs) T) : StZ K G Z H σ (wipeP env vs) T := by
  refine s.sig (fun i p e n => ?_) fun i p e => ?_
  · rcases wipeP_at e with h | ⟨_, h⟩
    · exact absurd h n
    · exact (wipe_out h).symm
  · obtain ⟨ov, e1, _⟩ := s.sl i p e
    have := (List.getElem?_eq_some_iff.mp e1).1
    rw [wipe_length] at this
    exact ⟨_, List.getElem?_eq_getElem this⟩
theorem StZ.fgtB (s : StZ K G Z H σ env T) : ∀ {vs : List Nat}, fgtB env vs = true → ∀ v ∈ vs, ∀ t ∈ T, t.2 ≠ Cel.bor v ∧ ∀ k, t.2 ≠ Cel.sub v k
  | [], _ => fun v hv => by cases hv
  | u :: us, h => fun v hv t ht => by
    unfold My.fgtB at h
    rw [Bool.and_eq_true] at h
    rcases List.mem_cons.mp hv with rfl | hv
    · refine ⟨fun e => ?_, fun k e => ?_⟩
      · obtain ⟨_, c, k1, k2⟩ := s.bo t ht v e
        have h1 := h.1
        rw [k1] at h1
        cases c with
        | dat d => cases d with
          | list ds => cases h1
          | _ => exact k2
        | no => exact k2
        | drw => exact k2
        | _ => cases h1
      · obtain ⟨_, _, xs, _, k1, _⟩ := s.pn t ht v k e
        have h1 := h.1
        rw [k1] at h1
        cases h1
    · exact StZ.fgtB s h.2 v hv t ht
end
section
variable {X : Cx} {G : Gam} {e : Expr} {it : PIt} {g : PTg} {t : PTst} {f : PEx} {vs : List Nat}
/-- a comprehension, from its rule's reading -/
theorem lcP (σ : L2.St) (H : Hp) (Q : VK) (h : tE X.K G (pLc it g t f vs) σ H Q) : tLc (tI X.K G it) (tG X.K G (some vs) g) (tQ X.K G t) (tE X.K G f) vs σ H Q := by
  obtain ⟨env, T, C, s, h, k⟩ := h
  refine ⟨env, T, _, s, h, fun items e1 u H1 J h1 nbt ⟨Z1, s1⟩ wk => ?_⟩
  obtain ⟨hf, W, w0, turn, fin⟩ := h1
  intro D hD
  have nbv := s1.fgtB hf
  have sD := (s1.newLst (ds := []) (vs := []) hD rfl)
  have nbD : ∀ v ∈ vs, ∀ t ∈ ((V.ref D, Cel.own []) :: u :: T), t.2 ≠ Cel.bor v ∧ ∀ k, t.2 ≠ Cel.sub v k := fun v hv t ht => by
    rcases List.mem_cons.mp ht with rfl | ht
    · exact ⟨(fun z => by cases z), fun k z => by cases z⟩
    · exact nbv v hv t ht
  have nbA : ∀ acc, ∀ v ∈ vs, ∀ t ∈ ((V.ref D, Cel.own acc) :: u :: T), t.2 ≠ Cel.bor v ∧ ∀ k, t.2 ≠ Cel.sub v k := fun acc v hv t ht => by
    rcases List.mem_cons.mp ht with rfl | ht
    · exact ⟨(fun z => by cases z), fun k z => by cases z⟩
    · exact nbv v hv t ht
  have ww : wipe (wipe σ vs) vs = wipe σ vs := wipe_wipe vs fun _ h => h
  refine ⟨fun i m H => m = items.length - i ∧ i ≤ items.length ∧ ∃ env acc, W i env acc ∧ StE X.K G H (wipe σ vs) (wipeP env vs) ((.ref D, .own acc) :: u :: T), ⟨_, rfl, Nat.zero_le _, wipeP e1 vs, [], w0, Z1, ?_⟩, ?_⟩
  · exact StZ.wipeA (StZ.wipeS (nbA []) (StZ.wipeS (nbA []) sD))
  · rintro i m H2 ⟨rfl, hi, e2, acc, w2, Z2, s2⟩
    obtain ⟨go, stop⟩ := wk Z2 H2 _ _ _ s2 (List.mem_cons_of_mem _ List.mem_cons_self)
    by_cases hlt : i < items.length
    · obtain ⟨g1, g2⟩ := go i _ (List.getElem?_eq_getElem hlt)
      refine .inr ⟨g1, fun H => ∃ env acc, W (i + 1) env acc ∧ StE X.K G H (wipe σ vs) (wipeP env vs) ((.ref D, .own acc) :: u :: T), fun H' x => ⟨items.length - (i + 1), by omega, rfl, hlt, x⟩, fun x H3 y => ?_⟩
      refine ⟨wipeP e2 vs, (.ref D, .own acc) :: u :: T, _, _, (fun z => by cases z), ⟨Z2, g2 x H3 y⟩, turn i _ e2 acc (List.getElem?_eq_getElem hlt) w2, fun e3 σ3 H3 h3 s3 hw => ?_⟩
      have hw3 : wipe σ3 vs = wipe σ vs := (hw vs rfl).trans ww
      refine ⟨hw3, e3, _, _, s3, h3, fun b e4 H4 h4 s4 => ?_⟩
      have back : ∀ {Z H5 e5 acc'}, StZ X.K G Z H5 σ3 e5 ((.ref D, .own acc') :: u :: T) → StE X.K G H5 (wipe σ vs) (wipeP (wipeP e5 vs) vs) ((.ref D, .own acc') :: u :: T) := fun {Z H5 e5 acc'} s5 => by
        have s6 := (StZ.wipeS (nbA acc') (StZ.wipeS (nbA acc') s5)).wipeA
        rw [hw3] at s6
        exact ⟨Z, s6⟩
      cases b with
      | true =>
        refine ⟨e4, _, _, s4, h4.tt, fun p e5 v H5 h5 ⟨Z5, s5⟩ => ?_⟩
        cases p with
        | dat d =>
          obtain ⟨a, us, e6, k1, k2, _⟩ := s5.pop.topOwn
          cases e6
          exact ⟨us, k1, by rw [k2.len]; exact h5.1, wipeP e5 vs, acc ++ [d], h5.2, back (s5.pop.wrT (DaAll.app _ _ _ _ k2 (DaAll.one s5.topDat)))⟩
        | _ => exact h5.elim
      | false =>
        obtain ⟨Z4, s4⟩ := s4
        exact ⟨_, _, h4.ff, back s4⟩
    · have e : i = items.length := by omega
      subst e
      exact .inl ⟨stop, k _ _ _ _ (fin e2 acc w2) ⟨Z2, s2.wipeB.sub (List.Sublist.cons_cons _ (List.sublist_cons_self _ _))⟩⟩
theorem pe_lcP (h : PE X e (tLc (tI X.K G it) (tG X.K G (some vs) g) (tQ X.K G t) (tE X.K G f) vs)) : PE X e (tE X.K G (pLc it g t f vs)) := h.le lcP
/-- x = [..] -/
theorem ps_setLcP {st : Stmt} {i : Nat} (h : PS X st (tAsg (tLc (tI X.K G it) (tG X.K G (some vs) g) (tQ X.K G t) (tE X.K G f) vs) (gName i))) : PS X st (tS X.K G (pSet i (pLc it g t f vs))) :=
  ps_setP (h.le fun D σ H q => lcP σ H _ q)
end

/-! ### promises over the value layer -/
def ArgA (vs : List V) (as : List Cel) (a : Addr) : Prop := ∃ (j : Nat) (xs : List PyData), vs[j]? = some (V.ref a) ∧ as[j]? = some (Cel.arg xs)
def ArgOk (K : PySem.W.Frag) (dc : Option (Addr × Addr)) (Z : Addr → Prop) (H : Hp) (v : V) : Cel → Prop
  | .dat d => Da K Z H d v
  | .drw => ∃ d c, dc = some (d, c) ∧ v = .ref d
  | .arg xs => ∃ a us, v = .ref a ∧ H a = some (.lst us) ∧ DaAll K Z H xs us ∧ ¬ Z a ∧ ∀ d c, dc = some (d, c) → a ≠ d ∧ a ≠ c
  | _ => False
structure ArgsOk (K : PySem.W.Frag) (tbs : List Addr) (dc : Option (Addr × Addr)) (Z : Addr → Prop) (H : Hp) (vs : List V) (as : List Cel) : Prop where
  len : vs.length = as.length
  ok : ∀ (j : Nat) (v : V) (p : Cel), vs[j]? = some v → as[j]? = some p → ArgOk K dc Z H v p
  sep : ∀ (i j : Nat) (a : Addr) (xs ys : List PyData), vs[i]? = some (V.ref a) → vs[j]? = some (V.ref a) → as[i]? = some (Cel.arg xs) → as[j]? = some (Cel.arg ys) → i = j
  z3 : ∀ a, Z a → H a ≠ none
  dr : ∀ d c, dc = some (d, c) → Dr d c H ∧ ¬ Z d ∧ ¬ Z c
  tk : ∀ b ∈ tbs, GxR.TabG H b
def RetOk (K : PySem.W.Frag) (Z' : Addr → Prop) (H H' : Hp) (v : V) : Cel → Prop
  | .dat d => Da K Z' H' d v
  | .own xs => ∃ a us, v = .ref a ∧ H' a = some (.lst us) ∧ DaAll K Z' H' xs us ∧ ¬ Z' a ∧ H a = none
  | _ => False
structure PostOk (K : PySem.W.Frag) (dc : Option (Addr × Addr)) (Z : Addr → Prop) (H : Hp) (vs : List V) (as : List Cel) (r : Cel) (as' : List Cel) (v : V) (H' : Hp) (Z' : Addr → Prop) : Prop where
  z1 : ∀ a, Z a → Z' a
  z2 : ∀ a, Z' a → Z a ∨ H a = none
  z3 : ∀ a, Z' a → H' a ≠ none
  ret : RetOk K Z' H H' v r
  args : ∀ (j : Nat) xs', as'[j]? = some (Cel.arg xs') → ∃ a us, vs[j]? = some (V.ref a) ∧ H' a = some (.lst us) ∧ DaAll K Z' H' xs' us ∧ ¬ Z' a
  shape : ∀ (j : Nat) xs, as[j]? = some (Cel.arg xs) → ∃ xs', as'[j]? = some (Cel.arg xs')
  fr : ∀ b o, H b = some o → (∀ ps, o ≠ .tbl ps) → ¬ ArgA vs as b → (∀ d c, dc = some (d, c) → b ≠ d) → H' b = some o
  al : ∀ b, H b ≠ none → H' b ≠ none
  dr : ∀ d c, dc = some (d, c) → Dr d c H'
  tb : ∀ b, GxR.TabG H b → GxR.TabG H' b
abbrev PR := List Cel → (Cel → List Cel → Prop) → Prop
def spP (K : PySem.W.Frag) (tbs : List Addr) (n : Nat) (R : PR) : Sp := fun vs H Q _ => ∃ dc Z as C, as.length = n ∧ ArgsOk K tbs dc Z H vs as ∧ R as C ∧ ∀ r as' v H' Z', C r as' → PostOk K dc Z H vs as r as' v H' Z' → Q v H'
def startE (as : List Cel) (n : Nat) : PEnv := as ++ List.replicate (n - as.length) .no
def back : List Cel → PEnv → Option (List Cel)
  | [], _ => some []
  | .arg _ :: as, .arg xs :: e => (back as e).map (.arg xs :: ·)
  | .arg _ :: _, _ => none
  | p :: as, _ :: e => (back as e).map (p :: ·)
  | _ :: _, [] => none
def endsP (as : List Cel) (C : Cel → List Cel → Prop) : PEnds where
  nx := fun env => match back as env with
    | some as' => C (.dat .none) as'
    | none => False
  rt := fun p env => match p, back as env with
    | .dat d, some as' => C (.dat d) as'
    | .own xs, some as' => C (.own xs) as'
    | _, _ => False
theorem back_at : ∀ (as : List Cel) (e : PEnv) (as' : List Cel), back as e = some as' → (∀ (j : Nat) xs', as'[j]? = some (Cel.arg xs') → e[j]? = some (.arg xs') ∧ ∃ xs, as[j]? = some (.arg xs)) ∧ ∀ (j : Nat) xs, as[j]? = some (Cel.arg xs) → ∃ xs', as'[j]? = some (Cel.arg xs')
  | [], _, _, h => by
    cases h
    exact ⟨fun j xs' e => by simp at e, fun j xs e => by simp at e⟩
  | p :: as, e, as', h => by
    have step : ∀ (q : Cel) (c : Cel) (e' : PEnv), e = c :: e' → (back as e').map (q :: ·) = some as' → ((∀ xs', q = .arg xs' → c = .arg xs' ∧ ∃ xs, p = .arg xs) ∧ ∀ xs, p = .arg xs → ∃ xs', q = .arg xs') → (∀ (j : Nat) xs', as'[j]? = some (Cel.arg xs') → e[j]? = some (.arg xs') ∧ ∃ xs, (p :: as)[j]? = some (.arg xs)) ∧ ∀ (j : Nat) xs, (p :: as)[j]? = some (Cel.arg xs) → ∃ xs', as'[j]? = some (Cel.arg xs') := by
      intro q c e' he hm ⟨k1, k2⟩
      obtain ⟨bs, h1, rfl⟩ := Option.map_eq_some_iff.mp hm
      subst he
      obtain ⟨i1, i2⟩ := back_at as e' bs h1
      refine ⟨fun j xs' ej => ?_, fun j xs ej => ?_⟩
      · cases j with
        | zero =>
          obtain ⟨a1, xs, a2⟩ := k1 xs' (Option.some.inj ej)
          exact ⟨congrArg some a1, xs, congrArg some a2⟩
        | succ j => exact i1 j xs' ej
      · cases j with
        | zero =>
          obtain ⟨xs', a⟩ := k2 xs (Option.some.inj ej)
          exact ⟨xs', congrArg some a⟩
        | succ j => exact i2 j xs ej
    cases p with
    | arg ys =>
      cases e with
      | nil => cases h
      | cons c e' =>
        cases c with
        | arg zs => exact step _ _ e' rfl h ⟨(fun xs' z => by cases z; exact ⟨rfl, ys, rfl⟩), fun xs _ => ⟨zs, rfl⟩⟩
        | _ => cases h
    | _ =>
      cases e with
      | nil => cases h
      | cons c e' => exact step _ c e' rfl h ⟨(fun xs' z => by cases z), (fun xs z => by cases z)⟩
theorem start_at {N : List Str} {vs : List V} {i : Nat} {v : V} (h : vs[i]? = some v) : (start N vs)[i]? = some (some v) := by
  unfold L2.start
  rw [List.getElem?_append_left (by rw [List.length_map]; exact (List.getElem?_eq_some_iff.mp h).1), List.getElem?_map, h]
  rfl
theorem startE_at {as : List Cel} {n i : Nat} {p : Cel} (h : (startE as n)[i]? = some p) : as[i]? = some p ∨ (as.length ≤ i ∧ p = .no ∧ i < n) := by
  unfold startE at h
  by_cases hi : i < as.length
  · rw [List.getElem?_append_left hi] at h
    exact .inl h
  · rw [List.getElem?_append_right (by omega), List.getElem?_replicate] at h
    split at h
    · cases h
      exact .inr ⟨by omega, rfl, by omega⟩
    · cases h
section
variable {P : Program} {w : World} {K : PySem.W.Frag} {mg : Str → Option Value} {base : Heap} {x : Str} {st : Stmt} {f : Addr} {fd : FuncData} {N ps : List Str} {k : Nat} {dvs : List V} {kws : List (Str × V)}
theorem start_st {tbs : List Addr} {dc : Option (Addr × Addr)} {Z : Addr → Prop} {H : Hp} {vs : List V} {as : List Cel} (h : ArgsOk K tbs dc Z H vs as) (hN : as.length ≤ N.length) : StZ K ⟨dc, H, Z, ArgA vs as, vs, tbs⟩ Z H (start N vs) (startE as N.length) [] := by
  have atv : ∀ {i p}, as[i]? = some p → ∃ v, vs[i]? = some v := fun {i p} e => ⟨_, List.getElem?_eq_getElem (by rw [h.len]; exact (List.getElem?_eq_some_iff.mp e).1)⟩
  have own : ∀ {i a}, OwnS H (start N vs) (startE as N.length) i a → vs[i]? = some (.ref a) ∧ ∃ xs, as[i]? = some (.arg xs) := fun {i a} o => by
    obtain ⟨ov, p, e, h1, hb⟩ := o
    rcases startE_at h1 with h2 | ⟨_, z, _⟩
    · obtain ⟨v, hv⟩ := atv h2
      rw [start_at hv] at e
      cases e
      have ok := h.ok i v _ hv h2
      cases p with
      | arg xs =>
        obtain ⟨b, us, rfl, _⟩ := ok
        rw [List.mem_singleton.mp hb]
        exact ⟨hv, xs, h2⟩
      | dat d => cases hb
      | drw => cases hb
      | _ => exact ok.elim
    · subst z
      cases ov <;> cases hb
  refine ⟨⟨fun a z => h.z3 a z, fun a ⟨j, xs, h1, h2⟩ => ?_, fun d c e => ?_⟩, fun i p e => ?_, fun t ht => by simp at ht, fun t ht => by simp at ht, fun t ht => by simp at ht, List.Pairwise.nil, fun i j a o1 o2 => ?_, List.Pairwise.nil, fun i a t _ ht => by simp at ht, fun t ht => by simp at ht, fun j xs e => ?_, fun a z => z, fun a z => .inl z, h.z3, fun b o e _ _ _ => e, fun b e => e, fun d c e => (h.dr d c e).1, fun b e => e, h.tk⟩
  · obtain ⟨a', us, e1, h3, _, h4, _⟩ := h.ok j _ _ h1 h2
    cases e1
    exact ⟨h4, _, h3, .inl ⟨us, rfl⟩⟩
  · obtain ⟨⟨cells, i, big, seed, cnt, h1, h2, _⟩, z1, z2⟩ := h.dr d c e
    refine ⟨z1, z2, fun ⟨j, xs, k1, k2⟩ => ?_, fun ⟨j, xs, k1, k2⟩ => ?_, (fun z => by rw [show H d = none from z] at h1; cases h1), fun z => by rw [show H c = none from z] at h2; cases h2⟩
    · obtain ⟨a', us, e1, _, _, _, n⟩ := h.ok j _ _ k1 k2
      cases e1
      exact (n d c e).1 rfl
    · obtain ⟨a', us, e1, _, _, _, n⟩ := h.ok j _ _ k1 k2
      cases e1
      exact (n d c e).2 rfl
  · rcases startE_at e with h1 | ⟨h1, rfl, h2⟩
    · obtain ⟨v, hv⟩ := atv h1
      refine ⟨_, start_at hv, ?_⟩
      have ok := h.ok i v p hv h1
      cases p with
      | no => trivial
      | dat d => exact ⟨v, rfl, ok⟩
      | own xs => exact ok.elim
      | arg xs =>
        obtain ⟨a, us, rfl, k1, k2, k3, _⟩ := ok
        exact ⟨a, us, rfl, k1, k2, k3, i, xs, hv, h1⟩
      | drw =>
        obtain ⟨d, c, k1, rfl⟩ := ok
        exact ⟨d, c, k1, rfl⟩
      | _ => exact ok.elim
    · refine ⟨none, ?_, trivial⟩
      have l := h.len
      unfold L2.start
      rw [List.getElem?_append_right (by rw [List.length_map]; omega), List.getElem?_replicate, List.length_map, if_pos (by omega)]
  · obtain ⟨h1, xs, h2⟩ := own o1
    obtain ⟨h3, ys, h4⟩ := own o2
    exact h.sep i j a xs ys h1 h3 h2 h4
  · rcases startE_at e with h1 | ⟨_, z, _⟩
    · obtain ⟨v, hv⟩ := atv h1
      exact ⟨v, hv, start_at hv⟩
    · cases z
theorem okRc {sp : Sp} (F : FunD K x x (defArgs st) (defBody st) (defScope st) dvs kws f fd) (S : FnScope N ps (defScope st)) (len : ∀ vs H Q E, sp vs H Q E → vs.length = ps.length)
    (body : ∀ (cdv : Value) (A : Around) (outer : List Env) (s : Shared) (H : Hp) (vs : List V) (Q : VK) (E : XK), fd.code = cdv → Room k (A.deeper (envOfC x (defScope st) s.heap.objs.size f cdv)) → sp vs H Q E →
      ∃ t, PSs (cxOf CX0 P w K mg base N x (defScope st) f cdv A outer s H E).nox (defBody st) t ∧ t { nx := fun _ H' => Q .non H', rt := Q } (start N vs) H) : FnOk P w K mg base CX0 (k + 1) f fd ps sp := by
  obtain ⟨oc, od, dV, kV, doc, pm, an, cdv, ct, osl, rfl, lk, hcd, _, _⟩ := F.ex
  refine fn_of lk hcd S len fun A outer s H vs Q E hr h => ?_
  obtain ⟨t, h1, h2⟩ := body cdv A outer s H vs Q E rfl hr h
  exact ⟨t, h1.nox, h2⟩
theorem okP {tbs : List Addr} {n : Nat} {R : PR} (F : FunD K x x (defArgs st) (defBody st) (defScope st) dvs kws f fd) (S : FnScope N ps (defScope st)) (hl : ps.length = n)
    (body : ∀ (cdv : Value) (A : Around) (outer : List Env) (s : Shared) (H : Hp) (E : XK) (G : Gam), G.tbs = tbs → fd.code = cdv → Room k (A.deeper (envOfC x (defScope st) s.heap.objs.size f cdv)) →
      ∃ g, PSs (cxOf CX0 P w K mg base N x (defScope st) f cdv A outer s H E).nox (defBody st) (tS K G g) ∧ ∀ as C, as.length = n → R as C → g (endsP as C) (startE as N.length)) : FnOk P w K mg base CX0 (k + 1) f fd ps (spP K tbs n R) := by
  refine okRc F S (fun vs H Q E h => ?_) fun cdv A outer s H vs Q E hcd hr h => ?_
  · obtain ⟨dc, Z, as, C, h1, h2, _⟩ := h
    rw [h2.len, h1, hl]
  · obtain ⟨dc, Z, as, C, h1, h2, h3, q⟩ := h
    have hN : as.length ≤ N.length := by
      have := congrArg List.length S.pre
      rw [List.length_take] at this
      omega
    obtain ⟨g, hg, w1⟩ := body cdv A outer s H E ⟨dc, H, Z, ArgA vs as, vs, tbs⟩ rfl hcd hr
    refine ⟨_, hg, startE as N.length, [], endsP as C, fun t ht => by simp at ht, ⟨Z, start_st h2 hN⟩, w1 as C h1 h3, ?_⟩
    have fin : ∀ p env σ v H', (endsP as C).rt p env → StE K ⟨dc, H, Z, ArgA vs as, vs, tbs⟩ H' σ env [(v, p)] → Q v H' := by
      intro p env σ v H' hc ⟨Z', s'⟩
      have go : ∀ as', back as env = some as' → RetOk K Z' H H' v p → C p as' → Q v H' := fun as' e hr hc => by
        obtain ⟨b1, b2⟩ := back_at as env as' e
        refine q p as' v H' Z' hc ⟨s'.z1, s'.z2, s'.z3, hr, fun j xs' ej => ?_, b2, s'.fr, s'.al, s'.dr, s'.tb⟩
        obtain ⟨k1, _⟩ := b1 j xs' ej
        obtain ⟨u, k2, k3⟩ := s'.ar j xs' k1
        obtain ⟨ov, k4, a, us, k5, k6, k7, k8, _⟩ := s'.sl j _ k1
        rw [k3] at k4
        cases k4
        cases k5
        exact ⟨a, us, k2, k6, k7, k8⟩
      unfold endsP at hc
      dsimp only at hc
      split at hc
      · next as' e => exact go as' e s'.topDat hc
      · next as' e =>
        obtain ⟨a, us, e1, k1, k2, k3, k4, _⟩ := s'.topOwn
        exact go as' e ⟨a, us, e1, k1, k2, k3, k4⟩ hc
      · exact hc.elim
    exact ⟨fun env σ H' h' ⟨Z', s'⟩ => fin (.dat .none) env σ .non H' (by
      unfold endsP at h' ⊢
      dsimp only at h' ⊢
      split at h'
      · next e => rw [e]; exact h'
      · exact h'.elim) ⟨Z', s'.dat rfl⟩, fin, fun _ _ _ z => z.elim, fun _ _ _ z => z.elim⟩
end
/-! ### calls -/
def asOf1 (e : PEnv) : Cel → Option Cel
  | .dat d => some (.dat d)
  | .drw => some .drw
  | .own xs => some (.arg xs)
  | .bor i => match e[i]? with
    | some (.own xs) => some (.arg xs)
    | some (.arg xs) => some (.arg xs)
    | some (.dat (.list xs)) => some (.dat (.list xs))
    | _ => none
  | _ => none
def asOf (e : PEnv) : List Cel → Option (List Cel)
  | [] => some []
  | p :: ps => match asOf1 e p, asOf e ps with
    | some a, some as => some (a :: as)
    | _, _ => none
def borOk : List Cel → Bool
  | [] => true
  | .bor i :: ps => ps.all (fun p => match p with | .bor j => i != j | _ => true) && borOk ps
  | _ :: ps => borOk ps
def setB (e : PEnv) (i : Nat) (xs : List PyData) : PEnv := match e[i]? with
  | some (.own _) => e.set i (.own xs)
  | some (.arg _) => e.set i (.arg xs)
  | _ => e
def putB : PEnv → List Cel → List Cel → PEnv
  | e, .bor i :: ps, .arg xs :: as => putB (setB e i xs) ps as
  | e, _ :: ps, _ :: as => putB e ps as
  | e, _, _ => e
def pCall (n : Nat) (R : PR) (g : PAs) : PEx := fun env C => g env fun ps e => match asOf e ps, (borOk ps && ps.length == n) with
  | some as, true => R as fun r as' => C r (putB e ps as')
  | _, _ => False
def pCall0 (R : PR) : PEx := fun env C => R [] fun r as' => C r env
/-- what putB leaves at a place -/
def PutAt (ps as : List Cel) (e : PEnv) (i : Nat) (q : Cel) : Prop := (e[i]? = some q ∧ ∀ (j : Nat) (xs' : List PyData), ps[j]? = some (Cel.bor i) → as[j]? = some (Cel.arg xs') → ∀ ys, q ≠ .own ys ∧ q ≠ .arg ys) ∨
  ∃ (j : Nat) (xs' : List PyData), ps[j]? = some (Cel.bor i) ∧ as[j]? = some (Cel.arg xs') ∧ ((q = .own xs' ∧ ∃ xs, e[i]? = some (.own xs)) ∨ (q = .arg xs' ∧ ∃ xs, e[i]? = some (.arg xs)))
theorem putB_at : ∀ (ps as : List Cel) (e : PEnv) (i : Nat) (q : Cel), borOk ps = true → (putB e ps as)[i]? = some q → PutAt ps as e i q
  | [], as, e, i, q, _, h => .inl ⟨by unfold putB at h; exact h, fun j xs' z => by simp at z⟩
  | p :: ps, [], e, i, q, _, h => .inl ⟨by
      have : putB e (p :: ps) [] = e := by cases p <;> rfl
      rw [this] at h
      exact h, fun j xs' _ z => by simp at z⟩
  | p :: ps, a :: as, e, i, q, hb, h => by
    have skip : borOk ps = true → (putB e ps as)[i]? = some q → (p = .bor i → ∀ xs', a ≠ .arg xs') → PutAt (p :: ps) (a :: as) e i q := fun hb h hn => by
      rcases putB_at ps as e i q hb h with ⟨h1, h2⟩ | ⟨j, xs', h1, h2, h3⟩
      · refine Or.inl ⟨h1, fun j xs' e1 e2 => ?_⟩
        cases j with
        | zero => exact absurd (Option.some.inj e2) (hn (Option.some.inj e1) xs')
        | succ j => exact h2 j xs' e1 e2
      · exact Or.inr ⟨j + 1, xs', h1, h2, h3⟩
    cases p with
    | bor k =>
      have hb' : (ps.all (fun p => match p with | .bor j => k != j | _ => true) && borOk ps) = true := hb
      rw [Bool.and_eq_true] at hb'
      cases a with
      | arg xs =>
        have h : (putB (setB e k xs) ps as)[i]? = some q := h
        by_cases ek : k = i
        · subst ek
          have no : ∀ j, ps[j]? ≠ some (Cel.bor k) := fun j z => by
            have := List.all_eq_true.mp hb'.1 _ (List.mem_of_getElem? z)
            simp at this
          rcases putB_at ps as (setB e k xs) k q hb'.2 h with ⟨h1, h2⟩ | ⟨j, xs', h1, _⟩
          · unfold setB at h1
            split at h1
            · next ys e1 =>
              rw [List.getElem?_set_self (List.getElem?_eq_some_iff.mp e1).1] at h1
              cases h1
              exact .inr ⟨0, xs, rfl, rfl, .inl ⟨rfl, ys, e1⟩⟩
            · next ys e1 =>
              rw [List.getElem?_set_self (List.getElem?_eq_some_iff.mp e1).1] at h1
              cases h1
              exact .inr ⟨0, xs, rfl, rfl, .inr ⟨rfl, ys, e1⟩⟩
            · next n1 n2 =>
              refine .inl ⟨h1, fun j xs' _ _ ys => ⟨fun z => n1 ys (by rw [h1, z]), fun z => n2 ys (by rw [h1, z])⟩⟩
          · exact absurd h1 (no j)
        · have se : (setB e k xs)[i]? = e[i]? := by
            unfold setB
            split
            · rw [List.getElem?_set_ne ek]
            · rw [List.getElem?_set_ne ek]
            · rfl
          rcases putB_at ps as (setB e k xs) i q hb'.2 h with ⟨h1, h2⟩ | ⟨j, xs', h1, h2, h3⟩
          · refine .inl ⟨by rw [← se]; exact h1, fun j xs' e1 e2 => ?_⟩
            cases j with
            | zero => exact absurd (Cel.bor.inj (Option.some.inj e1)) ek
            | succ j => exact h2 j xs' e1 e2
          · rw [se] at h3
            exact .inr ⟨j + 1, xs', h1, h2, h3⟩
      | _ => exact skip hb'.2 h fun _ xs' z => by cases z
    | _ => exact skip hb h fun z => by cases z
theorem putB_len : ∀ (ps as : List Cel) (e : PEnv), (putB e ps as).length = e.length
  | [], _, e => rfl
  | p :: ps, [], e => by cases p <;> rfl
  | p :: ps, a :: as, e => by
    have sl : ∀ i xs, (setB e i xs).length = e.length := fun i xs => by
      unfold setB
      split
      · exact List.length_set
      · exact List.length_set
      · rfl
    cases p with
    | bor k =>
      cases a with
      | arg xs =>
        show (putB (setB e k xs) ps as).length = _
        rw [putB_len ps as, sl]
      | _ => exact putB_len ps as e
    | _ => exact putB_len ps as e
theorem asOf_at : ∀ (ps : List Cel) (e : PEnv) (as : List Cel), asOf e ps = some as → as.length = ps.length ∧ ∀ (j : Nat) p, ps[j]? = some p → ∃ a, as[j]? = some a ∧ asOf1 e p = some a
  | [], e, as, h => by
    cases h
    exact ⟨rfl, fun j p e => by simp at e⟩
  | p :: ps, e, as, h => by
    unfold asOf at h
    split at h
    · next a as' h1 h2 =>
      cases h
      obtain ⟨l, k⟩ := asOf_at ps e as' h2
      refine ⟨congrArg Nat.succ l, fun j q ej => ?_⟩
      cases j with
      | zero =>
        cases ej
        exact ⟨a, rfl, h1⟩
      | succ j => exact k j q ej
    · cases h
theorem psh_mem : ∀ (ps : List Cel) (vs : List V) (T : Stk), (∀ t ∈ T, t ∈ psh T vs ps) ∧ ∀ (j : Nat) v p, vs[j]? = some v → ps[j]? = some p → (v, p) ∈ psh T vs ps
  | [], [], T => ⟨fun t h => h, fun j v p e => by simp at e⟩
  | [], _ :: _, T => ⟨fun t h => h, fun j v p _ e => by simp at e⟩
  | _ :: _, [], T => ⟨fun t h => h, fun j v p e => by simp at e⟩
  | p :: ps, v :: vs, T => by
    obtain ⟨h1, h2⟩ := psh_mem ps vs ((v, p) :: T)
    refine ⟨fun t h => h1 t (List.mem_cons_of_mem _ h), fun j u q e1 e2 => ?_⟩
    cases j with
    | zero =>
      cases e1
      cases e2
      exact h1 _ List.mem_cons_self
    | succ j => exact h2 j u q e1 e2
theorem psh_sub : ∀ (ps : List Cel) (vs : List V) (T : Stk), T.Sublist (psh T vs ps)
  | [], [], T => List.Sublist.refl _
  | [], _ :: _, T => List.Sublist.refl _
  | _ :: _, [], T => List.Sublist.refl _
  | p :: ps, v :: vs, T => (List.sublist_cons_self _ _).trans (psh_sub ps vs ((v, p) :: T))
/-- own values on the stack stand apart: in the arguments, and from what lies below -/
theorem psh_sep {H : Hp} : ∀ (ps : List Cel) (vs : List V) (T : Stk), (psh T vs ps).Pairwise (fun t u => ∀ a, OwnT H t a → ¬ OwnT H u a) → (∀ (j : Nat) v p, vs[j]? = some v → ps[j]? = some p → ∀ t ∈ T, ∀ a, OwnT H (v, p) a → ¬ OwnT H t a) ∧ ∀ (i j : Nat) v u p q a, vs[i]? = some v → ps[i]? = some p → vs[j]? = some u → ps[j]? = some q → OwnT H (v, p) a → OwnT H (u, q) a → i = j
  | [], [], T, _ => ⟨fun j v p e => by simp at e, fun i j v u p q a e => by simp at e⟩
  | [], _ :: _, T, _ => ⟨fun j v p _ e => by simp at e, fun i j v u p q a _ e => by simp at e⟩
  | _ :: _, [], T, _ => ⟨fun j v p e => by simp at e, fun i j v u p q a e => by simp at e⟩
  | p :: ps, v :: vs, T, h => by
    obtain ⟨h1, h2⟩ := psh_sep ps vs ((v, p) :: T) h
    have h0 := (List.pairwise_cons.mp (h.sublist (psh_sub ps vs ((v, p) :: T)))).1
    refine ⟨fun j u q e1 e2 t ht a o1 o2 => ?_, fun i j u1 u2 q1 q2 a e1 e2 e3 e4 o1 o2 => ?_⟩
    · cases j with
      | zero =>
        cases e1
        cases e2
        exact h0 t ht a o1 o2
      | succ j => exact h1 j u q e1 e2 t (List.mem_cons_of_mem _ ht) a o1 o2
    · cases i with
      | zero =>
        cases j with
        | zero => rfl
        | succ j =>
          cases e1
          cases e2
          exact absurd o1 (h1 j u2 q2 e3 e4 _ List.mem_cons_self a o2)
      | succ i =>
        cases j with
        | zero =>
          cases e3
          cases e4
          exact absurd o2 (h1 i u1 q1 e1 e2 _ List.mem_cons_self a o1)
        | succ j => exact congrArg Nat.succ (h2 i j u1 u2 q1 q2 a e1 e2 e3 e4 o1 o2)
theorem borOk_inj : ∀ {ps : List Cel} {i j k : Nat}, borOk ps = true → ps[i]? = some (Cel.bor k) → ps[j]? = some (Cel.bor k) → i = j
  | [], i, j, k, _, e, _ => by simp at e
  | p :: ps, i, j, k, h, e1, e2 => by
    have tl : borOk ps = true := by
      cases p with
      | bor n =>
        have h' : (ps.all (fun p => match p with | .bor j => n != j | _ => true) && borOk ps) = true := h
        rw [Bool.and_eq_true] at h'
        exact h'.2
      | _ => exact h
    have hd : ∀ m, p = .bor k → ps[m]? ≠ some (Cel.bor k) := fun m z z2 => by
      subst z
      have h' : (ps.all (fun p => match p with | .bor j => k != j | _ => true) && borOk ps) = true := h
      rw [Bool.and_eq_true] at h'
      have := List.all_eq_true.mp h'.1 _ (List.mem_of_getElem? z2)
      simp at this
    cases i with
    | zero =>
      cases j with
      | zero => rfl
      | succ j => exact absurd e2 (hd j (Option.some.inj e1))
    | succ i =>
      cases j with
      | zero => exact absurd e1 (hd i (Option.some.inj e2))
      | succ j => exact congrArg Nat.succ (borOk_inj tl e1 e2)

section
variable {K : PySem.W.Frag} {G : Gam} {Z : Addr → Prop} {H : Hp} {σ : L2.St} {e : PEnv} {T : Stk} {vs : List V} {ps as : List Cel}
/-- what an argument list is -/
theorem arg_cls (s : StZ K G Z H σ e (psh T vs ps)) (l : vs.length = ps.length) (ha : asOf e ps = some as) {j : Nat} {a : Addr} {xs : List PyData} (h1 : vs[j]? = some (.ref a)) (h2 : as[j]? = some (.arg xs)) :
    (∃ us, H a = some (.lst us) ∧ DaAll K Z H xs us) ∧ ¬ Z a ∧ (G.H0 a = none ∨ G.M0 a) ∧ ((ps[j]? = some (.own xs) ∧ OwnT H (V.ref a, Cel.own xs) a) ∨ ∃ i, ps[j]? = some (.bor i) ∧ OwnS H σ e i a ∧ (e[i]? = some (.own xs) ∨ e[i]? = some (.arg xs))) := by
  obtain ⟨la, ka⟩ := asOf_at ps e as ha
  have hj : j < ps.length := by
    have := (List.getElem?_eq_some_iff.mp h2).1
    omega
  have hp := List.getElem?_eq_getElem hj
  generalize ps[j] = p at hp
  obtain ⟨q, e1, e2⟩ := ka j p hp
  rw [h2] at e1
  cases e1
  have mem := (psh_mem ps vs T).2 j _ p h1 hp
  cases p with
  | no => cases e2
  | dat d => cases e2
  | drw => cases e2
  | arg ys => cases e2
  | box ys => cases e2
  | pnd ys => cases e2
  | dic ys => cases e2
  | dit ys => cases e2
  | lck o ws ys => cases e2
  | exn a d fs => cases e2
  | two b xs ys => cases e2
  | sub i k => cases e2
  | own ys =>
    cases e2
    obtain ⟨b, us, e3, k1, k2, k3, k4⟩ := s.tm _ mem
    cases e3
    exact ⟨⟨us, k1, k2⟩, k3, .inl k4, .inl ⟨hp, List.mem_cons_self⟩⟩
  | bor i =>
    obtain ⟨e3, _⟩ := s.bo _ mem i rfl
    have e2 : (match e[i]? with
      | some (.own xs) => some (Cel.arg xs)
      | some (.arg xs) => some (Cel.arg xs)
      | some (.dat (.list xs)) => some (Cel.dat (.list xs))
      | _ => none) = some (Cel.arg xs) := e2
    split at e2
    · next ys q =>
      cases e2
      have o : OwnS H σ e i a := ⟨_, .own xs, e3, q, List.mem_cons_self⟩
      obtain ⟨ov, e5, b, us, e6, k1, k2, k3, k4⟩ := s.sl i _ q
      rw [e3] at e5
      cases e5
      cases e6
      exact ⟨⟨us, k1, k2⟩, k3, .inl k4, .inr ⟨i, hp, o, .inl q⟩⟩
    · next ys q =>
      cases e2
      have o : OwnS H σ e i a := ⟨_, .arg xs, e3, q, List.mem_cons_self⟩
      obtain ⟨ov, e5, b, us, e6, k1, k2, k3, k4⟩ := s.sl i _ q
      rw [e3] at e5
      cases e5
      cases e6
      exact ⟨⟨us, k1, k2⟩, k3, .inr k4, .inr ⟨i, hp, o, .inr q⟩⟩
    · cases e2
    · cases e2
theorem args_ok (s : StZ K G Z H σ e (psh T vs ps)) (l : vs.length = ps.length) (ha : asOf e ps = some as) (hb : borOk ps = true) : ArgsOk K G.tbs G.dc Z H vs as := by
  obtain ⟨la, ka⟩ := asOf_at ps e as ha
  refine ⟨l.trans la.symm, fun j v q h1 h2 => ?_, fun i j a xs ys h1 h2 h3 h4 => ?_, s.z3, fun d c e => ⟨s.dr d c e, s.zd e⟩, s.tk⟩
  · have hj : j < ps.length := by
      have := (List.getElem?_eq_some_iff.mp h2).1
      omega
    have hp := List.getElem?_eq_getElem hj
    generalize ps[j] = p at hp
    obtain ⟨q', e1, e2⟩ := ka j p hp
    rw [h2] at e1
    cases e1
    have mem := (psh_mem ps vs T).2 j _ p h1 hp
    cases p with
    | no => cases e2
    | dat d =>
      cases e2
      exact s.datT mem
    | drw =>
      cases e2
      obtain ⟨d, c, k1, k2⟩ := s.tm _ mem
      exact ⟨d, c, k1, Option.some.inj k2⟩
    | arg ys => cases e2
    | box ys => cases e2
    | pnd ys => cases e2
    | dic ys => cases e2
    | dit ys => cases e2
    | lck o ws ys => cases e2
    | exn a d fs => cases e2
    | two b xs ys => cases e2
    | sub i k => cases e2
    | own ys =>
      cases e2
      obtain ⟨b, us, e3, k1, k2, k3, k4⟩ := s.tm _ mem
      cases e3
      exact ⟨b, us, rfl, k1, k2, k3, fun d c e => s.gok.ne (.inl k4) e⟩
    | bor i =>
      obtain ⟨e3, _⟩ := s.bo _ mem i rfl
      have e4 : (match e[i]? with
        | some (.own xs) => some (Cel.arg xs)
        | some (.arg xs) => some (Cel.arg xs)
        | some (.dat (.list xs)) => some (Cel.dat (.list xs))
        | _ => none) = some q := e2
      split at e4
      · next ys q1 =>
        cases e4
        obtain ⟨ov, e5, b, us, e6, k1, k2, k3, k4⟩ := s.sl i _ q1
        rw [e3] at e5
        cases e5
        cases e6
        exact ⟨b, us, rfl, k1, k2, k3, fun d c e => s.gok.ne (.inl k4) e⟩
      · next ys q1 =>
        cases e4
        obtain ⟨ov, e5, b, us, e6, k1, k2, k3, k4⟩ := s.sl i _ q1
        rw [e3] at e5
        cases e5
        cases e6
        exact ⟨b, us, rfl, k1, k2, k3, fun d c e => s.gok.ne (.inr k4) e⟩
      · next ys q1 =>
        cases e4
        obtain ⟨ov, e5, u, e6, k1⟩ := s.sl i _ q1
        rw [e3] at e5
        cases e5
        cases e6
        exact k1
      · cases e4
  · obtain ⟨_, _, _, c1⟩ := arg_cls s l ha h1 h3
    obtain ⟨_, _, _, c2⟩ := arg_cls s l ha h2 h4
    rcases c1 with ⟨p1, o1⟩ | ⟨k1, p1, o1, _⟩
    · rcases c2 with ⟨p2, o2⟩ | ⟨k2, p2, o2, _⟩
      · exact (psh_sep ps vs T s.s2).2 i j _ _ _ _ a h1 p1 h2 p2 o1 o2
      · exact absurd o1 (s.s3 k2 a _ o2 ((psh_mem ps vs T).2 i _ _ h1 p1))
    · rcases c2 with ⟨p2, o2⟩ | ⟨k2, p2, o2, _⟩
      · exact absurd o2 (s.s3 k1 a _ o1 ((psh_mem ps vs T).2 j _ _ h2 p2))
      · have := s.s1 k1 k2 a o1 o2
        subst this
        exact borOk_inj hb p1 p2
theorem call_back (s : StZ K G Z H σ e (psh T vs ps)) (l : vs.length = ps.length) (ha : asOf e ps = some as) (hb : borOk ps = true) {r : Cel} {as' : List Cel} {v : V} {H' : Hp} {Z' : Addr → Prop} (po : PostOk K G.dc Z H vs as r as' v H' Z') :
    StZ K G Z' H' σ (putB e ps as') ((v, r) :: T) := by
  have sT : StZ K G Z H σ e T := s.sub (psh_sub ps vs T)
  have cls : ∀ {a}, ArgA vs as a → (∃ us, H a = some (.lst us)) ∧ ¬ Z a ∧ (G.H0 a = none ∨ G.M0 a) := fun {a} ⟨j, xs, h1, h2⟩ => by
    obtain ⟨⟨us, k1, _⟩, k2, k3, _⟩ := arg_cls s l ha h1 h2
    exact ⟨⟨us, k1⟩, k2, k3⟩
  have nT : ∀ {a t}, t ∈ T → OwnT H t a → ¬ ArgA vs as a := fun {a t} ht o ⟨j, xs, h1, h2⟩ => by
    obtain ⟨_, _, _, ⟨p1, o1⟩ | ⟨k, p1, o1, _⟩⟩ := arg_cls s l ha h1 h2
    · exact (psh_sep ps vs T s.s2).1 j _ _ h1 p1 t ht a o1 o
    · exact sT.s3 k a t o1 ht o
  have nS : ∀ {a i}, OwnS H σ e i a → ArgA vs as a → ∃ j xs' xs, ps[j]? = some (Cel.bor i) ∧ as'[j]? = some (Cel.arg xs') ∧ (e[i]? = some (.own xs) ∨ e[i]? = some (.arg xs)) := fun {a i} o ⟨j, xs, h1, h2⟩ => by
    obtain ⟨_, _, _, ⟨p1, o1⟩ | ⟨k, p1, o1, c⟩⟩ := arg_cls s l ha h1 h2
    · exact absurd o1 (s.s3 i a _ o ((psh_mem ps vs T).2 j _ _ h1 p1))
    · have := s.s1 k i a o1 o
      subst this
      obtain ⟨xs', e1⟩ := po.shape j xs h2
      exact ⟨j, xs', xs, p1, e1, c⟩
  have m : Mv K Z H Z' H' := Mv.ofT (fun b => ArgA vs as b ∨ ∃ d c, G.dc = some (d, c) ∧ b = d) (fun b o e n0 n => po.fr b o e n0 (fun z => n (.inl z)) fun d c e1 e2 => n (.inr ⟨d, c, e1, e2⟩)) (fun b h => by
    rcases h with h | ⟨d, c, e1, rfl⟩
    · obtain ⟨⟨us, k1⟩, k2, _⟩ := cls h
      exact ⟨_, k1, .inl ⟨us, rfl⟩, k2⟩
    · obtain ⟨us, k1⟩ := (s.dr _ _ e1).there
      exact ⟨_, k1, .inl ⟨us, rfl⟩, (s.zd e1).1⟩) po.z1 po.tb
  have keep : ∀ {a o}, (∃ o, H a = some o ∧ WrO o) → (G.H0 a = none ∨ G.M0 a) → ¬ ArgA vs as a → H a = some o → H' a = some o := fun {a o} ⟨o', e', w'⟩ h n e => po.fr a _ e (fun ps z => by
    rw [e] at e'
    cases e'
    rcases w' with ⟨_, z'⟩ | ⟨_, z'⟩ | ⟨_, z'⟩ <;> rw [z] at z' <;> cases z') n fun d c e1 => (s.gok.ne h e1).1
  have nz : ∀ {a us}, H a = some us → ¬ Z a → ¬ Z' a := fun {a us} e n z => by
    rcases po.z2 a z with z | z
    · exact n z
    · rw [e] at z
      cases z
  have keepS : ∀ {i q ov}, e[i]? = some q → σ[i]? = some ov → CelOk K G Z H ov q → (∀ (j : Nat) (xs' : List PyData), ps[j]? = some (Cel.bor i) → as'[j]? = some (Cel.arg xs') → ∀ ys, q ≠ .own ys ∧ q ≠ .arg ys) → CelOk K G Z' H' ov q ∧ celFoot H' q ov = celFoot H q ov := fun {i q ov} h1 e1 ok h2 => by
    refine ok.mv m (fun b us hb hh => ?_) fun b hb => ?_
    · refine keep (ok.own hb).1 (ok.own hb).2.2 (fun z => ?_) hh
      obtain ⟨j, xs', xs, p1, p2, p3⟩ := nS ⟨ov, q, e1, h1, hb⟩ z
      rw [h1] at p3
      rcases p3 with p3 | p3
      · exact (h2 j xs' p1 p2 xs).1 (Option.some.inj p3)
      · exact (h2 j xs' p1 p2 xs).2 (Option.some.inj p3)
    · obtain ⟨⟨us, k1, _⟩, k2, _⟩ := ok.own hb
      exact nz k1 k2
  have keepT : ∀ {t}, t ∈ T → CelOk K G Z' H' (some t.1) t.2 ∧ celFoot H' t.2 (some t.1) = celFoot H t.2 (some t.1) := fun {t} ht =>
    (sT.tm t ht).mv m (fun b us hb hh => keep ((sT.tm t ht).own hb).1 ((sT.tm t ht).own hb).2.2 (nT ht hb) hh) fun b hb => by
      obtain ⟨⟨us, k1, _⟩, k2, _⟩ := (sT.tm t ht).own hb
      exact nz k1 k2
  have back : ∀ {i a}, OwnS H' σ (putB e ps as') i a → OwnS H σ e i a := fun {i a} ⟨ov, q, e1, hq, hb'⟩ => by
    rcases putB_at ps as' e i q hb hq with ⟨h1, h2⟩ | ⟨_, xs', _, _, ⟨rfl, xs, h1⟩ | ⟨rfl, xs, h1⟩⟩
    · obtain ⟨ov', e2, ok⟩ := s.sl i q h1
      rw [e1] at e2
      cases e2
      rw [(keepS h1 e1 ok h2).2] at hb'
      exact ⟨ov, q, e1, h1, hb'⟩
    · obtain ⟨ov', e2, b, us, e3, _⟩ := s.sl i _ h1
      rw [e1] at e2
      cases e2
      subst e3
      exact ⟨_, _, e1, h1, hb'⟩
    · obtain ⟨ov', e2, b, us, e3, _⟩ := s.sl i _ h1
      rw [e1] at e2
      cases e2
      subst e3
      exact ⟨_, _, e1, h1, hb'⟩
  have backT : ∀ {t a}, t ∈ T → OwnT H' t a → OwnT H t a := fun {t a} ht o => by
    unfold OwnT at o ⊢
    rw [(keepT ht).2] at o
    exact o
  have base : StZ K G Z' H' σ (putB e ps as') T := by
    refine ⟨s.gok, fun i q hq => ?_, fun t ht => (keepT ht).1, fun t ht i e1 => ?_, fun t ht i k e1 => ?_, sT.pu, fun i j a o1 o2 => s.s1 i j a (back o1) (back o2), sT.s2.imp_of_mem fun {t u} ht hu h a o1 o2 => h a (backT ht o1) (backT hu o2), fun i a t o ht o2 => sT.s3 i a t (back o) ht (backT ht o2), sT.ta, fun j xs hq => ?_, fun a z => po.z1 a (s.z1 a z), fun a z => ?_, po.z3, fun b o e1 n0 n1 n2 => ?_, fun b h => po.al b (s.al b h), po.dr, fun b h => po.tb b (s.tb b h), fun b h => po.tb b (s.tk b h)⟩
    · rcases putB_at ps as' e i q hb hq with ⟨h1, h2⟩ | ⟨j, xs', h1, h2, h3⟩
      · obtain ⟨ov, e1, ok⟩ := s.sl i q h1
        exact ⟨ov, e1, (keepS h1 e1 ok h2).1⟩
      · obtain ⟨a, us, e1, k1, k2, k3⟩ := po.args j xs' h2
        have e2 := (s.bo _ ((psh_mem ps vs T).2 j _ _ e1 h1) i rfl).1
        refine ⟨_, e2, ?_⟩
        rcases h3 with ⟨rfl, xs, h3⟩ | ⟨rfl, xs, h3⟩
        · obtain ⟨ov, e3, b, ws, e4, _, _, _, k4⟩ := s.sl i _ h3
          rw [e2] at e3
          cases e3
          cases e4
          exact ⟨a, us, rfl, k1, k2, k3, k4⟩
        · obtain ⟨ov, e3, b, ws, e4, _, _, _, k4⟩ := s.sl i _ h3
          rw [e2] at e3
          cases e3
          cases e4
          exact ⟨a, us, rfl, k1, k2, k3, k4⟩
    · obtain ⟨e2, c, h, lc⟩ := sT.bo t ht i e1
      refine ⟨e2, ?_⟩
      have hi : i < (putB e ps as').length := by
        rw [putB_len]
        exact (List.getElem?_eq_some_iff.mp h).1
      have hq := List.getElem?_eq_getElem hi
      generalize (putB e ps as')[i] = q at hq
      rcases putB_at ps as' e i q hb hq with ⟨h1, _⟩ | ⟨j, xs', _, _, ⟨rfl, _⟩ | ⟨rfl, _⟩⟩
      · rw [h] at h1
        cases h1
        exact ⟨c, hq, lc⟩
      · exact ⟨_, hq, trivial⟩
      · exact ⟨_, hq, trivial⟩
    · obtain ⟨a, ws, xs, e2, h, k1, k2⟩ := sT.pn t ht i k e1
      have oa : OwnS H σ e i a := ⟨_, _, e2, h, List.mem_cons_self⟩
      have hi : i < (putB e ps as').length := by
        rw [putB_len]
        exact (List.getElem?_eq_some_iff.mp h).1
      have hq := List.getElem?_eq_getElem hi
      generalize (putB e ps as')[i] = q at hq
      rcases putB_at ps as' e i q hb hq with ⟨h1, _⟩ | ⟨j, xs', _, _, ⟨_, _, h1⟩ | ⟨_, _, h1⟩⟩
      · rw [h] at h1
        cases h1
        refine ⟨a, ws, xs, e2, hq, keep (s.ownS oa).1 (s.ownS oa).2.2 (fun z => ?_) k1, k2⟩
        obtain ⟨_, _, _, _, _, p3⟩ := nS oa z
        rw [h] at p3
        rcases p3 with p3 | p3 <;> cases p3
      · rw [h] at h1
        cases h1
      · rw [h] at h1
        cases h1
    · rcases putB_at ps as' e j _ hb hq with ⟨h1, _⟩ | ⟨_, _, _, _, ⟨z, _⟩ | ⟨_, xs2, h1⟩⟩
      · exact s.ar j _ h1
      · cases z
      · exact s.ar j _ h1
    · rcases po.z2 a z with z | z
      · exact s.z2 a z
      · exact .inr (s.h0 z)
    · refine po.fr b o (s.fr b o e1 n0 n1 n2) n0 (fun z => ?_) n2
      obtain ⟨_, _, z | z⟩ := cls z
      · rw [z] at e1
        cases e1
      · exact n1 z
  have rt := po.ret
  cases r with
  | dat d => exact base.dat rt
  | own xs =>
    obtain ⟨a, us, rfl, k1, k2, k3, k4⟩ := rt
    refine base.push ⟨a, us, rfl, k1, k2, k3, s.h0 k4⟩ (fun _ z => by cases z) (fun _ _ z => by cases z) (fun _ z => by cases z) fun b o oa => ?_
    rw [List.mem_singleton.mp o] at oa
    rcases oa with ⟨i, o⟩ | ⟨t, ht, o⟩
    · obtain ⟨⟨us, e1, _⟩, _⟩ := s.ownS (back o)
      rw [k4] at e1
      cases e1
    · obtain ⟨us, _, e1, _⟩ := sT.own_any (.inr ⟨t, ht, backT ht o⟩)
      rw [k4] at e1
      cases e1
  | _ => exact rt.elim
end
section
variable {X : Cx} {G : Gam} {e : Expr} {n : Nat} {R : PR} {g : PAs} {E : XK}
theorem pe_callP {tbs : List Addr} (hG : G.tbs = tbs) (h : PE X e (tCall (spP X.K tbs n R) [] E (tA X.K G g))) : PE X e (tE X.K G (pCall n R g)) := h.le fun σ H Q ⟨env, T, C, s, h, k⟩ => ⟨env, T, _, s, h, fun ps e1 vs H1 h1 l1 ⟨Z, s1⟩ => by
  split at h1
  · next as ha hb =>
    rw [Bool.and_eq_true] at hb
    have hl : as.length = n := by rw [(asOf_at ps e1 as ha).1]; exact beq_iff_eq.mp hb.2
    rw [List.append_nil]
    exact ⟨G.dc, Z, as, _, hl, hG ▸ args_ok s1 l1 ha hb.1, h1, fun r as' v H' Z' hc po => k _ _ _ _ hc ⟨Z', call_back s1 l1 ha hb.1 po⟩⟩
  · exact h1.elim⟩
theorem pe_call0P {tbs : List Addr} (hG : G.tbs = tbs) (h : PE X e (tCall (spP X.K tbs 0 R) [] E tNil)) : PE X e (tE X.K G (pCall0 R)) := h.le fun σ H Q ⟨env, T, C, ⟨Z, s⟩, h, k⟩ =>
  ⟨G.dc, Z, [], _, rfl, hG ▸ args_ok (vs := []) (ps := []) s rfl rfl rfl, h, fun r as' v H' Z' hc po => k _ _ _ _ hc ⟨Z', call_back (vs := []) (ps := []) s rfl rfl rfl po⟩⟩
end

/-! ### tuple.index -/
section
variable {X : Cx}
theorem room_in_shaped {d : PyData} {n u : Nat} (sd : SeqAt.shaped d = true) (hu : u + 65 < cLine) : u + 1 + min n d.depth < cLine := by
  unfold SeqAt.shaped at sd
  have h := (Bool.and_eq_true_iff.mp sd).2
  have h := of_decide_eq_true h
  omega
def rIndexT (K : PySem.W.Frag) : V → List V → Hp → VK → Prop := fun x xs H Q => ∃ (a : Addr) (y : V) (d : PyData) (ds : List PyData) (j : Nat) (z : PyData), x = V.ref a ∧ xs = [y] ∧ Dp K H (V.ref a) (.tuple ds) ∧ Dp K H y d ∧
  SeqAt.shaped (.tuple ds) = true ∧ SeqAt.shaped d = true ∧ ds[j]? = some z ∧ PyData.eqv z d = true ∧ (∀ (m : Nat) (z' : PyData), m < j → ds[m]? = some z' → PyData.eqv z' d = false) ∧ Q (.int (j : Nat)) H
theorem mt_indexT (hu : X.A.units + 65 < cLine) : MtR X "tuple.index" (rIndexT X.K) := by
  intro pins s σ H x xs v us Q I rx rxs h
  obtain ⟨a, y, d, ds, j, z, rfl, rfl, hl, hy, sl, sd, hz, hzj, hno, q⟩ := h
  cases rx
  cases rxs with
  | cons ry rt =>
    rename_i uy ut
    cases rt
    obtain ⟨bs, r1⟩ := Dp.reads I d y uy hy ry
    have hxs : PyData.canLayAll0 ds = true := SeqAt.canLay_of_shaped sl
    have hroom : X.A.units + 1 + min (PyData.depthAll ds) d.depth < cLine := room_in_shaped sd hu
    cases hl with
    | tup hs ha =>
      obtain ⟨its, rv, ⟨⟨cls, dd, data, sls⟩, ho, hc, n, hdt⟩, hlen⟩ := I.tuple hs
      simp only at hc hdt
      subst hc hdt
      obtain ⟨as, h4⟩ := Dp.readsAll I ds _ its ha rv
      have hn : its.length = ds.length := SeqAt.ReadsAll.length ds its as h4
      have hmap : its.map (SeqAt.readOf s.heap) = ds := SeqAt.readsAll_map ds its as hxs h4
      obtain ⟨hjd, _⟩ := List.getElem?_eq_some_iff.mp hz
      have hjl : j < its.length := by omega
      have hj : j < its.toArray.size := by simpa using hjl
      have at_ : ∀ (m : Nat) (hm : m < its.toArray.size) (z' : PyData), ds[m]? = some z' → SeqAt.readOf s.heap its.toArray[m] = z' := by
        intro m hm z' hz'
        have hml : m < its.length := by simpa using hm
        rw [← hmap, List.getElem?_map, List.getElem?_eq_getElem hml] at hz'
        have e1 : SeqAt.readOf s.heap its[m] = z' := Option.some.inj (show some (SeqAt.readOf s.heap its[m]) = some z' from hz')
        simpa using e1
      refine call_meets PySem.F.slot_tuple_index ⟨_, ho, rfl⟩ PySem.F.entry_tuple_index (PySem.F.args_tuple_index_2 _ _)
        (TI.tuple_indexAt a its.toArray n dd sls uy (fun u => PyData.eqv (SeqAt.readOf s.heap u) d) j hj ?_ ?_) ⟨ho, SeqAt.items_eqAt (vs := its.toArray) (show ReadsAll s.heap its.toArray.toList ds as from h4) r1 hxs (SeqAt.canLay_of_shaped sd) hroom, ?_⟩
      · show PyData.eqv (SeqAt.readOf s.heap its.toArray[j]) d = true
        rw [at_ j hj z hz]
        exact hzj
      · intro m hm hmj
        have hmd : m < ds.length := by omega
        have hz' : ds[m]? = some ds[m] := List.getElem?_eq_getElem hmd
        show PyData.eqv (SeqAt.readOf s.heap its.toArray[m]) d = false
        rw [at_ m hm _ hz']
        exact hno m _ hmj hz'
      · exact ⟨.int (j : Nat), H, I.tok _, ⟨_, rfl⟩, q⟩
end

/-! ### built-in functions -/
def LiftC (K : PySem.W.Frag) (G : Gam) (r : List V → Hp → VK → Prop) (M : List Cel → PEnv → PK → Prop) : Prop := ∀ (Z : Addr → Prop) (H : Hp) (σ : L2.St) (env : PEnv) (T : Stk) (vs : List V) (ps : List Cel) (C : PK) (Q : VK),
  StZ K G Z H σ env (psh T vs ps) → vs.length = ps.length → M ps env C → (∀ p env' v H', C p env' → StE K G H' σ env' ((v, p) :: T) → Q v H') → r vs H Q
def pCB (M : List Cel → PEnv → PK → Prop) (g : PAs) : PEx := fun env C => g env fun ps e => M ps e C
def mLen (ps : List Cel) (env : PEnv) (C : PK) : Prop := match ps with
  | [.dat (.str z)] => z.length ≤ sizeLine ∧ C (.dat (.int z.length)) env
  | [p] => match itemsOf env p with
    | some ds => C (.dat (.int ds.length)) env
    | none => False
  | _ => False
def mMin (ps : List Cel) (env : PEnv) (C : PK) : Prop := match ps with
  | [.dat (.int i), .dat (.int j)] => C (.dat (.int (if j < i then j else i))) env
  | [p] => match lstOf env p with
    | some ds => ∃ ns : List Int, ds = ns.map .int ∧ 0 < ns.length ∧ ∀ m, m ∈ ns → (∀ y, y ∈ ns → m ≤ y) → C (.dat (.int m)) env
    | none => False
  | _ => False
def mMax (ps : List Cel) (env : PEnv) (C : PK) : Prop := match ps with
  | [.dat (.int i), .dat (.int j)] => C (.dat (.int (if j > i then j else i))) env
  | [p] => match itemsOf env p with
    | some ds => ∃ ns : List Int, ds = ns.map .int ∧ 0 < ns.length ∧ ∀ m, m ∈ ns → (∀ y, y ∈ ns → y ≤ m) → C (.dat (.int m)) env
    | none => False
  | _ => False
def mAbs (ps : List Cel) (env : PEnv) (C : PK) : Prop := match ps with
  | [.dat (.int i)] => C (.dat (.int (if i < 0 then -i else i))) env
  | _ => False
def mDivmod (ps : List Cel) (env : PEnv) (C : PK) : Prop := match ps with
  | [.dat (.int i), .dat (.int j)] => CDiv i j ∧ C (.dat (.tuple [.int (i / j), .int (i % j)])) env
  | _ => False
def mTup (ps : List Cel) (env : PEnv) (C : PK) : Prop := match ps with
  | [p] => match itemsOf env p with
    | some ds => C (.dat (.tuple ds)) env
    | none => False
  | _ => False
def mLst (ps : List Cel) (env : PEnv) (C : PK) : Prop := match ps with
  | [p] => match itemsOf env p with
    | some ds => C (.own ds) env
    | none => False
  | _ => False
def mSum (ps : List Cel) (env : PEnv) (C : PK) : Prop := match ps with
  | [p] => match lstOf env p with
    | some ds => ∃ ns : List Int, ds = ns.map .int ∧ C (.dat (.int ns.sum)) env
    | none => False
  | _ => False
def mSorted (ps : List Cel) (env : PEnv) (C : PK) : Prop := match ps with
  | [p] => match lstOf env p with
    | some ds => ∃ ns : List Int, ds = ns.map .int ∧ ns.length < 64 ∧ ∀ ns' : List Int, ns'.Perm ns → ns'.Pairwise (· ≤ ·) → C (.own (ns'.map .int)) env
    | none => False
  | _ => False
def mStr (ps : List Cel) (env : PEnv) (C : PK) : Prop := match ps with
  | [.dat (.int i)] => i.natAbs.log2 < 1920 ∧ C (.dat (.str (toString i))) env
  | _ => False
def mInt (ps : List Cel) (env : PEnv) (C : PK) : Prop := match ps with
  | [.dat (.int i)] => C (.dat (.int i)) env
  | [.dat (.bool b)] => C (.dat (.int (if b then 1 else 0))) env
  | _ => False
section
variable {X : Cx} {G : Gam} {e : Expr} {g : PAs} {K : PySem.W.Frag}
theorem pe_cbP {r : List V → Hp → VK → Prop} {M : List Cel → PEnv → PK → Prop} (l : LiftC X.K G r M) (h : PE X e (tCB r (tA X.K G g))) : PE X e (tE X.K G (pCB M g)) := h.le fun σ H Q ⟨env, T, C, s, h, k⟩ => ⟨env, T, _, s, h, fun ps e1 vs H1 h1 l1 ⟨Z, s1⟩ => l Z H1 σ e1 T vs ps C Q s1 l1 h1 k⟩
theorem one_arg {Z : Addr → Prop} {H : Hp} {σ : L2.St} {env : PEnv} {T : Stk} {vs : List V} {p : Cel} (s : StZ K G Z H σ env (psh T vs [p])) (l : vs.length = [p].length) : ∃ v, vs = [v] ∧ StZ K G Z H σ env ((v, p) :: T) := by
  match vs, l with
  | [v], _ => exact ⟨v, rfl, s⟩
theorem two_arg {Z : Addr → Prop} {H : Hp} {σ : L2.St} {env : PEnv} {T : Stk} {vs : List V} {p q : Cel} (s : StZ K G Z H σ env (psh T vs [p, q])) (l : vs.length = [p, q].length) : ∃ v u, vs = [v, u] ∧ StZ K G Z H σ env ((u, q) :: (v, p) :: T) := by
  match vs, l with
  | [v, u], _ => exact ⟨v, u, rfl, s⟩
def rLenP (K : PySem.W.Frag) : List V → Hp → VK → Prop := fun xs H Q => (∃ p ys, xs = [.ref p] ∧ (SqL K H p ys ∨ SqT K H p ys) ∧ Q (.int ys.length) H) ∨ (∃ z, xs = [.str z] ∧ z.length ≤ sizeLine ∧ Q (.int z.length) H)
theorem call_lenP : CallR X (.builtin "len") (rLenP X.K) := CallR.or call_len_seq call_len_str
theorem lc_len : LiftC K G (rLenP K) mLen := by
  intro Z H σ env T vs ps C Q s l h k
  unfold mLen at h
  split at h
  · obtain ⟨v, rfl, S⟩ := one_arg s l
    have := S.topDat
    cases this
    exact .inr ⟨_, rfl, h.1, k _ _ _ _ h.2 ⟨Z, S.pop.dat rfl⟩⟩
  · obtain ⟨v, rfl, S⟩ := one_arg s l
    split at h
    · next ds e =>
      obtain ⟨a, us, rfl, ha, hx⟩ := S.seq List.mem_cons_self e
      exact .inl ⟨a, us, rfl, ha, by rw [hx.len]; exact k _ _ _ _ h ⟨Z, S.pop.dat rfl⟩⟩
    · exact h.elim
  · exact h.elim
theorem ints_da {Z : Addr → Prop} {H : Hp} : ∀ {ns : List Int} {vs : List V}, DaAll K Z H (ns.map .int) vs → vs = ns.map V.int
  | [], _, h => h
  | n :: ns, _, ⟨v, r, e, h1, h2⟩ => by
    subst e
    rw [ints_da h2]
    cases h1
    rfl
theorem da_ints {Z : Addr → Prop} {H : Hp} : ∀ ns : List Int, DaAll K Z H (ns.map .int) (ns.map V.int)
  | [] => rfl
  | n :: ns => ⟨.int n, _, rfl, rfl, da_ints ns⟩
def rMinP (K : PySem.W.Frag) : List V → Hp → VK → Prop := fun xs H Q => (∃ i j, xs = [.int i, .int j] ∧ Q (.int (if j < i then j else i)) H) ∨ rMin K xs H Q
theorem call_minP (hc : X.calm = true) : CallR X (.builtin "min") (rMinP X.K) := CallR.or (call_min2 hc) (cr_min hc)
theorem lc_min : LiftC K G (rMinP K) mMin := by
  intro Z H σ env T vs ps C Q s l h k
  unfold mMin at h
  split at h
  · obtain ⟨v, u, rfl, S⟩ := two_arg s l
    have h1 := S.topDat
    have h2 := S.pop.topDat
    cases h1
    cases h2
    exact .inl ⟨_, _, rfl, k _ _ _ _ h ⟨Z, S.pop.pop.dat rfl⟩⟩
  · obtain ⟨v, rfl, S⟩ := one_arg s l
    split at h
    · next ds e =>
      obtain ⟨ns, rfl, hn, h⟩ := h
      obtain ⟨a, us, rfl, ha, hx⟩ := S.lst List.mem_cons_self e
      have := ints_da hx
      subst this
      exact .inr ⟨a, ns, rfl, SqL.of ha, hn, fun m h1 h2 => k _ _ _ _ (h m h1 h2) ⟨Z, S.pop.dat rfl⟩⟩
    · exact h.elim
  · exact h.elim
def rMaxP (K : PySem.W.Frag) : List V → Hp → VK → Prop := fun xs H Q => (∃ i j, xs = [.int i, .int j] ∧ Q (.int (if j > i then j else i)) H) ∨ rMax K xs H Q ∨ rMaxT K xs H Q
theorem call_maxP (hc : X.calm = true) : CallR X (.builtin "max") (rMaxP X.K) := CallR.or (call_max2 hc) (CallR.or (cr_max hc) (cr_maxT hc))
theorem lc_max : LiftC K G (rMaxP K) mMax := by
  intro Z H σ env T vs ps C Q s l h k
  unfold mMax at h
  split at h
  · obtain ⟨v, u, rfl, S⟩ := two_arg s l
    have h1 := S.topDat
    have h2 := S.pop.topDat
    cases h1
    cases h2
    exact .inl ⟨_, _, rfl, k _ _ _ _ h ⟨Z, S.pop.pop.dat rfl⟩⟩
  · obtain ⟨v, rfl, S⟩ := one_arg s l
    split at h
    · next ds e =>
      obtain ⟨ns, rfl, hn, h⟩ := h
      obtain ⟨a, us, rfl, ha, hx⟩ := S.seq List.mem_cons_self e
      have := ints_da hx
      subst this
      rcases ha with ha | ha
      · exact .inr (.inl ⟨a, ns, rfl, ha, hn, fun m h1 h2 => k _ _ _ _ (h m h1 h2) ⟨Z, S.pop.dat rfl⟩⟩)
      · exact .inr (.inr ⟨a, ns, rfl, ha, hn, fun m h1 h2 => k _ _ _ _ (h m h1 h2) ⟨Z, S.pop.dat rfl⟩⟩)
    · exact h.elim
  · exact h.elim
theorem lc_sum : LiftC K G (rSum K) mSum := by
  intro Z H σ env T vs ps C Q s l h k
  unfold mSum at h
  split at h
  · obtain ⟨v, rfl, S⟩ := one_arg s l
    split at h
    · next ds e =>
      obtain ⟨ns, rfl, h⟩ := h
      obtain ⟨a, us, rfl, ha, hx⟩ := S.lst List.mem_cons_self e
      have := ints_da hx
      subst this
      exact ⟨a, ns, rfl, SqL.of ha, k _ _ _ _ h ⟨Z, S.pop.dat rfl⟩⟩
    · exact h.elim
  · exact h.elim
theorem lc_sorted : LiftC K G (rSorted K) mSorted := by
  intro Z H σ env T vs ps C Q s l h k
  unfold mSorted at h
  split at h
  · obtain ⟨v, rfl, S⟩ := one_arg s l
    split at h
    · next ds e =>
      obtain ⟨ns, rfl, hn, h⟩ := h
      obtain ⟨a, us, rfl, ha, hx⟩ := S.lst List.mem_cons_self e
      have := ints_da hx
      subst this
      exact ⟨a, ns, rfl, SqL.of ha, hn, fun ns' p h1 h2 hp => k _ _ _ _ (h ns' h1 h2) ⟨Z, S.pop.newLst hp (da_ints ns')⟩⟩
    · exact h.elim
  · exact h.elim
theorem lc_abs : LiftC K G (fun xs H Q => ∃ i, xs = [.int i] ∧ Q (.int (if i < 0 then -i else i)) H) mAbs := by
  intro Z H σ env T vs ps C Q s l h k
  unfold mAbs at h
  split at h
  · obtain ⟨v, rfl, S⟩ := one_arg s l
    have := S.topDat
    cases this
    exact ⟨_, rfl, k _ _ _ _ h ⟨Z, S.pop.dat rfl⟩⟩
  · exact h.elim
theorem lc_divmod : LiftC K G (fun xs H Q => ∃ i j, xs = [.int i, .int j] ∧ CDiv i j ∧ ∀ p, H p = none → Q (.ref p) (upd H p (.tup [.int (i / j), .int (i % j)]))) mDivmod := by
  intro Z H σ env T vs ps C Q s l h k
  unfold mDivmod at h
  split at h
  · obtain ⟨v, u, rfl, S⟩ := two_arg s l
    have h1 := S.topDat
    have h2 := S.pop.topDat
    cases h1
    cases h2
    exact ⟨_, _, rfl, h.1, fun p hp => k _ _ _ _ h.2 ⟨Z, S.pop.pop.newTup hp ⟨_, _, rfl, rfl, _, _, rfl, rfl, rfl⟩⟩⟩
  · exact h.elim
theorem lc_tup : LiftC K G (rTupOf K) mTup := by
  intro Z H σ env T vs ps C Q s l h k
  unfold mTup at h
  split at h
  · obtain ⟨v, rfl, S⟩ := one_arg s l
    split at h
    · next ds e =>
      obtain ⟨a, us, rfl, ha | ha, hx⟩ := S.its List.mem_cons_self e
      · exact ⟨a, us, rfl, .inl ⟨SqL.of ha, fun p hp => k _ _ _ _ h ⟨Z, S.pop.newTup hp hx⟩⟩⟩
      · exact ⟨a, us, rfl, .inr ⟨ha, k _ _ _ _ h ⟨Z, S.pop.dat ⟨a, us, rfl, ha, hx⟩⟩⟩⟩
    · exact h.elim
  · exact h.elim
def rLstP (K : PySem.W.Frag) : List V → Hp → VK → Prop := fun xs H Q => ∃ p ys, xs = [.ref p] ∧ (SqL K H p ys ∨ SqT K H p ys) ∧ ∀ l, H l = none → Q (.ref l) (upd H l (.lst ys))
theorem call_lstP : CallR X (.type "list") (rLstP X.K) := call_list_of
theorem lc_lst : LiftC K G (rLstP K) mLst := by
  intro Z H σ env T vs ps C Q s l h k
  unfold mLst at h
  split at h
  · obtain ⟨v, rfl, S⟩ := one_arg s l
    split at h
    · next ds e =>
      obtain ⟨a, us, rfl, ha, hx⟩ := S.seq List.mem_cons_self e
      exact ⟨a, us, rfl, ha, fun p hp => k _ _ _ _ h ⟨Z, S.pop.newLst hp hx⟩⟩
    · exact h.elim
  · exact h.elim
theorem lc_str : LiftC K G (fun xs H Q => ∃ i, xs = [.int i] ∧ i.natAbs.log2 < 1920 ∧ Q (.str (toString i)) H) mStr := by
  intro Z H σ env T vs ps C Q s l h k
  unfold mStr at h
  split at h
  · obtain ⟨v, rfl, S⟩ := one_arg s l
    have := S.topDat
    cases this
    exact ⟨_, rfl, h.1, k _ _ _ _ h.2 ⟨Z, S.pop.dat rfl⟩⟩
  · exact h.elim
theorem lc_int : LiftC K G (fun xs H Q => (∃ i, xs = [.int i] ∧ Q (.int i) H) ∨ ∃ k, xs = [.bl k] ∧ Q (.int (if k then 1 else 0)) H) mInt := by
  intro Z H σ env T vs ps C Q s l h k
  unfold mInt at h
  split at h
  · obtain ⟨v, rfl, S⟩ := one_arg s l
    have := S.topDat
    cases this
    exact .inl ⟨_, rfl, k _ _ _ _ h ⟨Z, S.pop.dat rfl⟩⟩
  · obtain ⟨v, rfl, S⟩ := one_arg s l
    have := S.topDat
    cases this
    exact .inr ⟨_, rfl, k _ _ _ _ h ⟨Z, S.pop.dat rfl⟩⟩
  · exact h.elim
/-! ### list(range(..)), tuple(range(..)) -/
def pLstR1 (f : PEx) : PEx := fun env C => f env fun p e => match p with
  | .dat (.int n) => RgOk 0 n ∧ C (.own (rangeP 0 n)) e
  | _ => False
def pLstR2 (f h : PEx) : PEx := fun env C => f env fun p e => h e fun q e2 => match p, q with
  | .dat (.int m), .dat (.int n) => RgOk m n ∧ C (.own (rangeP m n)) e2
  | _, _ => False
def pTupR1 (f : PEx) : PEx := fun env C => f env fun p e => match p with
  | .dat (.int n) => RgOk 0 n ∧ C (.dat (.tuple (rangeP 0 n))) e
  | _ => False
theorem da_rg {Z : Addr → Prop} {H : Hp} (a b : Int) : DaAll K Z H (rangeP a b) (rgV a b) := by
  unfold rangeP rgV
  generalize (List.range (b - a).toNat) = l
  induction l with
  | nil => exact rfl
  | cons n l ih => exact ⟨_, _, rfl, rfl, ih⟩
theorem pe_lstR1P {f : PEx} (h : PE X e (tLstRg (tRg1 (tE X.K G f)))) : PE X e (tE X.K G (pLstR1 f)) := h.le fun σ H Q ⟨env, T, C, s, h, k⟩ => ⟨env, T, _, s, h, fun p e1 v H1 h1 ⟨Z, s1⟩ => by
  split at h1
  · have := s1.topDat
    cases this
    exact ⟨_, rfl, h1.1, fun q hq => k _ _ _ _ h1.2 ⟨Z, s1.pop.newLst hq (da_rg _ _)⟩⟩
  · exact h1.elim⟩
theorem pe_lstR2P {f f2 : PEx} (h : PE X e (tLstRg (tRg2 (tE X.K G f) (tE X.K G f2)))) : PE X e (tE X.K G (pLstR2 f f2)) := h.le fun σ H Q ⟨env, T, C, s, h, k⟩ => ⟨env, T, _, s, h, fun p e1 v H1 h1 s1 => ⟨e1, _, _, s1, h1, fun p2 e2 v2 H2 h2 ⟨Z, s2⟩ => by
  split at h2
  · have h3 := s2.topDat
    have h4 := s2.pop.topDat
    cases h3
    cases h4
    exact ⟨_, _, rfl, rfl, h2.1, fun q hq => k _ _ _ _ h2.2 ⟨Z, s2.pop.pop.newLst hq (da_rg _ _)⟩⟩
  · exact h2.elim⟩⟩
theorem pe_tupR1P {f : PEx} (h : PE X e (tTupRg (tRg1 (tE X.K G f)))) : PE X e (tE X.K G (pTupR1 f)) := h.le fun σ H Q ⟨env, T, C, s, h, k⟩ => ⟨env, T, _, s, h, fun p e1 v H1 h1 ⟨Z, s1⟩ => by
  split at h1
  · have := s1.topDat
    cases this
    exact ⟨_, rfl, h1.1, fun q hq => k _ _ _ _ h1.2 ⟨Z, s1.pop.newTup hq (da_rg _ _)⟩⟩
  · exact h1.elim⟩
/-! ### isinstance -/
def isI (T : String) : PyData → Option Bool
  | .none => some false
  | .bool _ => some (T == "bool" || T == "int")
  | .int _ => some (T == "int")
  | .str _ => some (T == "str")
  | .tuple _ => some (T == "tuple")
  | .list _ => some (T == "list")
  | .dict ((.bool _, _) :: _) => none
  | .dict _ => some (T == "tuple")
def pIsI (T : String) (f : PEx) : PEx := fun env C => f env fun p e => match datOf e p with
  | some d => (match isI T d with
    | some b => C (.dat (.bool b)) e
    | none => False)
  | none => False
theorem isI_ok {H : Hp} {T : String} {d : PyData} {v : V} {b : Bool} (hT : T = "int" ∨ T = "bool" ∨ T = "tuple" ∨ T = "str" ∨ T = "list") (h : Db K H v d) (e : isI T d = some b) : ∃ t, TyX K H v t ∧ PySem.W.kitOne K t (.type T) = some b := by
  have seqT : ∀ {a xs}, SqT K H a xs → TyX K H (.ref a) (.type "tuple") := fun {a xs} q => by
    rcases q with (q | ⟨o, q⟩) | ⟨o, its, n, q1, q2, _⟩
    · exact .base (.tup q)
    · exact .fTuple q
    · exact .kTuple q1 q2
  cases d with
  | none => cases h; cases e; exact ⟨_, .base .non, by rcases hT with rfl | rfl | rfl | rfl | rfl <;> rfl⟩
  | bool x => cases h; cases e; exact ⟨_, .base (.bl x), by rcases hT with rfl | rfl | rfl | rfl | rfl <;> rfl⟩
  | int x => cases h; cases e; exact ⟨_, .base (.int x), by rcases hT with rfl | rfl | rfl | rfl | rfl <;> rfl⟩
  | str x => cases h; cases e; exact ⟨_, .base (.str x), by rcases hT with rfl | rfl | rfl | rfl | rfl <;> rfl⟩
  | list ds => obtain ⟨a, xs, rfl, _, q, _⟩ := h; cases e; exact ⟨_, .base (.lst q), by rcases hT with rfl | rfl | rfl | rfl | rfl <;> rfl⟩
  | tuple ds => obtain ⟨a, xs, rfl, q, _⟩ := h; cases e; exact ⟨_, seqT q, by rcases hT with rfl | rfl | rfl | rfl | rfl <;> rfl⟩
  | dict kvs =>
    cases kvs with
    | nil => exact h.elim
    | cons p r =>
      obtain ⟨k, d⟩ := p
      have go : ∀ {a xs}, v = .ref a → SqT K H a xs → some (T == "tuple") = some b → ∃ t, TyX K H v t ∧ PySem.W.kitOne K t (.type T) = some b := fun {a xs} e1 q e => by
        subst e1
        cases e
        exact ⟨_, seqT q, by rcases hT with rfl | rfl | rfl | rfl | rfl <;> rfl⟩
      cases k with
      | bool _ => cases e
      | int _ =>
        obtain ⟨a, ks, e1, q, _⟩ := h
        exact go e1 (SqT.of q) e
      | none =>
        obtain ⟨_, a, ys, e1, q⟩ := h
        exact go e1 q.sq e
      | str _ =>
        obtain ⟨_, a, ys, e1, q⟩ := h
        exact go e1 q.sq e
      | tuple _ =>
        obtain ⟨_, a, ys, e1, q⟩ := h
        exact go e1 q.sq e
      | list _ =>
        obtain ⟨_, a, ys, e1, q⟩ := h
        exact go e1 q.sq e
      | dict _ =>
        obtain ⟨_, a, ys, e1, q⟩ := h
        exact go e1 q.sq e
theorem pe_isiP {f : PEx} {T : String} (hT : T = "int" ∨ T = "bool" ∨ T = "tuple" ∨ T = "str" ∨ T = "list") (h : PE X e (tCB (rIsi X.K) (tCons (tE X.K G f) (tCons (tC (.ty T)) tNil)))) : PE X e (tE X.K G (pIsI T f)) := h.le fun σ H Q ⟨env, T0, C, s, h, k⟩ => ⟨env, T0, _, s, h, fun p e1 v H1 h1 ⟨Z, s1⟩ => by
  split at h1
  · next d ed =>
    split at h1
    · next b eb =>
      obtain ⟨t, h2, h3⟩ := isI_ok hT (s1.db List.mem_cons_self ed) eb
      exact ⟨v, .ty T, t, .type T, b, rfl, .ty _, h2, h3, k _ _ _ _ h1 ⟨Z, s1.pop.dat rfl⟩⟩
    · exact h1.elim
  · exact h1.elim⟩
/-! ### tuple(xs) whose methods may be called -/
def mTupF (ps : List Cel) (env : PEnv) (C : PK) : Prop := match ps with
  | [p] => match lstOf env p with
    | some ds => C (.dat (ftp ds)) env
    | none => False
  | _ => False
def rTupF (K : PySem.W.Frag) : List V → Hp → VK → Prop := fun xs H Q => ∃ p ys, xs = [.ref p] ∧ SqL K H p ys ∧ ∀ l o, H l = none → Fz (upd H l o) l ys → Q (.ref l) (upd H l o)
theorem call_tupF : CallR X (.type "tuple") (rTupF X.K) := call_tuple_fz
theorem lc_tupF : LiftC K G (rTupF K) mTupF := by
  intro Z H σ env T vs ps C Q s l h k
  unfold mTupF at h
  split at h
  · obtain ⟨v, rfl, S⟩ := one_arg s l
    split at h
    · next ds e =>
      obtain ⟨a, us, rfl, ha, hx⟩ := S.lst List.mem_cons_self e
      refine ⟨a, us, rfl, SqL.of ha, fun p o hp fz => k _ _ _ _ h ⟨Z, (S.pop.alloc o hp).dat ⟨⟨p, us, rfl, fz.sq, DaAll.mv (Mv.same (same_new hp) fun _ z => z) _ _ hx⟩, p, us, rfl, fz⟩⟩⟩
    · exact h.elim
  · exact h.elim
/-- the same tuple, as any other -/
def pPlain (f : PEx) : PEx := fun env C => f env fun p e => match p with
  | .dat (.dict [(.none, .tuple ds)]) => C (.dat (.tuple ds)) e
  | .dat d => C (.dat d) e
  | _ => False
theorem pe_plainP {f : PEx} (h : PE X e (tE X.K G f)) : PE X e (tE X.K G (pPlain f)) := h.le fun σ H Q ⟨env, T, C, s, h, k⟩ => ⟨env, T, _, s, h, fun p e1 v H1 h1 ⟨Z, s1⟩ => by
  split at h1
  · exact k _ _ _ _ h1 ⟨Z, s1.pop.dat s1.topDat.1⟩
  · exact k _ _ _ _ h1 ⟨Z, s1⟩
  · exact h1.elim⟩
/-- t.index(y), of such a tuple of flat items -/
def pIdxT (fo : PEx) (g : PAs) : PEx := fun env C => fo env fun po e1 => match po with
  | .dat (.dict [(.none, .tuple ds)]) => g e1 fun ps e2 => match ps with
    | [.dat d] => PyData.canLayAll0 ds = true ∧ SeqAt.shaped (.tuple ds) = true ∧ SeqAt.shaped d = true ∧ ∃ (j : Nat) (z : PyData), ds[j]? = some z ∧ PyData.eqv z d = true ∧ (∀ (m : Nat) z', m < j → ds[m]? = some z' → PyData.eqv z' d = false) ∧ C (.dat (.int j)) e2
    | _ => False
  | _ => False
theorem pe_idxTP {fo : PEx} {ga : PAs} (h : PE X e (tBMT (rIndexT X.K) (tE X.K G fo) (tA X.K G ga))) : PE X e (tE X.K G (pIdxT fo ga)) := h.le fun σ H Q ⟨env, T, C, s, h, k⟩ => ⟨env, T, _, s, h, fun po e1 v H1 h1 ⟨Z1, s1⟩ => by
  split at h1
  · obtain ⟨_, p, ys, rfl, fz⟩ := s1.topDat
    refine ⟨p, ys, rfl, fz, e1, _, _, ⟨Z1, s1⟩, h1, fun ps e2 vs H2 h2 l2 ⟨Z2, s2⟩ => ?_⟩
    split at h2
    · obtain ⟨u, rfl, S⟩ := one_arg s2 l2
      obtain ⟨f3, f4, f5, j, z, e3, e4, e5, hc⟩ := h2
      exact ⟨p, u, _, _, j, z, rfl, rfl, Da.dp _ _ f3 S.pop.topDat.1, Da.dp _ _ (SeqAt.canLay_of_shaped f5) S.topDat, f4, f5, e3, e4, e5, k _ _ _ _ hc ⟨Z2, S.pop.pop.dat rfl⟩⟩
    · exact h2.elim
  · exact h1.elim⟩
/-! ### x.index(y) of a list of flat items -/
def mIndex (s : Nat) (ps : List Cel) (env : PEnv) (C : PK) : Prop := match ps with
  | [.dat d] => match lstAt env[s]? with
    | some ds => flatD d = true ∧ (∀ z ∈ ds, flatD z = true) ∧ ∃ (j : Nat) (z : PyData), ds[j]? = some z ∧ PyData.eqv z d = true ∧ (∀ (m : Nat) z', m < j → ds[m]? = some z' → PyData.eqv z' d = false) ∧ C (.dat (.int j)) env
    | none => False
  | _ => False
theorem lm_index : LiftM K G (rIndex K) mIndex := by
  intro Z H σ env T s v vs ps C Q S l h k
  unfold mIndex at h
  split at h
  · next d =>
    match vs, l with
    | [u], _ =>
      have S : StZ K G Z H σ env ((u, .dat d) :: (v, .bor s) :: T) := S
      split at h
      · next ds e =>
        obtain ⟨f1, f2, j, z, e1, e2, e3, hc⟩ := h
        obtain ⟨a, us, rfl, ha, hx⟩ := S.lst (List.mem_cons_of_mem _ List.mem_cons_self) (show lstOf env (.bor s) = some ds from e)
        have hd := S.topDat.db
        obtain ⟨w, e4, hw⟩ := DaAll.at _ _ _ _ hx e1
        obtain ⟨g1, g2⟩ := flat_any hd f1 ds us hx.db f2
        refine ⟨a, us, u, j, w, rfl, rfl, SqL.of ha, flat_ok hd f1, g1, e4, ?_, fun m z' hm ez => ?_, k _ _ _ _ hc ⟨Z, S.pop.pop.dat rfl⟩⟩
        · rw [flat_eq hd hw.db f1 (f2 z (List.mem_of_getElem? e1))]
          exact e2
        · obtain ⟨d', e5, hd'⟩ := DaAll.at' _ _ _ _ hx ez
          rw [flat_eq hd hd'.db f1 (f2 d' (List.mem_of_getElem? e5))]
          exact e3 m d' hm e5
      · exact h.elim
  · exact h.elim
end

/-! ### names for the operators of ints; one more assignment -/
def pSub : POp := pInt0 fun i j => .int (i - j)
def pMod : POp := pInt (fun i j => .int (i % j)) fun _ j => 0 < j
def pFdiv : POp := pInt (fun i j => .int (i / j)) CDiv
def pPow : POp := pInt (fun i j => .int (i ^ j.toNat)) CPow
def pLt : POp := pInt0 fun i j => .bool (decide (i < j))
def pLe : POp := pInt0 fun i j => .bool (decide (i ≤ j))
def pGt : POp := pInt0 fun i j => .bool (decide (j < i))
def pGe : POp := pInt0 fun i j => .bool (decide (j ≤ i))
def pAsg (f : PEx) (g : PTg) : PSt := fun E env => f env fun p e => match p with
  | .dat d => g d e E.nx
  | .own xs => g (.list xs) e E.nx
  | _ => False
section
variable {K : PySem.W.Frag} {G : Gam}
theorem li_sub : LiftO K G (rI0 fun i j => .int (i - j)) pSub := li_int0
theorem li_mod : LiftO K G (rI (fun _ j => 0 < j) fun i j => .int (i % j)) pMod := li_int
theorem li_fdiv : LiftO K G (rI CDiv fun i j => .int (i / j)) pFdiv := li_int
theorem li_pow : LiftO K G (rI CPow fun i j => .int (i ^ j.toNat)) pPow := li_int
theorem li_lt : LiftO K G (rI0 fun i j => .bl (decide (i < j))) pLt := li_int0
theorem li_le : LiftO K G (rI0 fun i j => .bl (decide (i ≤ j))) pLe := li_int0
theorem li_gt : LiftO K G (rI0 fun i j => .bl (decide (j < i))) pGt := li_int0
theorem li_ge : LiftO K G (rI0 fun i j => .bl (decide (j ≤ i))) pGe := li_int0
theorem ps_asgP {X : Cx} {st : Stmt} {f : PEx} {g : PTg} (h : PS X st (tAsg (tE X.K G f) (tG X.K G none g))) : PS X st (tS X.K G (pAsg f g)) := h.le fun D σ H ⟨env, T, E, nb, s, h, k⟩ => ⟨env, T, _, s, h, fun p e1 v H1 h1 s1 => by
  cases p with
  | dat d => exact ⟨e1, T, d, _, fun _ => nb, s1, h1, fun e2 σ2 H2 h2 s2 _ => k.nx _ _ _ h2 s2⟩
  | own xs =>
    obtain ⟨Z, s1⟩ := s1
    exact ⟨e1, T, .list xs, _, fun _ => nb, s1.frzT, h1, fun e2 σ2 H2 h2 s2 _ => k.nx _ _ _ h2 s2⟩
  | _ => exact h1.elim⟩
end
theorem _root_.L2.Room.u65 {k : Nat} {A : Around} (r : Room k A) : A.units + 65 < cLine := by
  have := r.un
  omega
theorem pe_cP' {X : Cx} {G : Gam} {e : Expr} {v : V} (d : PyData) (h : PE X e (tC v)) (hd : ∀ Z H, Da X.K Z H d v) : PE X e (tE X.K G (pC d)) := h.le fun σ H Q ⟨env, T, C, ⟨Z, s⟩, h, k⟩ => k _ _ _ _ h ⟨Z, s.dat (hd _ _)⟩
/-! ### the draws, as promises over values -/
def RDraw : PR := fun as C => ∃ m : Int, as = [.drw, .dat (.int m)] ∧ 0 < m ∧ m < 1000000000 ∧ ∀ r : Int, 0 ≤ r → r < m → C (.dat (.int r)) as
def RRare : PR := fun as C => ∃ m : Int, as = [.drw, .dat (.int m)] ∧ 4 < m ∧ m < 1000000000 ∧ ∀ r : Bool, C (.dat (.bool r)) as
section
variable {K : PySem.W.Frag} {dc : Option (Addr × Addr)} {Z : Addr → Prop} {H H' : Hp} {vs : List V}
/-- behind a call that writes the draws alone, and gives a plain value -/
theorem post_keep {tbs : List Addr} {as : List Cel} {d c : Addr} {r : Cel} {v : V} (ok : ArgsOk K tbs dc Z H vs as) (e : dc = some (d, c)) (na : ∀ (j : Nat) xs, as[j]? ≠ some (Cel.arg xs)) (kp : Keep d H H') (dr : Dr d c H') (rt : RetOk K Z H H' v r) : PostOk K dc Z H vs as r as v H' Z := by
  have al : ∀ b, H b ≠ none → H' b ≠ none := fun b hb => by
    by_cases h : b = d
    · obtain ⟨xs, h1⟩ := dr.there
      rw [h, h1]
      exact fun z => by cases z
    · cases q : H b with
      | none => exact absurd q hb
      | some o =>
        rw [kp b o q h]
        exact fun z => by cases z
  refine ⟨fun _ z => z, fun _ z => .inl z, fun a z => al a (ok.z3 a z), rt, fun j xs' e1 => absurd e1 (na j xs'), fun j xs e1 => absurd e1 (na j xs), fun b o e1 _ _ n => kp b o e1 (n d c e), al, fun d' c' e' => ?_, fun b ⟨ps, h1, h2⟩ => ⟨ps, kp b _ h1 (fun z => ?_), h2⟩⟩
  · rw [e] at e'
    cases e'
    exact dr
  · obtain ⟨xs, h3⟩ := (ok.dr d c e).1.there
    rw [z, h3] at h1
    cases h1
end
section
variable {P : Program} {w : World} {K : PySem.W.Frag} {mg : Str → Option Value} {base : Heap} {k : Nat} {f : Addr} {fd : FuncData} {ps : List Str}
theorem draw_args {tbs : List Addr} {dc : Option (Addr × Addr)} {Z : Addr → Prop} {H : Hp} {vs : List V} {m : Int} (ok : ArgsOk K tbs dc Z H vs [.drw, .dat (.int m)]) : ∃ d c, dc = some (d, c) ∧ vs = [.ref d, .int m] ∧ Dr d c H := by
  match vs, ok.len with
  | [x, y], _ =>
    obtain ⟨d, c, e, rfl⟩ := ok.ok 0 _ _ rfl rfl
    have h2 := ok.ok 1 _ _ rfl rfl
    cases h2
    exact ⟨d, c, e, rfl, (ok.dr d c e).1⟩
theorem drawP {tbs : List Addr} (F : FnOk P w K mg base CX0 k f fd ps (sp2 rDraw)) : FnOk P w K mg base CX0 k f fd ps (spP K tbs 2 RDraw) := F.imp fun vs H Q E ⟨dc, Z, as, C, _, ok, ⟨m, e, m0, m1, h⟩, q⟩ => by
  subst e
  obtain ⟨d, c, e, rfl, dr⟩ := draw_args ok
  exact ⟨_, _, rfl, d, c, m, rfl, rfl, dr, m0, m1, fun r H' r0 r1 dr' kp => q _ _ _ _ _ (h r r0 r1) (post_keep ok e (fun j xs z => by match j with | 0 => cases z | 1 => cases z | j + 2 => simp at z) kp dr' rfl)⟩
theorem rareP {tbs : List Addr} (F : FnOk P w K mg base CX0 k f fd ps (sp2 rRare)) : FnOk P w K mg base CX0 k f fd ps (spP K tbs 2 RRare) := F.imp fun vs H Q E ⟨dc, Z, as, C, _, ok, ⟨m, e, m0, m1, h⟩, q⟩ => by
  subst e
  obtain ⟨d, c, e, rfl, dr⟩ := draw_args ok
  exact ⟨_, _, rfl, d, c, m, rfl, rfl, dr, m0, m1, fun r H' dr' kp => q _ _ _ _ _ (h r) (post_keep ok e (fun j xs z => by match j with | 0 => cases z | 1 => cases z | j + 2 => simp at z) kp dr' rfl)⟩
end

/-! ### sorted(set(..)), tuple(zip(..)), enumerate, keys of a table -/
def pSortSet (g : PAs) : PEx := fun env C => g env fun ps e => match ps with
  | [p] => match itemsOf e p with
    | some ds => ∃ ns : List Int, ds = ns.map .int ∧ ns.length < 64 ∧ ∀ hs : List Int, hs.Pairwise (· < ·) → (∀ k, k ∈ hs ↔ k ∈ ns) → hs.length ≤ ns.length → C (.own (hs.map .int)) e
    | none => False
  | _ => False
def pTupZip (g : PAs) : PEx := fun env C => g env fun ps e => match ps with
  | [p, q] => match lstOf e p, lstOf e q with
    | some xs, some ys => xs.length = ys.length ∧ C (.dat (.tuple (List.zipWith (fun a b => .tuple [a, b]) xs ys))) e
    | _, _ => False
  | _ => False
def numD : Nat → List PyData → List PyData
  | _, [] => []
  | i, d :: ds => .tuple [.int (i : Int), d] :: numD (i + 1) ds
theorem numD_at : ∀ (n : Nat) (ds : List PyData) (j : Nat) (x : PyData), (numD n ds)[j]? = some x → ∃ d, ds[j]? = some d ∧ x = .tuple [.int ((n + j : Nat) : Int), d]
  | _, [], _, _, h => by simp [numD] at h
  | n, d :: ds, 0, x, h => by
    cases h
    exact ⟨d, rfl, rfl⟩
  | n, d :: ds, j + 1, x, h => by
    obtain ⟨d', h1, h2⟩ := numD_at (n + 1) ds j x h
    exact ⟨d', h1, by rw [h2, show n + 1 + j = n + (j + 1) by omega]⟩
theorem numD_len : ∀ (n : Nat) (ds : List PyData), (numD n ds).length = ds.length
  | _, [] => rfl
  | n, d :: ds => congrArg Nat.succ (numD_len (n + 1) ds)
/-- enumerate of a tuple -/
def pEnumT (g : PAs) : PIt := fun env C => g env fun ps e => match ps with
  | [.dat (.tuple ds)] => C (numD 0 ds) e
  | _ => False
/-- enumerate of a list -/
def pEnumL (g : PAs) : PIt := fun env C => g env fun ps e => match ps with
  | [.dat (.list ds)] => C (numD 0 ds) e
  | [.own ds] => C (numD 0 ds) e
  | _ => False
/-- z in a table of the text -/
def pInTab (keys nots : List Str) (f : PEx) : PTst := fun env C => f env fun p e => match p with
  | .dat (.str z) => (z ∈ keys ∧ C true e) ∨ (z ∈ nots ∧ C false e)
  | _ => False
section
variable {X : Cx} {G : Gam} {e : Expr} {g : PAs} {f : PEx} {K : PySem.W.Frag}
theorem pe_sortSetP (h : PE X e (tCB (rSortedSet X.w) (tCons (tCB (rSetAny X.K X.w) (tA X.K G g)) tNil))) : PE X e (tE X.K G (pSortSet g)) := h.le fun σ H Q ⟨env, T, C, s, h, k⟩ => ⟨env, T, _, s, h, fun ps e1 vs H1 h1 l1 ⟨Z, s1⟩ => by
  split at h1
  · obtain ⟨v, rfl, S⟩ := one_arg s1 l1
    split at h1
    · next ds ed =>
      obtain ⟨ns, rfl, hn, hc⟩ := h1
      obtain ⟨a, us, rfl, ha, hx⟩ := S.seq List.mem_cons_self ed
      have := ints_da hx
      subst this
      have go : ∀ (b : Addr) (c : Nat), H1 b = none → c ≤ ns.length → rSortedSet X.w [.ref b] (upd H1 b (SetO X.w b (fun j => decide (j ∈ ns)) c)) Q := fun b c hb hcn => ⟨b, _, c, rfl, upd_same, by omega, fun hs p h1 h2 h3 hp => by
        refine k _ _ _ _ (hc hs h1 (fun k => ?_) (by omega)) ⟨Z, (S.pop.alloc _ hb).newLst hp (da_ints hs)⟩
        rw [h2 k, decide_eq_true_iff]⟩
      rcases ha with ha | ha
      · exact .inl ⟨a, ns, rfl, ha, by omega, go⟩
      · exact .inr ⟨a, ns, rfl, ha, by omega, go⟩
    · exact h1.elim
  · exact h1.elim⟩
theorem zip_da {Z : Addr → Prop} {H : Hp} : ∀ (xs ys : List PyData) (ts : List Addr) (us vs : List V), DaAll K Z H xs us → DaAll K Z H ys vs → ts.length = xs.length → xs.length = ys.length → (∀ (j : Nat) (t : Addr), ts[j]? = some t → ∃ u v, us[j]? = some u ∧ vs[j]? = some v ∧ H t = some (.tup [u, v])) →
    DaAll K Z H (List.zipWith (fun a b => .tuple [a, b]) xs ys) (ts.map V.ref)
  | [], [], [], _, _, _, _, _, _, _ => rfl
  | x :: xs, y :: ys, t :: ts, _, _, ⟨u, us, e1, h1, h2⟩, ⟨v, vs, e2, h3, h4⟩, l1, l2, h => by
    subst e1 e2
    obtain ⟨u', v', a1, a2, a3⟩ := h 0 t rfl
    cases a1
    cases a2
    exact ⟨.ref t, ts.map V.ref, rfl, ⟨t, _, rfl, SqT.of a3, u, _, rfl, h1, v, _, rfl, h3, rfl⟩, zip_da xs ys ts us vs h2 h4 (Nat.succ.inj l1) (Nat.succ.inj l2) fun j t e => h (j + 1) t e⟩
  | [], [], _ :: _, _, _, _, _, l, _, _ => by cases l
  | [], _ :: _, _, _, _, _, _, _, l, _ => by cases l
  | _ :: _, [], _, _, _, _, _, _, l, _ => by cases l
  | _ :: _, _ :: _, [], _, _, _, _, l, _, _ => by cases l
theorem pe_tupZipP (h : PE X e (tTupZip X.K (tA X.K G g))) : PE X e (tE X.K G (pTupZip g)) := h.le fun σ H Q ⟨env, T, C, s, h, k⟩ => ⟨env, T, _, s, h, fun ps e1 vs H1 h1 l1 ⟨Z, s1⟩ => by
  split at h1
  · obtain ⟨v, u, rfl, S⟩ := two_arg s1 l1
    split at h1
    · next xs ys ex ey =>
      obtain ⟨b, ws, rfl, hb, hy⟩ := S.lst List.mem_cons_self ey
      obtain ⟨a, us, rfl, ha, hx⟩ := S.lst (List.mem_cons_of_mem _ List.mem_cons_self) ex
      refine ⟨a, b, us, ws, rfl, SqL.of ha, SqL.of hb, by rw [hx.len, hy.len]; exact h1.1, fun p ts H2 np nts lts sm hp hts => k _ _ _ _ h1.2 ⟨Z, ?_⟩⟩
      have m : Mv X.K Z H1 Z H2 := Mv.same sm fun _ z => z
      have S2 : StZ X.K G Z H2 σ e1 T := S.pop.pop.move m (fun a vs _ e => sm _ _ e) (fun a oa => by obtain ⟨_, _, _, n⟩ := S.pop.pop.own_any oa; exact n) (fun _ z => z) (fun _ z => .inl z) (fun a z => by
        cases q : H1 a with
        | none => exact absurd q (S.z3 a z)
        | some o => rw [sm _ _ q]; exact fun z => by cases z) (fun b u e _ _ _ _ => sm _ _ e) (fun b e => by
        cases q : H1 b with
        | none => exact absurd q e
        | some o => rw [sm _ _ q]; exact fun z => by cases z) fun d c e => (S.dr d c e).same sm
      exact S2.dat ⟨p, _, rfl, SqT.of hp, zip_da xs ys ts us ws (DaAll.mv m _ _ hx) (DaAll.mv m _ _ hy) (by rw [lts, hx.len]) h1.1 fun j t ej => by
        obtain ⟨x, y, k1, k2, k3⟩ := hts j t ej
        exact ⟨x, y, k1, k2, k3⟩⟩
    · exact h1.elim
  · exact h1.elim⟩
theorem walks_enumT {a : Addr} {ds : List PyData} : Walks K G (IteT K a) (.ref a, .dat (.tuple ds)) (numD 0 ds) := by
  intro Z H σ env T s ht
  obtain ⟨b, vs, e, h1, h2⟩ := s.datT ht
  cases e
  refine ⟨fun i x e => ?_, vs, h1, by rw [numD_len, h2.len]⟩
  obtain ⟨d, e1, rfl⟩ := numD_at 0 ds i x e
  obtain ⟨v, e2, hv⟩ := DaAll.at i ds vs d h2 e1
  refine ⟨⟨vs, v, h1, e2⟩, fun xv H' y => ?_⟩
  obtain ⟨t, x, rfl, ht, rfl, hx⟩ := y
  have := hx vs h1
  rw [e2] at this
  cases this
  rw [Nat.zero_add]
  exact s.newTup ht ⟨_, _, rfl, rfl, _, _, rfl, hv, rfl⟩
theorem walks_enumL {a : Addr} {ds : List PyData} {p : Cel} (h : p = .dat (.list ds) ∨ p = .own ds) : Walks K G (Ite K a) (.ref a, p) (numD 0 ds) := by
  intro Z H σ env T s ht
  have hl : ∃ vs, H a = some (.lst vs) ∧ DaAll K Z H ds vs := by
    rcases h with rfl | rfl
    · obtain ⟨b, vs, e, h1, h2⟩ := s.lst ht (show lstOf env (.dat (.list ds)) = some ds from rfl)
      cases e
      exact ⟨vs, h1, h2⟩
    · obtain ⟨b, vs, e, h1, h2⟩ := s.lst ht (show lstOf env (.own ds) = some ds from rfl)
      cases e
      exact ⟨vs, h1, h2⟩
  obtain ⟨vs, h1, h2⟩ := hl
  refine ⟨fun i x e => ?_, vs, SqL.of h1, by rw [numD_len, h2.len]; exact Nat.le_refl _⟩
  obtain ⟨d, e1, rfl⟩ := numD_at 0 ds i x e
  obtain ⟨v, e2, hv⟩ := DaAll.at i ds vs d h2 e1
  refine ⟨⟨vs, v, SqL.of h1, e2⟩, fun xv H' y => ?_⟩
  obtain ⟨t, x, rfl, ht, rfl, hx⟩ := y
  have := hx vs (SqL.of h1)
  rw [e2] at this
  cases this
  rw [Nat.zero_add]
  exact s.newTup ht ⟨_, _, rfl, rfl, _, _, rfl, hv, rfl⟩
theorem pi_enumTP {tg l : Expr} (h : PI X tg l (iEnumT X.K (tA X.K G g))) : PI X tg l (tI X.K G (pEnumT g)) := h.le fun σ H R ⟨env, T, C, s, h, k⟩ => ⟨env, T, _, s, h, fun ps e1 vs H1 h1 l1 ⟨Z, s1⟩ => by
  split at h1
  · obtain ⟨v, rfl, S⟩ := one_arg s1 l1
    obtain ⟨a, us, rfl, ha, hx⟩ := S.topDat
    exact ⟨a, us, rfl, ha, k _ _ _ _ _ h1 (nb_no (fun _ z => by cases z) (fun _ _ z => by cases z)) ⟨Z, S⟩ walks_enumT⟩
  · exact h1.elim⟩
theorem pi_enumLP {tg l : Expr} (h : PI X tg l (iEnum X.K (tA X.K G g))) : PI X tg l (tI X.K G (pEnumL g)) := h.le fun σ H R ⟨env, T, C, s, h, k⟩ => ⟨env, T, _, s, h, fun ps e1 vs H1 h1 l1 ⟨Z, s1⟩ => by
  split at h1
  · next ds =>
    obtain ⟨v, rfl, S⟩ := one_arg s1 l1
    obtain ⟨a, us, rfl, ha, hx⟩ := S.lst List.mem_cons_self (show lstOf e1 (.dat (.list _)) = some _ from rfl)
    exact ⟨a, us, rfl, SqL.of ha, k _ _ _ _ _ h1 (nb_no (fun _ z => by cases z) (fun _ _ z => by cases z)) ⟨Z, S⟩ (walks_enumL (.inl rfl))⟩
  · obtain ⟨v, rfl, S⟩ := one_arg s1 l1
    obtain ⟨a, us, rfl, ha, hx⟩ := S.lst List.mem_cons_self (show lstOf e1 (.own _) = some _ from rfl)
    exact ⟨a, us, rfl, SqL.of ha, k _ _ _ _ _ h1 (nb_no (fun _ z => by cases z) (fun _ _ z => by cases z)) ⟨Z, S⟩ (walks_enumL (.inr rfl))⟩
  · exact h1.elim⟩
theorem pt_inTabP {keys nots : List Str} {d : Addr} (hk : ∀ z ∈ keys, ∃ r, PySem.W.nsIn X.K d z = some (some r)) (hn : ∀ z ∈ nots, PySem.W.nsIn X.K d z = some none)
    (h : PT X e (tTest (tOp (fun x y H Q => ∃ (z : Str) (r : Option Value), x = .str z ∧ y = .ref d ∧ PySem.W.nsIn X.K d z = some r ∧ Q (.bl r.isSome) H) (tE X.K G f) (tC (.ref d))))) : PT X e (tQ X.K G (pInTab keys nots f)) := h.le fun σ H Q ⟨env, T, C, s, h, k⟩ => ⟨env, T, _, s, h, fun p e1 v H1 h1 ⟨Z, s1⟩ => by
  split at h1
  · have := s1.topDat
    cases this
    rcases h1 with ⟨m, h1⟩ | ⟨m, h1⟩
    · obtain ⟨r, hr⟩ := hk _ m
      exact ⟨_, some r, rfl, rfl, hr, _, rfl, k _ _ _ h1 ⟨Z, s1.pop⟩⟩
    · exact ⟨_, none, rfl, rfl, hn _ m, _, rfl, k _ _ _ h1 ⟨Z, s1.pop⟩⟩
  · exact h1.elim⟩
end

/-! ### lists of lists -/
def itmsOf : List Cel → Option (List Itm)
  | [] => some []
  | .dat d :: ps => (itmsOf ps).map (.d d :: ·)
  | .own ys :: ps => (itmsOf ps).map (.l ys :: ·)
  | _ => none
def pBox (g : PAs) : PEx := fun env C => g env fun ps e => match itmsOf ps with
  | some xs => xs.length ≤ sizeLine ∧ C (.box xs) e
  | none => False
/-- an item: data, or a list that is at work -/
def pIxB : POp := fun env pa pb C => match pa, pb with
  | .bor i, .dat (.int n) => (match env[i]? with
    | some (.box xs) => ∃ k, ixN xs.length n = some k ∧ (match xs[k]? with
      | some (.d x) => C (.dat x) env
      | some (.l _) => C (.sub i k) (env.set i (.pnd xs))
      | none => False)
    | _ => False)
  | _, _ => False
/-- the work on a list in slot i is done -/
def unl (i : Nat) (p : Cel) (e : PEnv) (C : PK) : Prop := match e[i]? with
  | some (.pnd xs) => (match p with
    | .dat d => C (.dat d) (e.set i (.box xs))
    | .own ys => C (.own ys) (e.set i (.box xs))
    | _ => False)
  | _ => C p e
def isBox : Option Cel → Prop
  | some (.box _) => True
  | _ => False
def pUnl (i : Nat) (f : PEx) : PEx := fun env C => isBox env[i]? ∧ f env fun p e => unl i p e C
def pUnlT (i : Nat) (t : PTst) : PTst := fun env C => isBox env[i]? ∧ t env fun b e => match e[i]? with
  | some (.pnd xs) => C b (e.set i (.box xs))
  | _ => C b e
def mutS (e : PEnv) (i k : Nat) (P : List PyData → (List PyData → Prop) → Prop) (C : PEnv → Prop) : Prop := match e[i]? with
  | some (.pnd xs) => (match xs[k]? with
    | some (.l ys) => P ys fun zs => C (e.set i (.box (xs.set k (.l zs))))
    | _ => False)
  | _ => False
/-- xs[i].append(v) -/
def pAppS (fo : PEx) (ga : PAs) : PEx := fun env C => fo env fun po e1 => match po with
  | .sub s k => (subAt k e1[s]?).isSome = true ∧ ga e1 fun ps e2 => (match ps with
    | [.dat d] => mutS e2 s k (fun xs c => xs.length < sizeLine ∧ c (xs ++ [d])) (C (.dat .none))
    | _ => False)
  | _ => False
/-- xs.append(v), xs with lists in it -/
def mAppB (s : Nat) (ps : List Cel) (env : PEnv) (C : PK) : Prop := match env[s]? with
  | some (.box xs) => (match ps with
    | [.dat d] => xs.length < sizeLine ∧ C (.dat .none) (env.set s (.box (xs ++ [.d d])))
    | [.own ys] => xs.length < sizeLine ∧ C (.dat .none) (env.set s (.box (xs ++ [.l ys])))
    | _ => False)
  | _ => False
/-- xs[i] = e, xs with lists in it -/
def pSetIxB (fv fo fi : PEx) : PSt := fun E env => fv env fun pv e1 => fo e1 fun po e2 => fi e2 fun pi e3 => match po, pi with
  | .bor s, .dat (.int i) => (match e3[s]? with
    | some (.box xs) => ∃ j, ixN xs.length i = some j ∧ (match pv with
      | .dat d => E.nx (e3.set s (.box (xs.set j (.d d))))
      | .own ys => E.nx (e3.set s (.box (xs.set j (.l ys))))
      | _ => False)
    | _ => False)
  | _, _ => False
section
variable {K : PySem.W.Frag} {G : Gam} {Z Z' : Addr → Prop} {H H' : Hp} {σ : L2.St} {env : PEnv} {T : Stk}
theorem itms_da : ∀ (ps : List Cel) (vs : List V) (T : Stk) (xs : List Itm), vs.length = ps.length → itmsOf ps = some xs → StZ K G Z H σ env (psh T vs ps) →
    ItAll K Z H xs vs ∧ (∀ b ∈ subs xs vs, ¬ Z b ∧ G.H0 b = none ∧ H b ≠ none ∧ ¬ OwnA H σ env T b) ∧ (subs xs vs).Nodup ∧ StZ K G Z H σ env T
  | [], [], T, xs, _, e, s => by
    cases e
    exact ⟨rfl, (fun b hb => by cases hb), List.nodup_nil, s⟩
  | [], _ :: _, _, _, l, _, _ => by cases l
  | _ :: _, [], _, _, l, _, _ => by cases l
  | .dat d :: ps, v :: vs, T, xs, l, e, s => by
    obtain ⟨xs', e2, rfl⟩ := Option.map_eq_some_iff.mp (show (itmsOf ps).map (Itm.d d :: ·) = some xs from e)
    obtain ⟨h1, h2, h3, h4⟩ := itms_da ps vs ((v, .dat d) :: T) xs' (Nat.succ.inj l) e2 s
    exact ⟨⟨v, vs, rfl, h4.topDat, h1⟩, fun b hb => ⟨(h2 b hb).1, (h2 b hb).2.1, (h2 b hb).2.2.1, fun z => (h2 b hb).2.2.2 (z.elim .inl fun ⟨t, ht, o⟩ => .inr ⟨t, List.mem_cons_of_mem _ ht, o⟩)⟩, h3, h4.pop⟩
  | .own ys :: ps, v :: vs, T, xs, l, e, s => by
    obtain ⟨xs', e2, rfl⟩ := Option.map_eq_some_iff.mp (show (itmsOf ps).map (Itm.l ys :: ·) = some xs from e)
    obtain ⟨h1, h2, h3, h4⟩ := itms_da ps vs ((v, .own ys) :: T) xs' (Nat.succ.inj l) e2 s
    obtain ⟨a, us, rfl, k1, k2, k3, k4, no⟩ := h4.topOwn
    refine ⟨⟨a, us, vs, rfl, k1, k2, h1⟩, fun b hb => ?_, ?_, h4.pop⟩
    · rcases List.mem_cons.mp hb with rfl | hb
      · exact ⟨k3, k4, by rw [k1]; exact fun z => (by cases z), no⟩
      · exact ⟨(h2 b hb).1, (h2 b hb).2.1, (h2 b hb).2.2.1, fun z => (h2 b hb).2.2.2 (z.elim .inl fun ⟨t, ht, o⟩ => .inr ⟨t, List.mem_cons_of_mem _ ht, o⟩)⟩
    · exact List.nodup_cons.mpr ⟨fun hb => (h2 a hb).2.2.2 (.inr ⟨_, List.mem_cons_self, List.mem_cons_self⟩), h3⟩
  | .no :: _, _, _, _, _, e, _ => by cases e
  | .arg _ :: _, _, _, _, _, e, _ => by cases e
  | .drw :: _, _, _, _, _, e, _ => by cases e
  | .bor _ :: _, _, _, _, _, e, _ => by cases e
  | .box _ :: _, _, _, _, _, e, _ => by cases e
  | .pnd _ :: _, _, _, _, _, e, _ => by cases e
  | .sub _ _ :: _, _, _, _, _, e, _ => by cases e
  | .dic _ :: _, _, _, _, _, e, _ => by cases e
  | .dit _ :: _, _, _, _, _, e, _ => by cases e
  | .lck _ _ _ :: _, _, _, _, _, e, _ => by cases e
theorem StZ.ownNew (s : StZ K G Z H σ env T) {p : Addr} {o : HO} (hp : H p = none) {b : Addr} (h : OwnA (upd H p o) σ env T b) : OwnA H σ env T b := by
  have m : Mv K Z H Z (upd H p o) := Mv.same (same_new hp) fun _ z => z
  rcases h with ⟨i, ov, q, e1, e2, hb⟩ | ⟨t, ht, hb⟩
  · obtain ⟨ov', e3, ok⟩ := s.sl i q e2
    rw [e1] at e3
    cases e3
    rw [(ok.mv m (fun b us _ e => same_new hp _ _ e) fun b hb => (ok.own hb).2.1).2] at hb
    exact .inl ⟨i, ov, q, e1, e2, hb⟩
  · have ok := s.tm t ht
    unfold OwnT at hb
    rw [(ok.mv m (fun b us _ e => same_new hp _ _ e) fun b hb => (ok.own hb).2.1).2] at hb
    exact .inr ⟨t, ht, hb⟩
/-- a new list with lists in it -/
theorem StZ.newBox {xs : List Itm} {vs : List V} {p : Addr} (s : StZ K G Z H σ env T) (h1 : ItAll K Z H xs vs) (h2 : ∀ b ∈ subs xs vs, ¬ Z b ∧ G.H0 b = none ∧ H b ≠ none ∧ ¬ OwnA H σ env T b) (h3 : (subs xs vs).Nodup) (hp : H p = none) :
    StZ K G Z (upd H p (.lst vs)) σ env ((.ref p, .box xs) :: T) := by
  have m : Mv K Z H Z (upd H p (.lst vs)) := Mv.same (same_new hp) fun _ z => z
  have ft : celFoot (upd H p (.lst vs)) (.box xs) (some (.ref p)) = p :: subs xs vs := by
    show (p :: (match (upd H p (.lst vs)) p with | some (.lst vs) => subs xs vs | _ => [])) = _
    rw [upd_same]
  refine (s.alloc (.lst vs) hp).push (p := .box xs) ⟨p, vs, rfl, upd_same, ItAll.mv m (fun b us _ e => same_new hp _ _ e) h1, fun b hb => ?_, List.nodup_cons.mpr ⟨fun hb => (h2 p hb).2.2.1 hp, h3⟩⟩ (fun _ e => by cases e) (fun _ _ e => by cases e) (fun _ e => by cases e) fun b o oa => ?_
  · rcases List.mem_cons.mp hb with rfl | hb
    · exact ⟨fun z => s.z3 b z hp, s.h0 hp⟩
    · exact ⟨(h2 b hb).1, (h2 b hb).2.1⟩
  · rw [ft] at o
    have oa2 := s.ownNew hp oa
    rcases List.mem_cons.mp o with e | hb
    · rw [e] at oa2
      exact s.fresh hp oa2
    · exact (h2 b hb).2.2.2 oa2
theorem ItAll.set_l {b : Addr} {zs : List PyData} {ws us : List V} : ∀ {xs : List Itm} {vs : List V} {k : Nat} {ys : List PyData}, ItAll K Z H xs vs → (subs xs vs).Nodup → xs[k]? = some (.l ys) → vs[k]? = some (.ref b) → H b = some (.lst us) → ¬ Z b → DaAll K Z H zs ws →
    ItAll K Z (upd H b (.lst ws)) (xs.set k (.l zs)) vs ∧ subs (xs.set k (.l zs)) vs = subs xs vs ∧ b ∈ subs xs vs
  | [], _, _, _, _, _, e, _, _, _, _ => by cases e
  | .d x :: xs, _, 0, _, _, _, e, _, _, _, _ => by cases e
  | .d x :: xs, _, k + 1, ys, ⟨v, r, e1, h1, h2⟩, nd, e, e2, hb, nz, hz => by
    subst e1
    obtain ⟨g1, g2, g3⟩ := ItAll.set_l h2 nd (by simpa using e) (by simpa using e2) hb nz hz
    exact ⟨⟨v, r, rfl, Da.mv (Mv.wr hb nz) _ _ h1, g1⟩, g2, g3⟩
  | .l y :: xs, _, 0, ys, ⟨c, us', r, e1, h1, h2, h3⟩, nd, e, e2, hb, nz, hz => by
    subst e1
    cases e2
    have nd' := List.nodup_cons.mp (show (b :: subs xs r).Nodup from nd)
    exact ⟨⟨b, ws, r, rfl, upd_same, DaAll.mv (Mv.wr hb nz) _ _ hz, ItAll.mv (Mv.wr hb nz) (fun d us hd e => upd_else e fun z => nd'.1 (z ▸ hd)) h3⟩, rfl, List.mem_cons_self⟩
  | .l y :: xs, _, k + 1, ys, ⟨c, us', r, e1, h1, h2, h3⟩, nd, e, e2, hb, nz, hz => by
    subst e1
    have nd' := List.nodup_cons.mp (show (c :: subs xs r).Nodup from nd)
    obtain ⟨g1, g2, g3⟩ := ItAll.set_l h3 nd'.2 (by simpa using e) (by simpa using e2) hb nz hz
    exact ⟨⟨c, us', r, rfl, upd_else h1 fun z => nd'.1 (z ▸ g3), DaAll.mv (Mv.wr hb nz) _ _ h2, g1⟩, congrArg (c :: ·) g2, List.mem_cons_of_mem _ g3⟩
theorem StZ.mutS {i k : Nat} {v : V} {P : List PyData → (List PyData → Prop) → Prop} {C : PEnv → Prop} (S : StZ K G Z H σ env ((v, .sub i k) :: T)) (h : mutS env i k P C) :
    ∃ (b : Addr) (us : List V) (ys : List PyData) (c : List PyData → Cel), v = .ref b ∧ H b = some (.lst us) ∧ DaAll K Z H ys us ∧ P ys (fun zs => C (env.set i (c zs))) ∧ ∀ zs ws, DaAll K Z H zs ws → StZ K G Z (upd H b (.lst ws)) σ (env.set i (c zs)) T := by
  obtain ⟨a, vs, xs, e1, e2, h1, h2⟩ := S.pn _ List.mem_cons_self i k rfl
  unfold My.mutS at h
  rw [e2] at h
  have h : (match xs[k]? with
    | some (.l ys) => P ys fun zs => C (env.set i (.box (xs.set k (.l zs))))
    | _ => False) := h
  split at h
  · next ys e3 =>
    obtain ⟨ov, e4, ok⟩ := S.sl i _ e2
    rw [e1] at e4
    cases e4
    obtain ⟨a', vs', e5, k1, k2, k3, k4⟩ := id ok
    cases e5
    rw [h1] at k1
    cases k1
    obtain ⟨b, us, g1, g2, g3, g4⟩ := ItAll.at k2 e3
    rw [h2] at g1
    have g1 : v = .ref b := Option.some.inj g1
    have nab : a ≠ b := fun z => (List.nodup_cons.mp k4).1 (z ▸ g4)
    have nzb := (k3 b (List.mem_cons_of_mem _ g4)).1
    have ft : ∀ (H : Hp) (xs : List Itm) (vs : List V), H a = some (.lst vs) → celFoot H (.box xs) (some (.ref a)) = a :: subs xs vs := fun H xs vs e => by
      show (a :: (match H a with | some (.lst vs) => subs xs vs | _ => [])) = _
      rw [e]
    have ftp : celFoot H (.pnd xs) (some (.ref a)) = a :: subs xs vs := ft H xs vs h1
    refine ⟨b, us, ys, fun zs => .box (xs.set k (.l zs)), g1, g2, g3, h, fun zs ws hz => ?_⟩
    obtain ⟨f1, f2, f3⟩ := ItAll.set_l k2 (List.nodup_cons.mp k4).2 e3 (g1 ▸ h2) g2 nzb hz
    have hH : (upd H b (.lst ws)) a = some (.lst vs) := upd_else h1 nab
    refine (S.pop.dat (v := .non) (d := .none) rfl).chg (p' := .box (xs.set k (.l zs))) e1 e2 ⟨a, vs, rfl, hH, f1, by rw [f2]; exact k3, by rw [f2]; exact k4⟩ (fun c hc => .inl ?_) (fun c o n e => upd_else e fun z => n ?_) (fun c e => upd_some e) (fun _ => trivial) (fun t ht k' z => (List.pairwise_cons.mp S.pu).1 t ht i k k' rfl z) fun ys z => by cases z
    · rw [ft _ _ _ hH, f2] at hc
      rw [ftp]
      exact hc
    · rw [z, ftp]
      exact List.mem_cons_of_mem _ f3
  · exact h.elim
theorem ItAll.app : ∀ {xs ys : List Itm} {vs us : List V}, ItAll K Z H xs vs → ItAll K Z H ys us → ItAll K Z H (xs ++ ys) (vs ++ us)
  | [], _, _, _, h, k => by cases h; exact k
  | .d x :: xs, ys, _, us, ⟨v, r, e, h1, h2⟩, k => by subst e; exact ⟨v, r ++ us, rfl, h1, ItAll.app h2 k⟩
  | .l y :: xs, ys, _, us, ⟨c, u, r, e, h1, h2, h3⟩, k => by subst e; exact ⟨c, u, r ++ us, rfl, h1, h2, ItAll.app h3 k⟩
theorem subs_app : ∀ {xs ys : List Itm} {vs us : List V}, ItAll K Z H xs vs → subs (xs ++ ys) (vs ++ us) = subs xs vs ++ subs ys us
  | [], _, _, _, h => by cases h; rfl
  | .d x :: xs, ys, _, us, ⟨v, r, e, h1, h2⟩ => by
    subst e
    show subs (Itm.d x :: (xs ++ ys)) (v :: (r ++ us)) = _
    have : ∀ (zs : List Itm) (ws : List V), subs (.d x :: zs) (v :: ws) = subs zs ws := fun zs ws => rfl
    rw [this]
    exact subs_app h2
  | .l y :: xs, ys, _, us, ⟨c, u, r, e, h1, h2, h3⟩ => by
    subst e
    exact congrArg (c :: ·) (subs_app h3)
end
section
variable {K : PySem.W.Frag} {G : Gam} {Z Z' : Addr → Prop} {H H' : Hp} {σ : L2.St} {env : PEnv} {T : Stk}
theorem ItAll.split {x : Itm} {xs : List Itm} {vs : List V} (h : ItAll K Z H (x :: xs) vs) : ∃ u r, vs = u :: r ∧ ItAll K Z H [x] [u] ∧ ItAll K Z H xs r ∧ subs (x :: xs) (u :: r) = subs [x] [u] ++ subs xs r := by
  cases x with
  | d x =>
    obtain ⟨v, r, rfl, h1, h2⟩ := h
    have e : ItAll K Z H [.d x] [v] := ⟨v, [], rfl, h1, rfl⟩
    exact ⟨v, r, rfl, e, h2, subs_app (xs := [.d x]) (vs := [v]) e⟩
  | l y =>
    obtain ⟨c, u, r, rfl, h1, h2, h3⟩ := h
    have e : ItAll K Z H [.l y] [.ref c] := ⟨c, u, [], rfl, h1, h2, rfl⟩
    exact ⟨.ref c, r, rfl, e, h3, subs_app (xs := [.l y]) (vs := [.ref c]) e⟩
theorem ItAll.setI {it : Itm} {v : V} (hi : ItAll K Z H [it] [v]) : ∀ {xs : List Itm} {vs : List V} (j : Nat), ItAll K Z H xs vs → ItAll K Z H (xs.set j it) (vs.set j v) ∧ (∀ b ∈ subs (xs.set j it) (vs.set j v), b ∈ subs xs vs ∨ b ∈ subs [it] [v]) ∧
    ((subs xs vs).Nodup → (subs [it] [v]).Nodup → (∀ b ∈ subs [it] [v], b ∉ subs xs vs) → (subs (xs.set j it) (vs.set j v)).Nodup)
  | [], vs, j, h => by
    cases h
    exact ⟨rfl, (fun b hb => .inl hb), fun h _ _ => h⟩
  | x :: xs, vs, 0, h => by
    obtain ⟨u, r, rfl, h1, h2, h3⟩ := h.split
    have e : subs (it :: xs) (v :: r) = subs [it] [v] ++ subs xs r := subs_app (xs := [it]) (vs := [v]) hi
    refine ⟨ItAll.app (xs := [it]) (vs := [v]) hi h2, fun b hb => ?_, fun n1 n2 n3 => ?_⟩
    · rw [h3]
      have hb : b ∈ subs (it :: xs) (v :: r) := hb
      rw [e] at hb
      exact (List.mem_append.mp hb).elim .inr fun h => .inl (List.mem_append_right _ h)
    · show (subs (it :: xs) (v :: r)).Nodup
      rw [e]
      rw [h3] at n1 n3
      exact List.nodup_append.mpr ⟨n2, (List.nodup_append.mp n1).2.1, fun b hb c hc z => n3 b hb (List.mem_append_right _ (z ▸ hc))⟩
  | x :: xs, vs, j + 1, h => by
    obtain ⟨u, r, rfl, h1, h2, h3⟩ := h.split
    obtain ⟨g1, g2, g3⟩ := ItAll.setI hi j h2
    have e : subs (x :: xs.set j it) (u :: r.set j v) = subs [x] [u] ++ subs (xs.set j it) (r.set j v) := subs_app (xs := [x]) (vs := [u]) h1
    refine ⟨ItAll.app (xs := [x]) (vs := [u]) h1 g1, fun b hb => ?_, fun n1 n2 n3 => ?_⟩
    · have hb : b ∈ subs (x :: xs.set j it) (u :: r.set j v) := hb
      rw [e] at hb
      rw [h3]
      rcases List.mem_append.mp hb with hb | hb
      · exact .inl (List.mem_append_left _ hb)
      · exact (g2 b hb).elim (fun h => .inl (List.mem_append_right _ h)) .inr
    · show (subs (x :: xs.set j it) (u :: r.set j v)).Nodup
      rw [e]
      rw [h3] at n1 n3
      have n4 := List.nodup_append.mp n1
      refine List.nodup_append.mpr ⟨n4.1, g3 n4.2.1 n2 (fun b hb z => n3 b hb (List.mem_append_right _ z)), fun b hb c hc z => ?_⟩
      subst z
      rcases g2 b hc with h | h
      · exact n4.2.2 b hb b h rfl
      · exact n3 b h (List.mem_append_left _ hb)
theorem StZ.boxW {i : Nat} {v : V} {q : Cel} {a : Addr} {xs xs' : List Itm} {vs vs' : List V} (s : StZ K G Z H σ env ((v, q) :: T)) (e2 : env[i]? = some (.box xs)) (e1 : σ[i]? = some (some (.ref a))) (h1 : H a = some (.lst vs)) (it : ItAll K Z H xs' vs')
    (sb : ∀ b ∈ subs xs' vs', b ∈ subs xs vs ∨ b ∈ celFoot H q (some v)) (nd : (subs xs' vs').Nodup) (hq : ∀ b ∈ celFoot H q (some v), G.H0 b = none) : StZ K G Z (upd H a (.lst vs')) σ (env.set i (.box xs')) T := by
  obtain ⟨ov, e4, ok⟩ := s.sl i _ e2
  rw [e1] at e4
  cases e4
  obtain ⟨a', ws, e5, k1, k2, k3, k4⟩ := id ok
  cases e5
  rw [h1] at k1
  cases k1
  have ft : ∀ (H : Hp) (xs : List Itm) (vs : List V), H a = some (.lst vs) → celFoot H (.box xs) (some (.ref a)) = a :: subs xs vs := fun H xs vs e => by
    show (a :: (match H a with | some (.lst vs) => subs xs vs | _ => [])) = _
    rw [e]
  have nz := (k3 a List.mem_cons_self).1
  have oa : OwnS H σ env i a := ⟨_, _, e1, e2, by rw [ft H xs vs h1]; exact List.mem_cons_self⟩
  have na : ∀ b ∈ subs xs' vs', b ≠ a := fun b hb z => by
    subst z
    rcases sb b hb with h | h
    · exact (List.nodup_cons.mp k4).1 h
    · exact s.topSep (t := (v, q)) h (.inl ⟨i, oa⟩)
  have hH : (upd H a (.lst vs')) a = some (.lst vs') := upd_same
  refine s.chg (p' := .box xs') e1 e2 ⟨a, vs', rfl, hH, ItAll.mv (Mv.wr h1 nz) (fun b us hb e => upd_else e (na b hb)) it, fun b hb => ?_, List.nodup_cons.mpr ⟨fun hb => na a hb rfl, nd⟩⟩ (fun b hb => ?_) (fun c o n e => upd_else e fun z => n ?_) (fun c e => upd_some e) (fun _ => trivial) (fun t ht => s.nosub e2 (fun _ z => by cases z) t (List.mem_cons_of_mem _ ht)) fun ys z => by cases z
  · rcases List.mem_cons.mp hb with rfl | hb
    · exact k3 b List.mem_cons_self
    · rcases sb b hb with h | h
      · exact k3 b (List.mem_cons_of_mem _ h)
      · exact ⟨((s.tm _ List.mem_cons_self).own h).2.1, hq b h⟩
  · rw [ft _ _ _ hH] at hb
    rw [ft H xs vs h1]
    rcases List.mem_cons.mp hb with rfl | hb
    · exact .inl List.mem_cons_self
    · exact (sb b hb).elim (fun h => .inl (List.mem_cons_of_mem _ h)) .inr
  · rw [z, ft H xs vs h1]
    exact List.mem_cons_self
/-- what a value gives as an item -/
theorem StZ.topIt {v : V} {q : Cel} {it : Itm} (s : StZ K G Z H σ env ((v, q) :: T)) (h : (∃ d, q = .dat d ∧ it = .d d) ∨ ∃ ys, q = .own ys ∧ it = .l ys) : ItAll K Z H [it] [v] ∧ subs [it] [v] = celFoot H q (some v) ∧ (subs [it] [v]).Nodup ∧ ∀ b ∈ celFoot H q (some v), G.H0 b = none := by
  rcases h with ⟨d, rfl, rfl⟩ | ⟨ys, rfl, rfl⟩
  · have e : celFoot H (.dat d) (some v) = [] := by cases v <;> rfl
    rw [e]
    exact ⟨⟨v, [], rfl, s.topDat, rfl⟩, rfl, List.nodup_nil, fun b hb => by cases hb⟩
  · obtain ⟨a, us, rfl, k1, k2, k3, k4, no⟩ := s.topOwn
    exact ⟨⟨a, us, [], rfl, k1, k2, rfl⟩, rfl, List.nodup_cons.mpr ⟨(fun h => by cases h), List.nodup_nil⟩, fun b hb => by rw [List.mem_singleton.mp hb]; exact k4⟩
theorem StZ.boxSet {i j : Nat} {v : V} {q : Cel} {it : Itm} {a : Addr} {xs : List Itm} {vs : List V} (s : StZ K G Z H σ env ((v, q) :: T)) (h : (∃ d, q = .dat d ∧ it = .d d) ∨ ∃ ys, q = .own ys ∧ it = .l ys) (e2 : env[i]? = some (.box xs)) (e1 : σ[i]? = some (some (.ref a))) (h1 : H a = some (.lst vs)) :
    StZ K G Z (upd H a (.lst (vs.set j v))) σ (env.set i (.box (xs.set j it))) T := by
  obtain ⟨ov, e4, ok⟩ := s.sl i _ e2
  rw [e1] at e4
  cases e4
  obtain ⟨a', ws, e5, k1, k2, k3, k4⟩ := id ok
  cases e5
  rw [h1] at k1
  cases k1
  obtain ⟨t1, t2, t3, t4⟩ := s.topIt h
  obtain ⟨g1, g2, g3⟩ := ItAll.setI t1 j k2
  refine s.boxW e2 e1 h1 g1 (fun b hb => (g2 b hb).elim .inl fun h => .inr (t2 ▸ h)) (g3 (List.nodup_cons.mp k4).2 t3 fun b hb z => ?_) t4
  refine s.topSep (t := (v, q)) (show b ∈ celFoot H q (some v) from t2 ▸ hb) (.inl ⟨i, some (.ref a), .box xs, e1, e2, ?_⟩)
  show b ∈ (a :: (match H a with | some (.lst vs) => subs xs vs | _ => []))
  rw [h1]
  exact List.mem_cons_of_mem _ z
theorem StZ.boxApp {i : Nat} {v : V} {q : Cel} {it : Itm} {a : Addr} {xs : List Itm} {vs : List V} (s : StZ K G Z H σ env ((v, q) :: T)) (h : (∃ d, q = .dat d ∧ it = .d d) ∨ ∃ ys, q = .own ys ∧ it = .l ys) (e2 : env[i]? = some (.box xs)) (e1 : σ[i]? = some (some (.ref a))) (h1 : H a = some (.lst vs)) :
    StZ K G Z (upd H a (.lst (vs ++ [v]))) σ (env.set i (.box (xs ++ [it]))) T := by
  obtain ⟨ov, e4, ok⟩ := s.sl i _ e2
  rw [e1] at e4
  cases e4
  obtain ⟨a', ws, e5, k1, k2, k3, k4⟩ := id ok
  cases e5
  rw [h1] at k1
  cases k1
  obtain ⟨t1, t2, t3, t4⟩ := s.topIt h
  have e := subs_app (ys := [it]) (us := [v]) k2
  refine s.boxW e2 e1 h1 (ItAll.app k2 t1) (fun b hb => ?_) ?_ t4
  · rw [e, t2] at hb
    exact List.mem_append.mp hb
  · rw [e]
    refine List.nodup_append.mpr ⟨(List.nodup_cons.mp k4).2, t3, fun b hb c hc z => ?_⟩
    subst z
    refine s.topSep (t := (v, q)) (show b ∈ celFoot H q (some v) from t2 ▸ hc) (.inl ⟨i, some (.ref a), .box xs, e1, e2, ?_⟩)
    show b ∈ (a :: (match H a with | some (.lst vs) => subs xs vs | _ => []))
    rw [h1]
    exact List.mem_cons_of_mem _ hb
/-- a list in a list at work -/
theorem StZ.pushS {i k : Nat} {a : Addr} {v : V} {xs : List Itm} {vs : List V} (s : StZ K G Z H σ env T) (e1 : σ[i]? = some (some (.ref a))) (e2 : env[i]? = some (.box xs)) (h1 : H a = some (.lst vs)) (hk : vs[k]? = some v) : StZ K G Z H σ (env.set i (.pnd xs)) ((v, .sub i k) :: T) := by
  have hi := (List.getElem?_eq_some_iff.mp e2).1
  have ns := s.nosub e2 (fun _ z => by cases z)
  obtain ⟨ov, e4, ok⟩ := s.sl i _ e2
  rw [e1] at e4
  cases e4
  have s2 := s.say (p' := .pnd xs) e1 e2 ok (fun b h => h) (fun _ => trivial) ns fun _ z => by cases z
  exact {
    gok := s2.gok
    sl := s2.sl
    tm := fun t ht => by
      rcases List.mem_cons.mp ht with rfl | ht
      · exact ⟨_, rfl⟩
      · exact s2.tm t ht
    bo := fun t ht j e => by
      rcases List.mem_cons.mp ht with rfl | ht
      · cases e
      · exact s2.bo t ht j e
    pn := fun t ht j k' e => by
      rcases List.mem_cons.mp ht with rfl | ht
      · cases e
        exact ⟨a, vs, xs, e1, List.getElem?_set_self hi, h1, hk⟩
      · exact s2.pn t ht j k' e
    pu := List.pairwise_cons.mpr ⟨fun u hu j k1 k2 e => by
      cases e
      exact ns u hu k2, s2.pu⟩
    s1 := s2.s1
    s2 := List.pairwise_cons.mpr ⟨fun u hu b o1 => (by cases v <;> cases o1), s2.s2⟩
    s3 := fun j b t o1 ht o2 => by
      rcases List.mem_cons.mp ht with rfl | ht
      · cases v <;> cases o2
      · exact s2.s3 j b t o1 ht o2
    ta := fun t ht ys => by
      rcases List.mem_cons.mp ht with rfl | ht
      · exact fun z => by cases z
      · exact s2.ta t ht ys
    ar := s2.ar
    z1 := s2.z1
    z2 := s2.z2
    z3 := s2.z3
    fr := s2.fr
    al := s2.al
    dr := s2.dr
    tb := s2.tb
    tk := s2.tk }
theorem ItAll.at_d : ∀ {xs : List Itm} {vs : List V} {k : Nat} {it : Itm}, ItAll K Z H xs vs → xs[k]? = some it → ∃ v, vs[k]? = some v ∧ ∀ x, it = .d x → Da K Z H x v
  | [], _, _, _, _, e => by cases e
  | .d x :: xs, _, 0, _, ⟨v, r, e1, h1, h2⟩, e => by subst e1; cases e; exact ⟨v, rfl, fun x z => by cases z; exact h1⟩
  | .l y :: xs, _, 0, _, ⟨c, us, r, e1, h1, h2, h3⟩, e => by subst e1; cases e; exact ⟨_, rfl, fun x z => by cases z⟩
  | .d x :: xs, _, k + 1, _, ⟨v, r, e1, h1, h2⟩, e => by
    subst e1
    obtain ⟨v, g1, g2⟩ := ItAll.at_d h2 (by simpa using e)
    exact ⟨v, by simpa using g1, g2⟩
  | .l y :: xs, _, k + 1, _, ⟨c, us, r, e1, h1, h2, h3⟩, e => by
    subst e1
    obtain ⟨v, g1, g2⟩ := ItAll.at_d h3 (by simpa using e)
    exact ⟨v, by simpa using g1, g2⟩
end
section
variable {X : Cx} {G : Gam} {e a b c : Expr} {es : List Expr} {pos : Pos} {fa fb fo fe fi fv f : PEx} {st : Stmt} {K : PySem.W.Frag}
theorem li_ixB : LiftO K G (rIx K) pIxB := by
  intro Z H σ env T x y pa pb C Q s h k
  unfold pIxB at h
  split at h
  · next i n =>
    have h1 := s.topDat
    cases h1
    obtain ⟨e1, _⟩ := s.bo _ (List.mem_cons_of_mem _ List.mem_cons_self) i rfl
    split at h
    · next xs e2 =>
      obtain ⟨ov, e4, a, vs, e5, k1, k2, _⟩ := s.sl i _ e2
      rw [e1] at e4
      cases e4
      cases e5
      obtain ⟨j, hj, h⟩ := h
      have hj' : ixN vs.length n = some j := by rw [k2.len]; exact hj
      split at h
      · next d e3 =>
        obtain ⟨v, g1, g2⟩ := ItAll.at_d k2 e3
        exact .inl ⟨a, vs, n, v, rfl, rfl, SqL.of k1, by unfold atI; rw [hj']; exact g1, k _ _ _ _ h ⟨Z, s.pop.pop.dat (g2 _ rfl)⟩⟩
      · next ys e3 =>
        obtain ⟨v, g1, g2⟩ := ItAll.at_d k2 e3
        exact .inl ⟨a, vs, n, v, rfl, rfl, SqL.of k1, by unfold atI; rw [hj']; exact g1, k _ _ _ _ h ⟨Z, s.pop.pop.pushS e1 e2 k1 g1⟩⟩
      · exact h.elim
    · exact h.elim
  · exact h.elim
theorem lm_appB : LiftM K G rAppend mAppB := by
  intro Z H σ env T s v vs ps C Q S l h k
  unfold mAppB at h
  split at h
  · next xs e2 =>
    have go : ∀ {u p it}, StZ K G Z H σ env ((u, p) :: (v, .bor s) :: T) → ((∃ d, p = .dat d ∧ it = .d d) ∨ ∃ ys, p = .own ys ∧ it = .l ys) → xs.length < sizeLine → C (.dat .none) (env.set s (.box (xs ++ [it]))) → rAppend v [u] H Q := fun {u p it} S hp h3 h4 => by
      obtain ⟨e1, _⟩ := S.bo _ (List.mem_cons_of_mem _ List.mem_cons_self) s rfl
      obtain ⟨ov, e4, a, ws, e5, k1, k2, _⟩ := S.sl s _ e2
      rw [e1] at e4
      cases e4
      cases e5
      have S' : StZ K G Z H σ env ((u, p) :: T) := S.sub (List.Sublist.cons_cons _ (List.sublist_cons_self _ _))
      exact ⟨a, ws, u, rfl, rfl, k1, by rw [k2.len]; exact h3, k _ _ _ _ h4 ⟨Z, (S'.boxApp hp e2 e1 k1).dat rfl⟩⟩
    split at h
    · match vs, l with
      | [u], _ => exact go (it := .d _) S (.inl ⟨_, rfl, rfl⟩) h.1 h.2
    · match vs, l with
      | [u], _ => exact go (it := .l _) S (.inr ⟨_, rfl, rfl⟩) h.1 h.2
    · exact h.elim
  · exact h.elim
theorem pe_boxP {g : PAs} (h : PA X es (tA X.K G g)) : PE X (.List es pos) (tE X.K G (pBox g)) := (pe_lst h).le fun σ H Q ⟨env, T, C, s, h, k⟩ => ⟨env, T, _, s, h, fun ps e1 vs H1 h1 l1 ⟨Z, s1⟩ => by
  split at h1
  · next xs e =>
    obtain ⟨g1, g2, g3, g4⟩ := itms_da ps vs T xs l1 e s1
    refine ⟨by rw [g1.len]; exact h1.1, fun p hp => k _ _ _ _ h1.2 ⟨Z, g4.newBox g1 g2 g3 hp⟩⟩
  · exact h1.elim⟩
theorem pe_ixBP (ha : PE X a (tE X.K G fa)) (hb : PE X b (tE X.K G fb)) (hs : PlainIx b) : PE X (.Subscript a b pos) (tE X.K G (pBin pIxB fa fb)) := (pe_ix ix_seq ha hb hs).le (binP li_ixB)
theorem StZ.unl {Z : Addr → Prop} {H : Hp} {σ : L2.St} {e : PEnv} {T : Stk} {i : Nat} {xs : List Itm} (s : StZ K G Z H σ e T) (h : e[i]? = some (.pnd xs)) (ns : ∀ t ∈ T, ∀ k, t.2 ≠ Cel.sub i k) : StZ K G Z H σ (e.set i (.box xs)) T := by
  obtain ⟨ov, e1, ok⟩ := s.sl i _ h
  exact s.say (p' := .box xs) e1 h ok (fun b hb => by cases ov with | none => cases hb | some v => cases v <;> first | exact hb | cases hb) (fun _ => trivial) ns fun _ z => by cases z
theorem isBox_at {c : Option Cel} (h : isBox c) : ∃ xs, c = some (.box xs) := by
  cases c with
  | none => exact h.elim
  | some c => cases c <;> first | exact h.elim | exact ⟨_, rfl⟩
theorem pe_unlP {i : Nat} (h : PE X e (tE X.K G f)) : PE X e (tE X.K G (pUnl i f)) := h.le fun σ H Q ⟨env, T, C, ⟨Z, s⟩, ⟨hb, h⟩, k⟩ => ⟨env, T, _, ⟨Z, s⟩, h, fun p e1 v H1 h1 ⟨Z1, s1⟩ => by
  obtain ⟨xs, hx⟩ := isBox_at hb
  have ns := s.nosub hx fun _ z => by cases z
  unfold unl at h1
  split at h1
  · next xs' e2 =>
    split at h1
    · exact k _ _ _ _ h1 ⟨Z1, s1.unl e2 fun t ht k' z => (List.mem_cons.mp ht).elim (fun q => by subst q; cases z) fun ht => ns t ht k' z⟩
    · exact k _ _ _ _ h1 ⟨Z1, s1.unl e2 fun t ht k' z => (List.mem_cons.mp ht).elim (fun q => by subst q; cases z) fun ht => ns t ht k' z⟩
    · exact h1.elim
  · exact k _ _ _ _ h1 ⟨Z1, s1⟩⟩
theorem pt_unlP {i : Nat} {t : PTst} (h : PT X e (tQ X.K G t)) : PT X e (tQ X.K G (pUnlT i t)) := h.le fun σ H Q ⟨env, T, C, ⟨Z, s⟩, ⟨hb, h⟩, k⟩ => ⟨env, T, _, ⟨Z, s⟩, h, fun b e1 H1 h1 ⟨Z1, s1⟩ => by
  obtain ⟨xs, hx⟩ := isBox_at hb
  have ns := s.nosub hx fun _ z => by cases z
  split at h1
  · next xs' e2 => exact k _ _ _ h1 ⟨Z1, s1.unl e2 ns⟩
  · exact k _ _ _ h1 ⟨Z1, s1⟩⟩
theorem pe_appSP {ga : PAs} (h : PE X e (tBM X.K "list" rAppend (tE X.K G fo) (tA X.K G ga))) : PE X e (tE X.K G (pAppS fo ga)) :=
  h.le fun σ H Q ⟨env, T, C, s, h, k⟩ => ⟨env, T, _, s, h, fun po e1 v H1 h1 ⟨Z1, s1⟩ => by
    split at h1
    · next s k' s1 =>
      obtain ⟨h0, h1⟩ := h1
      obtain ⟨ys0, e0⟩ := Option.isSome_iff_exists.mp h0
      obtain ⟨b0, us0, rfl, q0, _⟩ := s1.lst (ds := ys0) List.mem_cons_self e0
      have ty : tyV X.K "list" (.ref b0) H1 := ty_lst q0
      exact ⟨ty, e1, _, _, ⟨Z1, s1⟩, h1, fun ps e2 vs H2 h2 l2 ⟨Z2, s2⟩ => by
        split at h2
        · match vs, l2 with
          | [u], _ =>
            have S : StZ X.K G Z2 H2 σ e2 ((u, .dat _) :: (.ref b0, .sub s k') :: T) := s2
            obtain ⟨b, us, ys, c, eb, g1, g2, ⟨g3, g4⟩, g5⟩ := S.pop.mutS h2
            exact ⟨b, us, u, eb, rfl, g1, by rw [g2.len]; exact g3, k _ _ _ _ g4 ⟨Z2, (g5 _ _ (DaAll.app _ _ _ _ g2 (DaAll.one S.topDat))).dat rfl⟩⟩
        · exact h2.elim⟩
    · exact h1.elim⟩
theorem ps_setIxBP (h : PS X st (tAsg (tE X.K G fv) (gSub (tE X.K G fo) (tE X.K G fi) rSetL))) : PS X st (tS X.K G (pSetIxB fv fo fi)) := h.le fun D σ H ⟨env, T, E, nb, s, h, k⟩ => ⟨env, T, _, s, h, fun pv e1 v H1 h1 s1 => ⟨e1, _, _, s1, h1, fun po e2 o H2 h2 s2 => ⟨e2, _, _, s2, h2, fun pi e3 i H3 h3 ⟨Z, s3⟩ => by
  split at h3
  · next s0 n s3 =>
    have hi := s3.topDat
    cases hi
    split at h3
    · next xs q2 =>
      obtain ⟨q1, _⟩ := s3.bo _ (List.mem_cons_of_mem _ List.mem_cons_self) s0 rfl
      obtain ⟨ov, q4, a, ws, q5, k1, k2, _⟩ := s3.sl s0 _ q2
      rw [q1] at q4
      cases q4
      cases q5
      obtain ⟨j, hj, h3⟩ := h3
      have S := s3.pop.pop
      split at h3
      · exact ⟨a, ws, _, j, rfl, rfl, k1, by rw [k2.len]; exact hj, k.nx _ _ _ h3 ⟨Z, S.boxSet (.inl ⟨_, rfl, rfl⟩) q2 q1 k1⟩⟩
      · exact ⟨a, ws, _, j, rfl, rfl, k1, by rw [k2.len]; exact hj, k.nx _ _ _ h3 ⟨Z, S.boxSet (.inr ⟨_, rfl, rfl⟩) q2 q1 k1⟩⟩
      · exact h3.elim
    · exact h3.elim
  · exact h3.elim⟩⟩⟩
end

/-! ### x.index(y) of a list of any data; text.split(text) -/
def mIndexD (s : Nat) (ps : List Cel) (env : PEnv) (C : PK) : Prop := match ps with
  | [.dat d] => match lstAt env[s]? with
    | some ds => SeqAt.shaped (.list ds) = true ∧ SeqAt.shaped d = true ∧ ∃ (j : Nat) (z : PyData), ds[j]? = some z ∧ PyData.eqv z d = true ∧ (∀ (m : Nat) z', m < j → ds[m]? = some z' → PyData.eqv z' d = false) ∧ C (.dat (.int j)) env
    | none => False
  | _ => False
section
variable {X : Cx} {G : Gam} {e a b c : Expr} {es : List Expr} {pos : Pos} {fo fe : PEx} {K : PySem.W.Frag}
theorem lm_indexD : LiftM K G (rIndexD K) mIndexD := by
  intro Z H σ env T s v vs ps C Q S l h k
  unfold mIndexD at h
  split at h
  · next d =>
    match vs, l with
    | [u], _ =>
      have S : StZ K G Z H σ env ((u, .dat d) :: (v, .bor s) :: T) := S
      split at h
      · next ds e =>
        obtain ⟨f1, f2, j, z, e1, e2, e3, hc⟩ := h
        obtain ⟨a, us, rfl, ha, hx⟩ := S.lst (List.mem_cons_of_mem _ List.mem_cons_self) (show lstOf env (.bor s) = some ds from e)
        exact ⟨a, u, d, ds, j, z, rfl, rfl, .lst (SqL.of ha) (DaAll.dp _ _ (show PyData.canLayAll0 ds = true from SeqAt.canLay_of_shaped f1) hx), Da.dp _ _ (SeqAt.canLay_of_shaped f2) S.topDat, f1, f2, e1, e2, e3, k _ _ _ _ hc ⟨Z, S.pop.pop.dat rfl⟩⟩
      · exact h.elim
  · exact h.elim
def pSplit (fo fe : PEx) : PEx := fun env C => fo env fun po e1 => match po with
  | .dat (.str x) => fe e1 fun pe e2 => (match pe with
    | .dat (.str y) => (y.length == 0) = false ∧ x.length + 2 ≤ sizeLine ∧ C (.own ((Txt.split x y).map .str)) e2
    | _ => False)
  | _ => False
theorem da_strsV {Z : Addr → Prop} {H : Hp} : ∀ l : List Str, DaAll K Z H (l.map .str) (l.map V.str)
  | [] => rfl
  | x :: l => ⟨.str x, _, rfl, rfl, da_strsV l⟩
theorem pe_splitP (h : PE X e (tM1 (fun x xs H Q => ∃ a b, x = .str a ∧ xs = [.str b] ∧ (b.length == 0) = false ∧ a.length + 2 ≤ sizeLine ∧ rNewStrs (Txt.split a b) H Q) (tE X.K G fo) (tE X.K G fe))) : PE X e (tE X.K G (pSplit fo fe)) := h.le fun σ H Q ⟨env, T, C, s, h, k⟩ =>
  ⟨env, T, _, s, h, fun po e1 v H1 h1 ⟨Z1, s1⟩ => by
    split at h1
    · have h4 := s1.topDat
      cases h4
      exact ⟨⟨_, rfl⟩, e1, _, _, ⟨Z1, s1⟩, h1, fun pe e2 u H2 h2 ⟨Z, s2⟩ => by
        split at h2
        · have h3 := s2.topDat
          cases h3
          exact ⟨_, _, rfl, rfl, h2.1, h2.2.1, fun p hp => k _ _ _ _ h2.2.2 ⟨Z, s2.pop.pop.newLst hp (da_strsV _)⟩⟩
        · exact h2.elim⟩
    · exact h1.elim⟩
end
/-! ### a <= b <= c of ints -/
def pChain (o1 o2 : Int → Int → Bool) (fa fb fc : PEx) : PEx := fun env C => fa env fun pa e1 => fb e1 fun pb e2 => match pa, pb with
  | .dat (.int a), .dat (.int b) => IfP (o1 a b) (fc e2 fun pc e3 => match pc with
    | .dat (.int c) => C (.dat (.bool (o2 b c))) e3
    | _ => False) (C (.dat (.bool false)) e2)
  | _, _ => False
section
variable {X : Cx} {G : Gam} {e : Expr} {fa fb fc : PEx} {o1 o2 : Int → Int → Bool}
theorem chainP (σ : L2.St) (H : Hp) (Q : VK) (h : tE X.K G (pChain o1 o2 fa fb fc) σ H Q) : tChain (rI0 fun i j => .bl (o1 i j)) (rI0 fun i j => .bl (o2 i j)) (tE X.K G fa) (tE X.K G fb) (tE X.K G fc) σ H Q := by
  obtain ⟨env, T, C, s, h, k⟩ := h
  refine ⟨env, T, _, s, h, fun pa e1 x H1 h1 s1 => ⟨e1, _, _, s1, h1, fun pb e2 y H2 h2 s2 => ?_⟩⟩
  split at h2
  · obtain ⟨Z, s2⟩ := s2
    have g1 := s2.topDat
    have g2 := s2.pop.topDat
    cases g1
    cases g2
    refine ⟨_, _, rfl, rfl, _, rfl, ?_⟩
    cases h2 with
    | t ht h2 =>
      rw [if_pos ht]
      refine ⟨e2, _, _, ⟨Z, s2⟩, h2, fun pc e3 w H3 h3 ⟨Z3, s3⟩ => ?_⟩
      split at h3
      · have g3 := s3.topDat
        cases g3
        exact ⟨_, _, rfl, rfl, k _ _ _ _ h3 ⟨Z3, s3.pop.pop.pop.dat rfl⟩⟩
      · exact h3.elim
    | f hf h2 =>
      rw [if_neg (by rw [hf]; decide)]
      exact k _ _ _ _ h2 ⟨Z, s2.pop.pop.dat rfl⟩
  · exact h2.elim
theorem pe_chainP (h : PE X e (tChain (rI0 fun i j => .bl (o1 i j)) (rI0 fun i j => .bl (o2 i j)) (tE X.K G fa) (tE X.K G fb) (tE X.K G fc))) : PE X e (tE X.K G (pChain o1 o2 fa fb fc)) := h.le chainP
theorem pt_chainP (h : PT X e (tTest (tChain (rI0 fun i j => .bl (o1 i j)) (rI0 fun i j => .bl (o2 i j)) (tE X.K G fa) (tE X.K G fb) (tE X.K G fc)))) : PT X e (tQ X.K G (pTst (pChain o1 o2 fa fb fc))) := h.le fun σ H Q ⟨env, T, C, s, h, k⟩ =>
  chainP σ H _ ⟨env, T, _, s, h, fun p e1 v H1 h1 ⟨Z, s1⟩ => by
    split at h1
    · have g := s1.topDat
      cases g
      exact ⟨_, rfl, k _ _ _ h1 ⟨Z, s1.pop⟩⟩
    · exact h1.elim⟩
end

/-! ### helps for readings -/
theorem atD {α : Type} {xs : List α} {v : α} (j : Nat) (h : xs[j]? = some v) : atI xs (j : Int) = some v := atI_nat h
theorem rangeP0 (n : Nat) : rangeP 0 (n : Int) = (List.range n).map fun k : Nat => .int (k : Int) := by
  unfold rangeP
  rw [show ((n : Int) - 0).toNat = n by omega]
  exact List.map_congr_left fun k _ => by rw [Int.zero_add]
theorem tab_in {K : PySem.W.Frag} {w : World} {d : Addr} {tab : List (Str × V)} (h : ∀ q ∈ tab, KDct K w d q.1 q.2) : ∀ z ∈ tab.map (·.1), ∃ r, PySem.W.nsIn K d z = some (some r) := fun z hz => by
  obtain ⟨q, hq, rfl⟩ := List.mem_map.mp hz
  obtain ⟨_, _, u, _, _, e, _⟩ := h q hq
  exact ⟨u, e⟩
theorem wipeP_idem {e : PEnv} {vs : List Nat} : wipeP (wipeP e vs) vs = wipeP e vs := by
  refine List.ext_getElem? fun i => ?_
  by_cases hi : i < e.length
  · by_cases hv : i ∈ vs
    · rw [wipeP_no hv (by rw [wipeP_len]; exact hi), wipeP_no hv hi]
    · have out : ∀ (us : List Nat) (e : PEnv), i ∉ us → (wipeP e us)[i]? = e[i]? := by
        intro us
        induction us with
        | nil => intro e _; rfl
        | cons u us ih =>
          intro e h
          unfold wipeP
          rw [List.getElem?_set_ne (fun z => h (by rw [z]; exact List.mem_cons_self)), ih e fun z => h (List.mem_cons_of_mem _ z)]
      rw [out vs _ hv]
  · rw [List.getElem?_eq_none (by rw [wipeP_len, wipeP_len]; omega), List.getElem?_eq_none (by rw [wipeP_len]; omega)]
section
variable {α : Type} {l : List α} {e : α → PyData} {env : PEnv} {g : PTg} {t : PTst} {f : PEx} {vs : List Nat} {C : PK}
/-- a comprehension without effects: each item gives a value, or none -/
theorem lc_filterP (F : α → Option PyData) (hl : l.length < sizeLine) (hb : ∀ (j : Nat) (a : α), l[j]? = some a → ∀ Q : Option PyData → PEnv → Prop, Q (F a) (wipeP env vs) → g (e a) (wipeP env vs) fun e3 => t e3 fun b e4 => IfP b (f e4 (fun p e5 => match p with
      | .dat d => Q (some d) (wipeP e5 vs)
      | _ => False)) (Q none (wipeP e4 vs))) (hc : C (.own (l.filterMap F)) (wipeP env vs)) (hf : fgtB env vs = true := by rfl) : LcOk (l.map e) env g t f vs C := by
  refine ⟨hf, fun j e2 acc => e2 = wipeP env vs ∧ acc = (l.take j).filterMap F, ⟨rfl, rfl⟩, ?_, ?_⟩
  · rintro j x e2 acc hx ⟨rfl, rfl⟩
    rw [List.getElem?_map] at hx
    obtain ⟨a, ha, rfl⟩ := Option.map_eq_some_iff.mp hx
    rw [wipeP_idem]
    have tk : l.take (j + 1) = l.take j ++ [a] := by rw [List.take_succ, ha]; rfl
    refine hb j a ha (fun od e' => match od with
      | some d => ((l.take j).filterMap F).length < sizeLine ∧ e' = wipeP env vs ∧ (l.take j).filterMap F ++ [d] = (l.take (j + 1)).filterMap F
      | none => e' = wipeP env vs ∧ (l.take j).filterMap F = (l.take (j + 1)).filterMap F) ?_
    have lt : ((l.take j).filterMap F).length < sizeLine := Nat.lt_of_le_of_lt (List.length_filterMap_le _ _) (by rw [List.length_take]; omega)
    rw [tk, List.filterMap_append]
    cases q : F a with
    | none => exact ⟨rfl, by simp [q]⟩
    | some d => exact ⟨lt, rfl, by simp [q]⟩
  · rintro e2 acc ⟨rfl, rfl⟩
    rw [List.length_map, List.take_length, wipeP_idem]
    exact hc
theorem lc_mapP (F : α → PyData) (hl : l.length < sizeLine) (hb : ∀ (j : Nat) (a : α), l[j]? = some a → ∀ Q : Option PyData → PEnv → Prop, Q (some (F a)) (wipeP env vs) → g (e a) (wipeP env vs) fun e3 => t e3 fun b e4 => IfP b (f e4 (fun p e5 => match p with
      | .dat d => Q (some d) (wipeP e5 vs)
      | _ => False)) (Q none (wipeP e4 vs))) (hc : C (.own (l.map F)) (wipeP env vs)) (hf : fgtB env vs = true := by rfl) : LcOk (l.map e) env g t f vs C :=
  lc_filterP (fun a => some (F a)) hl hb (by rw [List.filterMap_eq_map']; exact hc) hf
end
theorem szl {n : Nat} (h : n ≤ 1000000) : n < sizeLine := by
  rw [sizeLine_eq]
  omega
theorem szle {n : Nat} (h : n ≤ 1000000) : n ≤ sizeLine := Nat.le_of_lt (szl h)
theorem szr {n : Nat} (h : Nat.ble n 1000000 = true := by rfl) : n ≤ sizeLine := szle (Nat.le_of_ble_eq_true h)
theorem szn {n : Nat} (h : Nat.ble n 1000000 = true := by rfl) : n < sizeLine := szl (Nat.le_of_ble_eq_true h)
theorem ne_w {a b : Str} (h : ¬ a = b) : decide (a = b) = false := decide_eq_false h
theorem eq_w {a b : Str} (h : a = b) : decide (a = b) = true := decide_eq_true h
theorem IfP.as {b b' : Bool} {A B : Prop} (h : b = b') (x : IfP b' A B) : IfP b A B := by
  rw [h]
  exact x
theorem in_strs (w : Str) : ∀ ns : List Str, ((ns.map PyData.str).any fun z => PyData.eqv z (.str w)) = decide (w ∈ ns)
  | [] => rfl
  | n :: ns => by
    rw [List.map_cons, List.any_cons, in_strs w ns]
    have e : PyData.eqv (.str n) (.str w) = decide (n = w) := by
      show (n == w) = decide (n = w)
      by_cases h : n = w
      · rw [decide_eq_true h, h]
        exact beq_self_eq_true w
      · rw [decide_eq_false h]
        exact beq_eq_false_iff_ne.mpr h
    rw [e]
    by_cases h : n = w
    · rw [decide_eq_true h, Bool.true_or]
      exact (decide_eq_true (by rw [h]; exact List.mem_cons_self)).symm
    · rw [decide_eq_false h, Bool.false_or]
      have : (w ∈ n :: ns) ↔ w ∈ ns := by rw [List.mem_cons]; exact ⟨fun z => z.elim (fun z => absurd z.symm h) id, .inr⟩
      simp only [this]
theorem inS (w : Str) (ns : List Str) : (false ^^ ((ns.map PyData.str).any fun z => PyData.eqv z (.str w))) = decide (w ∈ ns) := by
  rw [Bool.false_xor, in_strs]
theorem in_nums (k : Int) : ∀ ns : List Int, ((ns.map PyData.int).any fun z => PyData.eqv z (.int k)) = decide (k ∈ ns)
  | [] => rfl
  | n :: ns => by
    rw [List.map_cons, List.any_cons, in_nums k ns]
    have e : PyData.eqv (.int n) (.int k) = decide (n = k) := by
      show (n == k) = decide (n = k)
      by_cases h : n = k
      · rw [decide_eq_true h, h]
        exact beq_self_eq_true k
      · rw [decide_eq_false h]
        exact beq_eq_false_iff_ne.mpr h
    rw [e]
    by_cases h : n = k
    · rw [decide_eq_true h, Bool.true_or]
      exact (decide_eq_true (by rw [h]; exact List.mem_cons_self)).symm
    · rw [decide_eq_false h, Bool.false_or]
      have : (k ∈ n :: ns) ↔ k ∈ ns := by rw [List.mem_cons]; exact ⟨fun z => z.elim (fun z => absurd z.symm h) id, .inr⟩
      simp only [this]
theorem inN (k : Int) (ns : List Int) : (false ^^ ((ns.map PyData.int).any fun z => PyData.eqv z (.int k))) = decide (k ∈ ns) := by
  rw [Bool.false_xor, in_nums]
theorem flat_strs (ns : List Str) : ∀ z ∈ ns.map PyData.str, flatD z = true := fun z hz => by
  obtain ⟨n, _, rfl⟩ := List.mem_map.mp hz
  rfl
theorem flat_ints (ns : List Int) : ∀ z ∈ ns.map PyData.int, flatD z = true := fun z hz => by
  obtain ⟨n, _, rfl⟩ := List.mem_map.mp hz
  rfl

/-! ### all and any of a generator expression: a word, as for a list comprehension -/
section
/-- the code of a generator expression that runs -/
abbrev gLoop (elt tg iter : Expr) (ifs : List Expr) (scope : Scope) (gp : Pos) (it : Addr) (ce : Env) : Code := .compLoop (.GeneratorExp elt [⟨tg, iter, ifs, 0⟩] scope gp) 0 (.ref it) .none ce
abbrev gStart (elt tg iter : Expr) (ifs : List Expr) (scope : Scope) (gp : Pos) (it : Addr) (ce : Env) : Code := .compStart (.GeneratorExp elt [⟨tg, iter, ifs, 0⟩] scope gp) 0 (.ref it) .none ce
/-- around a generator's frame -/
def gAround (A : Around) (ce : Env) (st : List Env) : Around := ⟨A.handled, A.depth + 1, some (ce :: st), A.guards, A.units + 3⟩
theorem pushGuards_nil (x : Option (List Code)) : pushGuards [] x = x := rfl
theorem over_gLoop {A : Around} {elt tg iter : Expr} {ifs : List Expr} {scope : Scope} {gp : Pos} {it : Addr} {ce : Env} {st : List Env} (hf : A.frames = some st) : A.over (gLoop elt tg iter ifs scope gp it ce) [] = gAround A ce st := by
  obtain ⟨hd, d, fr, gs, u⟩ := A
  have hf : fr = some st := hf
  subst hf
  simp [Around.over, gAround, marksOver, frameCount, unitsOf, envsOf, guardsOf, pushEnvs, pushGuards, Code.envs, Code.env?, Code.isFrame, Code.guards, Code.isGuard, Code.weight, Code.frames, Code.isCreation, Code.isCaller, Code.cUnits]
theorem over_gStart {A : Around} {elt tg iter : Expr} {ifs : List Expr} {scope : Scope} {gp : Pos} {it : Addr} {ce : Env} {st : List Env} (hf : A.frames = some st) : A.over (gStart elt tg iter ifs scope gp it ce) [] = gAround A ce st := by
  obtain ⟨hd, d, fr, gs, u⟩ := A
  have hf : fr = some st := hf
  subst hf
  simp [Around.over, gAround, marksOver, frameCount, unitsOf, envsOf, guardsOf, pushEnvs, pushGuards, Code.envs, Code.env?, Code.isFrame, Code.guards, Code.isGuard, Code.weight, Code.frames, Code.isCreation, Code.isCaller, Code.cUnits]
theorem room_gen {k : Nat} {A : Around} {ce : Env} {st : List Env} (r : Room (k + 1) A) : Room k (gAround A.in1.in1 ce st) := by
  refine ⟨r.hd, ?_, ?_⟩
  · have := r.dp
    show A.depth + 1 + 3 * k + 5 < _
    omega
  · have := r.un
    show A.units + 1 + 1 + 3 + 16 * k + 200 < _
    omega
end

/-! ### all and any of a generator expression: the frame -/
section
variable {X : Cx} {pins : List (Addr × Obj)} {σ : L2.St} {H : Hp} {s : Shared}
/-- a generator's frame, seen from s -/
abbrev genCx (X : Cx) (s : Shared) (H : Hp) (ce : Env) (A : Around) (fp : List Addr) (pn : List (Addr × Obj)) : Cx :=
  { X with A := A, s_0 := s, H_0 := H, env := ce, outer := X.stack, stack := ce :: X.stack, ex := fp, fn := fun _ => false, pn := pn, xe := fun _ _ => False }
/-- the heap grows, the table of generators turns -/
theorem inv_later {h' : Heap} {g' : Array GenState} {d' : Drawn} {t' : Nat} (I : Inv X pins σ H s) (k : ∀ b o, s.heap.get? b = some o → h'.get? b = some o) (hg : AllBare g') : Inv X pins σ H { s with heap := h', gens := g', drawn := d', toks := t' } :=
  I.step (ch := []) (fun _ z => nomatch z) (fun b o _ _ _ e _ => k b o e) (fun b o _ _ _ e _ => ⟨o.slots, k b o e⟩) (fun _ _ _ _ n => n) (fun b o _ e => ⟨o, k b o e⟩) (fun _ _ e => e) (fun _ _ _ e => e) (fun b ps e => ⟨#[], by rw [e]; simp⟩) (fun m hm => hm.keeps k) (I.hok.kept k) hg
theorem inv_later' {s' : Shared} (I : Inv X pins σ H s) (os : s'.os = s.os) (k : ∀ b o, s.heap.get? b = some o → s'.heap.get? b = some o) (hg : AllBare s'.gens) : Inv X pins σ H s' := by
  obtain ⟨h', g', d', t', o'⟩ := s'
  have e : o' = s.os := os
  subst e
  exact inv_later I k hg
/-- the frame's own facts: its names; captured ones are cells of the def -/
structure GenOk (N : List Str) (sc scope : Scope) (own : List (Str × Nat)) : Prop where
  blk : BlkOk N sc scope own
  co : scope.isCoroutine = false
  nocell : ∀ y ∈ scope.names, y.2 ≠ NameKind.cell
  dot : scope.names.lookup (".0" : Str) = some NameKind.local
theorem gen_begin {scope : Scope} {own : List (Str × Nat)} {fp : List Addr} {A : Around} {s' : Shared} {code : Value} {ga : Addr} {go : Obj} {m : Str → Option Value} (I : Inv X pins σ H s) (ok : GenOk X.N X.env.scope scope own) (hN : X.N.Nodup)
    (hfp : ∀ b ∈ fp, FpOk X pins H b ∧ b < s.heap.objs.size) (hA : A.handled = none) (hfr : A.frames = some (genEnv scope (cloFrom X.env.cells scope.names []) s.heap.objs.size code builtinsNs X.env :: X.stack))
    (os : s'.os = s.os) (bare : AllBare s'.gens) (kp : ∀ b o, s.heap.get? b = some o → s'.heap.get? b = some o) (ns : s'.heap.Ns s.heap.objs.size m) (hga : s.heap.objs.size < ga) (hgo : s'.heap.get? ga = some go) (hgd : ∀ v, go.data ≠ .cell v) :
    Inv (genCx X s H (genEnv scope (cloFrom X.env.cells scope.names []) s.heap.objs.size code builtinsNs X.env) A fp [(ga, go)]) [] (wipe σ (own.map (·.2))) H s' := by
  have hfree : ∀ y ∈ scope.names, y.2 = .free → ∃ c, X.env.cells.lookup y.1 = some c := fun y hy e =>
    (ok.blk.free y hy e).elim (fun z => I.ok.has _ (.inl z)) fun z => I.ok.has _ (.inr z)
  generalize hce : genEnv scope (cloFrom X.env.cells scope.names []) s.heap.objs.size code builtinsNs X.env = ce at hfr ⊢
  have cL : ce.locals = s.heap.objs.size := by rw [← hce]; rfl
  have cC : ce.cells = cloFrom X.env.cells scope.names [] := by rw [← hce]; rfl
  have cS : ce.scope = scope := by rw [← hce]; rfl
  have cm : ∀ {y c}, (y, c) ∈ cloFrom X.env.cells scope.names [] → X.env.cells.lookup y = some c ∧ c < s.heap.objs.size := fun {y c} hm => by
    rcases cloFrom_mem hm with z | ⟨z, rfl⟩
    · cases z
    · obtain ⟨c, hc⟩ := hfree _ z rfl
      rw [hc]
      obtain ⟨w, hw⟩ := I.cell _ _ hc
      exact ⟨rfl, hw.lt⟩
  have mem : ∀ {y c}, ce.cells.lookup y = some c → X.env.cells.lookup y = some c ∧ c < s.heap.objs.size := fun {y c} e => cm (PySem.mem_of_lookup (by rw [← cC]; exact e))
  have look : ∀ {y}, scope.names.lookup y = some .free → ∃ c, ce.cells.lookup y = some c ∧ X.env.cells.lookup y = some c := fun {y} hl => by
    obtain ⟨c, hc⟩ := mem_lookup (cloFrom_has (cells := X.env.cells) (acc := []) (PySem.mem_of_lookup hl))
    rw [← cC] at hc
    exact ⟨c, hc, (mem hc).1⟩
  have nocell : ∀ {y k}, ce.kindOf y = some k → k = .local ∨ k = .free ∨ (k ≠ .local ∧ k ≠ .cell ∧ k ≠ .free) := fun {y k} hk => by
    have hk : ce.scope.names.lookup y = some k := hk
    rw [cS] at hk
    have := ok.nocell _ (PySem.mem_of_lookup hk)
    cases k <;> simp_all
  have kL : ∀ {x : Str} {c : Addr}, X.env.cells.lookup x = some c → c < s.heap.objs.size := fun {x c} e => by
    obtain ⟨w, hw⟩ := I.cell _ _ e
    exact hw.lt
  have yok : (genCx X s H ce A fp [(ga, go)]).Ok := by
    refine ⟨I.ok.mod, ?_, ?_, ?_, ?_, fun y z c e1 e2 => ?_, fun y hy => ?_, fun y c e => (by cases e), fun _ => hA, hfr, .inr ⟨rfl, ?_⟩, fun b hb => ⟨?_, fun y c e z => ?_⟩, I.bs, Nat.le_trans I.ok.bsz I.sz, fun b o e hb => ?_, fun b hb z => ?_, I.stack, I.stkFree⟩
    · show ce.scope.kind = _
      rw [cS]
      exact ok.blk.kind
    · show ce.globals = _
      rw [← hce]
      exact I.ok.glob
    · show ce.builtins = _
      rw [← hce]
      rfl
    · show s.heap.objs.size ≤ ce.locals
      exact Nat.le_of_eq cL.symm
    · exact I.ok.inj y z c (mem e1).1 (mem e2).1
    · rcases hy with hy | hy
      · rcases nocell hy with z | z | ⟨_, z, _⟩
        · cases z
        · cases z
        · exact absurd rfl z
      · have hy : ce.scope.names.lookup y = some .free := hy
        rw [cS] at hy
        obtain ⟨c, h1, _⟩ := look hy
        exact ⟨c, h1⟩
    · rw [← hce]
      rfl
    · show b ≠ ce.locals
      rw [cL]
      exact Nat.ne_of_lt (hfp b hb).2
    · exact (hfp b hb).1.2.2.2.2.1 y c (mem e).1 z
    · rcases (hfp b hb).1.2.2.2.1 with z | z
      · exact I.ok.noex b o e z
      · exact absurd (Nat.lt_of_lt_of_le (Heap.lt_size e) (Nat.le_trans I.ok.bsz z)) (Nat.lt_irrefl _)
    · rcases List.mem_cons.mp (I.stkSub b z) with z | z
      · exact (hfp b hb).1.2.1 z
      · exact (hfp b hb).1.2.2.1 z
  refine ⟨yok, os, bare, Un.kept kp, ⟨m, by show s'.heap.Ns ce.locals m; rw [cL]; exact ns, fun i y av e1 e2 e3 => ?_⟩, fun y c e => ?_, ?_, fun y c e => I.freeC y c (mem e).1, fun p hp => ?_, I.hok.kept kp, by rw [wipe_length]; exact I.len⟩
  · obtain ⟨e2, hne⟩ := wipe_some e2
    have e3 : Vis ce.scope y := e3
    rw [cS] at e3
    have hf : scope.names.lookup y = some .free := by
      have no : ∀ k, scope.names.lookup y = some k → k = .local ∨ k = .cell → False := fun k hk hh => by
        rcases ok.blk.own _ (PySem.mem_of_lookup hk) hh with z | z
        · obtain ⟨p, hp, hpy⟩ := List.mem_map.mp z
          have q := ok.blk.ix p hp
          rw [show p.1 = y from hpy] at q
          exact hne (List.mem_map.mpr ⟨p, hp, nodup_ix hN q e1⟩)
        · exact z (List.mem_of_getElem? e1)
      rcases e3 with z | z | z
      · exact (no _ z (.inl rfl)).elim
      · exact (no _ z (.inr rfl)).elim
      · exact z
    obtain ⟨m0, _, hl⟩ := I.loc
    have fr := ok.blk.free _ (PySem.mem_of_lookup hf) rfl
    obtain ⟨w, r, q⟩ := hl i y av e1 e2 (fr.elim (fun z => .inr (.inl z)) fun z => .inr (.inr z))
    obtain ⟨c, h1, h2⟩ := look hf
    refine ⟨w, r, .inr ⟨.inr (by show ce.scope.names.lookup y = _; rw [cS]; exact hf), c, h1, ?_⟩⟩
    rcases q with ⟨z, _⟩ | ⟨_, c', e', z⟩
    · have z : X.env.scope.names.lookup y = some .local := z
      rcases fr with z' | z' <;> rw [show X.env.scope.names.lookup y = _ from z'] at z <;> cases z
    · rw [h2] at e'
      cases e'
      exact z.keeps kp
  · obtain ⟨w, z⟩ := I.cell y c (mem e).1
    exact ⟨w, z.keeps kp⟩
  · show H ce.locals = none
    rw [cL]
    exact I.hok.fresh (Nat.le_refl _)
  · have hp : p = (ga, go) := by simpa using hp
    subst hp
    refine ⟨hgo, I.hok.fresh (Nat.le_of_lt hga), ?_, fun hb => ?_, hgd⟩
    · show ga ≠ ce.locals
      rw [cL]
      exact Nat.ne_of_gt hga
    · have lt : ∀ b ∈ frs X.stack, b < s.heap.objs.size := fun b hb => by
        obtain ⟨_, o, ho, _⟩ := I.stack.mem hb
        exact Heap.lt_size ho
      exact absurd (lt ga hb) (Nat.not_lt.mpr (Nat.le_of_lt hga))
end

/-! ### all and any of a generator expression: the loop -/
section
/-- the reading: d = true for all, false for any; P: the def's table; W by the turn and a measure -/
def tAll (d : Bool) (P : Addr) (wi : TI) (g : TG) (tt : TT) (te : TE) (vs : List Nat) : TE := fun σ H Q => wi σ H fun J H1 => GxR.TabG H1 P ∧ ∀ H2, GxR.Tabbed P H1 H2 → ∃ W : Nat → Nat → Hp → Prop, (∃ m, W 0 m H2) ∧
  ∀ i m H, W i m H → (J.stop i H ∧ Q (.bl d) H) ∨ (J.go i H ∧ ∃ Nx : Hp → Prop, (∀ H', Nx H' → ∃ m', m' < m ∧ W (i + 1) m' H') ∧
    ∀ x H', J.yld i H x H' → g x (wipe σ vs) H' fun σ2 H3 => wipe σ2 vs = wipe σ vs ∧ tt σ2 H3 fun b H4 => if b = true then te σ2 H4 fun y H5 => ∃ c, y = .bl c ∧ (c = d → Nx H5) ∧ (c ≠ d → Q (.bl c) H5) else Nx H4)
/-- what stays while the generator sleeps -/
def Later (s s' : Shared) : Prop := s'.os = s.os ∧ AllBare s'.gens ∧ ∀ b o, s.heap.get? b = some o → s'.heap.get? b = some o
variable {Y : Cx} {σ : L2.St} {elt tg iter : Expr} {ifs : List Expr} {scope : Scope} {gp : Pos} {it : Addr} {fp : List Addr} {tn : Nat → Heap → Prop} {J : It} {g : TG} {tt : TT} {te : TE} {vs : List Nat} {d : Bool} {Q : VK} {W : Nat → Nat → Hp → Prop}
/-- at the loop's head -/
def GHead (Y : Cx) (σ : L2.St) (fp : List Addr) (tn : Nat → Heap → Prop) (i : Nat) (H : Hp) (s : Shared) : Prop := Inv Y [] σ H s ∧ tn i s.heap ∧ ∀ b ∈ fp, H b = none
def GYld (Y : Cx) (σ : L2.St) (fp : List Addr) (tn : Nat → Heap → Prop) (d : Bool) (Q : VK) (W : Nat → Nat → Hp → Prop) : Protocol := fun n _ v s kap =>
  ∃ (i : Nat) (H : Hp) (c : Bool), v = .bool c ∧ GHead Y σ fp tn i H s ∧ (c ≠ d → Q (.bl c) H) ∧ (c = d → (∃ m, m < n ∧ W i m H) ∧ ∀ s', Later s s' → kap (.send .none) s')
def GEnd (Y : Cx) (σ : L2.St) (d : Bool) (Q : VK) : Nat → Shared → Shared → Prop := fun _ _ s => ∃ H, Inv Y [] σ H s ∧ Q (.bl d) H
theorem GHead.later {i : Nat} {H : Hp} {s s' : Shared} (T : Turn Y.prog Y.w Y.K tg J fp it tn) (h : GHead Y σ fp tn i H s) (l : Later s s') : GHead Y σ fp tn i H s' :=
  ⟨inv_later' h.1 l.1 l.2.2 l.2.1, T.keep _ _ _ h.2.1 fun b _ o e => l.2.2 b o e, h.2.2⟩
theorem GHead.stat {H : Hp} {s : Shared} (hY : Y.ex = fp) (hpn : ∀ p ∈ Y.pn, p.1 ∉ fp) (I : Inv Y [] σ H s) (n : ∀ b ∈ fp, H b = none) : ∀ b ∈ fp, FpOk Y [] H b := fun b hb => by
  have hx : b ∈ Y.ex := by rw [hY]; exact hb
  exact ⟨n b hb, (I.ok.exf b hx).1, I.ok.exfs b hx, .inl hx, fun x c e => (I.ok.exf b hx).2 x c e, fun p hp z => hpn p (by simpa using hp) (z ▸ hb)⟩
theorem seg_gLoop {A : Around} {ce : Env} (hce : Y.env = ce) (hA : A.over (gLoop elt tg iter ifs scope gp it ce) [] = Y.A) (hc : Y.calm = true) (hco : ce.scope.isCoroutine = false) (hY : Y.ex = fp) (hpn : ∀ p ∈ Y.pn, p.1 ∉ fp) (hxe : ∀ e z, ¬ Y.xe e z)
    (T : Turn Y.prog Y.w Y.K tg J fp it tn) (pg : PG Y tg g) (pt : PTs Y ifs tt) (pe : PE Y elt te)
    (turn : ∀ i m H, W i m H → (J.stop i H ∧ Q (.bl d) H) ∨ (J.go i H ∧ ∃ Nx : Hp → Prop, (∀ H', Nx H' → ∃ m', m' < m ∧ W (i + 1) m' H') ∧
      ∀ x H', J.yld i H x H' → g x (wipe σ vs) H' fun σ2 H3 => wipe σ2 vs = wipe σ vs ∧ tt σ2 H3 fun b H4 => if b = true then te σ2 H4 fun y H5 => ∃ c, y = .bl c ∧ (c = d → Nx H5) ∧ (c ≠ d → Q (.bl c) H5) else Nx H4)) :
    ∀ (m n i : Nat) (H : Hp) (s₀ s : Shared), m < n → W i m H → GHead Y (wipe σ vs) fp tn i H s →
      Seg (model Y.prog Y.w) A (fun n s₀ r s₁ => r = .ok .next ∧ GEnd Y (wipe σ vs) d Q n s₀ s₁) (GYld Y (wipe σ vs) fp tn d Q W) n s₀ (gLoop elt tg iter ifs scope gp it ce) ((model Y.prog Y.w).den (gLoop elt tg iter ifs scope gp it ce)) [] s := by
  intro m
  induction m using Nat.strongRecOn with
  | ind m ih =>
    intro n i H s₀ s hmn w ⟨I, st, nf⟩
    show Seg _ A _ _ n s₀ _ ((compTurn (.GeneratorExp elt [⟨tg, iter, ifs, 0⟩] scope gp) 0 (.ref it) .none ce).onRaise (leaving ce)) [] s
    rw [compTurn_gen, Sem.onRaise_eq_wrap]
    refine seg_bind_wrap (wpAny_standAt ?_)
    have noE : ∀ {α : Type} {t : Sem α} {R R' : α → Shared → Prop} {E : Value → Shared → Prop} {z : Shared}, wpAny (model Y.prog Y.w) Y.A t R Y.xe z → (∀ a z, R a z → R' a z) → wpAny (model Y.prog Y.w) Y.A t R' E z := fun h k => wpAny_mono h k fun e z q => (hxe e z q).elim
    rcases turn i m H w with ⟨stop, q⟩ | ⟨go, Nx, hNx, step⟩
    · refine seg_bind_wrap ?_
      rw [hA]
      refine thnF (T.done Y rfl rfl rfl hc i [] s _ H (fun _ _ => False) I (GHead.stat hY hpn I nf) st stop) fun r s1 ⟨hr, I1⟩ => ?_
      subst hr
      exact seg_end (.ok .next) ⟨rfl, H, I1, q⟩
    · refine seg_bind_wrap ?_
      rw [hA]
      refine thnF (T.item Y rfl rfl rfl hc i [] s _ H (fun _ _ => False) I (GHead.stat hY hpn I nf) st go) fun r s1 ⟨u, hr, h1⟩ => ?_
      subst hr
      refine seg_bind_wrap ?_
      rw [hA]
      refine thnF h1 fun _ s2 ⟨x, H2, I2, r2, y2, st2, n2⟩ => ?_
      have I2' := I2.pinned (GHead.stat hY hpn I2 n2) (T.obj _ _ st2)
      refine seg_bind_wrap ?_
      rw [hA, ← hce]
      refine noE (pg.run _ s2 _ H2 x u _ I2' r2 (step x H2 y2)) fun _ s3 ⟨σ3, H3, I3, w3, q3⟩ => ?_
      refine seg_bind_wrap ?_
      rw [hce, hA, ← hce]
      refine noE (pt.run _ s3 σ3 H3 _ I3 q3) fun b s4 ⟨H4, I4, q4⟩ => ?_
      have fin : ∀ {s' : Shared} {H' : Hp}, Inv Y ([] ++ pinsAt fp s2.heap) σ3 H' s' → GHead Y (wipe σ vs) fp tn (i + 1) H' s' := fun {s' H'} I' => by
        have pin' : ∀ b ∈ fp, ∀ o, s2.heap.get? b = some o → s'.heap.get? b = some o ∧ H' b = none := fun b hb o e =>
          have z := I'.pin (b, o) (List.mem_append_right _ (List.mem_append_right _ (mem_pinsAt hb e)))
          ⟨z.1, z.2.1⟩
        refine ⟨(I'.unpinned (pins := [])).weak (by rw [← w3, wipe_length]) fun j v e => ?_, T.keep _ _ _ st2 fun b hb o e => (pin' b hb o e).1, fun b hb => ?_⟩
        · rw [← w3] at e
          exact (wipe_some e).1
        · obtain ⟨o, e, _⟩ := T.obj _ _ st2 b hb
          exact (pin' b hb o e).2
      cases b with
      | false =>
        have q4 : Nx H4 := q4
        obtain ⟨m', hm, w'⟩ := hNx H4 q4
        rw [hce]
        exact seg_again rfl (ih m' hm n (i + 1) H4 s₀ s4 (by omega) w' (fin I4))
      | true =>
        have hy : ∀ v, yieldOut Y.env v = yieldValue v := fun v => by simp only [yieldOut, hce, hco, Bool.false_eq_true, if_false]
        simp only [if_true, hy]
        rw [Sem.bind_eq_wrap', Sem.bind_eq_wrap', Sem.wrap_wrap, Sem.wrap_wrap]
        refine seg_wrap ?_
        rw [hce, hA, ← hce]
        refine noE (pe.run _ s4 σ3 H4 _ I4 q4) fun z s5 ⟨yv, H5, I5, r5, c, e5, k1, k2⟩ => ?_
        subst e5
        obtain rfl : z = Value.bool c := r5
        obtain ⟨n', rfl⟩ : ∃ n', n = n' + 1 := ⟨n - 1, by omega⟩
        refine seg_at (seg_yield rfl rfl rfl ⟨i + 1, H5, c, rfl, fin I5, k2, fun hcd => ?_⟩)
        obtain ⟨m', hm, w'⟩ := hNx H5 (k1 hcd)
        refine ⟨⟨m', by omega, w'⟩, fun s' l => ?_⟩
        rw [hce]
        exact seg_again rfl (ih m' hm n' (i + 1) H5 s' s' (by omega) w' ((fin I5).later T l))
theorem seg_gStart {A : Around} {ce : Env} (hA : A.over (gStart elt tg iter ifs scope gp it ce) [] = Y.A) (T : Turn Y.prog Y.w Y.K tg J fp it tn) {R : GenEnd} {P : Protocol} {n : Nat} {s₀ s : Shared} (st : tn 0 s.heap)
    (h : Seg (model Y.prog Y.w) A R P n s₀ (gLoop elt tg iter ifs scope gp it ce) ((model Y.prog Y.w).den (gLoop elt tg iter ifs scope gp it ce)) [] s) :
    Seg (model Y.prog Y.w) A R P n s₀ (gStart elt tg iter ifs scope gp it ce) ((model Y.prog Y.w).den (gStart elt tg iter ifs scope gp it ce)) [] s := by
  show Seg _ A R P n s₀ _ ((compStart (.GeneratorExp elt [⟨tg, iter, ifs, 0⟩] scope gp) 0 (.ref it) .none ce).onRaise (leaving ce)) [] s
  unfold compStart
  rw [Sem.onRaise_eq_wrap]
  show Seg _ A R P n s₀ _ ((ask >>= _).wrap _ _ _ _) [] s
  refine seg_bind_wrap (wpAny_askSetting ?_)
  split
  · exact seg_again rfl h
  · refine seg_bind_wrap (wpAny_rule ?_)
    show Seg _ A R P n s₀ _ ((standAt iter.pos >>= _).wrap _ _ _ _) [] s
    exact seg_bind_wrap (wpAny_standAt (seg_bind_wrap (T.self _ 0 s _ _ st (seg_again rfl h))))
end

/-! ### all and any of a generator expression: who asks it -/
section
variable {Y : Cx} {σ : L2.St} {fp : List Addr} {tn : Nat → Heap → Prop} {J : It} {tg : Expr} {it : Addr} {d : Bool} {Q : VK} {W : Nat → Nat → Hp → Prop}
/-- the generator at a sleeps, or has not begun -/
def GRest (Y : Cx) (σ : L2.St) (fp : List Addr) (tn : Nat → Heap → Prop) (d : Bool) (Q : VK) (W : Nat → Nat → Hp → Prop) (A : Around) (g n : Nat) (s : Shared) : Prop :=
  (∃ H, Inv Y [] σ H s) ∧ ∃ gs, s.gens[g]? = some gs ∧ gs.Goes (model Y.prog Y.w) A (fun n s₀ r s₁ => r = .ok .next ∧ GEnd Y σ d Q n s₀ s₁) (GYld Y σ fp tn d Q W) n (.send .none) (s.setGen g .running)
theorem next_gRest {A : Around} {a : Addr} {go : Obj} {g n : Nat} {s : Shared} {R : Option Value → Shared → Prop} {E : Value → Shared → Prop} (T : Turn Y.prog Y.w Y.K tg J fp it tn) (hpn : (a, go) ∈ Y.pn) (hgo : ∀ h : Heap, h.get? a = some go → h.IsGen a g) (hh : A.handled = none) (hd : A.depth < recursionLimit)
    (h : GRest Y σ fp tn d Q W A.in1 g n s) (h0 : ∀ s' H, Inv Y [] σ H s' → Q (.bl d) H → R none s') (h1 : ∀ c s' H, c ≠ d → Inv Y [] σ H s' → Q (.bl c) H → R (some (.bool c)) s')
    (h2 : ∀ m s', n = m + 1 → GRest Y σ fp tn d Q W A.in1 g m s' → R (some (.bool d)) s') : wpAny (model Y.prog Y.w) A (pyNext (.ref a)) R E s := by
  obtain ⟨⟨H, I⟩, gs, hgs, goes⟩ := h
  have gl : g + 1 ≤ s.gens.size := (Array.getElem?_eq_some_iff.mp hgs).1
  refine GenW.wpAny_gsz gl (wpAny_pyNext_genexpQ hh I.nolimit hd (hgo _ (I.pin (a, go) (List.mem_append_left _ hpn)).1) hgs goes (fun v s1 gs' bare hv => ?_) fun s1 hp h' hk => ?_)
  · intro sz
    obtain ⟨i, H1, c, rfl, hd1, q1, q2⟩ := hv
    have sz1 : g < s1.gens.size := by
      rw [GenW.setGen_size] at sz
      omega
    have l1 : Later s1 (s1.setGen g gs') := ⟨rfl, allBare_setGen hd1.1.bare bare, fun _ _ e => e⟩
    by_cases hc : c = d
    · subst hc
      obtain ⟨⟨m, hm, w⟩, k⟩ := q2 rfl
      cases n with
      | zero => omega
      | succ n =>
        refine h2 n _ rfl ⟨⟨H1, inv_later' hd1.1 l1.1 l1.2.2 l1.2.1⟩, gs', setGen_at sz1, ?_⟩
        exact k _ ⟨rfl, allBare_setGen (s := s1.setGen g gs') l1.2.1 rfl, fun _ _ e => e⟩
    · exact h1 c _ H1 hc (inv_later' hd1.1 l1.1 l1.2.2 l1.2.1) (q1 hc)
  · intro _
    obtain ⟨H1, I1, q⟩ := hp
    exact h0 _ H1 (inv_later (s := s1) (g' := (s1.setGen g .finished).gens) I1 hk (allBare_setGen I1.bare rfl)) q
theorem ask_all {a : Addr} {go : Obj} {g : Nat} {A : Around} {R : Result → Shared → Prop} (hd1 : d = true) (T : Turn Y.prog Y.w Y.K tg J fp it tn) (hpn : (a, go) ∈ Y.pn) (hgo : ∀ h : Heap, h.get? a = some go → h.IsGen a g) (hh : A.handled = none) (hd : A.depth < recursionLimit)
    (hR : ∀ c s' H, Inv Y [] σ H s' → Q (.bl c) H → R (.ok (.ret (.bool c))) s') : ∀ (n : Nat) (s : Shared), GRest Y σ fp tn d Q W A.in1.in1 g n s → codeAny (model Y.prog Y.w) A (.builtin "all.loop" ⟨[.ref a], []⟩) R s := by
  subst hd1
  intro n
  induction n with
  | zero =>
    intro s h
    refine codeAny_builtin F.entry_all_loop ?_
    rw [Around.under_plainId F.plain_all_loop _]
    refine wpAny_bind (m := pyNext (.ref a)) (next_gRest (A := A.in1) T hpn hgo hh hd h (fun s' H I q => ?_) (fun c s' H hc I q => ?_) fun m s' e => (by omega))
    · exact wpAny_bind (wpAny_rule (wpAny_pure (hR true s' H I q)))
    · have hc : c = false := by simpa using hc
      subst hc
      refine wpAny_bind (wpAny_holding (wpAny_truthy_bool (wpAny_bind (wpAny_letGo ?_))))
      exact wpAny_bind (wpAny_rule (wpAny_pure (hR false s' H I q)))
  | succ n ih =>
    intro s h
    refine codeAny_builtin F.entry_all_loop ?_
    rw [Around.under_plainId F.plain_all_loop _]
    refine wpAny_bind (m := pyNext (.ref a)) (next_gRest (A := A.in1) T hpn hgo hh hd h (fun s' H I q => ?_) (fun c s' H hc I q => ?_) fun m s' e h' => ?_)
    · exact wpAny_bind (wpAny_rule (wpAny_pure (hR true s' H I q)))
    · have hc : c = false := by simpa using hc
      subst hc
      refine wpAny_bind (wpAny_holding (wpAny_truthy_bool (wpAny_bind (wpAny_letGo ?_))))
      exact wpAny_bind (wpAny_rule (wpAny_pure (hR false s' H I q)))
    · obtain rfl : m = n := by omega
      refine wpAny_bind (wpAny_holding (wpAny_truthy_bool (wpAny_bind (wpAny_letGo ?_))))
      exact wpAny_pure ⟨plainId_quiet F.plain_all_loop _, ih s' h'⟩
theorem ask_any {a : Addr} {go : Obj} {g : Nat} {A : Around} {R : Result → Shared → Prop} (hd1 : d = false) (T : Turn Y.prog Y.w Y.K tg J fp it tn) (hpn : (a, go) ∈ Y.pn) (hgo : ∀ h : Heap, h.get? a = some go → h.IsGen a g) (hh : A.handled = none) (hd : A.depth < recursionLimit)
    (hR : ∀ c s' H, Inv Y [] σ H s' → Q (.bl c) H → R (.ok (.ret (.bool c))) s') : ∀ (n : Nat) (s : Shared), GRest Y σ fp tn d Q W A.in1.in1 g n s → codeAny (model Y.prog Y.w) A (.builtin "any.loop" ⟨[.ref a], []⟩) R s := by
  subst hd1
  intro n
  induction n with
  | zero =>
    intro s h
    refine codeAny_builtin F.entry_any_loop ?_
    rw [Around.under_plainId F.plain_any_loop _]
    refine wpAny_bind (m := pyNext (.ref a)) (next_gRest (A := A.in1) T hpn hgo hh hd h (fun s' H I q => ?_) (fun c s' H hc I q => ?_) fun m s' e => (by omega))
    · exact wpAny_bind (wpAny_rule (wpAny_pure (hR false s' H I q)))
    · have hc : c = true := by simpa using hc
      subst hc
      refine wpAny_bind (wpAny_holding (wpAny_truthy_bool (wpAny_bind (wpAny_letGo ?_))))
      exact wpAny_bind (wpAny_rule (wpAny_pure (hR true s' H I q)))
  | succ n ih =>
    intro s h
    refine codeAny_builtin F.entry_any_loop ?_
    rw [Around.under_plainId F.plain_any_loop _]
    refine wpAny_bind (m := pyNext (.ref a)) (next_gRest (A := A.in1) T hpn hgo hh hd h (fun s' H I q => ?_) (fun c s' H hc I q => ?_) fun m s' e h' => ?_)
    · exact wpAny_bind (wpAny_rule (wpAny_pure (hR false s' H I q)))
    · have hc : c = true := by simpa using hc
      subst hc
      refine wpAny_bind (wpAny_holding (wpAny_truthy_bool (wpAny_bind (wpAny_letGo ?_))))
      exact wpAny_bind (wpAny_rule (wpAny_pure (hR true s' H I q)))
    · obtain rfl : m = n := by omega
      refine wpAny_bind (wpAny_holding (wpAny_truthy_bool (wpAny_bind (wpAny_letGo ?_))))
      exact wpAny_pure ⟨plainId_quiet F.plain_any_loop _, ih s' h'⟩
end

/-! ### all and any of a generator expression: the rule -/
section
variable {X : Cx} {pins : List (Addr × Obj)} {σ : L2.St} {H : Hp} {s : Shared}
/-- what the generator's frame is, whatever its places are -/
abbrev genIn (X : Cx) (s : Shared) (H : Hp) (scope : Scope) (cl : List (Str × Addr)) (C : Addr) (code : Value) (fp : List Addr) (pn : List (Addr × Obj)) : Cx :=
  genCx X s H (genEnv scope cl C code builtinsNs X.env) (gAround X.A.in1.in1 (genEnv scope cl C code builtinsNs X.env) X.stack) fp pn
theorem gen_rest {c P : Addr} {elt tg iter : Expr} {ifs : List Expr} {gp : Pos} {scope : Scope} {own : List (Str × Nat)} {wi : TI} {g : TG} {tt : TT} {te : TE} {d : Bool} {k : Nat} {Q : VK} {Q' : Value → Shared → Prop}
    (hr : Room k X.A) (hc : X.calm = true) (hN : X.N.Nodup) (TB : GxR.TabB X.base X.mg c P) (hcode : X.env.code = .ref c) (ok : GenOk X.N X.env.scope scope own) (hi : PI X tg iter wi)
    (hg : ∀ (s : Shared) (H : Hp) (cl : List (Str × Addr)) (C : Addr) (code : Value) (fp : List Addr) (pn : List (Addr × Obj)), PG (genIn X s H scope cl C code fp pn) tg g)
    (ht : ∀ (s : Shared) (H : Hp) (cl : List (Str × Addr)) (C : Addr) (code : Value) (fp : List Addr) (pn : List (Addr × Obj)), PTs (genIn X s H scope cl C code fp pn) ifs tt)
    (he : ∀ (s : Shared) (H : Hp) (cl : List (Str × Addr)) (C : Addr) (code : Value) (fp : List Addr) (pn : List (Addr × Obj)), PE (genIn X s H scope cl C code fp pn) elt te)
    (hs : ∀ v, genFold iter X.env v = pure v) (I : Inv X pins σ H s) (h : tAll d P wi g tt te (own.map (·.2)) σ H Q)
    (hQ : ∀ (Y : Cx) (fp : List Addr) (tn : Nat → Heap → Prop) (J : It) (it a : Addr) (go : Obj) (gi n : Nat) (W : Nat → Nat → Hp → Prop) (s' : Shared), Y.prog = X.prog → Y.w = X.w → Turn Y.prog Y.w Y.K tg J fp it tn → (a, go) ∈ Y.pn → (∀ h : Heap, h.get? a = some go → h.IsGen a gi) → s'.heap.IsGen a gi →
      GRest Y (wipe σ (own.map (·.2))) fp tn d Q W X.A.in1.in1 gi n s' → (∀ s2 H2, Inv Y [] (wipe σ (own.map (·.2))) H2 s2 → Inv X pins σ H2 s2) → Q' (.ref a) s') :
    wpAny (model X.prog X.w) X.A (eval (.GeneratorExp elt [⟨tg, iter, ifs, 0⟩] scope gp) X.env) Q' X.xe s := by
  have hfree : ∀ y ∈ scope.names, y.2 = .free → ∃ c, X.env.cells.lookup y.1 = some c := fun y hy e =>
    (ok.blk.free y hy e).elim (fun z => I.ok.has _ (.inl z)) fun z => I.ok.has _ (.inr z)
  refine wpAny_GeneratorExp_make ok.co (closure_ok hfree) ok.nocell ok.dot ok.blk.kind (by have := hr.dp; omega) ?_ hs
  refine thn (hi.run pins s σ H _ I h) fun xv s1 hx => thn hx fun itv s2 h2 => ?_
  obtain ⟨it, fp, tn, J, H2, rfl, I2, T, st2, f2, ⟨ps, hP, htr⟩, q⟩ := h2
  have hPs : s2.heap.get? P = some { cls := .none, data := .fields ps } := I2.hok P _ hP
  have cd : PySem.W.CodeHd s2.heap c P := TB.code.keeps fun b u e => I2.bk b u e
  refine ⟨I2.nolimit, ?_⟩
  have cont : ∀ (code : Value) (h3 : Heap) (tk : Nat) (ps' : Array Value), Heap.ExtBut P s2.heap h3 → h3.get? P = some { cls := .none, data := .fields ps' } → (∃ more, ps' = ps ++ more) → TriplesOk ps'.toList →
      wpAny (model X.prog X.w) X.A (builtinsFor X.env.globals X.env.builtins) (fun bi s₄ =>
        ∀ h', h'.Ns s₄.heap.objs.size (fun y => if y = ".0" then some (Value.ref it) else none) → Heap.SameBut s₄.heap.objs.size (s₄.heap.push { cls := .type "frame", data := .dict #[] }) h' →
          Q' (.ref h'.objs.size) { s₄ with
            gens := s₄.gens.push (.fresh (.compStart (.GeneratorExp elt [⟨tg, iter, ifs, 0⟩] scope gp) 0 (.ref it) .none (genEnv scope (cloFrom X.env.cells scope.names []) s₄.heap.objs.size code bi X.env))),
            toks := s₄.toks + 1 + 1 + 1,
            heap := h'.push { cls := .type "generator", data := .fields #[.int s₄.gens.size 0, .str "<genexpr>" (s₄.toks + 1), .str (X.env.qual ++ "<genexpr>") (s₄.toks + 1 + 1)] } }) X.xe { s2 with heap := h3, toks := tk } := by
    intro code h3 tk ps' hx hP3 ⟨more, em⟩ ht3
    subst em
    have I3 : Inv X pins σ (upd H2 P (.tbl (ps ++ more))) { s2 with heap := h3, toks := tk } := GxR.inv_tab (g' := s2.gens) (d' := s2.drawn) I2 hP (fun b o hb e => hx b o hb e) hP3 I2.bare
    have nfp : ∀ b ∈ fp, b ≠ P := fun b hb z => by
      have := (f2 b hb).1
      rw [z, hP] at this
      cases this
    have tb : GxR.Tabbed P H2 (upd H2 P (.tbl (ps ++ more))) := ⟨⟨_, upd_same, ht3⟩, fun b hb => upd_ne hb⟩
    obtain ⟨W, ⟨m0, w0⟩, turn⟩ := q _ tb
    have f3 : ∀ b ∈ fp, FpOk X pins (upd H2 P (.tbl (ps ++ more))) b ∧ b < h3.objs.size := fun b hb => by
      obtain ⟨o, e, _⟩ := T.obj _ _ st2 b hb
      refine ⟨⟨by rw [upd_ne (nfp b hb)]; exact (f2 b hb).1, (f2 b hb).2⟩, Heap.lt_size (hx b o (nfp b hb) e)⟩
    have st3 : tn 0 h3 := T.keep _ _ _ st2 fun b hb o e => hx b o (nfp b hb) e
    obtain ⟨bm, ob, e1, e2, e3, e4, e5, e6, e7, e8⟩ := TB.bm
    refine wpAny_builtinsFor (m := X.mg) (by rw [I3.ok.glob]; exact I3.mod.glob.keeps I3.bk) e1 e2 (I3.bk _ _ e5) e6 e7 e8 ?_
    intro h' hn' hsb
    generalize hs3 : ({ s2 with heap := h3, toks := tk } : Shared) = s3 at I3 hn' hsb ⊢
    have eh : s3.heap = h3 := by rw [← hs3]
    rw [← eh] at st3 f3
    generalize hH3 : upd H2 P (.tbl (ps ++ more)) = H3 at I3 w0 f3
    have hsz : h'.objs.size = s3.heap.objs.size + 1 := by rw [hsb.1, Heap.size_push]
    have keep' : ∀ b o, s3.heap.get? b = some o → h'.get? b = some o := fun b o e => hsb.extBut b o (Nat.ne_of_lt (Heap.lt_size e)) (Heap.get?_push_of_some _ e)
    generalize hgo : ({ cls := .type "generator", data := .fields #[.int s3.gens.size 0, .str "<genexpr>" (s3.toks + 1), .str (X.env.qual ++ "<genexpr>") (s3.toks + 1 + 1)] } : Obj) = go
    have goA : (h'.push go).get? h'.objs.size = some go := Heap.get?_push_size _ (by rw [← hgo] <;> rfl)
    have keep5 : ∀ b o, s3.heap.get? b = some o → (h'.push go).get? b = some o := fun b o e => Heap.get?_push_of_some _ (keep' b o e)
    have isg : ∀ h : Heap, h.get? h'.objs.size = some go → h.IsGen h'.objs.size s3.gens.size := fun h e => ⟨_, _, _, e, by rw [← hgo], by rw [← hgo], by rw [← hgo]⟩
    generalize hce : genEnv scope (cloFrom X.env.cells scope.names []) s3.heap.objs.size code builtinsNs X.env = ce
    have bare5 : AllBare (s3.gens.push (.fresh (.compStart (.GeneratorExp elt [⟨tg, iter, ifs, 0⟩] scope gp) 0 (.ref it) .none ce))) := I3.bare.push rfl
    have hfr : X.A.in1.in1.frames = some X.stack := I3.ok.frames
    have I5 := gen_begin (A := gAround X.A.in1.in1 ce X.stack) (code := code) (ga := h'.objs.size) (go := go) (s' := { s3 with gens := s3.gens.push (.fresh (.compStart (.GeneratorExp elt [⟨tg, iter, ifs, 0⟩] scope gp) 0 (.ref it) .none ce)), toks := s3.toks + 1 + 1 + 1, heap := h'.push go }) I3 ok hN f3 (by show X.A.handled = none; exact hr.hd) (by rw [hce]; rfl) rfl bare5 keep5 (hn'.push _) (by omega) goA (fun v z => by rw [← hgo] at z; cases z)
    have hg' : PG (genCx X s3 H3 ce (gAround X.A.in1.in1 ce X.stack) fp [(h'.objs.size, go)]) tg g := by rw [← hce]; exact hg s3 H3 (cloFrom X.env.cells scope.names []) s3.heap.objs.size code fp [(h'.objs.size, go)]
    have ht' : PTs (genCx X s3 H3 ce (gAround X.A.in1.in1 ce X.stack) fp [(h'.objs.size, go)]) ifs tt := by rw [← hce]; exact ht s3 H3 (cloFrom X.env.cells scope.names []) s3.heap.objs.size code fp [(h'.objs.size, go)]
    have he' : PE (genCx X s3 H3 ce (gAround X.A.in1.in1 ce X.stack) fp [(h'.objs.size, go)]) elt te := by rw [← hce]; exact he s3 H3 (cloFrom X.env.cells scope.names []) s3.heap.objs.size code fp [(h'.objs.size, go)]
    rw [hce] at I5
    have ceS : ce.scope.isCoroutine = false := by rw [← hce]; exact ok.co
    have szf : ∀ b ∈ fp, b < s3.heap.objs.size := fun b hb => (f3 b hb).2
    refine hQ (genCx X s3 H3 ce (gAround X.A.in1.in1 ce X.stack) fp [(h'.objs.size, go)]) fp tn J it h'.objs.size go s3.gens.size (m0 + 1) W _ rfl rfl T (List.mem_cons_self) isg (isg _ goA) ⟨⟨H3, I5⟩, _, Array.getElem?_push_size .., rfl, ?_⟩ fun s6 H6 I6 => ?_
    · refine seg_gStart (Y := genCx X s3 H3 ce (gAround X.A.in1.in1 ce X.stack) fp [(h'.objs.size, go)]) (over_gStart hfr) T (T.keep _ _ _ st3 fun b hb o e => keep5 b o e) ?_
      refine seg_gLoop (Y := genCx X s3 H3 ce (gAround X.A.in1.in1 ce X.stack) fp [(h'.objs.size, go)]) rfl (over_gLoop hfr) hc ceS rfl (fun p hp hb => ?_) (fun _ _ z => z) T hg' ht' he' turn m0 (m0 + 1) 0 H3 _ _ (by omega) w0 ⟨?_, T.keep _ _ _ st3 fun b hb o e => keep5 b o e, fun b hb => (f3 b hb).1.1⟩
      · rw [List.mem_singleton.mp hp] at hb
        have z : h'.objs.size < s3.heap.objs.size := szf _ hb
        omega
      · exact inv_later (d' := s3.drawn) (t' := s3.toks + 1 + 1 + 1) I5 (fun _ _ e => e) (allBare_setGen bare5 rfl)
    · exact I3.call' (ch := fp) I6.os I6.base I6.hok I6.bare fun b hb => ⟨(f3 b hb).1.2.2.2.1, (f3 b hb).1.2.1, (f3 b hb).1.2.2.2.2.1, (f3 b hb).1.2.2.2.2.2⟩
  cases hf : codeAmong gp ps.toList with
  | none =>
    refine wpAny_genexprCodeX hcode (cd.code hPs htr) (cd.tab hPs) hf fun c' h' tk hx hge hlt hco' _ htab' _ => ?_
    obtain ⟨o1, vs, f1, tf, fl, tg', inF, tx, tt', op, _, _, _, _, _, _, _, _, _, htr', _⟩ := hco'
    exact cont _ h' tk _ hx htab'.2 ⟨_, rfl⟩ htr'
  | some cv =>
    refine wpAny_genexprCode_hit hcode (cd.code hPs htr) hf ?_
    exact cont cv s2.heap s2.toks ps (Heap.ExtBut.refl _ _) hPs ⟨#[], by simp⟩ htr
theorem pe_allG {c P : Addr} {elt tg iter : Expr} {ifs : List Expr} {p pos gp : Pos} {scope : Scope} {own : List (Str × Nat)} {wi : TI} {g : TG} {tt : TT} {te : TE} {k : Nat}
    (hr : Room k X.A) (hc : X.calm = true) (hN : X.N.Nodup) (hgl : Gl X "all") (hm : X.mg "all" = none) (TB : GxR.TabB X.base X.mg c P) (hcode : X.env.code = .ref c) (ok : GenOk X.N X.env.scope scope own) (hi : PI X tg iter wi)
    (hg : ∀ (s : Shared) (H : Hp) (cl : List (Str × Addr)) (C : Addr) (code : Value) (fp : List Addr) (pn : List (Addr × Obj)), PG (genIn X s H scope cl C code fp pn) tg g)
    (ht : ∀ (s : Shared) (H : Hp) (cl : List (Str × Addr)) (C : Addr) (code : Value) (fp : List Addr) (pn : List (Addr × Obj)), PTs (genIn X s H scope cl C code fp pn) ifs tt)
    (he : ∀ (s : Shared) (H : Hp) (cl : List (Str × Addr)) (C : Addr) (code : Value) (fp : List Addr) (pn : List (Addr × Obj)), PE (genIn X s H scope cl C code fp pn) elt te)
    (hs : ∀ v, genFold iter X.env v = pure v := by intro _; rfl)
    (hst : starEach [.GeneratorExp elt [⟨tg, iter, ifs, 0⟩] scope gp] X.env = (false, eval (.GeneratorExp elt [⟨tg, iter, ifs, 0⟩] scope gp) X.env) :: starEach [] X.env := by rfl) :
    PE X (.Call (.Name "all" p) [.GeneratorExp elt [⟨tg, iter, ifs, 0⟩] scope gp] [] pos) (tAll true P wi g tt te (own.map (·.2))) := by
  refine ⟨fun pins s σ H Q I h => ?_⟩
  refine wpAny_Call_Name_kw (ld_blt I hgl hm boot_all ?_)
  refine PyProof.Rows.callWith_builtin1 ?_ hst (by rfl)
  rw [hst]
  show wpAny _ _ (spliced ((false, eval (.GeneratorExp elt [⟨tg, iter, ifs, 0⟩] scope gp) X.env) :: backTo pos (starEach [] X.env))) _ _ s
  refine Calls.spliced_cons (gen_rest hr hc hN TB hcode ok hi hg ht he hs I h fun Y fp tn J it a go gi n W s' hp hw T hpn isg ig rest back => ?_)
  refine Calls.spliced_nil ?_
  refine call_function_tree F.kind_all F.plain_all F.entry_all (F.args_all1 _) ?_
  unfold Builtin.«all»
  refine wpAny_bind (m := oneArg "all" _) (wpAny_pure (wpAny_bind (wpAny_pyIter_gen ig (wpAny_pure ⟨plainId_quiet F.plain_all_loop _, ?_⟩))))
  rw [← hp, ← hw] at *
  exact ask_all (d := true) rfl T hpn isg hr.hd (by have := hr.dp; omega) (fun b s2 H2 I2 q => ⟨.bl b, H2, back s2 H2 I2, rfl, q⟩) n s' rest
theorem pe_anyG {c P : Addr} {elt tg iter : Expr} {ifs : List Expr} {p pos gp : Pos} {scope : Scope} {own : List (Str × Nat)} {wi : TI} {g : TG} {tt : TT} {te : TE} {k : Nat}
    (hr : Room k X.A) (hc : X.calm = true) (hN : X.N.Nodup) (hgl : Gl X "any") (hm : X.mg "any" = none) (TB : GxR.TabB X.base X.mg c P) (hcode : X.env.code = .ref c) (ok : GenOk X.N X.env.scope scope own) (hi : PI X tg iter wi)
    (hg : ∀ (s : Shared) (H : Hp) (cl : List (Str × Addr)) (C : Addr) (code : Value) (fp : List Addr) (pn : List (Addr × Obj)), PG (genIn X s H scope cl C code fp pn) tg g)
    (ht : ∀ (s : Shared) (H : Hp) (cl : List (Str × Addr)) (C : Addr) (code : Value) (fp : List Addr) (pn : List (Addr × Obj)), PTs (genIn X s H scope cl C code fp pn) ifs tt)
    (he : ∀ (s : Shared) (H : Hp) (cl : List (Str × Addr)) (C : Addr) (code : Value) (fp : List Addr) (pn : List (Addr × Obj)), PE (genIn X s H scope cl C code fp pn) elt te)
    (hs : ∀ v, genFold iter X.env v = pure v := by intro _; rfl)
    (hst : starEach [.GeneratorExp elt [⟨tg, iter, ifs, 0⟩] scope gp] X.env = (false, eval (.GeneratorExp elt [⟨tg, iter, ifs, 0⟩] scope gp) X.env) :: starEach [] X.env := by rfl) :
    PE X (.Call (.Name "any" p) [.GeneratorExp elt [⟨tg, iter, ifs, 0⟩] scope gp] [] pos) (tAll false P wi g tt te (own.map (·.2))) := by
  refine ⟨fun pins s σ H Q I h => ?_⟩
  refine wpAny_Call_Name_kw (ld_blt I hgl hm boot_any ?_)
  refine PyProof.Rows.callWith_builtin1 ?_ hst (by rfl)
  rw [hst]
  show wpAny _ _ (spliced ((false, eval (.GeneratorExp elt [⟨tg, iter, ifs, 0⟩] scope gp) X.env) :: backTo pos (starEach [] X.env))) _ _ s
  refine Calls.spliced_cons (gen_rest hr hc hN TB hcode ok hi hg ht he hs I h fun Y fp tn J it a go gi n W s' hp hw T hpn isg ig rest back => ?_)
  refine Calls.spliced_nil ?_
  refine call_function_tree F.kind_any F.plain_any F.entry_any (F.args_any1 _) ?_
  unfold Builtin.«any»
  refine wpAny_bind (m := oneArg "any" _) (wpAny_pure (wpAny_bind (wpAny_pyIter_gen ig (wpAny_pure ⟨plainId_quiet F.plain_any_loop _, ?_⟩))))
  rw [← hp, ← hw] at *
  exact ask_any (d := false) rfl T hpn isg hr.hd (by have := hr.dp; omega) (fun b s2 H2 I2 q => ⟨.bl b, H2, back s2 H2 I2, rfl, q⟩) n s' rest
end

/-! ### all(e for x in xs), any(..) over the value layer -/
inductive AllOk (d : Bool) (items : List PyData) (e : PEnv) (g : PTg) (t : PTst) (f : PEx) (vs : List Nat) (C : PK) : Prop where
  | mk (hf : fgtB e vs = true) (W : Nat → PEnv → Prop) (w0 : W 0 (wipeP e vs)) (turn : ∀ j x e2, items[j]? = some x → W j e2 → g x (wipeP e2 vs) fun e3 => t e3 fun b e4 => IfP b (f e4 (fun p e5 => match p with
      | .dat (.bool c) => (c = d → W (j + 1) (wipeP e5 vs)) ∧ (c ≠ d → C (.dat (.bool c)) (wipeP e5 vs))
      | _ => False)) (W (j + 1) (wipeP e4 vs))) (fin : ∀ e2, W items.length e2 → C (.dat (.bool d)) (wipeP e2 vs))
def pAll (d : Bool) (it : PIt) (g : PTg) (t : PTst) (f : PEx) (vs : List Nat) : PEx := fun env C => it env fun items e => AllOk d items e g t f vs C
section
variable {K : PySem.W.Frag} {G : Gam} {Z : Addr → Prop} {H H2 : Hp} {σ : L2.St} {env : PEnv} {T : Stk}
theorem StZ.tabbed {P : Addr} (s : StZ K G Z H σ env T) (hP : GxR.TabG H P) (tb : GxR.Tabbed P H H2) : StZ K G Z H2 σ env T := by
  obtain ⟨ps, hp, _⟩ := hP
  have nP : ∀ {b o}, H b = some o → (∀ ps, o ≠ .tbl ps) → H2 b = some o := fun {b o} e n => by
    rw [tb.2 b fun z => by rw [z, hp] at e; exact n ps (Option.some.inj e).symm]
    exact e
  have al : ∀ b, H b ≠ none → H2 b ≠ none := fun b h => by
    by_cases z : b = P
    · obtain ⟨qs, e, _⟩ := tb.1
      rw [z, e]
      exact fun z => by cases z
    · rw [tb.2 b z]
      exact h
  have m : Mv K Z H Z H2 := Mv.ofT (fun _ => False) (fun b o e n _ => nP e n) (fun _ h => h.elim) (fun _ z => z) fun a h => by
    by_cases z : a = P
    · rw [z]
      exact tb.1
    · obtain ⟨qs, e, t⟩ := h
      exact ⟨qs, by rw [tb.2 a z]; exact e, t⟩
  refine s.move m (fun a o oa e => ?_) (fun a oa => by obtain ⟨_, _, _, n⟩ := s.own_any oa; exact n) (fun _ z => z) (fun _ z => .inl z) (fun a z => al a (s.z3 a z)) (fun b o e _ n _ _ => nP e n) al fun d c e => ?_
  · by_cases z : a = P
    · have w : ∃ o, H a = some o ∧ WrO o := by
        rcases oa with ⟨i, oi⟩ | ⟨t, ht, ot⟩
        · exact (s.ownS oi).1
        · exact ((s.tm t ht).own ot).1
      obtain ⟨o', e1, w'⟩ := w
      rw [z, hp] at e1
      cases e1
      rcases w' with ⟨_, z⟩ | ⟨_, z⟩ | ⟨_, z⟩ <;> cases z
    · rw [tb.2 a z]
      exact e
  · obtain ⟨cells, k, big, seed, cnt, h1, h2, h3⟩ := s.dr d c e
    exact ⟨cells, k, big, seed, cnt, nP h1 (fun _ z => by cases z), nP h2 (fun _ z => by cases z), h3⟩
end
section
variable {X : Cx} {G : Gam} {e : Expr} {it : PIt} {g : PTg} {t : PTst} {f : PEx} {vs : List Nat} {d : Bool}
theorem allP {P : Addr} (hP : P ∈ G.tbs) (σ : L2.St) (H : Hp) (Q : VK) (h : tE X.K G (pAll d it g t f vs) σ H Q) : tAll d P (tI X.K G it) (tG X.K G (some vs) g) (tQ X.K G t) (tE X.K G f) vs σ H Q := by
  obtain ⟨env, T, C, s, h, k⟩ := h
  refine ⟨env, T, _, s, h, fun items e1 u H1 J h1 nbt ⟨Z1, s1⟩ wk => ?_⟩
  obtain ⟨hf, W, w0, turn, fin⟩ := h1
  refine ⟨s1.tk P hP, fun H2 tb => ?_⟩
  have s2 := s1.tabbed (s1.tk P hP) tb
  have nbv := s1.fgtB hf
  have ww : wipe (wipe σ vs) vs = wipe σ vs := wipe_wipe vs fun _ h => h
  refine ⟨fun i m H => m = items.length - i ∧ i ≤ items.length ∧ ∃ env, W i env ∧ StE X.K G H (wipe σ vs) (wipeP env vs) (u :: T), ⟨_, rfl, Nat.zero_le _, wipeP e1 vs, w0, Z1, ?_⟩, ?_⟩
  · exact StZ.wipeA (StZ.wipeS nbv (StZ.wipeS nbv s2))
  · rintro i m H3 ⟨rfl, hi, e2, w2, Z2, s3⟩
    obtain ⟨go, stop⟩ := wk Z2 H3 _ _ _ s3 List.mem_cons_self
    by_cases hlt : i < items.length
    · obtain ⟨g1, g2⟩ := go i _ (List.getElem?_eq_getElem hlt)
      refine .inr ⟨g1, fun H => ∃ env, W (i + 1) env ∧ StE X.K G H (wipe σ vs) (wipeP env vs) (u :: T), fun H' x => ⟨items.length - (i + 1), by omega, rfl, hlt, x⟩, fun x H4 y => ?_⟩
      refine ⟨wipeP e2 vs, u :: T, _, _, (fun z => by cases z), ⟨Z2, g2 x H4 y⟩, turn i _ e2 (List.getElem?_eq_getElem hlt) w2, fun e3 σ3 H3 h3 s3 hw => ?_⟩
      have hw3 : wipe σ3 vs = wipe σ vs := (hw vs rfl).trans ww
      refine ⟨hw3, e3, _, _, s3, h3, fun b e4 H4 h4 s4 => ?_⟩
      have back : ∀ {Z H5 e5}, StZ X.K G Z H5 σ3 e5 (u :: T) → StE X.K G H5 (wipe σ vs) (wipeP (wipeP e5 vs) vs) (u :: T) := fun {Z H5 e5} s5 => by
        have s6 := (StZ.wipeS nbv (StZ.wipeS nbv s5)).wipeA
        rw [hw3] at s6
        exact ⟨Z, s6⟩
      cases b with
      | true =>
        refine ⟨e4, _, _, s4, h4.tt, fun p e5 v H5 h5 ⟨Z5, s5⟩ => ?_⟩
        cases p with
        | dat q =>
          cases q with
          | bool c =>
            have hv := s5.topDat
            cases hv
            refine ⟨c, rfl, fun z => ⟨_, h5.1 z, back s5.pop⟩, fun z => ?_⟩
            have s6 := (StZ.wipeS nbv s5.pop).wipeA
            rw [hw3] at s6
            exact k _ _ _ _ (h5.2 z) ⟨Z5, (s6.wipeB.pop).dat rfl⟩
          | _ => exact h5.elim
        | _ => exact h5.elim
      | false =>
        obtain ⟨Z4, s4⟩ := s4
        exact ⟨_, h4.ff, back s4⟩
    · have e : i = items.length := by omega
      subst e
      exact .inl ⟨stop, k _ _ _ _ (fin e2 w2) ⟨Z2, s3.wipeB.pop.dat rfl⟩⟩
theorem pe_allP {P : Addr} (hP : P ∈ G.tbs) (h : PE X e (tAll d P (tI X.K G it) (tG X.K G (some vs) g) (tQ X.K G t) (tE X.K G f) vs)) : PE X e (tE X.K G (pAll d it g t f vs)) := h.le (allP hP)
end

/-! ### helps for all, any -/
section
variable {α : Type} {l : List α} {e : α → PyData} {env : PEnv} {g : PTg} {t : PTst} {f : PEx} {vs : List Nat} {C : PK}
/-- without effects, without a test behind -/
theorem all_mapP (F : α → Bool) (hb : ∀ (j : Nat) (a : α), l[j]? = some a → ∀ (Q : Bool → PEnv → Prop) (R : PEnv → Prop), Q (F a) (wipeP env vs) → g (e a) (wipeP env vs) fun e3 => t e3 fun b e4 => IfP b (f e4 (fun p e5 => match p with
      | .dat (.bool c) => Q c (wipeP e5 vs)
      | _ => False)) (R (wipeP e4 vs))) (hc : C (.dat (.bool (l.all F))) (wipeP env vs)) (hf : fgtB env vs = true := by rfl) : AllOk true (l.map e) env g t f vs C := by
  refine ⟨hf, fun j e2 => e2 = wipeP env vs ∧ (l.take j).all F = true, ⟨rfl, rfl⟩, ?_, ?_⟩
  · rintro j x e2 hx ⟨rfl, hj⟩
    rw [List.getElem?_map] at hx
    obtain ⟨a, ha, rfl⟩ := Option.map_eq_some_iff.mp hx
    rw [wipeP_idem]
    have tk : (l.take (j + 1)).all F = ((l.take j).all F && F a) := by rw [List.take_succ, ha]; simp [List.all_append]
    refine hb j a ha (fun c e' => (c = true → e' = wipeP env vs ∧ (l.take (j + 1)).all F = true) ∧ (c ≠ true → C (.dat (.bool c)) e')) (fun e' => e' = wipeP env vs ∧ (l.take (j + 1)).all F = true) ⟨fun h => ⟨rfl, by rw [tk, hj, h]; rfl⟩, fun h => ?_⟩
    have hF : F a = false := by simpa using h
    have : l.all F = false := by
      rw [List.all_eq_false]
      exact ⟨a, List.mem_of_getElem? ha, by rw [hF]; decide⟩
    rw [hF, ← this]
    exact hc
  · rintro e2 ⟨rfl, hj⟩
    rw [List.length_map, List.take_length] at hj
    rw [wipeP_idem]
    rw [hj] at hc
    exact hc
theorem any_mapP (F : α → Bool) (hb : ∀ (j : Nat) (a : α), l[j]? = some a → ∀ (Q : Bool → PEnv → Prop) (R : PEnv → Prop), Q (F a) (wipeP env vs) → g (e a) (wipeP env vs) fun e3 => t e3 fun b e4 => IfP b (f e4 (fun p e5 => match p with
      | .dat (.bool c) => Q c (wipeP e5 vs)
      | _ => False)) (R (wipeP e4 vs))) (hc : C (.dat (.bool (l.any F))) (wipeP env vs)) (hf : fgtB env vs = true := by rfl) : AllOk false (l.map e) env g t f vs C := by
  refine ⟨hf, fun j e2 => e2 = wipeP env vs ∧ (l.take j).any F = false, ⟨rfl, rfl⟩, ?_, ?_⟩
  · rintro j x e2 hx ⟨rfl, hj⟩
    rw [List.getElem?_map] at hx
    obtain ⟨a, ha, rfl⟩ := Option.map_eq_some_iff.mp hx
    rw [wipeP_idem]
    have tk : (l.take (j + 1)).any F = ((l.take j).any F || F a) := by rw [List.take_succ, ha]; simp [List.any_append]
    refine hb j a ha (fun c e' => (c = false → e' = wipeP env vs ∧ (l.take (j + 1)).any F = false) ∧ (c ≠ false → C (.dat (.bool c)) e')) (fun e' => e' = wipeP env vs ∧ (l.take (j + 1)).any F = false) ⟨fun h => ⟨rfl, by rw [tk, hj, h]; rfl⟩, fun h => ?_⟩
    have hF : F a = true := by simpa using h
    have : l.any F = true := by
      rw [List.any_eq_true]
      exact ⟨a, List.mem_of_getElem? ha, hF⟩
    rw [hF, ← this]
    exact hc
  · rintro e2 ⟨rfl, hj⟩
    rw [List.length_map, List.take_length] at hj
    rw [wipeP_idem]
    rw [hj] at hc
    exact hc
end

/-! ### dicts of one's own: keys ints or texts, values data -/
def keyP : PyData → Option Key
  | .int n => some (.inl n)
  | .str z => some (.inr z)
  | _ => none
def getD (kvs : List (Key × PyData)) (k : Key) : Option PyData := (kvs.find? fun kv => decide (kv.1 = k)).map (·.2)
def putD (kvs : List (Key × PyData)) (k : Key) (v : PyData) : List (Key × PyData) := if (kvs.any fun kv => decide (kv.1 = k)) = true then kvs.map (fun kv => if kv.1 = k then (kv.1, v) else kv) else kvs ++ [(k, v)]
def pDNew : PEx := fun env C => C (.dic []) env
def dicAt (e : PEnv) (pd pk : Cel) : Option (Nat × List (Key × PyData) × Key) := match pd, pk with
  | .bor i, .dat dk => (match e[i]?, keyP dk with
    | some (.dic kvs), some k => some (i, kvs, k)
    | _, _ => none)
  | _, _ => none
def pDIn (n : Bool) (fk fd : PEx) : PTst := fun env C => fk env fun pk e1 => fd e1 fun pd e2 => match dicAt e2 pd pk with
  | some (_, kvs, k) => C (n ^^ (getD kvs k).isSome) e2
  | none => False
def pDGet (fd fk : PEx) : PEx := fun env C => fd env fun pd e1 => fk e1 fun pk e2 => match dicAt e2 pd pk with
  | some (_, kvs, k) => ∃ v, getD kvs k = some v ∧ C (.dat v) e2
  | none => False
def pDPut (fv fd fk : PEx) : PSt := fun E env => fv env fun pv e1 => fd e1 fun pd e2 => fk e2 fun pk e3 => match pv, dicAt e3 pd pk with
  | .dat v, some (i, kvs, k) => kvs.length < sizeLine ∧ E.nx (e3.set i (.dic (putD kvs k v)))
  | _, _ => False
section
variable {K : PySem.W.Frag} {G : Gam} {Z Z' : Addr → Prop} {H H' : Hp} {σ : L2.St} {env : PEnv} {T : Stk}
theorem KvAll.get {k : Key} : ∀ {kvs : List (Key × PyData)} {ws : List (Key × V)}, KvAll K Z H kvs ws → ((getD kvs k = none ∧ valV ws k = none) ∨ ∃ d v, getD kvs k = some d ∧ valV ws k = some v ∧ Da K Z H d v)
  | [], _, h => by cases h; exact .inl ⟨rfl, rfl⟩
  | p :: kvs, _, ⟨v, r, e, h1, h2⟩ => by
    subst e
    by_cases q : p.1 = k
    · refine .inr ⟨p.2, v, ?_, ?_, h1⟩
      · unfold getD
        rw [List.find?_cons_of_pos (by simpa using q)]
        rfl
      · unfold valV
        rw [List.find?_cons_of_pos (by simpa using q)]
        rfl
    · have e1 : getD (p :: kvs) k = getD kvs k := by
        unfold getD
        rw [List.find?_cons_of_neg (by simpa using q)]
      have e2 : valV ((p.1, v) :: r) k = valV r k := by
        unfold valV
        rw [List.find?_cons_of_neg (by simpa using q)]
      rw [e1, e2]
      exact KvAll.get h2
theorem KvAll.len : ∀ {kvs : List (Key × PyData)} {ws : List (Key × V)}, KvAll K Z H kvs ws → ws.length = kvs.length
  | [], _, h => by cases h; rfl
  | _ :: _, _, ⟨v, r, e, _, h2⟩ => by subst e; exact congrArg Nat.succ (KvAll.len h2)
theorem KvAll.app : ∀ {kvs lvs : List (Key × PyData)} {ws us : List (Key × V)}, KvAll K Z H kvs ws → KvAll K Z H lvs us → KvAll K Z H (kvs ++ lvs) (ws ++ us)
  | [], _, _, _, h, k => by cases h; exact k
  | _ :: _, _, _, us, ⟨v, r, e, h1, h2⟩, k => by subst e; exact ⟨v, r ++ us, rfl, h1, KvAll.app h2 k⟩
theorem KvAll.any {k : Key} : ∀ {kvs : List (Key × PyData)} {ws : List (Key × V)}, KvAll K Z H kvs ws → (ws.any fun kv => decide (kv.1 = k)) = (kvs.any fun kv => decide (kv.1 = k))
  | [], _, h => by cases h; rfl
  | p :: kvs, _, ⟨v, r, e, h1, h2⟩ => by
    subst e
    show (decide (p.1 = k) || _) = (decide (p.1 = k) || _)
    rw [KvAll.any h2]
theorem KvAll.upd {k : Key} {d : PyData} {v : V} (hd : Da K Z H d v) : ∀ {kvs : List (Key × PyData)} {ws : List (Key × V)}, KvAll K Z H kvs ws → KvAll K Z H (kvs.map fun kv => if kv.1 = k then (kv.1, d) else kv) (ws.map fun kv => if kv.1 = k then (kv.1, v) else kv)
  | [], _, h => by cases h; exact rfl
  | p :: kvs, _, ⟨u, r, e, h1, h2⟩ => by
    subst e
    by_cases q : p.1 = k
    · refine ⟨v, _, ?_, ?_, KvAll.upd hd h2⟩
      · show (if p.1 = k then (p.1, v) else (p.1, u)) :: _ = (((if p.1 = k then (p.1, d) else p) : Key × PyData).1, v) :: _
        rw [if_pos q, if_pos q]
      · show Da K Z H ((if p.1 = k then (p.1, d) else p) : Key × PyData).2 v
        rw [if_pos q]
        exact hd
    · refine ⟨u, _, ?_, ?_, KvAll.upd hd h2⟩
      · show (if p.1 = k then (p.1, v) else (p.1, u)) :: _ = (((if p.1 = k then (p.1, d) else p) : Key × PyData).1, u) :: _
        rw [if_neg q, if_neg q]
      · show Da K Z H ((if p.1 = k then (p.1, d) else p) : Key × PyData).2 u
        rw [if_neg q]
        exact h1
theorem KvAll.put {k : Key} {d : PyData} {v : V} (hd : Da K Z H d v) {kvs : List (Key × PyData)} {ws : List (Key × V)} (h : KvAll K Z H kvs ws) : KvAll K Z H (putD kvs k d) (putK ws k v) := by
  unfold putD putK
  rw [KvAll.any h]
  split
  · exact KvAll.upd hd h
  · exact KvAll.app h ⟨v, [], rfl, hd, rfl⟩
theorem StZ.newDic (s : StZ K G Z H σ env T) {p : Addr} (hp : H p = none) : StZ K G Z (upd H p (.dK [])) σ env ((.ref p, .dic []) :: T) := by
  have s2 := s.alloc (.dK []) hp
  refine s2.push ⟨p, [], rfl, upd_same, rfl, fun z => s.z3 p z hp, s.h0 hp⟩ (fun _ e => by cases e) (fun _ _ e => by cases e) (fun _ e => by cases e) fun a o oa => ?_
  rw [List.mem_singleton.mp o] at oa
  exact s.fresh hp (s.ownNew hp oa)
/-- the dict of a slot, borrowed -/
theorem StZ.dicB {i : Nat} {v : V} {kvs : List (Key × PyData)} (s : StZ K G Z H σ env T) (ht : (v, .bor i) ∈ T) (e : env[i]? = some (.dic kvs)) : σ[i]? = some (some v) ∧ ∃ a ws, v = .ref a ∧ H a = some (.dK ws) ∧ KvAll K Z H kvs ws ∧ ¬ Z a ∧ G.H0 a = none := by
  obtain ⟨e1, _⟩ := s.bo _ ht i rfl
  obtain ⟨ov, e2, a, ws, e3, h⟩ := s.sl i _ e
  rw [e1] at e2
  cases e2
  cases e3
  exact ⟨e1, a, ws, rfl, h⟩
theorem dicAt_some {pd pk : Cel} {i : Nat} {kvs : List (Key × PyData)} {k : Key} (h : dicAt env pd pk = some (i, kvs, k)) : pd = .bor i ∧ env[i]? = some (.dic kvs) ∧ ∃ d, pk = .dat d ∧ keyP d = some k := by
  unfold dicAt at h
  split at h
  · split at h
    · next h1 h2 =>
      cases h
      exact ⟨rfl, h1, _, rfl, h2⟩
    · cases h
  · cases h
theorem keyP_da {d : PyData} {k : Key} {v : V} (h : keyP d = some k) (hd : Da K Z H d v) : v = kV k := by
  cases d <;> first | (cases h; exact hd) | cases h
theorem StZ.dicPut {i : Nat} {kvs : List (Key × PyData)} {k : Key} {a : Addr} {ws : List (Key × V)} {d : PyData} {u : V} (s : StZ K G Z H σ env T) (e1 : σ[i]? = some (some (.ref a))) (e : env[i]? = some (.dic kvs)) (hd : Da K Z H d u) (ha : H a = some (.dK ws)) (hk : KvAll K Z H kvs ws) (nz : ¬ Z a) (h0 : G.H0 a = none) :
    StZ K G Z (upd H a (.dK (putK ws k u))) σ (env.set i (.dic (putD kvs k d))) T := by
  have m : Mv K Z H Z (upd H a (.dK (putK ws k u))) := Mv.ofW (fun b => b = a) (fun b o e n => upd_else e n) (fun b e => by subst e; exact ⟨_, ha, .inr (.inl ⟨ws, rfl⟩), nz⟩) fun _ z => z
  refine (s.dat (v := .non) (d := .none) rfl).chg (p' := .dic (putD kvs k d)) e1 e ⟨a, _, rfl, upd_same, KvAll.mv m _ _ (KvAll.put hd hk), nz, h0⟩ (fun b hb => .inl hb) (fun b o n e => upd_else e fun z => n (by rw [z]; exact List.mem_cons_self)) (fun b e => upd_some e) (fun _ => trivial) (s.nosub e fun _ z => by cases z) fun _ z => by cases z
end
section
variable {X : Cx} {G : Gam} {e a b c : Expr} {pos pos' : Pos} {fa fb fc : PEx} {st : Stmt}
theorem pe_dnewP (h : PE X e tDNewK) : PE X e (tE X.K G pDNew) := h.le fun σ H Q ⟨env, T, C, ⟨Z, s⟩, h, k⟩ => fun p hp => k _ _ _ _ h ⟨Z, s.newDic hp⟩
theorem pt_dinP (h : PT X e (tB (tDIn (tE X.K G fa) (tE X.K G fb)))) : PT X e (tQ X.K G (pDIn false fa fb)) := h.le fun σ H Q ⟨env, T, C, s, h, k⟩ => ⟨env, T, _, s, h, fun pk e1 y H1 h1 s1 => ⟨e1, _, _, s1, h1, fun pd e2 x H2 h2 ⟨Z2, s2⟩ => by
  split at h2
  · next i kvs key ed =>
    obtain ⟨rfl, ed1, d, rfl, kd⟩ := dicAt_some ed
    obtain ⟨_, a, ws, rfl, ha, hk, _⟩ := s2.dicB List.mem_cons_self ed1
    obtain rfl := keyP_da kd (s2.pop.topDat)
    refine ⟨a, _, rfl, DGet.k ha, _, rfl, k _ _ _ ?_ ⟨Z2, s2.pop.pop⟩⟩
    rcases hk.get (k := key) with ⟨g1, g2⟩ | ⟨u, w, g1, g2, _⟩
    · rw [g1] at h2
      rw [g2]
      exact h2
    · rw [g1] at h2
      rw [g2]
      exact h2
  · exact h2.elim⟩⟩
theorem pt_dninP (h : PT X e (tB (tDNotIn (tE X.K G fa) (tE X.K G fb)))) : PT X e (tQ X.K G (pDIn true fa fb)) := h.le fun σ H Q ⟨env, T, C, s, h, k⟩ => ⟨env, T, _, s, h, fun pk e1 y H1 h1 s1 => ⟨e1, _, _, s1, h1, fun pd e2 x H2 h2 ⟨Z2, s2⟩ => by
  split at h2
  · next i kvs key ed =>
    obtain ⟨rfl, ed1, d, rfl, kd⟩ := dicAt_some ed
    obtain ⟨_, a, ws, rfl, ha, hk, _⟩ := s2.dicB List.mem_cons_self ed1
    obtain rfl := keyP_da kd (s2.pop.topDat)
    refine ⟨a, _, rfl, DGet.k ha, _, rfl, k _ _ _ ?_ ⟨Z2, s2.pop.pop⟩⟩
    rcases hk.get (k := key) with ⟨g1, g2⟩ | ⟨u, w, g1, g2, _⟩
    · rw [g1] at h2
      rw [g2]
      exact h2
    · rw [g1] at h2
      rw [g2]
      exact h2
  · exact h2.elim⟩⟩
theorem pe_dgetP (h : PE X e (tDGet (tE X.K G fa) (tE X.K G fb))) : PE X e (tE X.K G (pDGet fa fb)) := h.le fun σ H Q ⟨env, T, C, s, h, k⟩ => ⟨env, T, _, s, h, fun pd e1 x H1 h1 s1 => ⟨e1, _, _, s1, h1, fun pk e2 y H2 h2 ⟨Z2, s2⟩ => by
  split at h2
  · next i kvs key ed =>
    obtain ⟨v, hv, hc⟩ := h2
    obtain ⟨rfl, ed1, d, rfl, kd⟩ := dicAt_some ed
    obtain ⟨_, a, ws, rfl, ha, hk, _⟩ := s2.dicB (List.mem_cons_of_mem _ List.mem_cons_self) ed1
    obtain rfl := keyP_da kd s2.topDat
    rcases hk.get (k := key) with ⟨g1, g2⟩ | ⟨u, w, g1, g2, g3⟩
    · rw [g1] at hv
      cases hv
    · rw [g1] at hv
      cases hv
      exact ⟨a, w, rfl, by rw [← g2]; exact DGet.k ha, k _ _ _ _ hc ⟨Z2, s2.pop.pop.dat g3⟩⟩
  · exact h2.elim⟩⟩
theorem ps_dputP (h : PS X st (sDPut (tE X.K G fb) (tE X.K G fc) (tE X.K G fa))) : PS X st (tS X.K G (pDPut fa fb fc)) := h.le fun D σ H ⟨env, T, E, nb, s, h, k⟩ => ⟨env, T, _, s, h, fun pv e1 v H1 h1 s1 => ⟨e1, _, _, s1, h1, fun pd e2 x H2 h2 s2 => ⟨e2, _, _, s2, h2, fun pk e3 y H3 h3 sx => by
  obtain ⟨Z3, s3⟩ := sx
  generalize hda : dicAt e3 pd pk = da at h3
  split at h3
  · next v' i kvs key =>
    have ed := hda
    obtain ⟨rfl, ed1, d, rfl, kd⟩ := dicAt_some ed
    obtain ⟨e4, a, ws, rfl, ha, hk, nz, h0⟩ := s3.dicB (List.mem_cons_of_mem _ List.mem_cons_self) ed1
    obtain rfl := keyP_da kd s3.topDat
    have hv : Da X.K Z3 H3 v' v := s3.pop.pop.topDat
    exact ⟨a, _, rfl, DPut.k ha (by rw [hk.len]; exact h3.1), k.nx _ _ _ h3.2 ⟨Z3, s3.pop.pop.pop.dicPut e4 ed1 hv ha hk nz h0⟩⟩
  · exact h3.elim⟩⟩⟩
end

/-! ### len of a set; the item of an item; lists as lists of lists -/
def pLenSet (g : PAs) : PEx := fun env C => g env fun ps e => match ps with
  | [p] => match itemsOf e p with
    | some ds => ∃ ns : List Int, ds = ns.map .int ∧ ns.length ≤ 1000 ∧ ∀ L : List Int, L.Nodup → (∀ k, k ∈ L ↔ k ∈ ns) → C (.dat (.int (L.length : Int))) e
    | none => False
  | _ => False
/-- xs[i][j] = e -/
def pSetSub (fv fo fi : PEx) : PSt := fun E env => fv env fun pv e1 => fo e1 fun po e2 => fi e2 fun pi e3 => match po, pi, pv with
  | .sub s k, .dat (.int i), .dat d => mutS e3 s k (fun xs c => ∃ j, ixN xs.length i = some j ∧ c (xs.set j d)) E.nx
  | _, _, _ => False
/-- a list in a slot, from now on one of lists -/
def pToBox (i : Nat) (g : PSt) : PSt := fun E env => g { E with nx := fun e => match e[i]? with
  | some (.own xs) => E.nx (e.set i (.box (xs.map .d)))
  | _ => False } env
section
variable {X : Cx} {G : Gam} {e a b c : Expr} {pos pos' : Pos} {fa fb fc fo fi fv : PEx} {st : Stmt} {g : PAs} {h : PSt}
theorem pe_lenSetP (h : PE X e (tCB (rLenSetO X.w) (tCons (tCB (rSetAny X.K X.w) (tA X.K G g)) tNil))) : PE X e (tE X.K G (pLenSet g)) := h.le fun σ H Q ⟨env, T, C, s, h, k⟩ => ⟨env, T, _, s, h, fun ps e1 vs H1 h1 l1 ⟨Z, s1⟩ => by
  split at h1
  · obtain ⟨v, rfl, S⟩ := one_arg s1 l1
    split at h1
    · next ds ed =>
      obtain ⟨ns, rfl, hn, hc⟩ := h1
      obtain ⟨a, us, rfl, ha, hx⟩ := S.seq List.mem_cons_self ed
      have := ints_da hx
      subst this
      have go : ∀ (b : Addr) (c : Nat), H1 b = none → c ≤ ns.length → rLenSetO X.w [.ref b] (upd H1 b (SetO X.w b (fun j => decide (j ∈ ns)) c)) Q := fun b c hb _ => ⟨b, _, c, rfl, upd_same, fun L nd hl hm => by
        subst hl
        exact k _ _ _ _ (hc L nd fun k => (hm k).symm.trans decide_eq_true_iff) ⟨Z, (S.pop.alloc _ hb).dat rfl⟩⟩
      rcases ha with ha | ha
      · exact .inl ⟨a, ns, rfl, ha, hn, go⟩
      · exact .inr ⟨a, ns, rfl, ha, hn, go⟩
    · exact h1.elim
  · exact h1.elim⟩
theorem ps_setSubP (h : PS X st (tAsg (tE X.K G fv) (gSub (tE X.K G fo) (tE X.K G fi) rSetL))) : PS X st (tS X.K G (pSetSub fv fo fi)) := h.le fun D σ H ⟨env, T, E, nb, s, h, k⟩ => ⟨env, T, _, s, h, fun pv e1 v H1 h1 s1 => ⟨e1, _, _, s1, h1, fun po e2 o H2 h2 s2 => ⟨e2, _, _, s2, h2, fun pi e3 y H3 h3 sx => by
  obtain ⟨Z, s3⟩ := sx
  split at h3
  · next s k' i d =>
    have hi := s3.topDat
    cases hi
    have hv := s3.pop.pop.topDat
    have S := s3.pop
    have S' : StZ X.K G Z H3 σ e3 ((o, .sub s k') :: T) := S.sub (List.Sublist.cons_cons _ (List.sublist_cons_self _ _))
    obtain ⟨b, us, ys, c, rfl, k1, k2, ⟨j, hj, k3⟩, k4⟩ := S'.mutS h3
    have st := k4 (ys.set j d) (us.set j v) (DaAll.set j _ _ _ _ k2 hv)
    exact ⟨b, us, i, j, rfl, rfl, k1, by rw [k2.len]; exact hj, k.nx _ _ _ k3 ⟨Z, st⟩⟩
  · exact h3.elim⟩⟩⟩
theorem ItAll.ofD {K : PySem.W.Frag} {Z : Addr → Prop} {H : Hp} : ∀ {ds : List PyData} {vs : List V}, DaAll K Z H ds vs → ItAll K Z H (ds.map .d) vs ∧ subs (ds.map .d) vs = []
  | [], _, h => by cases h; exact ⟨rfl, rfl⟩
  | d :: ds, _, ⟨v, r, e, h1, h2⟩ => by
    subst e
    obtain ⟨g1, g2⟩ := ItAll.ofD h2
    exact ⟨⟨v, r, rfl, h1, g1⟩, g2⟩
theorem ps_toBoxP {i : Nat} (hs : PS X st (tS X.K G h)) : PS X st (tS X.K G (pToBox i h)) := hs.le fun D σ H ⟨env, T, E, nb, s, w, k⟩ => ⟨env, T, _, nb, s, w, ⟨fun e2 σ2 H2 h2 ⟨Z, s2⟩ => by
  dsimp only at h2
  split at h2
  · next xs e1 =>
    obtain ⟨ov, e3, a, vs, rfl, h1, h3, h4, h5⟩ := s2.sl i _ e1
    obtain ⟨g1, g2⟩ := ItAll.ofD h3
    refine k.nx _ _ _ h2 ⟨Z, s2.say (p' := .box (xs.map .d)) e3 e1 ⟨a, vs, rfl, h1, g1, fun b hb => ?_, ?_⟩ (fun b hb => ?_) (fun _ => trivial) (s2.nosub e1 fun _ z => by cases z) fun _ z => by cases z⟩
    · rw [g2, List.mem_singleton] at hb
      subst hb
      exact ⟨h4, h5⟩
    · rw [g2]
      simp
    · have hb : b ∈ a :: (match H2 a with | some (.lst vs) => subs (xs.map .d) vs | _ => []) := hb
      rw [h1] at hb
      have hb : b ∈ a :: subs (xs.map .d) vs := hb
      rw [g2] at hb
      exact hb
  · exact h2.elim, k.rt, k.bk, k.ct⟩⟩
end
theorem itemsOf_sub {e : PEnv} {i k : Nat} {xs : List Itm} {ys : List PyData} (h : e[i]? = some (.pnd xs)) (h2 : xs[k]? = some (.l ys)) : itemsOf e (.sub i k) = some ys := by
  show subAt k e[i]? = _
  rw [h]
  show (match xs[k]? with | some (.l ys) => some ys | _ => none) = _
  rw [h2]
theorem mutS_at {e : PEnv} {i k : Nat} {xs : List Itm} {ys : List PyData} {P : List PyData → (List PyData → Prop) → Prop} {C : PEnv → Prop} (h : e[i]? = some (.pnd xs)) (h2 : xs[k]? = some (.l ys)) (c : P ys fun zs => C (e.set i (.box (xs.set k (.l zs))))) : mutS e i k P C := by
  unfold mutS
  rw [h]
  show (match xs[k]? with | some (.l ys) => P ys fun zs => C (e.set i (.box (xs.set k (.l zs)))) | _ => False)
  rw [h2]
  exact c
theorem ixSub {e : PEnv} {i k : Nat} {xs : List Itm} {ys : List PyData} {n : Int} {d : PyData} {C : PK} (h : e[i]? = some (.pnd xs)) (h2 : xs[k]? = some (.l ys)) (h3 : atI ys n = some d) (c : C (.dat d) e) : pIx e (.sub i k) (.dat (.int n)) C := by
  unfold pIx
  rw [itemsOf_sub h h2]
  exact ⟨d, h3, c⟩
/-- len(xs), xs with lists in it -/
def mLenB (ps : List Cel) (env : PEnv) (C : PK) : Prop := match ps with
  | [.bor s] => (match env[s]? with
    | some (.box xs) => C (.dat (.int xs.length)) env
    | _ => False)
  | _ => False
theorem lc_lenB {K : PySem.W.Frag} {G : Gam} : LiftC K G (rLenP K) mLenB := by
  intro Z H σ env T vs ps C Q s l h k
  unfold mLenB at h
  split at h
  · next i =>
    obtain ⟨v, rfl, S⟩ := one_arg s l
    split at h
    · next xs e2 =>
      obtain ⟨e1, _⟩ := S.bo _ List.mem_cons_self i rfl
      obtain ⟨ov, e4, a, ws, e5, k1, k2, _⟩ := S.sl i _ e2
      rw [e1] at e4
      cases e4
      cases e5
      exact .inl ⟨a, ws, rfl, .inl (SqL.of k1), by rw [k2.len]; exact k _ _ _ _ h ⟨Z, S.pop.dat rfl⟩⟩
    · exact h.elim
  · exact h.elim

/-! ### sorted(set(..)) of ints, any number of them -/
section
variable {P : Program} {w : World} {A : Around} {E : Value → Shared → Prop} {s : Shared} {a : Addr}
theorem sort_set_all {S : Int → Bool} {n : Nat} {Q : Value → Shared → Prop} (R : SetR w s.heap a S n) (hh : A.handled = none)
    (hQ : ∀ (s' : Shared) (p : Addr) (out : List Value) (c : Nat) (ns : List Int), (∀ b o, s.heap.get? b = some o → s'.heap.get? b = some o) → s'.gens = s.gens → s'.os = s.os → s.heap.objs.size ≤ p → s'.heap.get? p = some (seqObj "list" out.toArray c) → IntsAre out ns → ns.Pairwise (· < ·) → (∀ k, k ∈ ns ↔ S k = true) → ns.length = n → n ≤ sizeLine → Q (.ref p) s') : wpAny (model P w) A (call (.builtin "sorted") [.ref a]) Q E s := by
  obtain ⟨o, es, ep, t, ho, hex, hd, g, nd, hm, hb, hf, hn, hr, hl⟩ := R
  refine Calls.call_function_entry kind_sorted plain_sorted entry_sorted (args_sorted1 _) ?_
  unfold Builtin.«sorted»
  refine wpAny_bind (m := checkCount "sorted" 1 1 _) (wpAny_pure ?_)
  refine wpAny_bind (collect_set (A := A.in1) hh ⟨o, ho, hex.1, hd⟩ hf hb hr hl fun s1 vs k1 hz g1 o1 pm => ?_)
  have len : vs.length = n := pm.length_eq.trans (by rw [List.length_map, Array.length_toList]; exact hn)
  have small : n ≤ sizeLine := by rw [sizeLine_eq]; unfold scanBound at hb; omega
  have allI : ∀ v ∈ vs, ∃ k t, v = Value.int k t := fun v hv => by
    obtain ⟨e, he, q⟩ := List.mem_map.mp (pm.mem_iff.mp hv)
    obtain ⟨k, tk, h1, _⟩ := g e he
    exact ⟨k, tk, q.symm.trans h1⟩
  have hI := SrtO.ints_iv allI
  have keys : (vs.map SrtO.iv).Perm (es.toList.map keyOf) := by
    have q := pm.map SrtO.iv
    rw [List.map_map] at q
    refine q.trans (List.Perm.of_eq (List.map_congr_left fun e he => ?_))
    obtain ⟨k, tk, h1, h2⟩ := g e he
    show SrtO.iv e.2 = (match e.2 with | .int k _ => k | _ => 0)
    rw [h1]
    rfl
  refine wpAny_bind (wpAny_newList ?_ (by rw [len]; exact small))
  have at_ : (s1.heap.push (seqObj "list" vs.toArray 0)).get? s1.heap.objs.size = some (seqObj "list" vs.toArray 0) := Heap.get?_push_size _ rfl
  refine wpAny_bind (wpAny_holding (wpAny_call_entry slot_list_sort ⟨_, at_, rfl⟩ entry_list_sort (SrtO.list_sort_ord SrtO.swo_int at_ (by rw [len]; exact small) (fun h2 => SrtO.ints_sortable hI h2) fun out a1 a2 => ⟨_, rfl, ?_⟩) (args_list_sort _)))
  obtain ⟨b1, b2, b3⟩ := SrtO.ints_out hI a1 a2
  obtain ⟨c, hc⟩ := sortedHeap_at (vs := vs) (out := out.toArray) at_
  have pn := b2.trans keys
  refine wpAny_pure ⟨_, rfl, hQ _ s1.heap.objs.size out c (out.map SrtO.iv) (fun b u e => ?_) g1 o1 hz hc b1 (lt_of_le_nodup _ b3 (pn.nodup_iff.mpr nd)) (fun k => by rw [pn.mem_iff, ← hm k]) (pn.length_eq.trans (by rw [List.length_map, Array.length_toList]; exact hn)) small⟩
  have q := k1 b u e
  have hlt := Heap.lt_size q
  refine (sortedHeap_old (Nat.ne_of_lt hlt) (by rw [size_push']; exact Nat.lt_succ_of_lt hlt)).trans (Heap.get?_push_of_some _ q)
end
section
variable {X : Cx}
def rSortedAll (w : World) : List V → Hp → VK → Prop := fun vs H Q => ∃ (a : Addr) (S : Int → Bool) (n : Nat), vs = [V.ref a] ∧ H a = some (SetO w a S n) ∧
  ∀ (ns : List Int) (p : Addr), ns.Pairwise (· < ·) → (∀ k : Int, k ∈ ns ↔ S k = true) → ns.length = n → H p = none → Q (.ref p) (upd H p (.lst (ns.map V.int)))
theorem cr_sortedAll (hc : X.calm = true) : CallR X (.builtin "sorted") (rSortedAll X.w) := by
  intro pins s σ H vs us Q I r h
  obtain ⟨a, S, n, rfl, ha, q⟩ := h
  rw [Vals.ref1 r]
  refine sort_set_all (setO_get I ha) (I.ok.hd hc) fun s' p out c ns k g o hp hg hi hs hm hl hz => ?_
  have hn : H p = none := I.hok.fresh hp
  have J : Inv X pins σ (upd H p (.lst (ns.map V.int))) { s with heap := s'.heap, gens := s'.gens, drawn := s'.drawn, toks := s'.toks } :=
    I.call (ch := []) (Un.laid k hp hn) (I.hok.laid k hp ⟨by rw [List.length_map, hl]; exact hz, out, c, vals_of_ints hi, hg⟩) (by rw [g]; exact I.bare) (fun _ z => nomatch z)
  rw [GxR.sh_eta s s' o] at J
  exact ⟨.ref p, _, J, rfl, q ns p hs hm hl hn⟩
end
def pSortAll (g : PAs) : PEx := fun env C => g env fun ps e => match ps with
  | [p] => match itemsOf e p with
    | some ds => ∃ ns : List Int, ds = ns.map .int ∧ ns.length ≤ 1000 ∧ ∀ hs : List Int, hs.Pairwise (· < ·) → (∀ k, k ∈ hs ↔ k ∈ ns) → hs.length ≤ ns.length → C (.own (hs.map .int)) e
    | none => False
  | _ => False
section
variable {X : Cx} {G : Gam} {e : Expr} {g : PAs}
theorem pe_sortAllP (h : PE X e (tCB (rSortedAll X.w) (tCons (tCB (rSetAny X.K X.w) (tA X.K G g)) tNil))) : PE X e (tE X.K G (pSortAll g)) := h.le fun σ H Q ⟨env, T, C, s, h, k⟩ => ⟨env, T, _, s, h, fun ps e1 vs H1 h1 l1 ⟨Z, s1⟩ => by
  split at h1
  · obtain ⟨v, rfl, S⟩ := one_arg s1 l1
    split at h1
    · next ds ed =>
      obtain ⟨ns, rfl, hn, hc⟩ := h1
      obtain ⟨a, us, rfl, ha, hx⟩ := S.seq List.mem_cons_self ed
      have := ints_da hx
      subst this
      have go : ∀ (b : Addr) (c : Nat), H1 b = none → c ≤ ns.length → rSortedAll X.w [.ref b] (upd H1 b (SetO X.w b (fun j => decide (j ∈ ns)) c)) Q := fun b c hb hcn => ⟨b, _, c, rfl, upd_same, fun hs p h1 h2 h3 hp => by
        refine k _ _ _ _ (hc hs h1 (fun k => ?_) (by omega)) ⟨Z, (S.pop.alloc _ hb).newLst hp (da_ints hs)⟩
        rw [h2 k, decide_eq_true_iff]⟩
      rcases ha with ha | ha
      · exact .inl ⟨a, ns, rfl, ha, by omega, go⟩
      · exact .inr ⟨a, ns, rfl, ha, by omega, go⟩
    · exact h1.elim
  · exact h1.elim⟩
end

/-! ### dict comprehensions; len of a dict -/
inductive DcOk (items : List PyData) (e : PEnv) (g : PTg) (t : PTst) (fk fv : PEx) (vs : List Nat) (C : PK) : Prop where
  | mk (hf : fgtB e vs = true) (W : Nat → PEnv → List (Key × PyData) → Prop) (w0 : W 0 (wipeP e vs) []) (turn : ∀ j x e2 kvs, items[j]? = some x → W j e2 kvs → g x (wipeP e2 vs) fun e3 => t e3 fun b e4 => IfP b (fk e4 fun pk e5 => fv e5 fun pv e6 => match pk, pv with
      | .dat dk, .dat dv => (match keyP dk with
        | some k => kvs.length < sizeLine ∧ W (j + 1) (wipeP e6 vs) (putD kvs k dv)
        | none => False)
      | _, _ => False) (W (j + 1) (wipeP e4 vs) kvs)) (fin : ∀ e2 kvs, W items.length e2 kvs → C (.dic kvs) (wipeP e2 vs))
def pDc (it : PIt) (g : PTg) (t : PTst) (fk fv : PEx) (vs : List Nat) : PEx := fun env C => it env fun items e => DcOk items e g t fk fv vs C
def mLenD (ps : List Cel) (env : PEnv) (C : PK) : Prop := match ps with
  | [.bor s] => (match env[s]? with
    | some (.dic kvs) => C (.dat (.int kvs.length)) env
    | _ => False)
  | _ => False
theorem lc_lenD {K : PySem.W.Frag} {G : Gam} : LiftC K G (fun xs H Q => ∃ a kvs, xs = [V.ref a] ∧ H a = some (.dK kvs) ∧ Q (.int kvs.length) H) mLenD := by
  intro Z H σ env T vs ps C Q s l h k
  unfold mLenD at h
  split at h
  · next i =>
    obtain ⟨v, rfl, S⟩ := one_arg s l
    split at h
    · next kvs e2 =>
      obtain ⟨_, a, ws, rfl, ha, hk, _⟩ := S.dicB List.mem_cons_self e2
      exact ⟨a, ws, rfl, ha, by rw [hk.len]; exact k _ _ _ _ h ⟨Z, S.pop.dat rfl⟩⟩
    · exact h.elim
  · exact h.elim
section
variable {K : PySem.W.Frag} {G : Gam} {Z : Addr → Prop} {H : Hp} {σ : L2.St} {env : PEnv} {T : Stk}
/-- a dict on top of the stack is written -/
theorem StZ.wrD {a : Addr} {xs ys : List (Key × PyData)} {us vs : List (Key × V)} (s : StZ K G Z H σ env ((.ref a, .dic xs) :: T)) (hv : H a = some (.dK vs)) (h : KvAll K Z H ys us) : StZ K G Z (upd H a (.dK us)) σ env ((.ref a, .dic ys) :: T) := by
  obtain ⟨a', ws, e, h1, h2, h3, h4⟩ := s.tm _ (List.mem_cons_self)
  cases e
  have no : ¬ OwnA H σ env T a := s.topSep (t := (.ref a, .dic xs)) List.mem_cons_self
  have m : Mv K Z H Z (upd H a (.dK us)) := Mv.ofW (fun b => b = a) (fun b o e n => upd_else e n) (fun b e => by subst e; exact ⟨_, hv, .inr (.inl ⟨vs, rfl⟩), h3⟩) fun _ z => z
  have s2 : StZ K G Z (upd H a (.dK us)) σ env T := s.pop.move m (fun b ws ob e => upd_else e fun z => no (z ▸ ob)) (fun b ob => by obtain ⟨_, _, _, n⟩ := s.pop.own_any ob; exact n) (fun _ z => z) (fun _ z => .inl z) (fun b z => upd_some (s.z3 b z))
    (fun b u e e0 _ _ _ => upd_else e fun z => by rw [z, h4] at e0; cases e0) (fun b e => upd_some e) fun d c e => by
      obtain ⟨n1, n2⟩ := s.gok.ne (.inl h4) e
      exact (s.dr d c e).else n1 n2
  refine s2.push ⟨a, us, rfl, upd_same, KvAll.mv m _ _ h, h3, h4⟩ (fun _ e => by cases e) (fun _ _ e => by cases e) (fun _ e => by cases e) fun b o ob => ?_
  rw [List.mem_singleton.mp o] at ob
  refine no ?_
  rcases ob with ⟨i, ov, q, e1, e2, hb⟩ | ⟨t, ht, hb⟩
  · obtain ⟨ov', e3, ok⟩ := s.sl i q e2
    rw [e1] at e3
    cases e3
    have kp := (ok.mv m (fun b us' hb e => upd_else e fun z => no (.inl ⟨i, ov, q, e1, e2, z ▸ hb⟩)) fun b hb => (ok.own hb).2.1).2
    rw [kp] at hb
    exact .inl ⟨i, ov, q, e1, e2, hb⟩
  · have ok := s.pop.tm t ht
    have kp := (ok.mv m (fun b us' hb e => upd_else e fun z => no (.inr ⟨t, ht, z ▸ hb⟩)) fun b hb => (ok.own hb).2.1).2
    unfold OwnT at hb
    rw [kp] at hb
    exact .inr ⟨t, ht, hb⟩
end
section
variable {X : Cx} {G : Gam} {e : Expr} {it : PIt} {g : PTg} {t : PTst} {fk fv : PEx} {vs : List Nat}
theorem dcP (σ : L2.St) (H : Hp) (Q : VK) (h : tE X.K G (pDc it g t fk fv vs) σ H Q) : tDc (tI X.K G it) (tG X.K G (some vs) g) (tQ X.K G t) (tE X.K G fk) (tE X.K G fv) vs σ H Q := by
  obtain ⟨env, T, C, s, h, k⟩ := h
  refine ⟨env, T, _, s, h, fun items e1 u H1 J h1 nbt ⟨Z1, s1⟩ wk => ?_⟩
  obtain ⟨hf, W, w0, turn, fin⟩ := h1
  intro D hD
  have nbv := s1.fgtB hf
  have sD := s1.newDic hD
  have nbA : ∀ acc, ∀ v ∈ vs, ∀ t ∈ ((V.ref D, Cel.dic acc) :: u :: T), t.2 ≠ Cel.bor v ∧ ∀ k, t.2 ≠ Cel.sub v k := fun acc v hv t ht => by
    rcases List.mem_cons.mp ht with rfl | ht
    · exact ⟨(fun z => by cases z), fun k z => by cases z⟩
    · exact nbv v hv t ht
  have ww : wipe (wipe σ vs) vs = wipe σ vs := wipe_wipe vs fun _ h => h
  refine ⟨fun i m H => m = items.length - i ∧ i ≤ items.length ∧ ∃ env acc, W i env acc ∧ StE X.K G H (wipe σ vs) (wipeP env vs) ((.ref D, .dic acc) :: u :: T), ⟨_, rfl, Nat.zero_le _, wipeP e1 vs, [], w0, Z1, ?_⟩, ?_⟩
  · exact StZ.wipeA (StZ.wipeS (nbA []) (StZ.wipeS (nbA []) sD))
  · rintro i m H2 ⟨rfl, hi, e2, acc, w2, Z2, s2⟩
    obtain ⟨go, stop⟩ := wk Z2 H2 _ _ _ s2 (List.mem_cons_of_mem _ List.mem_cons_self)
    by_cases hlt : i < items.length
    · obtain ⟨g1, g2⟩ := go i _ (List.getElem?_eq_getElem hlt)
      refine .inr ⟨g1, fun H => ∃ env acc, W (i + 1) env acc ∧ StE X.K G H (wipe σ vs) (wipeP env vs) ((.ref D, .dic acc) :: u :: T), fun H' x => ⟨items.length - (i + 1), by omega, rfl, hlt, x⟩, fun x H3 y => ?_⟩
      refine ⟨wipeP e2 vs, (.ref D, .dic acc) :: u :: T, _, _, (fun z => by cases z), ⟨Z2, g2 x H3 y⟩, turn i _ e2 acc (List.getElem?_eq_getElem hlt) w2, fun e3 σ3 H3 h3 s3 hw => ?_⟩
      have hw3 : wipe σ3 vs = wipe σ vs := (hw vs rfl).trans ww
      refine ⟨hw3, e3, _, _, s3, h3, fun b e4 H4 h4 s4 => ?_⟩
      have back : ∀ {Z H5 e5 acc'}, StZ X.K G Z H5 σ3 e5 ((.ref D, .dic acc') :: u :: T) → StE X.K G H5 (wipe σ vs) (wipeP (wipeP e5 vs) vs) ((.ref D, .dic acc') :: u :: T) := fun {Z H5 e5 acc'} s5 => by
        have s6 := (StZ.wipeS (nbA acc') (StZ.wipeS (nbA acc') s5)).wipeA
        rw [hw3] at s6
        exact ⟨Z, s6⟩
      cases b with
      | true =>
        refine ⟨e4, _, _, s4, h4.tt, fun pk e5 kv H5 h5 s5 => ⟨e5, _, _, s5, h5, fun pv e6 v H6 h6 ⟨Z6, s6⟩ => ?_⟩⟩
        cases pk with
        | dat dk =>
          cases pv with
          | dat dv =>
            cases kd : keyP dk with
            | some k =>
              have h6 : acc.length < sizeLine ∧ W (i + 1) (wipeP e6 vs) (putD acc k dv) := by
                simpa only [kd] using h6
              have ek := keyP_da kd s6.pop.topDat
              obtain ⟨a, ws, e7, k1, k2, _⟩ := s6.pop.pop.tm _ List.mem_cons_self
              cases e7
              exact ⟨ws, k, ek, k1, by rw [k2.len]; exact h6.1, wipeP e6 vs, putD acc k dv, h6.2, back (s6.pop.pop.wrD k1 (KvAll.put s6.topDat k2))⟩
            | none =>
              have h6 : False := by simpa only [kd] using h6
              exact h6.elim
          | _ => exact h6.elim
        | _ => cases pv <;> exact h6.elim
      | false =>
        obtain ⟨Z4, s4⟩ := s4
        exact ⟨_, _, h4.ff, back s4⟩
    · have e : i = items.length := by omega
      subst e
      exact .inl ⟨stop, k _ _ _ _ (fin e2 acc w2) ⟨Z2, s2.wipeB.sub (List.Sublist.cons_cons _ (List.sublist_cons_self _ _))⟩⟩
theorem pe_dcP (h : PE X e (tDc (tI X.K G it) (tG X.K G (some vs) g) (tQ X.K G t) (tE X.K G fk) (tE X.K G fv) vs)) : PE X e (tE X.K G (pDc it g t fk fv vs)) := h.le dcP
end

/-! ### not x, by truth -/
def pNotT (fa : PEx) : PEx := fun env C => fa env fun p e => match truth e p with
  | some b => C (.dat (.bool (!b))) e
  | none => False
theorem pe_notTP {X : Cx} {G : Gam} {a : Expr} {pos : Pos} {fa : PEx} (ha : PE X a (tE X.K G fa)) : PE X (.UnaryOp .Not a pos) (tE X.K G (pNotT fa)) := (pe_notT ha).le fun σ H Q ⟨env, T, C, s, h, k⟩ => ⟨env, T, _, s, h, fun p e1 v H1 h1 ⟨Z, s1⟩ => by
  split at h1
  · next b eb =>
    refine ⟨b, ?_, k _ _ _ _ h1 ⟨Z, s1.pop.dat rfl⟩⟩
    have go : (itemsOf e1 p).map (fun ds => !ds.isEmpty) = some b → TruV X.K v H1 b := fun eb => by
      obtain ⟨ds, e2, rfl⟩ := Option.map_eq_some_iff.mp eb
      obtain ⟨a, vs, rfl, ha, hx⟩ := s1.seq List.mem_cons_self e2
      have : vs.isEmpty = ds.isEmpty := by
        have := hx.len
        cases vs <;> cases ds <;> first | rfl | cases this
      rcases ha with ha | ha
      · exact .inl ⟨vs, ha, by rw [this]⟩
      · exact .inr (.inl ⟨vs, ha, by rw [this]⟩)
    unfold truth at eb
    split at eb
    · have := s1.topDat
      cases this
      cases eb
      exact rfl
    · have := s1.topDat
      cases this
      cases eb
      exact rfl
    · have := s1.topDat
      cases this
      cases eb
      exact rfl
    · exact go eb
  · exact h1.elim⟩

/-! ### a tuple times 1 or more -/
theorem tuple_mul1 (l : Addr) (items : Array Value) (n : Nat) (dd : Option Addr) (sl : Array (Option Value)) (u : Tok) :
    Meets (Builtin.«tuple.__mul__» ⟨[.ref l, .int 1 u], []⟩) (fun _ R s => s.heap.get? l = some { cls := .type "tuple", dict := dd, data := .seq items n, slots := sl } ∧
      R (.ok (.ret (Value.ref l))) s) :=
  .of_wp fun prog w A R s h => by
    obtain ⟨hp, g, d, tk, os⟩ := s
    obtain ⟨hl, h⟩ := h
    have f1 := AutoSeq1.idx_int
    wp_walk using wpAny_loadPart' hl
    exact ⟨_, rfl, h⟩
def rRepT1 (K : PySem.W.Frag) : R2 := fun x y H Q => ∃ l xs, x = .ref l ∧ y = .int 1 ∧ SqT K H l xs ∧ Q (.ref l) H
theorem op_repT1 {X : Cx} : OpR X (binaryOp .Mult) (rRepT1 X.K) := by
  intro pins s σ H x y v u Q I rx ry h
  obtain ⟨l, xs, rfl, rfl, hT, q⟩ := h
  cases rx
  obtain ⟨t, rfl⟩ := ry
  obtain ⟨its, r, ⟨⟨cls, dd, data, sl⟩, ho, hc, n, hd⟩, hs⟩ := I.tuple hT
  simp only at hc hd
  subst hc hd
  refine wpAny_binaryOp_repeat_ref (T := "tuple") (U := "int") (by decide) ⟨_, ho, rfl⟩ (fun s' => typeIs_int s' 1 t) noFill_tuple_mul F.fills_int_mul F.slot_int_rmul repeat_tuple F.slot_int_index.lookup
    (call_meets F.slot_int_rmul (typeIs_int s 1 t) F.entry_int_rmul (F.args_int_rmul_2 _ _) (int_rmul_tuple 1 t l its.toArray n dd sl)
      ⟨ho, rfl, ⟨_, ho, rfl⟩, call_meets F.slot_tuple_mul ⟨_, ho, rfl⟩ F.entry_tuple_mul (F.args_tuple_mul_2 _ _) (tuple_mul1 l its.toArray n dd sl t) ⟨ho, ?_⟩⟩)
  exact ⟨.ref l, H, I, rfl, q⟩
def pMulT : POp := fun env pa pb C => match pa, pb with
  | .dat (.tuple ds), .dat (.int k) => ds ≠ [] ∧ 1 ≤ k ∧ k ≤ 1000 ∧ ds.length ≤ 1000 ∧ C (.dat (.tuple (List.replicate k.toNat ds).flatten)) env
  | _, _ => False
theorem li_mulT {K : PySem.W.Frag} {G : Gam} : LiftO K G (fun x y H Q => rRepT K x y H Q ∨ rRepT1 K x y H Q) pMulT := by
  intro Z H σ env T x y pa pb C Q s h k
  unfold pMulT at h
  split at h
  · next ds i =>
    obtain ⟨ne, k1, k2, ld, h⟩ := h
    have h1 := s.topDat
    cases h1
    have h2 := s.pop.topDat
    obtain ⟨a, vs, rfl, ha, hx⟩ := h2
    by_cases e : i = 1
    · subst e
      have e2 : (List.replicate (1 : Int).toNat ds).flatten = ds := by
        show (List.replicate 1 ds).flatten = ds
        simp
      rw [e2] at h
      exact .inr ⟨a, vs, rfl, rfl, ha, k _ _ _ _ h ⟨Z, s.pop.pop.dat ⟨a, vs, rfl, ha, hx⟩⟩⟩
    · refine .inl ⟨a, i, vs, rfl, rfl, ha, (fun z => ne ?_), by omega, k2, by rw [hx.len]; exact ld, fun p hp => k _ _ _ _ h ⟨Z, s.pop.pop.newTup hp (rep_da hx _)⟩⟩
      have := hx.len
      rw [z] at this
      exact List.eq_nil_of_length_eq_zero this.symm
  · exact h.elim
theorem op_mulT {X : Cx} : OpR X (binaryOp .Mult) (fun x y H Q => rRepT X.K x y H Q ∨ rRepT1 X.K x y H Q) := opr_or op_repT op_repT1

/-! ### collect of a list or a tuple -/
section
variable {P : Program} {w : World} {A : Around} {E : Value → Shared → Prop} {s : Shared}
theorem collect_seqX {l : Addr} {T : String} {o : Obj} {xs : Array Value} {n : Nat} {Q : List Value → Shared → Prop} (hT : T = "list" ∨ T = "tuple") (ho : s.heap.get? l = some o) (hc : o.cls = .type T) (hd : o.data = .seq xs n) (hsz : xs.size ≤ sizeLine)
    (hQ : ∀ h', h'.objs.size = s.heap.objs.size + 1 → (∀ b u, s.heap.get? b = some u → h'.get? b = some u) → Q xs.toList { s with heap := h' }) : wpAny (model P w) A (collect (.ref l)) Q E s := by
  have at0 : (s.heap.push (seqObj "list" #[] 0)).get? s.heap.objs.size = some (seqObj "list" #[] 0) := Heap.get?_push_size _ rfl
  have at1 := Heap.get?_update_self (Obj.mapSeq (· ++ xs)) at0 rfl
  unfold collect
  refine wpAny_bind (wpAny_runValue (codeAny_builtin F.entry_proto_collect ?_))
  rw [Around.under_plainId F.plain_proto_collect _]
  refine wpAny_bind (wpAny_newObj_type (wpAny_pure ⟨plainId_quiet F.plain_list_iadd _, codeAny_builtin F.entry_list_iadd ?_⟩))
  rw [Around.under_plainId F.plain_list_iadd _]
  have last : wpAny (model P w) A (load s.heap.objs.size >>= fun u => match u.data with
      | Data.seq ys _ => pure ys.toList
      | _ => unsupported "internal:collect") Q E { s with heap := (s.heap.push (seqObj "list" #[] 0)).update s.heap.objs.size (Obj.mapSeq (· ++ xs)) } := by
    refine wpAny_bind (wpAny_load at1 (wpAny_pure ?_))
    have e : ((#[] : Array Value) ++ xs).toList = xs.toList := by simp
    show Q ((#[] : Array Value) ++ xs).toList _
    rw [e]
    exact hQ _ (by rw [Heap.size_update, size_push']) fun b u hb => (Heap.get?_update_other _ _ (Nat.ne_of_gt (Heap.lt_size hb))).trans (Heap.get?_push_of_some _ hb)
  refine wpAny_mono (wpAny_extend_seq (hsz := hsz) (A := A) (R := fun r s' => r = .ok (.ret (.ref s.heap.objs.size)) ∧ s' = { s with heap := (s.heap.push (seqObj "list" #[] 0)).update s.heap.objs.size (Obj.mapSeq (· ++ xs)) }) (s := { s with heap := s.heap.push (seqObj "list" #[] 0) }) _ l _ 0 hT at0 (Heap.get?_push_of_some _ ho) hc hd ⟨rfl, rfl⟩) (fun fin s' h => ?_) (fun e s' h => ?_)
  · cases fin with
    | done f =>
      obtain ⟨z, rfl⟩ := h
      cases z
      exact last
    | again c' => exact ⟨h.1, codeAny_mono h.2 fun r s2 hr => by
        obtain ⟨rfl, rfl⟩ := hr
        exact last⟩
  · exact absurd h.1 (by simp)
end

/-! ### tables: an entry read, a function called; bits; defaults and keywords -/
def scD : V → Option PyData
  | .non => some .none
  | .int i => some (.int i)
  | .bl b => some (.bool b)
  | .str s => some (.str s)
  | _ => none
def pTabIx (tab : List (Str × V)) (f : PEx) : PEx := fun env C => f env fun p e => ∃ w v x, p = .dat (.str w) ∧ (w, v) ∈ tab ∧ scD v = some x ∧ C (.dat x) e
theorem scD_da {K : PySem.W.Frag} {Z : Addr → Prop} {H : Hp} {v : V} {x : PyData} (h : scD v = some x) : Da K Z H x v := by
  unfold scD at h
  split at h <;> first | (cases h; rfl) | cases h
theorem pe_tabIxP {X : Cx} {G : Gam} {e : Expr} {D : Addr} {tab : List (Str × V)} {f : PEx} (kd : ∀ q ∈ tab, KDct X.K X.w D q.1 q.2) (h : PE X e (tOp (rIxD X.K X.w) (tC (.ref D)) (tE X.K G f))) : PE X e (tE X.K G (pTabIx tab f)) :=
  h.le fun σ H Q ⟨env, T, C, s, h, k⟩ => ⟨env, T, _, s, h, fun p e1 v H1 ⟨w, u, x, e2, hm, hx, hc⟩ ⟨Z, s1⟩ => by
    subst e2
    have := s1.topDat
    cases this
    exact ⟨D, w, u, rfl, rfl, kd _ hm, k _ _ _ _ hc ⟨Z, s1.pop.dat (scD_da hx)⟩⟩⟩
def FnLk (K : PySem.W.Frag) (f : Addr) (fd : FuncData) : Prop := ∃ oc od osl, List.lookup f K = some ⟨oc, od, .func fd, osl⟩
theorem fnLk {K : PySem.W.Frag} {x qual : Str} {params : Arguments} {body : List Stmt} {scope : Scope} {dvs : List V} {kws : List (Str × V)} {f : Addr} {fd : FuncData} (F : FunD K x qual params body scope dvs kws f fd) : FnLk K f fd := by
  obtain ⟨oc, od, dV, kV, doc, pm, an, cdv, ct, osl, rfl, lk, _⟩ := F.ex
  exact ⟨oc, od, osl, lk⟩
structure FnAt (P : Program) (w : World) (K : PySem.W.Frag) (mg : Str → Option Value) (base : Heap) (k : Nat) (tbs : List Addr) (n : Nat) (ps : List Str) (D : Addr) (z : Str) (R : PR) : Prop where
  ex : ∃ f fd j, KDct K w D z (.ref f) ∧ FnLk K f fd ∧ PySem.W.keepIn K (.ref f) = true ∧ j ≤ k ∧ FnOk P w K mg base CX0 j f fd ps (spP K tbs n R) ∧ L2.Binds K fd ps []
def allSp (P : Program) (w : World) (K : PySem.W.Frag) (mg : Str → Option Value) (base : Heap) (k : Nat) (ps : List Str) (f : Addr) : Sp := fun vs H Q E => ∃ fd j sp, FnLk K f fd ∧ j ≤ k ∧ FnOk P w K mg base CX0 j f fd ps sp ∧ sp vs H Q E
open Classical in
noncomputable def allS (P : Program) (w : World) (K : PySem.W.Frag) (mg : Str → Option Value) (base : Heap) (k : Nat) (ps : List Str) : Addr → Option Sp := fun f =>
  if ∃ fd, FnLk K f fd ∧ PySem.W.keepIn K (.ref f) = true ∧ L2.Binds K fd ps [] then some (allSp P w K mg base k ps f) else none
theorem allS_held {P : Program} {w : World} {K : PySem.W.Frag} {mg : Str → Option Value} {base : Heap} {k : Nat} {ps : List Str} : ∀ f sp, allS P w K mg base k ps f = some sp → Held P w K mg base k f sp := by
  intro f sp h
  unfold allS at h
  split at h
  · next hx =>
    obtain ⟨fd, lk, kp, b⟩ := hx
    cases h
    refine ⟨⟨fd, ps, ⟨fun vs H Q E ⟨_, _, _, _, _, F, h⟩ => F.len _ _ _ _ h, fun A outer s H args us vs Q E hr he hb hv ⟨fd', j, sp, lk', hj, F, h⟩ => ?_⟩, kp, b⟩⟩
    have e : fd' = fd := by
      obtain ⟨_, _, _, l1⟩ := lk
      obtain ⟨_, _, _, l2⟩ := lk'
      rw [l1] at l2
      cases l2
      rfl
    subst e
    exact F.run A outer s H args us vs Q E (hr.mono hj) he hb hv h
  · cases h
def pFn (i n : Nat) (F : Str → Option PR) (fk : PEx) (g : PAs) : PSt := fun E env => fk env fun p e => ∃ z R, p = .dat (.str z) ∧ F z = some R ∧ i < e.length ∧ g (e.set i .no) fun ps e' => match asOf e' ps, (borOk ps && ps.length == n) with
  | some as, true => R as fun r as' => E.rt r (putB e' ps as')
  | _, _ => False
theorem pss_fnP {X : Cx} {G : Gam} {st1 st2 : Stmt} {tbs : List Addr} {k i n : Nat} {ps : List Str} {D : Addr} {F : Str → Option PR} {fk : PEx} {g : PAs} (hG : G.tbs = tbs)
    (hF : ∀ z R, F z = some R → FnAt X.prog X.w X.K X.mg X.base k tbs n ps D z R)
    (h1 : PS X st1 (tAsg (tOp (rIxD X.K X.w) (tC (.ref D)) (tE X.K G fk)) (gName i)))
    (h2 : PS X st2 (tRet (tCallA i (allS X.prog X.w X.K X.mg X.base k ps) (tA X.K G g)))) : PSs X [st1, st2] (tS X.K G (pFn i n F fk g)) := (pss_cons h1 (pss_one h2)).le fun D' σ H ⟨env, T, E, nb, s, h, kk⟩ =>
  ⟨env, T, _, s, h, fun p e1 v H1 ⟨z, R, e2, hz, hi, hc⟩ ⟨Z, s1⟩ => by
    subst e2
    obtain ⟨f, fd, j, kd, lk, kp, hj, Fo, hb⟩ := (hF z R hz).ex
    have := s1.topDat
    cases this
    refine ⟨D, z, .ref f, rfl, rfl, kd, ?_⟩
    have s2 : StZ X.K G Z H1 (σ.set i (some (.ref f))) (e1.set i .no) T := s1.pop.put hi trivial (fun _ z => by cases z) (fun t ht => nb t ht i) fun a ha => by cases ha
    have hs : i < σ.length := by
      obtain ⟨ov, e, _⟩ := s1.sl i _ (List.getElem?_eq_getElem hi)
      exact (List.getElem?_eq_some_iff.mp e).1
    refine ⟨f, allSp X.prog X.w X.K X.mg X.base k ps f, List.getElem?_set_self hs, if_pos ⟨fd, lk, kp, hb⟩, e1.set i .no, T, _, ⟨Z, s2⟩, hc, fun qs e2 vs H2 h2 l2 ⟨Z2, s3⟩ => ?_⟩
    split at h2
    · next as ha hb' =>
      rw [Bool.and_eq_true] at hb'
      have hl : as.length = n := by rw [(asOf_at qs e2 as ha).1]; exact beq_iff_eq.mp hb'.2
      exact ⟨fd, j, _, lk, hj, Fo, G.dc, Z2, as, _, hl, hG ▸ args_ok s3 l2 ha hb'.1, h2, fun r as' v H' Z' hc po => kk.rt _ _ _ _ _ hc ⟨Z', call_back s3 l2 ha hb'.1 po⟩⟩
    · exact h2.elim⟩
/-! bits -/
def pBits (g : Int → Int → Int) : POp := pInt0 fun i j => .int (g i j)
theorem li_and {K : PySem.W.Frag} {G : Gam} : LiftO K G (rI0 fun i j => .int (Builtin.bitAnd i j)) (pBits Builtin.bitAnd) := li_int0
theorem li_or {K : PySem.W.Frag} {G : Gam} : LiftO K G (rI0 fun i j => .int (Builtin.bitOr i j)) (pBits Builtin.bitOr) := li_int0
theorem li_xor {K : PySem.W.Frag} {G : Gam} : LiftO K G (rI0 fun i j => .int (Builtin.bitXor i j)) (pBits Builtin.bitXor) := li_int0
/-! a call that leaves the last parameter to its default None; one that names it -/
theorem psh_snoc : ∀ (vs : List V) (ps : List Cel) (T : Stk) (v : V) (p : Cel), vs.length = ps.length → psh T (vs ++ [v]) (ps ++ [p]) = (v, p) :: psh T vs ps
  | [], [], _, _, _, _ => rfl
  | [], _ :: _, _, _, _, l => by cases l
  | _ :: _, [], _, _, _, l => by cases l
  | u :: vs, q :: ps, T, v, p, l => psh_snoc vs ps ((u, q) :: T) v p (Nat.succ.inj l)
theorem psh_app : ∀ (vs us : List V) (ps qs : List Cel) (T : Stk), vs.length = ps.length → psh T (vs ++ us) (ps ++ qs) = psh (psh T vs ps) us qs
  | [], _, [], _, _, _ => rfl
  | [], _, _ :: _, _, _, l => by cases l
  | _ :: _, _, [], _, _, l => by cases l
  | u :: vs, us, q :: ps, qs, T, l => psh_app vs us ps qs ((u, q) :: T) (Nat.succ.inj l)
/-- the call with one more argument, None -/
def pCallD (n : Nat) (R : PR) (g : PAs) : PEx := fun env C => g env fun ps e => match asOf e (ps ++ [.dat .none]), (borOk (ps ++ [.dat .none]) && (ps ++ [Cel.dat .none]).length == n) with
  | some as, true => R as fun r as' => C r (putB e (ps ++ [.dat .none]) as')
  | _, _ => False
theorem pe_callDP {X : Cx} {G : Gam} {e : Expr} {n : Nat} {R : PR} {g : PAs} {E : XK} {tbs : List Addr} (hG : G.tbs = tbs) (h : PE X e (tCall (spP X.K tbs n R) [V.non] E (tA X.K G g))) : PE X e (tE X.K G (pCallD n R g)) := h.le fun σ H Q ⟨env, T, C, s, h, k⟩ => ⟨env, T, _, s, h, fun ps e1 vs H1 h1 l1 ⟨Z, s1⟩ => by
  split at h1
  · next as ha hb =>
    rw [Bool.and_eq_true] at hb
    have hl : as.length = n := by rw [(asOf_at _ e1 as ha).1]; exact beq_iff_eq.mp hb.2
    have s2 : StZ X.K G Z H1 σ e1 (psh T (vs ++ [V.non]) (ps ++ [.dat .none])) := by
      rw [psh_snoc _ _ _ _ _ l1]
      exact s1.dat rfl
    have l2 : (vs ++ [V.non]).length = (ps ++ [Cel.dat .none]).length := by simp [l1]
    exact ⟨G.dc, Z, as, _, hl, hG ▸ args_ok s2 l2 ha hb.1, h1, fun r as' v H' Z' hc po => k _ _ _ _ hc ⟨Z', call_back s2 l2 ha hb.1 po⟩⟩
  · exact h1.elim⟩
/-- the call with keywords behind, in the parameters' order -/
def pCallN (n a b : Nat) (R : PR) (g gk : PAs) : PEx := fun env C => g env fun ps e => ps.length = a ∧ gk e fun qs e' => qs.length = b ∧ match asOf e' (ps ++ qs), (borOk (ps ++ qs) && (ps ++ qs).length == n) with
  | some as, true => R as fun r as' => C r (putB e' (ps ++ qs) as')
  | _, _ => False
theorem pe_callNP {X : Cx} {G : Gam} {e : Expr} {n a b : Nat} {R : PR} {g gk : PAs} {E : XK} {tbs : List Addr} (hG : G.tbs = tbs)
    (h : PE X e (tCallN a b (spP X.K tbs n R) (fun vs zs => vs ++ zs) E (tA X.K G g) (tA X.K G gk))) : PE X e (tE X.K G (pCallN n a b R g gk)) := h.le fun σ H Q ⟨env, T, C, s, h, k⟩ => ⟨env, T, _, s, h, fun ps e1 vs H1 ⟨a1, h1⟩ l1 s1 => ⟨e1, _, _, s1, h1, fun qs e2 us H2 ⟨a2, h2⟩ l2 ⟨Z, s2⟩ => by
  refine ⟨by rw [l1, a1], by rw [l2, a2], ?_⟩
  split at h2
  · next as hh hb =>
    rw [Bool.and_eq_true] at hb
    have hl : as.length = n := by rw [(asOf_at _ e2 as hh).1]; exact beq_iff_eq.mp hb.2
    rw [← psh_app _ _ _ _ _ l1] at s2
    have l3 : (vs ++ us).length = (ps ++ qs).length := by rw [List.length_append, List.length_append, l1, l2]
    exact ⟨G.dc, Z, as, _, hl, hG ▸ args_ok s2 l3 hh hb.1, h2, fun r as' v H' Z' hc po => k _ _ _ _ hc ⟨Z', call_back s2 l3 hh hb.1 po⟩⟩
  · exact h2.elim⟩⟩
theorem pk_consP {X : Cx} {G : Gam} {kpos : Pos} {e : Expr} {kws : List Keyword} {f : PEx} {g : PAs} {nm : Option Str} (ha : PE X e (tE X.K G f)) (hr : L2.PK X kws (tA X.K G g)) : L2.PK X ({ arg := nm, value := e, pos := kpos } :: kws) (tA X.K G (pCons f g)) :=
  ⟨fun pos pins s σ H Q I q => (pk_cons ha hr).run pos pins s σ H Q I (by
    obtain ⟨env, T, C, s, h, k⟩ := q
    exact ⟨env, T, _, s, h, fun p e1 v H1 h1 s1 => ⟨e1, (v, p) :: T, _, s1, h1, fun ps e2 vs H2 h2 l2 s2 => k (p :: ps) e2 (v :: vs) H2 h2 (congrArg Nat.succ l2) s2⟩⟩)⟩
theorem pk_nilP {X : Cx} {G : Gam} : L2.PK X [] (tA X.K G pNil) :=
  ⟨fun pos pins s σ H Q I q => (pk_nil (X := X)).run pos pins s σ H Q I (by
    obtain ⟨env, T, C, s, h, k⟩ := q
    exact k [] env [] H h rfl s)⟩
/-- a positional parameter with a default, called by its keyword -/
theorem bindsKw {K : PySem.W.Frag} {x qual : Str} {params : Arguments} {body : List Stmt} {scope : Scope} {dvs : List V} {kws : List (Str × V)} {f : Addr} {fd : FuncData} {ps : List Str} (F : FunD K x qual params body scope dvs kws f fd) (n : Nat) (ks : List Str) (hd : dvs ≠ [])
    (h : ∀ (T : Addr) (kV doc pm : Value) (an : Option Addr) (cdv ct : Value) (us its ws : List Value), us.length = n → its.length = dvs.length → ws.length = ks.length → ∃ k, bindArgs (PySem.W.fnOf x qual params body scope (.ref T) kV doc pm an cdv ct) ⟨us, ks.zip ws⟩ = seqItems? (.ref T) >>= k ∧ k (some its.toArray) = pure (ps.zip (us ++ ws))) :
    KBn K fd ps n ks (fun us ws => us ++ ws) (fun vs zs => vs ++ zs) := by
  obtain ⟨oc, od, dV, kV, doc, pm, an, cdv, ct, osl, rfl, lk, hcd, dfl, _⟩ := F.ex
  obtain ⟨z, _⟩ | ⟨_, T, o, its, m, rfl, lT, hda, hv⟩ := dfl
  · exact absurd z hd
  refine ⟨fun s us ws hK l1 l2 => ?_, fun a b => a.append b⟩
  obtain ⟨k, e1, e2⟩ := h T kV doc pm an cdv ct us its ws l1 hv.length.symm l2
  intro M A E Q hq
  rw [e1]
  refine wpAny_bind (wpAny_seqItems (hK _ _ lT) hda ?_)
  rw [e2]
  exact wpAny_pure hq
/-! a word that is not in a table; a floor division by any number -/
def pNinTab (keys nots : List Str) (f : PEx) : PTst := fun env C => f env fun p e => match p with
  | .dat (.str z) => (z ∈ keys ∧ C false e) ∨ (z ∈ nots ∧ C true e)
  | _ => False
theorem pt_ninTabP {X : Cx} {G : Gam} {e : Expr} {f : PEx} {keys nots : List Str} {d : Addr} (hk : ∀ z ∈ keys, ∃ r, PySem.W.nsIn X.K d z = some (some r)) (hn : ∀ z ∈ nots, PySem.W.nsIn X.K d z = some none)
    (h : PT X e (tTest (tOp (fun x y H Q => ∃ (z : Str) (r : Option Value), x = .str z ∧ y = .ref d ∧ PySem.W.nsIn X.K d z = some r ∧ Q (.bl (!r.isSome)) H) (tE X.K G f) (tC (.ref d))))) : PT X e (tQ X.K G (pNinTab keys nots f)) := h.le fun σ H Q ⟨env, T, C, s, h, k⟩ => ⟨env, T, _, s, h, fun p e1 v H1 h1 ⟨Z, s1⟩ => by
  split at h1
  · have := s1.topDat
    cases this
    rcases h1 with ⟨m, h1⟩ | ⟨m, h1⟩
    · obtain ⟨r, hr⟩ := hk _ m
      exact ⟨_, some r, rfl, rfl, hr, _, rfl, k _ _ _ h1 ⟨Z, s1.pop⟩⟩
    · exact ⟨_, none, rfl, rfl, hn _ m, _, rfl, k _ _ _ h1 ⟨Z, s1.pop⟩⟩
  · exact h1.elim⟩
theorem li_fdivN {K : PySem.W.Frag} {G : Gam} : LiftO K G (rI CDivN fun i j => .int (i.fdiv j)) (pInt (fun i j => .int (i.fdiv j)) CDivN) := li_int

/-! ### min and sorted of a tuple of ints -/
section
variable {P : Program} {w : World} {A : Around} {E : Value → Shared → Prop} {s : Shared}
theorem min_tup {l : Addr} {its : List Value} {ns : List Int} {Q : Value → Shared → Prop} (hh : A.handled = none) (hl : s.heap.IsTuple l its.toArray) (hi : IntsAre its ns) (hne : 0 < ns.length)
    (h : ∀ h' tk M t', (∀ b o, s.heap.get? b = some o → h'.get? b = some o) → M ∈ ns → (∀ a, a ∈ ns → M ≤ a) → Q (.int M t') { s with heap := h', toks := tk }) : wpAny (model P w) A (call (.builtin "min") [.ref l]) Q E s := by
  obtain ⟨xs, e⟩ := hi.allInts.items
  have hn : numsOf (intItems xs).toList = ns := by
    rw [← e]
    exact hi.numsOf
  rw [nums_intItems] at hn
  subst hn
  rw [e] at hl
  have hsz : 0 < xs.size := by simpa using hne
  refine call_min_walk (tup_walk (A := A.in1) hh hl fun I s2 St W st hlt back => ?_)
  refine ⟨I, [I, l], [I], _, _, St, _, rfl, W, st, hlt, by simpa [intItems] using hsz, CmpOf.ints_lt (numAt xs) (fun _ _ => intItems_at), fun v h' tk hv k => ?_⟩
  obtain ⟨h'', tk', e2, k2⟩ := back h' tk k
  rw [e2]
  have hv : (intItems xs)[argBest (fun i j => decide (numAt xs i < numAt xs j)) (xs.size - 1)]? = some v := by simpa [intItems] using hv
  obtain ⟨t, rfl⟩ := intItems_at hv
  obtain ⟨h1, h2⟩ := argBest_lt (numAt xs) (xs.size - 1)
  refine h h'' tk' _ t k2 ?_ fun a ha => ?_
  · rw [numAt_eq]
    exact PySem.getD_mem (by rw [List.length_map, Array.length_toList]; omega)
  · obtain ⟨j, hj, rfl⟩ := PySem.mem_getD ha
    rw [List.length_map, Array.length_toList] at hj
    rw [← numAt_eq]
    exact h2 j (by omega)
theorem sort_tup {a : Addr} {its : List Value} {ns : List Int} {Q : Value → Shared → Prop} (ha : s.heap.IsTuple a its.toArray) (hi : IntsAre its ns) (hz : its.length ≤ sizeLine)
    (hQ : ∀ (s' : Shared) (p : Addr) (out : List Value) (c : Nat) (ms : List Int), (∀ b o, s.heap.get? b = some o → s'.heap.get? b = some o) → s'.gens = s.gens → s'.os = s.os → s.heap.objs.size ≤ p → s'.heap.get? p = some (seqObj "list" out.toArray c) → IntsAre out ms → ms.Pairwise (· ≤ ·) → ms.Perm ns → Q (.ref p) s') : wpAny (model P w) A (call (.builtin "sorted") [.ref a]) Q E s := by
  obtain ⟨o, ho, hc, n, hd⟩ := ha
  refine Calls.call_function_entry kind_sorted plain_sorted entry_sorted (args_sorted1 _) ?_
  unfold Builtin.«sorted»
  refine wpAny_bind (m := checkCount "sorted" 1 1 _) (wpAny_pure ?_)
  refine wpAny_bind (collect_seqX (.inr rfl) ho hc hd (by rw [List.size_toArray]; exact hz) fun h1 z1 k1 => ?_)
  have allI : ∀ v ∈ its, ∃ k t, v = Value.int k t := fun v hv => by
    obtain ⟨xs, e⟩ := hi.allInts.items
    have e : its = (intItems xs).toList := by
      have := congrArg Array.toList e
      simpa using this
    rw [e] at hv
    obtain ⟨j, hj, hjv⟩ := List.mem_iff_getElem.mp hv
    have : (intItems xs)[j]? = some v := by
      rw [← Array.getElem?_toList, List.getElem?_eq_getElem hj, hjv]
    obtain ⟨t, rfl⟩ := intItems_at this
    exact ⟨_, _, rfl⟩
  have hI := SrtO.ints_iv allI
  have eN : its.map SrtO.iv = ns := by
    have h1 := hI.numsOf
    rw [hi.numsOf] at h1
    exact h1.symm
  refine wpAny_bind (wpAny_newList ?_ hz)
  have at_ : (h1.push (seqObj "list" its.toArray 0)).get? h1.objs.size = some (seqObj "list" its.toArray 0) := Heap.get?_push_size _ rfl
  refine wpAny_bind (wpAny_holding (wpAny_call_entry slot_list_sort ⟨_, at_, rfl⟩ entry_list_sort (SrtO.list_sort_ord SrtO.swo_int at_ hz (fun h2 => SrtO.ints_sortable hI h2) fun out a1 a2 => ⟨_, rfl, ?_⟩) (args_list_sort _)))
  obtain ⟨b1, b2, b3⟩ := SrtO.ints_out hI a1 a2
  obtain ⟨c, hc⟩ := sortedHeap_at (vs := its) (out := out.toArray) at_
  refine wpAny_pure ⟨_, rfl, hQ _ h1.objs.size out c (out.map SrtO.iv) (fun b u e => ?_) rfl rfl (by omega) hc b1 b3 (eN ▸ b2)⟩
  have q := k1 b u e
  have hlt := Heap.lt_size q
  refine (sortedHeap_old (Nat.ne_of_lt hlt) (by rw [size_push']; exact Nat.lt_succ_of_lt hlt)).trans (Heap.get?_push_of_some _ q)
end
section
variable {X : Cx}
def rMinT (K : PySem.W.Frag) : List V → Hp → VK → Prop := fun vs H Q => ∃ (a : Addr) (ns : List Int), vs = [V.ref a] ∧ SqT K H a (ns.map V.int) ∧ 0 < ns.length ∧ ∀ m, m ∈ ns → (∀ y, y ∈ ns → m ≤ y) → Q (.int m) H
theorem cr_minT (hc : X.calm = true) : CallR X (.builtin "min") (rMinT X.K) := by
  intro pins s σ H vs us Q I r h
  obtain ⟨a, ns, rfl, hs, hne, q⟩ := h
  obtain ⟨its, rv, hl, _⟩ := I.tuple hs
  rw [Vals.ref1 r]
  exact min_tup (I.ok.hd hc) hl rv.ints hne fun h' tk m t' hk h1 h2 => ⟨.int _, H, I.kept hk, ⟨_, rfl⟩, q m h1 h2⟩
def rSortTup (K : PySem.W.Frag) : List V → Hp → VK → Prop := fun vs H Q => ∃ (a : Addr) (ns : List Int), vs = [V.ref a] ∧ SqT K H a (ns.map V.int) ∧ ∀ (ms : List Int) (p : Addr), ms.Perm ns → ms.Pairwise (· ≤ ·) → H p = none → Q (.ref p) (upd H p (.lst (ms.map V.int)))
theorem cr_sortTup : CallR X (.builtin "sorted") (rSortTup X.K) := by
  intro pins s σ H vs us Q I r h
  obtain ⟨a, ns, rfl, ha, q⟩ := h
  rw [Vals.ref1 r]
  obtain ⟨its, rv, hl, hz⟩ := I.tuple ha
  have ln : its.length = ns.length := by rw [← rv.length, List.length_map]
  refine sort_tup hl rv.ints (by rw [ln]; simpa using hz) fun s' p out c ms k g o hp hg hi hs hm => ?_
  have hn : H p = none := I.hok.fresh hp
  have J : Inv X pins σ (upd H p (.lst (ms.map V.int))) { s with heap := s'.heap, gens := s'.gens, drawn := s'.drawn, toks := s'.toks } :=
    I.call (ch := []) (Un.laid k hp hn) (I.hok.laid k hp ⟨by rw [List.length_map, hm.length_eq]; simpa using hz, out, c, vals_of_ints hi, hg⟩) (by rw [g]; exact I.bare) (fun _ z => nomatch z)
  rw [GxR.sh_eta s s' o] at J
  exact ⟨.ref p, _, J, rfl, q ms p hm hs hn⟩
end
def mMinT (ps : List Cel) (env : PEnv) (C : PK) : Prop := match ps with
  | [p] => match itemsOf env p with
    | some ds => ∃ ns : List Int, ds = ns.map .int ∧ 0 < ns.length ∧ ∀ m, m ∈ ns → (∀ y, y ∈ ns → m ≤ y) → C (.dat (.int m)) env
    | none => False
  | _ => False
/-- sorted of a list or a tuple -/
def mSortA (ps : List Cel) (env : PEnv) (C : PK) : Prop := match ps with
  | [p] => match itemsOf env p with
    | some ds => ∃ ns : List Int, ds = ns.map .int ∧ ∀ ms : List Int, ms.Perm ns → ms.Pairwise (· ≤ ·) → C (.own (ms.map .int)) env
    | none => False
  | _ => False
section
variable {X : Cx} {K : PySem.W.Frag} {G : Gam}
def rMinA (K : PySem.W.Frag) : List V → Hp → VK → Prop := fun xs H Q => rMin K xs H Q ∨ rMinT K xs H Q
theorem call_minA (hc : X.calm = true) : CallR X (.builtin "min") (rMinA X.K) := CallR.or (cr_min hc) (cr_minT hc)
theorem lc_minT : LiftC K G (rMinA K) mMinT := by
  intro Z H σ env T vs ps C Q s l h k
  unfold mMinT at h
  split at h
  · obtain ⟨v, rfl, S⟩ := one_arg s l
    split at h
    · next ds e =>
      obtain ⟨ns, rfl, hn, h⟩ := h
      obtain ⟨a, us, rfl, ha, hx⟩ := S.seq List.mem_cons_self e
      have := ints_da hx
      subst this
      rcases ha with ha | ha
      · exact .inl ⟨a, ns, rfl, ha, hn, fun m h1 h2 => k _ _ _ _ (h m h1 h2) ⟨Z, S.pop.dat rfl⟩⟩
      · exact .inr ⟨a, ns, rfl, ha, hn, fun m h1 h2 => k _ _ _ _ (h m h1 h2) ⟨Z, S.pop.dat rfl⟩⟩
    · exact h.elim
  · exact h.elim
def rSortA (K : PySem.W.Frag) : List V → Hp → VK → Prop := fun xs H Q => rSortedI K xs H Q ∨ rSortTup K xs H Q
theorem call_sortA : CallR X (.builtin "sorted") (rSortA X.K) := CallR.or cr_sortedI cr_sortTup
theorem lc_sortA : LiftC K G (rSortA K) mSortA := by
  intro Z H σ env T vs ps C Q s l h k
  unfold mSortA at h
  split at h
  · obtain ⟨v, rfl, S⟩ := one_arg s l
    split at h
    · next ds e =>
      obtain ⟨ns, rfl, h⟩ := h
      obtain ⟨a, us, rfl, ha, hx⟩ := S.seq List.mem_cons_self e
      have := ints_da hx
      subst this
      rcases ha with ha | ha
      · exact .inl ⟨a, ns, rfl, ha, fun ns' p h1 h2 hp => k _ _ _ _ (h ns' h1 h2) ⟨Z, S.pop.newLst hp (da_ints ns')⟩⟩
      · exact .inr ⟨a, ns, rfl, ha, fun ns' p h1 h2 hp => k _ _ _ _ (h ns' h1 h2) ⟨Z, S.pop.newLst hp (da_ints ns')⟩⟩
    · exact h.elim
  · exact h.elim
end

theorem plain_of : ∀ {ds : List PyData}, (∀ d ∈ ds, plainD d = true) → plainAll ds = true
  | [], _ => rfl
  | d :: ds, h => by
    show (plainD d && plainAll ds) = true
    rw [h d List.mem_cons_self, plain_of fun e he => h e (List.mem_cons_of_mem _ he)]
    rfl
theorem depth_of {n : Nat} : ∀ {ds : List PyData}, (∀ d ∈ ds, d.depth ≤ n) → PyData.depthAll ds ≤ n
  | [], _ => Nat.zero_le _
  | d :: ds, h => by
    show max d.depth (PyData.depthAll ds) ≤ n
    exact Nat.max_le.mpr ⟨h d List.mem_cons_self, depth_of fun e he => h e (List.mem_cons_of_mem _ he)⟩

/-! ### a dict display -/
section
variable {K : PySem.W.Frag} {G : Gam} {Z : Addr → Prop} {H : Hp} {σ : L2.St} {env : PEnv} {T : Stk}
theorem StZ.wrTD {a : Addr} {xs ys : List (Key × PyData)} {us : List (Key × V)} (s : StZ K G Z H σ env ((.ref a, .dic xs) :: T)) (h : KvAll K Z H ys us) : StZ K G Z (upd H a (.dK us)) σ env ((.ref a, .dic ys) :: T) := by
  obtain ⟨a', vs, e, h1, h2, h3, h4⟩ := s.tm _ List.mem_cons_self
  cases e
  have no : ¬ ((∃ i, OwnS H σ env i a) ∨ ∃ t ∈ T, OwnT H t a) := by
    rintro (⟨i, o⟩ | ⟨t, ht, o⟩)
    · exact s.s3 i a _ o List.mem_cons_self List.mem_cons_self
    · exact List.rel_of_pairwise_cons s.s2 ht a List.mem_cons_self o
  have m : Mv K Z H Z (upd H a (.dK us)) := Mv.ofW (fun b => b = a) (fun b u e n => upd_else e n) (fun b e => by subst e; exact ⟨_, h1, .inr (.inl ⟨_, rfl⟩), h3⟩) fun _ z => z
  have s2 : StZ K G Z (upd H a (.dK us)) σ env T := s.pop.move m (fun b ws ob e => upd_else e fun z => no (z ▸ ob)) (fun b ob => by obtain ⟨_, _, _, n⟩ := s.pop.own_any ob; exact n) (fun _ z => z) (fun _ z => .inl z) (fun b z => upd_some (s.z3 b z))
    (fun b u e e0 _ _ _ => upd_else e fun z => by rw [z, h4] at e0; cases e0) (fun b e => upd_some e) fun d c e => by
      obtain ⟨n1, n2⟩ := s.gok.ne (.inl h4) e
      exact (s.dr d c e).else n1 n2
  refine s2.push ⟨a, us, rfl, upd_same, h.mv m, h3, h4⟩ (fun _ e => by cases e) (fun _ _ e => by cases e) (fun _ e => by cases e) fun b o ob => ?_
  rw [List.mem_singleton.mp o] at ob
  refine no ?_
  rcases ob with ⟨i, ov, q, e1, e2, hb⟩ | ⟨t, ht, hb⟩
  · obtain ⟨ov', e3, ok⟩ := s.sl i q e2
    rw [e1] at e3
    cases e3
    have kp := (ok.mv m (fun b us' hb e => upd_else e fun z => no (.inl ⟨i, ov, q, e1, e2, z ▸ hb⟩)) fun b hb => (ok.own hb).2.1).2
    rw [kp] at hb
    exact .inl ⟨i, ov, q, e1, e2, hb⟩
  · have ok := s.pop.tm t ht
    have kp := (ok.mv m (fun b us' hb e => upd_else e fun z => no (.inr ⟨t, ht, z ▸ hb⟩)) fun b hb => (ok.own hb).2.1).2
    unfold OwnT at hb
    rw [kp] at hb
    exact .inr ⟨t, ht, hb⟩
def PrRel (T : Stk) : List (Key × PyData) → List (Key × V) → Prop
  | [], [] => True
  | p :: kvs, w :: ws => w.1 = p.1 ∧ (w.2, Cel.dat p.2) ∈ T ∧ PrRel T kvs ws
  | _, _ => False
theorem PrRel.all (s : StZ K G Z H σ env T) : ∀ {kvs : List (Key × PyData)} {ws : List (Key × V)}, PrRel T kvs ws → KvAll K Z H kvs ws
  | [], [], _ => rfl
  | [], _ :: _, h => h.elim
  | _ :: _, [], h => h.elim
  | p :: kvs, w :: ws, ⟨e, m, h⟩ => ⟨w.2, ws, by rw [← e], s.datT m, PrRel.all s h⟩
theorem PrRel.keys : ∀ {T : Stk} {kvs : List (Key × PyData)} {ws : List (Key × V)}, PrRel T kvs ws → ws.map (·.1) = kvs.map (·.1)
  | _, [], [], _ => rfl
  | _, [], _ :: _, h => h.elim
  | _, _ :: _, [], h => h.elim
  | _, p :: kvs, w :: ws, ⟨e, _, h⟩ => by rw [List.map_cons, List.map_cons, e, PrRel.keys h]
def pPairs : List (PEx × PEx) → PEnv → (List (Key × PyData) → PEnv → Prop) → Prop
  | [], e, C => C [] e
  | f :: r, e, C => f.1 e fun pk e1 => f.2 e1 fun pv e2 => match pk, pv with
    | .dat dk, .dat d => (match keyP dk with
      | some k => pPairs r e2 fun kvs e3 => C ((k, d) :: kvs) e3
      | none => False)
    | _, _ => False
theorem pairsP : ∀ (fs : List (PEx × PEx)) (H : Hp) (env : PEnv) (T : Stk) (C : List (Key × PyData) → PEnv → Prop) (Q : List (V × V) → Hp → Prop), StE K G H σ env T → pPairs fs env C →
    (∀ (kvs : List (Key × PyData)) (env' : PEnv) (T' : Stk) (H' : Hp) (ws : List (Key × V)), C kvs env' → StE K G H' σ env' T' → T.Sublist T' → PrRel T' kvs ws → Q (ws.map fun kv => (kV kv.1, kv.2)) H') → tPairs (fs.map fun p => (tE K G p.1, tE K G p.2)) σ H Q
  | [], H, env, T, C, Q, s, h, k => k [] env T H [] h s (List.Sublist.refl _) trivial
  | f :: r, H, env, T, C, Q, s, h, k => ⟨env, T, _, s, h, fun pk e1 x H1 h1 s1 => ⟨e1, _, _, s1, h1, fun pv e2 y H2 h2 s2 => by
    split at h2
    · next dk d =>
      split at h2
      · next key ek =>
        refine pairsP r H2 e2 _ _ _ s2 h2 fun kvs env' T' H' ws hc s3 sub rel => ?_
        have mx : (x, Cel.dat dk) ∈ T' := sub.subset (List.mem_cons_of_mem _ List.mem_cons_self)
        have my : (y, Cel.dat d) ∈ T' := sub.subset List.mem_cons_self
        obtain ⟨Z3, s3⟩ := s3
        have ex := keyP_da ek (s3.datT mx)
        subst ex
        exact k ((key, d) :: kvs) env' T' H' ((key, y) :: ws) hc ⟨Z3, s3⟩ ((List.sublist_cons_self _ _).trans ((List.sublist_cons_self _ _).trans sub)) ⟨rfl, my, rel⟩
      · exact h2.elim
    · exact h2.elim⟩⟩
end
theorem merge_nodup : ∀ (ws acc : List (Key × V)), (acc.map (·.1) ++ ws.map (·.1)).Nodup → mergeK acc ws = acc ++ ws
  | [], acc, _ => by rw [List.append_nil]; rfl
  | w :: ws, acc, h => by
    have e : putK acc w.1 w.2 = acc ++ [w] := by
      unfold putK
      rw [if_neg]
      intro z
      obtain ⟨q, hq, e⟩ := List.any_eq_true.mp z
      have e := of_decide_eq_true e
      exact (List.nodup_append.mp h).2.2 _ (List.mem_map_of_mem hq) _ List.mem_cons_self e
    show mergeK (putK acc w.1 w.2) ws = _
    rw [e, merge_nodup ws (acc ++ [w]) (by rw [List.map_append, List.append_assoc]; exact h), List.append_assoc]
    rfl
def pDisp (fs : List (PEx × PEx)) : PEx := fun env C => pPairs fs env fun kvs e => (kvs.map (·.1)).Nodup ∧ kvs.length ≤ 15 ∧ C (.dic kvs) e
/-- the entry of a dict that no name holds -/
def pDGetT (fd fk : PEx) : PEx := fun env C => fd env fun pd e1 => fk e1 fun pk e2 => match pd, pk with
  | .dic kvs, .dat dk => ∃ k v, keyP dk = some k ∧ getD kvs k = some v ∧ C (.dat v) e2
  | _, _ => False
section
variable {X : Cx} {G : Gam} {e : Expr}
theorem pe_dispP {fs : List (PEx × PEx)} (h : PE X e (tDisp (fs.map fun p => (tE X.K G p.1, tE X.K G p.2)))) : PE X e (tE X.K G (pDisp fs)) := h.le fun σ H Q ⟨env, T, C, ⟨Z, s⟩, h, k⟩ => fun p hp =>
  pairsP fs _ env _ _ _ ⟨Z, s.newDic hp⟩ h fun kvs env' T' H' ws ⟨nd, l15, hc⟩ ⟨Z3, s3⟩ sub rel => by
    have s4 := s3.sub sub
    obtain ⟨a, us, e1, h1, h2, _⟩ := s4.tm _ List.mem_cons_self
    cases e1
    cases h2
    have kk := rel.all s3
    refine ⟨h1, ws, rfl, by rw [kk.len]; exact l15, k _ _ _ _ hc ⟨Z3, ?_⟩⟩
    have em : mergeK [] ws = ws := merge_nodup ws [] (by rw [List.map_nil, List.nil_append, rel.keys]; exact nd)
    rw [em]
    exact s4.wrTD kk
theorem pe_dgetTP {fa fb : PEx} (h : PE X e (tDGet (tE X.K G fa) (tE X.K G fb))) : PE X e (tE X.K G (pDGetT fa fb)) := h.le fun σ H Q ⟨env, T, C, s, h, k⟩ => ⟨env, T, _, s, h, fun pd e1 x H1 h1 s1 => ⟨e1, _, _, s1, h1, fun pk e2 y H2 h2 ⟨Z2, s2⟩ => by
  split at h2
  · next kvs dk =>
    obtain ⟨key, v, kd, hv, hc⟩ := h2
    obtain ⟨a, ws, e1, ha, hk, _⟩ := s2.tm _ (List.mem_cons_of_mem _ List.mem_cons_self)
    cases e1
    obtain rfl := keyP_da kd s2.topDat
    rcases hk.get (k := key) with ⟨g1, g2⟩ | ⟨u, w, g1, g2, g3⟩
    · rw [g1] at hv
      cases hv
    · rw [g1] at hv
      cases hv
      exact ⟨a, w, rfl, by rw [← g2]; exact DGet.k ha, k _ _ _ _ hc ⟨Z2, s2.pop.pop.dat g3⟩⟩
  · exact h2.elim⟩⟩
theorem pps_nilP {pos : Pos} : PPs X pos [] [] (([] : List (PEx × PEx)).map fun p => (tE X.K G p.1, tE X.K G p.2)) := pps_nil
theorem pps_consP {pos : Pos} {k v : Expr} {ks : List (Option Expr)} {vs : List Expr} {fk fv : PEx} {fs : List (PEx × PEx)} (hk : PE X k (tE X.K G fk)) (hv : PE X v (tE X.K G fv)) (h : PPs X pos ks vs (fs.map fun p => (tE X.K G p.1, tE X.K G p.2))) : PPs X pos (some k :: ks) (v :: vs) (((fk, fv) :: fs).map fun p => (tE X.K G p.1, tE X.K G p.2)) := pps_cons hk hv h
end

/-! ### flows, as data -/
structure Nd where
  w : Str
  k : PyData
  cl : List (Nat × Int)
  rest : List PyData
abbrev pairD (p : Nat × Int) : PyData := .tuple [.int (p.1 : Int), .int p.2]
def nums (l : List Nat) : List PyData := l.map fun i : Nat => PyData.int (i : Int)
abbrev Nd.d (n : Nd) : PyData := .tuple (.str n.w :: n.k :: .tuple (n.cl.map pairD) :: n.rest)
def opWords : List Str := ["not", "and", "or", "xor", "eq", "ne", "lt", "le", "neg", "add", "sub", "mul", "div", "min", "max", "mid", "as", "pick", "vote", "row", "at", "put", "sum", "any", "all"]
/-- the node's other needs, and a delay's source -/
def Nd.ok (n : Nd) (ps : List Nat) (src : Option Nat) : Prop :=
  ((n.w = "input" ∨ n.w = "here" ∨ n.w = "const") ∧ (∃ x, n.rest = [x]) ∧ ps = [] ∧ src = none) ∨
  (n.w = "beat" ∧ (∃ a b : Int, n.rest = [.int a, .int b]) ∧ ps = [] ∧ src = none) ∨
  (n.w = "when" ∧ ∃ s : Nat, n.rest = [.int (s : Int)] ∧ ps = [s] ∧ src = none) ∨
  (n.w = "merge" ∧ ∃ (c : Nat) (arms : List Nat), n.rest = [.int (c : Int), .tuple (nums arms)] ∧ ps = c :: arms ∧ src = none) ∨
  (n.w = "delay" ∧ ∃ (v : PyData) (s : Nat), n.rest = [v, .int (s : Int), .tuple (nums ps)] ∧ src = some s) ∨
  (n.w ∈ opWords ∧ n.rest = nums ps ∧ src = none)
def Nd.needs (n : Nd) (ps : List Nat) : List Nat := n.cl.map (·.1) ++ ps
theorem op_tab : tab_COUNTS.map (·.1) = opWords := by decide +kernel
theorem nums_app (a b : List Nat) : nums (a ++ b) = nums a ++ nums b := List.map_append
theorem nums_len (a : List Nat) : (nums a).length = a.length := List.length_map _
theorem nums_int (a : List Nat) : nums a = (a.map fun i : Nat => (i : Int)).map .int := by
  unfold nums
  rw [List.map_map]
  rfl
theorem cut3 (x y z : PyData) (r : List PyData) : cutP (x :: y :: z :: r) (some 3) none = r := by
  unfold cutP
  rw [show (some (3 : Int)) = some (((3 : Nat) : Int)) from rfl, HT.sIx_nat, List.length_cons, List.length_cons, List.length_cons, Nat.min_eq_left (by omega)]
  show ((r.take (r.length + 1 + 1 + 1 - 3))) = r
  rw [show r.length + 1 + 1 + 1 - 3 = r.length by omega, List.take_length]
abbrev NQ := Nd × List Nat × Option Nat
def NQ.good (q : NQ) : Prop := q.1.ok q.2.1 q.2.2 ∧ (q.1.needs q.2.1).length < 60
abbrev shD (p : Str × Nat) : PyData := .tuple [.str p.1, .int (p.2 : Int)]
abbrev nodesD (N : List NQ) : List PyData := N.map fun q => q.1.d
abbrev flowD (ins : List PyData) (N : List NQ) (o1 o2 o3 : List (Str × Nat)) : PyData := .tuple [.str "flow", .tuple ins, .tuple (nodesD N), .tuple (o1.map shD), .tuple (o2.map shD), .tuple (o3.map shD)]
theorem nodesD_at {N : List NQ} {j : Nat} {q : NQ} (h : N[j]? = some q) : (nodesD N)[j]? = some q.1.d := by
  unfold nodesD
  rw [List.getElem?_map, h]
  rfl
theorem nodesD_at' {N : List NQ} {j : Nat} {x : PyData} (h : (nodesD N)[j]? = some x) : ∃ q, N[j]? = some q ∧ x = q.1.d := by
  unfold nodesD at h
  rw [List.getElem?_map] at h
  obtain ⟨q, h1, rfl⟩ := Option.map_eq_some_iff.mp h
  exact ⟨q, h1, rfl⟩

/-! ### rows of numbers, widths, orders -/
def needsAt (N : List NQ) (u : Nat) : List Nat := match N[u]? with
  | some q => q.1.needs q.2.1
  | none => []
/-- a kind's width -/
def wid : PyData → Nat
  | .tuple [.str s, _, .int n] => if s = "row" then n.toNat else 1
  | _ => 1
def KW (d : PyData) : Prop := wid d ≤ 7 ∧ ((∃ k, d = .tuple [.str "row", k, .int (wid d : Int)]) ∨ (wid d = 1 ∧ ∃ s r, d = .tuple (.str s :: r) ∧ ¬ s = "row"))
structure OrderOk (N : List NQ) (od : List Nat) : Prop where
  len : od.length = N.length
  nd : od.Nodup
  lt : ∀ v ∈ od, v < N.length
  all : ∀ v, v < N.length → v ∈ od
theorem nums_set (l : List Nat) (i v : Nat) : (nums l).set i (.int (v : Int)) = nums (l.set i v) := by
  unfold nums
  rw [List.map_set]
theorem nums_at {l : List Nat} {i v : Nat} (h : l[i]? = some v) : (nums l)[i]? = some (.int (v : Int)) := by
  unfold nums
  rw [List.getElem?_map, h]
  rfl
theorem nums_at' {l : List Nat} {i : Nat} {x : PyData} (h : (nums l)[i]? = some x) : ∃ v : Nat, l[i]? = some v ∧ x = .int (v : Int) := by
  unfold nums at h
  rw [List.getElem?_map] at h
  obtain ⟨v, h1, rfl⟩ := Option.map_eq_some_iff.mp h
  exact ⟨v, h1, rfl⟩
theorem ixN_nat {i n : Nat} (h : i < n) : ixN n (i : Int) = some i := by
  unfold ixN
  rw [if_pos (by omega), if_pos (by omega)]
  simp

/-! ### kinds -/
def KPl (d : PyData) : Prop := d = .tuple [.str "bool"] ∨ (∃ ns : List Str, d = .tuple [.str "mode", .tuple (ns.map PyData.str)] ∧ 1 ≤ ns.length ∧ ns.length ≤ 8) ∨ ∃ (lo hi per : Int) (how : Str), d = .tuple [.str "num", .int lo, .int hi, .int per, .str how] ∧ lo ≤ hi ∧ -2000 ≤ lo ∧ hi ≤ 2000
def KN : Nat → PyData → Prop
  | 0, _ => False
  | n + 1, d => KPl d ∨ ∃ (k : PyData) (m : Nat), KN n k ∧ d = .tuple [.str "row", k, .int (m : Int)] ∧ m ≤ 7
theorem KPl.head {d : PyData} (h : KPl d) : ∃ (s : Str) (r : List PyData), d = .tuple (.str s :: r) ∧ ¬ s = "row" := by
  rcases h with rfl | ⟨ns, rfl, _⟩ | ⟨lo, hi, per, how, rfl, _⟩
  · exact ⟨_, _, rfl, by decide +kernel⟩
  · exact ⟨_, _, rfl, by decide +kernel⟩
  · exact ⟨_, _, rfl, by decide +kernel⟩
theorem plainAll_app : ∀ {a b : List PyData}, plainAll a = true → plainAll b = true → plainAll (a ++ b) = true
  | [], _, _, h => h
  | x :: a, b, h1, h2 => by
    have h1' : (plainD x && plainAll a) = true := h1
    rw [Bool.and_eq_true] at h1'
    show (plainD x && plainAll (a ++ b)) = true
    rw [h1'.1, plainAll_app h1'.2 h2]
    rfl
theorem plain_tup {ds : List PyData} (h : plainAll ds = true) : plainD (.tuple ds) = true := h
def clD (cl : List (Nat × Int)) : PyData := .tuple (cl.map pairD)
theorem depth_strs : ∀ ns : List Str, PyData.depthAll (ns.map PyData.str) = 0
  | [] => rfl
  | s :: r => by
    show max (PyData.depth (.str s)) (PyData.depthAll (r.map PyData.str)) = 0
    rw [depth_strs r]
    rfl
theorem depth_pairs : ∀ cl : List (Nat × Int), PyData.depthAll (cl.map pairD) ≤ 1
  | [] => Nat.zero_le _
  | p :: r => by
    show max (PyData.depth (pairD p)) (PyData.depthAll (r.map pairD)) ≤ 1
    have h := depth_pairs r
    have h2 : PyData.depth (pairD p) ≤ 1 := by
      show max 0 (max 0 0) + 1 ≤ 1
      decide
    omega
theorem shaped_of {d : PyData} (h : plainD d = true) (h2 : d.depth ≤ 64) : SeqAt.shaped d = true := by
  unfold SeqAt.shaped
  rw [plain_lay d h, decide_eq_true h2]
  rfl
theorem plainAll_pairs : ∀ cl : List (Nat × Int), plainAll (cl.map pairD) = true
  | [] => rfl
  | p :: r => by
    show (plainD (pairD p) && plainAll (r.map pairD)) = true
    rw [plainAll_pairs r]
    rfl
theorem clD_plain (cl : List (Nat × Int)) : plainD (clD cl) = true := plainAll_pairs cl
theorem clD_shaped (cl : List (Nat × Int)) : SeqAt.shaped (clD cl) = true := shaped_of (clD_plain cl) (by
  show PyData.depthAll (cl.map pairD) + 1 ≤ 64
  have := depth_pairs cl
  omega)
theorem KPl.depth {d : PyData} (h : KPl d) : d.depth ≤ 2 := by
  rcases h with rfl | ⟨ns, rfl, _⟩ | ⟨lo, hi, per, how, rfl, _⟩
  · show max 0 0 + 1 ≤ 2
    decide
  · show max 0 (max (PyData.depthAll (ns.map PyData.str) + 1) 0) + 1 ≤ 2
    rw [depth_strs]
    decide
  · show max 0 (max 0 (max 0 (max 0 (max 0 0)))) + 1 ≤ 2
    decide
theorem KN.depth : ∀ {n : Nat} {d : PyData}, KN n d → d.depth ≤ n + 2
  | 0, _, h => h.elim
  | n + 1, d, h => by
    rcases h with h | ⟨k, m, hk, rfl, _⟩
    · have := h.depth
      omega
    · have := KN.depth hk
      show max 0 (max k.depth (max 0 0)) + 1 ≤ _
      omega
theorem KN.shaped {d : PyData} (h : KN 2 d) (p : plainD d = true) : SeqAt.shaped d = true := shaped_of p (Nat.le_trans h.depth (by decide))
/-- a kind of the flows -/
def GK (d : PyData) : Prop := KN 2 d ∧ plainD d = true
theorem GK.shaped {d : PyData} (h : GK d) : SeqAt.shaped d = true := h.1.shaped h.2
theorem KPl.wid {d : PyData} (h : KPl d) : KW d := by
  obtain ⟨s, r, rfl, hs⟩ := h.head
  have e : My.wid (.tuple (.str s :: r)) = 1 := by
    unfold My.wid
    split
    · next e =>
      cases e
      exact if_neg hs
    · rfl
  exact ⟨by rw [e]; decide, .inr ⟨e, s, r, rfl, hs⟩⟩
theorem GK.wid {d : PyData} (h : GK d) : KW d := by
  rcases h.1 with h | ⟨k, m, _, rfl, hm⟩
  · exact h.wid
  · have e : My.wid (.tuple [.str "row", k, .int (m : Int)]) = m := by
      show (if ("row" : Str) = "row" then (m : Int).toNat else 1) = m
      rw [if_pos rfl]
      exact Int.toNat_natCast m
    exact ⟨by rw [e]; exact hm, .inl ⟨k, by rw [e]⟩⟩
/-- its word stands first -/
theorem GK.head {d : PyData} (h : GK d) : ∃ (s : Str) (r : List PyData), d = .tuple (.str s :: r) := by
  rcases h.1 with h | ⟨k, m, _, rfl, _⟩
  · obtain ⟨s, r, e, _⟩ := h.head
    exact ⟨s, r, e⟩
  · exact ⟨_, _, rfl⟩
def truthD : PyData := .tuple [.str "bool"]
theorem truth_kpl : KPl truthD := .inl rfl
theorem truth_gk : GK truthD := ⟨.inl (.inl rfl), by decide +kernel⟩

/-! ### draws from lists; values of kinds -/
abbrev R_draw := RDraw
abbrev R_rare := RRare
def R_pick : PR := fun as C => ∃ xs : List PyData, (as = [.drw, .arg xs] ∨ as = [.drw, .dat (.list xs)]) ∧ xs ≠ [] ∧ xs.length ≤ 4000 ∧ ∀ (k : Nat) (d : PyData), xs[k]? = some d → C (.dat d) as
def R_pop : PR := fun as C => ∃ xs : List PyData, as = [.drw, .arg xs] ∧ xs ≠ [] ∧ xs.length ≤ 1000 ∧ ∀ (k : Nat) (d : PyData), xs[k]? = some d → C (.dat d) [.drw, .arg (xs.eraseIdx k)]
def R_shuffled : PR := fun as C => ∃ xs : List PyData, as = [.drw, .arg xs] ∧ xs.length ≤ 1000 ∧ ∀ out : List PyData, out.Perm xs → C (.own out) as
def R_ends : PR := fun as C => ∃ d, as = [.dat d] ∧ KPl d ∧ ∀ lo hi : Int, lo ≤ hi → -2000 ≤ lo → hi ≤ 2000 → C (.own [.int lo, .int hi]) as
def RValue (n : Nat) : PR := fun as C => ∃ kd, as = [.drw, .dat kd] ∧ KN n kd ∧ ∀ dv, plainD dv = true ∧ dv.depth ≤ n → C (.dat dv) as
abbrev R_value := RValue 2
def R_num : PR := fun as C => ∃ m : Int, as = [.drw, .dat (.int m)] ∧ 2 ≤ m ∧ m ≤ 100 ∧ ∀ kd, KPl kd → plainD kd = true → C (.dat kd) as
def KCh (d : PyData) (n : Nat) : Prop := (d = .tuple [.str "bool"] ∧ n = 2) ∨ ∃ ns : List Str, d = .tuple [.str "mode", .tuple (ns.map PyData.str)] ∧ n = ns.length ∧ 1 ≤ ns.length ∧ ns.length ≤ 8
def R_kind_values : PR := fun as C => ∃ d n, as = [.dat d] ∧ KCh d n ∧ C (.own (nums (List.range n))) as
def R_whole_number : PR := fun as C => ∃ i : Int, as = [.dat (.int i)] ∧ C (.dat (.bool true)) as
theorem idx_nat {n k : Nat} (h : k < n) : seqIndex? (k : Int) n = some k := by
  unfold seqIndex?
  simp
  omega
theorem perm_pick {α : Type} : ∀ (l : List α) (k : Nat) (v : α), l[k]? = some v → ([v] ++ l.eraseIdx k).Perm l
  | [], _, _, h => by cases h
  | a :: r, 0, v, h => by
    cases h
    exact List.Perm.refl _
  | a :: r, k + 1, v, h => by
    have ih := perm_pick r k v h
    show (v :: a :: r.eraseIdx k).Perm (a :: r)
    exact (List.Perm.swap a v _).trans (ih.cons a)
section
variable {P : Program} {w : World} {K : PySem.W.Frag} {mg : Str → Option Value} {base : Heap}
theorem okp_draw (T : Tx K mg w base) : FnOk P w K mg base CX0 2 T.f_draw T.fd_draw ["_law_d", "_law_many"] (spP K T.tbs 2 R_draw) := drawP (ok_draw T)
theorem okp_rare (T : Tx K mg w base) : FnOk P w K mg base CX0 3 T.f_rare T.fd_rare ["_law_d", "_law_many"] (spP K T.tbs 2 R_rare) := rareP (ok_rare T)
theorem okp_pick (T : Tx K mg w base) : FnOk P w K mg base CX0 3 T.f_pick T.fd_pick ["_law_d", "_law_row"] (spP K T.tbs 2 R_pick) := by
  refine okP T.F_pick sc_pick rfl fun cdv A outer s H E G hG hcd hr => ⟨_, (pss_oneP (ps_retP (pe_ixP (pe_borP (pv 1)) (pe_callP hG (pe_call (okp_draw T) (hr.mono (by decide)) rfl T.m_draw T.F_draw.kp T.b_draw .nil pass0 (pa_consP (pe_borP (pv 0)) (pa_consP (pe_cbP lc_len (pe_callB call_lenP (by rfl) T.z_len (by decide +kernel) (pa_consP (pe_borP (pv 1)) pa_nilP))) pa_nilP)))) (fun _ _ => rfl) li_ix))), fun as C hl h => ?_⟩
  obtain ⟨xs, e, ne, le, h⟩ := h
  have pos : 0 < xs.length := List.length_pos_iff.mpr ne
  rcases e with rfl | rfl
  · refine ⟨_, rfl, by omega, by omega, fun r r0 r1 => ?_⟩
    obtain ⟨k, rfl⟩ := Int.eq_ofNat_of_zero_le r0
    have hk := List.getElem?_eq_getElem (l := xs) (show k < xs.length by omega)
    exact ⟨_, atD k hk, h k _ hk⟩
  · refine ⟨_, rfl, by omega, by omega, fun r r0 r1 => ?_⟩
    obtain ⟨k, rfl⟩ := Int.eq_ofNat_of_zero_le r0
    have hk := List.getElem?_eq_getElem (l := xs) (show k < xs.length by omega)
    exact ⟨_, atD k hk, h k _ hk⟩
theorem okp_pop (T : Tx K mg w base) : FnOk P w K mg base CX0 3 T.f_pop T.fd_pop ["_law_d", "_law_row"] (spP K T.tbs 2 R_pop) := by
  refine okP T.F_pop sc_pop rfl fun cdv A outer s H E G hG hcd hr => ⟨_, (pss_oneP (ps_retP (pe_methP lm_popAt (pe_bm PySem.F.plainAttrs_list PySem.F.slot_list_pop PySem.F.type_list_pop mt_popAt (pe_borP (pv 1)) (pa_consP (pe_frzP (pe_callP hG (pe_call (okp_draw T) (hr.mono (by decide)) rfl T.m_draw T.F_draw.kp T.b_draw .nil pass0 (pa_consP (pe_borP (pv 0)) (pa_consP (pe_cbP lc_len (pe_callB call_lenP (by rfl) T.z_len (by decide +kernel) (pa_consP (pe_borP (pv 1)) pa_nilP))) pa_nilP))))) pa_nilP))))), fun as C hl h => ?_⟩
  obtain ⟨xs, rfl, ne, le, h⟩ := h
  have pos : 0 < xs.length := List.length_pos_iff.mpr ne
  refine ⟨_, rfl, by omega, by omega, fun r r0 r1 => ?_⟩
  obtain ⟨k, rfl⟩ := Int.eq_ofNat_of_zero_le r0
  have hk := List.getElem?_eq_getElem (l := xs) (show k < xs.length by omega)
  exact ⟨_, k, ⟨xs, rfl, idx_nat (by omega), hk⟩, by omega, by omega, h k _ hk⟩
theorem okp_shuffled (T : Tx K mg w base) : FnOk P w K mg base CX0 4 T.f_shuffled T.fd_shuffled ["_law_d", "_law_row"] (spP K T.tbs 2 R_shuffled) := by
  refine okP T.F_shuffled sc_shuffled rfl fun cdv A outer s H E G hG hcd hr => ⟨_, (pss_consP (ps_setP (ps_set (i := 2) sc_shuffled.nd rfl (Or.inl rfl) (pe_cbP lc_lst (pe_callTy call_lstP (by rfl) T.z_list (by decide +kernel) (pa_consP (pe_borP (pv 1)) pa_nilP)))))
      (pss_consP (ps_setP (ps_set (i := 3) sc_shuffled.nd rfl (Or.inl rfl) (pe_lstP pa_nilP)))
      (pss_consP (ps_forP (ps_for PassesOwn.never rfl (pi_range1P (pi_range1 (by rfl) T.z_range (pa_consP (pe_cbP lc_len (pe_callB call_lenP (by rfl) T.z_len (by decide +kernel) (pa_consP (pe_borP (pv 2)) pa_nilP))) pa_nilP))) (pg_nameP (pg_name (i := 4) sc_shuffled.nd rfl (Or.inl rfl)))
      (pss_oneP (ps_dropP (pe_methP lm_app (pe_bm PySem.F.plainAttrs_list PySem.F.slot_list_append PySem.F.type_list_append mt_append (pe_borP (pv 3)) (pa_consP (pe_frzP (pe_callP hG (pe_call (okp_pop T) (hr.mono (by decide)) rfl T.m_pop T.F_pop.kp T.b_pop .nil pass0 (pa_consP (pe_borP (pv 0)) (pa_consP (pe_borP (pv 2)) pa_nilP))))) pa_nilP)))))))
      (pss_oneP (ps_retMvP (pv 3)))))), fun as C hl h => ?_⟩
  obtain ⟨xs, rfl, le, h⟩ := h
  refine ⟨Nat.zero_le _, by omega, by omega, ?_⟩
  rw [rangeP0]
  refine ⟨fun i env => ∃ (rest out : List PyData) (c : Cel), env = [.drw, .arg xs, .own rest, .own out, c] ∧ rest.length + i = xs.length ∧ out.length = i ∧ (out ++ rest).Perm xs, ⟨xs, [], _, rfl, rfl, rfl, List.Perm.refl _⟩, ?_, ?_⟩
  · rintro i x env hi ⟨rest, out, c, rfl, lr, lo, pm⟩
    have hi' := (List.getElem?_eq_some_iff.mp hi).1
    rw [List.length_map, List.length_range] at hi'
    refine ⟨rest, rfl, (fun e => by rw [e, List.length_nil] at lr; omega), by omega, fun k d hk => ⟨szl (by omega), ?_⟩⟩
    have hk' := (List.getElem?_eq_some_iff.mp hk).1
    refine ⟨rest.eraseIdx k, out ++ [d], _, rfl, by rw [List.length_eraseIdx_of_lt hk']; omega, by rw [List.length_append, lo]; rfl, ?_⟩
    refine List.Perm.trans ?_ pm
    rw [List.append_assoc]
    exact List.Perm.append_left out (perm_pick _ _ _ hk)
  · rintro env ⟨rest, out, c, rfl, lr, lo, pm⟩
    rw [List.length_map, List.length_range] at lr lo
    have er : rest = [] := List.length_eq_zero_iff.mp (by omega)
    subst er
    rw [List.append_nil] at pm
    exact h out pm
theorem okp_ends (T : Tx K mg w base) : FnOk P w K mg base CX0 1 T.f_ends T.fd_ends ["_law_kind"] (spP K T.tbs 1 R_ends) := by
  refine okP T.F_ends sc_ends rfl fun cdv A outer s H E G hG hcd hr => ⟨_, (pss_consP (ps_ifP (pt_cmpP (op_eqP hr.units) li_eq (pe_ixP (pe_borP (pv 0)) (pe_cP (d := .int 0) pe_int) (fun _ _ => rfl) li_ix) (pe_cP (d := .str "num") pe_str) (nomark _)) (pss_oneP (ps_retP (pe_lstP (pa_consP (pe_ixP (pe_borP (pv 0)) (pe_cP (d := .int 1) pe_int) (fun _ _ => rfl) li_ix) (pa_consP (pe_ixP (pe_borP (pv 0)) (pe_cP (d := .int 2) pe_int) (fun _ _ => rfl) li_ix) pa_nilP))))) pss_nilP)
      (pss_oneP (ps_retP (pe_ifP (pt_cmpP (op_eqP hr.units) li_eq (pe_ixP (pe_borP (pv 0)) (pe_cP (d := .int 0) pe_int) (fun _ _ => rfl) li_ix) (pe_cP (d := .str "bool") pe_str) (nomark _)) (pe_lstP (pa_consP (pe_cP (d := .int 0) pe_int) (pa_consP (pe_cP (d := .int 1) pe_int) pa_nilP))) (pe_lstP (pa_consP (pe_cP (d := .int 0) pe_int) (pa_consP (pe_frzP (pe_opP op_sub li_sub (pe_cbP lc_len (pe_callB call_lenP (by rfl) T.z_len (by decide +kernel) (pa_consP (pe_ixP (pe_borP (pv 0)) (pe_cP (d := .int 1) pe_int) (fun _ _ => rfl) li_ix) pa_nilP))) (pe_cP (d := .int 1) pe_int))) pa_nilP))))))), fun as C hl h => ?_⟩
  obtain ⟨d, rfl, hk, h⟩ := h
  rcases hk with rfl | ⟨ns, rfl, n1, n8⟩ | ⟨lo, hi, per, how, rfl, h1, h2, h3⟩
  · exact ⟨_, atD 0 rfl, .f (by decide +kernel) ⟨_, atD 0 rfl, .t (by decide +kernel) ⟨szr, h 0 1 (by decide) (by decide) (by decide)⟩⟩⟩
  · refine ⟨_, atD 0 rfl, .f (by decide +kernel) ⟨_, atD 0 rfl, .f (by decide +kernel) ⟨_, atD 1 rfl, szr, h 0 _ ?_ (by decide) ?_⟩⟩⟩
    · rw [List.length_map]; omega
    · rw [List.length_map]; omega
  · exact ⟨_, atD 0 rfl, .t (by decide +kernel) ⟨_, atD 1 rfl, _, atD 2 rfl, szr, h lo hi h1 h2 h3⟩⟩
theorem rec_value {n k : Nat} (T : Tx K mg w base) (ih : FnOk P w K mg base CX0 k T.f_value T.fd_value ["_law_d", "_law_kind"] (spP K T.tbs 2 (RValue n))) (hk : 4 ≤ k) : FnOk P w K mg base CX0 (k + 1) T.f_value T.fd_value ["_law_d", "_law_kind"] (spP K T.tbs 2 (RValue (n + 1))) := by
  refine okP T.F_value sc_value rfl fun cdv A outer s H E G hG hcd hr => ⟨_, (pss_consP (ps_ifP (pt_cmpP (op_eqP hr.units) li_eq (pe_ixP (pe_borP (pv 1)) (pe_cP (d := .int 0) pe_int) (fun _ _ => rfl) li_ix) (pe_cP (d := .str "row") pe_str) (nomark _)) (pss_consP (ps_setP (ps_set (i := 2) sc_value.nd rfl (Or.inl rfl) (pe_lstP pa_nilP)))
      (pss_consP (ps_forP (ps_for PassesOwn.never rfl (pi_range1P (pi_range1 (by rfl) T.z_range (pa_consP (pe_ixP (pe_borP (pv 1)) (pe_cP (d := .int 2) pe_int) (fun _ _ => rfl) li_ix) pa_nilP))) (pg_nameP (pg_name (i := 3) sc_value.nd rfl (Or.inl rfl)))
      (pss_oneP (ps_dropP (pe_methP lm_app (pe_bm PySem.F.plainAttrs_list PySem.F.slot_list_append PySem.F.type_list_append mt_append (pe_borP (pv 2)) (pa_consP (pe_frzP (pe_callP hG (pe_call ih (hr.mono (by omega)) rfl T.m_value T.F_value.kp T.b_value .nil pass0 (pa_consP (pe_borP (pv 0)) (pa_consP (pe_ixP (pe_borP (pv 1)) (pe_cP (d := .int 1) pe_int) (fun _ _ => rfl) li_ix) pa_nilP))))) pa_nilP)))))))
      (pss_oneP (ps_retP (pe_cbP lc_tup (pe_callTy (show CallR _ (.type "tuple") (rTupOf K) from call_tup) (by rfl) T.z_tuple (by decide +kernel) (pa_consP (pe_borP (pv 2)) pa_nilP))))))) pss_nilP)
      (pss_consP (ps_setP (ps_set (i := 4) sc_value.nd rfl (Or.inl rfl) (pe_callP hG (pe_call (okp_ends T) (hr.mono (by omega)) rfl T.m_ends T.F_ends.kp T.b_ends .nil pass0 (pa_consP (pe_borP (pv 1)) pa_nilP)))))
      (pss_oneP (ps_retP (pe_opP op_addP li_add (pe_ixP (pe_borP (pv 4)) (pe_cP (d := .int 0) pe_int) (fun _ _ => rfl) li_ix) (pe_callP hG (pe_call (okp_draw T) (hr.mono (by omega)) rfl T.m_draw T.F_draw.kp T.b_draw .nil pass0 (pa_consP (pe_borP (pv 0)) (pa_consP (pe_opP op_addP li_add (pe_opP op_sub li_sub (pe_ixP (pe_borP (pv 4)) (pe_cP (d := .int 1) pe_int) (fun _ _ => rfl) li_ix) (pe_ixP (pe_borP (pv 4)) (pe_cP (d := .int 0) pe_int) (fun _ _ => rfl) li_ix)) (pe_cP (d := .int 1) pe_int)) pa_nilP))))))))), fun as C hl h => ?_⟩
  obtain ⟨kd, rfl, kn, h⟩ := h
  rcases kn with kn | ⟨k0, m, kn, rfl, m7⟩
  · obtain ⟨s0, r0, rfl, nr⟩ := kn.head
    refine ⟨_, atD 0 rfl, .f (ne_w nr) ⟨_, rfl, kn, fun lo hi h1 h2 h3 => ⟨_, atD 0 rfl, _, atD 1 rfl, _, atD 0 rfl, _, rfl, by omega, by omega, fun r r0 r1 => h _ ⟨rfl, Nat.zero_le _⟩⟩⟩⟩
  · refine ⟨_, atD 0 rfl, .t (by decide +kernel) ⟨Nat.zero_le _, _, atD 2 rfl, by omega, by omega, ?_⟩⟩
    rw [rangeP0]
    refine ⟨fun i env => ∃ (out : List PyData) (c : Cel), env = [.drw, .dat (.tuple [.str "row", k0, .int (m : Int)]), .own out, c, .no] ∧ out.length = i ∧ plainAll out = true ∧ (∀ d ∈ out, d.depth ≤ n), ⟨[], _, rfl, rfl, rfl, fun d hd => nomatch hd⟩, ?_, ?_⟩
    · rintro i x env hi ⟨out, c, rfl, lo, po, dd⟩
      have hi' := (List.getElem?_eq_some_iff.mp hi).1
      rw [List.length_map, List.length_range] at hi'
      refine ⟨_, atD 1 rfl, k0, rfl, kn, fun dv pd => ⟨szl (by omega), out ++ [dv], .dat x, rfl, by rw [List.length_append, lo]; rfl, plainAll_app po (by show (plainD dv && true) = true; rw [pd.1]; rfl), fun d hd => (List.mem_append.mp hd).elim (dd d) fun hd => by rw [List.mem_singleton.mp hd]; exact pd.2⟩⟩
    · rintro env ⟨out, c, rfl, lo, po, dd⟩
      exact h _ ⟨po, Nat.succ_le_succ (depth_of dd)⟩
theorem okp_value (T : Tx K mg w base) : FnOk P w K mg base CX0 8 T.f_value T.fd_value ["_law_d", "_law_kind"] (spP K T.tbs 2 R_value) := by
  refine rec_value (n := 1) (k := 7) T ?_ (by decide)
  refine rec_value (n := 0) (k := 6) T ?_ (by decide)
  refine okP (k := 5) T.F_value sc_value rfl fun cdv A outer s H E G hG hcd hr => ⟨_, PSs.le pss_never (t' := tS K G fun _ _ => False) (fun D σ H ⟨_, _, _, _, _, h, _⟩ => h.elim), fun as C hl h => ?_⟩
  obtain ⟨_, _, h, _⟩ := h
  exact h
theorem okp_num (T : Tx K mg w base) : FnOk P w K mg base CX0 3 T.f_num T.fd_num ["_law_d", "_law_most"] (spP K T.tbs 2 R_num) := by
  refine okP T.F_num sc_num rfl fun cdv A outer s H E G hG hcd hr => ⟨_, (pss_consP (ps_setP (ps_set (i := 2) sc_num.nd rfl (Or.inl rfl) (pe_opP op_addP li_add (pe_cP (d := .int 2) pe_int) (pe_callP hG (pe_call (okp_draw T) (hr.mono (by decide)) rfl T.m_draw T.F_draw.kp T.b_draw .nil pass0 (pa_consP (pe_borP (pv 0)) (pa_consP (pe_opP op_sub li_sub (pe_borP (pv 1)) (pe_cP (d := .int 1) pe_int)) pa_nilP)))))))
      (pss_consP (ps_setP (ps_set (i := 3) sc_num.nd rfl (Or.inl rfl) (pe_ixP (pe_lstP (pa_consP (pe_cP (d := .int 0) pe_int) (pa_consP (pe_cP (d := .int 0) pe_int) (pa_consP (pe_negP (pe_cP (d := .int 1) pe_int)) (pa_consP (pe_frzP (pe_opP op_fdiv li_fdiv (pe_negP (pe_borP (pv 2))) (pe_cP (d := .int 2) pe_int))) (pa_consP (pe_cP (d := .int 1) pe_int) (pa_consP (pe_negP (pe_borP (pv 2))) (pa_consP (pe_frzP (pe_opP op_sub li_sub (pe_cP (d := .int 1000) pe_int) (pe_borP (pv 2)))) (pa_consP (pe_negP (pe_cP (d := .int 1000) pe_int)) pa_nilP))))))))) (pe_callP hG (pe_call (okp_draw T) (hr.mono (by decide)) rfl T.m_draw T.F_draw.kp T.b_draw .nil pass0 (pa_consP (pe_borP (pv 0)) (pa_consP (pe_cP (d := .int 8) pe_int) pa_nilP)))) (fun _ _ => rfl) li_ix)))
      (pss_consP (ps_setP (ps_set (i := 4) sc_num.nd rfl (Or.inl rfl) (pe_ixP (pe_lstP (pa_consP (pe_cP (d := .int 1) pe_int) (pa_consP (pe_cP (d := .int 1) pe_int) (pa_consP (pe_cP (d := .int 1) pe_int) (pa_consP (pe_cP (d := .int 2) pe_int) (pa_consP (pe_cP (d := .int 3) pe_int) (pa_consP (pe_cP (d := .int 10) pe_int) pa_nilP))))))) (pe_callP hG (pe_call (okp_draw T) (hr.mono (by decide)) rfl T.m_draw T.F_draw.kp T.b_draw .nil pass0 (pa_consP (pe_borP (pv 0)) (pa_consP (pe_cP (d := .int 6) pe_int) pa_nilP)))) (fun _ _ => rfl) li_ix)))
      (pss_oneP (ps_retP (pe_tupP (pa_consP (pe_cP (d := .str "num") pe_str) (pa_consP (pe_varP (pv 3)) (pa_consP (pe_frzP (pe_opP op_sub li_sub (pe_opP op_addP li_add (pe_borP (pv 3)) (pe_borP (pv 2))) (pe_cP (d := .int 1) pe_int))) (pa_consP (pe_varP (pv 4)) (pa_consP (pe_ixP (pe_lstP (pa_consP (pe_cP (d := .str "wrap") pe_str) (pa_consP (pe_cP (d := .str "hold") pe_str) pa_nilP))) (pe_callP hG (pe_call (okp_draw T) (hr.mono (by decide)) rfl T.m_draw T.F_draw.kp T.b_draw .nil pass0 (pa_consP (pe_borP (pv 0)) (pa_consP (pe_cP (d := .int 2) pe_int) pa_nilP)))) (fun _ _ => rfl) li_ix) pa_nilP))))))))))), fun as C hl h => ?_⟩
  obtain ⟨m, rfl, m2, m100, h⟩ := h
  refine ⟨_, rfl, by omega, by omega, fun r r0 r1 => ?_⟩
  refine ⟨⟨by decide, by decide⟩, szr, _, rfl, by decide, by decide, fun r2 a2 b2 => ?_⟩
  have low : ∃ lo : Int, atI [PyData.int 0, .int 0, .int (-1), .int (-(2 + r) / 2), .int 1, .int (-(2 + r)), .int (1000 - (2 + r)), .int (-1000)] r2 = some (.int lo) ∧ -1000 ≤ lo ∧ lo ≤ 998 := by
    rcases (show r2 = 0 ∨ r2 = 1 ∨ r2 = 2 ∨ r2 = 3 ∨ r2 = 4 ∨ r2 = 5 ∨ r2 = 6 ∨ r2 = 7 by omega) with rfl | rfl | rfl | rfl | rfl | rfl | rfl | rfl
    · exact ⟨_, atD 0 rfl, by omega, by omega⟩
    · exact ⟨_, atD 1 rfl, by omega, by omega⟩
    · exact ⟨_, atD 2 rfl, by omega, by omega⟩
    · exact ⟨_, atD 3 rfl, by omega, by omega⟩
    · exact ⟨_, atD 4 rfl, by omega, by omega⟩
    · exact ⟨_, atD 5 rfl, by omega, by omega⟩
    · exact ⟨_, atD 6 rfl, by omega, by omega⟩
    · exact ⟨_, atD 7 rfl, by omega, by omega⟩
  obtain ⟨lo, e1, l1, l2⟩ := low
  refine ⟨_, e1, szr, _, rfl, by decide, by decide, fun r3 a3 b3 => ?_⟩
  obtain ⟨per, e3⟩ : ∃ per : Int, atI [PyData.int 1, .int 1, .int 1, .int 2, .int 3, .int 10] r3 = some (.int per) := by
    rcases (show r3 = 0 ∨ r3 = 1 ∨ r3 = 2 ∨ r3 = 3 ∨ r3 = 4 ∨ r3 = 5 by omega) with rfl | rfl | rfl | rfl | rfl | rfl
    · exact ⟨_, atD 0 rfl⟩
    · exact ⟨_, atD 1 rfl⟩
    · exact ⟨_, atD 2 rfl⟩
    · exact ⟨_, atD 3 rfl⟩
    · exact ⟨_, atD 4 rfl⟩
    · exact ⟨_, atD 5 rfl⟩
  refine ⟨_, e3, szr, _, rfl, by decide, by decide, fun r4 a4 b4 => ?_⟩
  obtain ⟨how, e4, hs⟩ : ∃ how : Str, atI [PyData.str "wrap", .str "hold"] r4 = some (.str how) ∧ PyData.strOk how = true := by
    rcases (show r4 = 0 ∨ r4 = 1 by omega) with rfl | rfl
    · exact ⟨_, atD 0 rfl, by decide +kernel⟩
    · exact ⟨_, atD 1 rfl, by decide +kernel⟩
  refine ⟨_, e4, szr, h _ (.inr (.inr ⟨_, _, _, _, rfl, by omega, by omega, by omega⟩)) ?_⟩
  show (PyData.strOk "num" && (true && (true && (true && (PyData.strOk how && true))))) = true
  rw [hs]
  decide +kernel
theorem rec_kvals {k : Nat} (T : Tx K mg w base) (ih : FnOk P w K mg base CX0 k T.f_kind_values T.fd_kind_values ["_law_kind"] (spP K T.tbs 1 fun _ _ => False)) : FnOk P w K mg base CX0 (k + 1) T.f_kind_values T.fd_kind_values ["_law_kind"] (spP K T.tbs 1 R_kind_values) := by
  refine okP T.F_kind_values sc_kind_values rfl fun cdv A outer s H E G hG hcd hr => ⟨_, (pss_consP (ps_ifP (pt_cmpP (op_eqP hr.units) li_eq (pe_ixP (pe_borP (pv 0)) (pe_cP (d := .int 0) pe_int) (fun _ _ => rfl) li_ix) (pe_cP (d := .str "bool") pe_str) (nomark _)) (pss_oneP (ps_retP (pe_lstP (pa_consP (pe_cP (d := .int 0) pe_int) (pa_consP (pe_cP (d := .int 1) pe_int) pa_nilP))))) pss_nilP)
      (pss_consP (ps_ifP (pt_cmpP (op_eqP hr.units) li_eq (pe_ixP (pe_borP (pv 0)) (pe_cP (d := .int 0) pe_int) (fun _ _ => rfl) li_ix) (pe_cP (d := .str "mode") pe_str) (nomark _)) (pss_oneP (ps_retP (pe_lstR1P (pe_listRg rfl (by rfl) T.z_list (prg_1 (by rfl) T.z_range (pe_cbP lc_len (pe_callB call_lenP (by rfl) T.z_len (by decide +kernel) (pa_consP (pe_ixP (pe_borP (pv 0)) (pe_cP (d := .int 1) pe_int) (fun _ _ => rfl) li_ix) pa_nilP)))))))) pss_nilP)
      (pss_consP (ps_ifP (pt_cmpP (op_eqP hr.units) li_eq (pe_ixP (pe_borP (pv 0)) (pe_cP (d := .int 0) pe_int) (fun _ _ => rfl) li_ix) (pe_cP (d := .str "num") pe_str) (nomark _)) (pss_oneP (ps_retP (pe_lstR2P (pe_listRg rfl (by rfl) T.z_list (prg_2 (by rfl) T.z_range (pe_ixP (pe_borP (pv 0)) (pe_cP (d := .int 1) pe_int) (fun _ _ => rfl) li_ix) (pe_opP op_addP li_add (pe_ixP (pe_borP (pv 0)) (pe_cP (d := .int 2) pe_int) (fun _ _ => rfl) li_ix) (pe_cP (d := .int 1) pe_int))))))) pss_nilP)
      (pss_consP (ps_setP (ps_set (i := 1) sc_kind_values.nd rfl (Or.inl rfl) (pe_lstP (pa_consP (pe_tupP pa_nilP) pa_nilP))))
      (pss_consP (ps_forP (ps_for PassesOwn.never rfl (pi_range1P (pi_range1 (by rfl) T.z_range (pa_consP (pe_ixP (pe_borP (pv 0)) (pe_cP (d := .int 2) pe_int) (fun _ _ => rfl) li_ix) pa_nilP))) (pg_nameP (pg_name (i := 2) sc_kind_values.nd rfl (Or.inl rfl)))
      (pss_consP (ps_setP (ps_set (i := 3) sc_kind_values.nd rfl (Or.inl rfl) (pe_lstP pa_nilP)))
      (pss_consP (ps_forP (ps_for PassesOwn.never rfl (pi_itemsP (pe_varP (pv 1))) (pg_nameP (pg_name (i := 4) sc_kind_values.nd rfl (Or.inl rfl)))
      (pss_oneP (ps_forP (ps_for PassesOwn.never rfl (pi_itemsP (pe_callP hG (pe_call ih (hr.mono (by omega)) rfl T.m_kind_values T.F_kind_values.kp T.b_kind_values .nil pass0 (pa_consP (pe_ixP (pe_borP (pv 0)) (pe_cP (d := .int 1) pe_int) (fun _ _ => rfl) li_ix) pa_nilP)))) (pg_nameP (pg_name (i := 5) sc_kind_values.nd rfl (Or.inl rfl)))
      (pss_oneP (ps_dropP (pe_methP lm_app (pe_bm PySem.F.plainAttrs_list PySem.F.slot_list_append PySem.F.type_list_append mt_append (pe_borP (pv 3)) (pa_consP (pe_frzP (pe_opP op_addP li_add (pe_borP (pv 4)) (pe_tupP (pa_consP (pe_varP (pv 5)) pa_nilP)))) pa_nilP))))))))))
      (pss_oneP (ps_mvP (ps_set (i := 1) sc_kind_values.nd rfl (Or.inl rfl) (pv 3))))))))
      (pss_oneP (ps_retMvP (pv 1)))))))), fun as C hl h => ?_⟩
  obtain ⟨d, n, rfl, hk, q⟩ := h
  rcases hk with ⟨rfl, rfl⟩ | ⟨ns, rfl, rfl, n1, n8⟩
  · exact ⟨_, atD 0 rfl, .t (by decide +kernel) ⟨szr, q⟩⟩
  · refine ⟨_, atD 0 rfl, .f (by decide +kernel) ⟨_, atD 0 rfl, .t (by decide +kernel) ⟨_, atD 1 rfl, RgOk.of_le (by omega) ?_ (by omega) (by omega), ?_⟩⟩⟩
    · rw [List.length_map]; omega
    · rw [rangeP0, List.length_map]
      exact q
theorem okp_kind_values (T : Tx K mg w base) : FnOk P w K mg base CX0 5 T.f_kind_values T.fd_kind_values ["_law_kind"] (spP K T.tbs 1 R_kind_values) := by
  refine rec_kvals (k := 4) T ?_
  refine okP (k := 3) T.F_kind_values sc_kind_values rfl fun cdv A outer s H E G hG hcd hr => ⟨_, PSs.le pss_never (t' := tS K G fun _ _ => False) (fun D σ H ⟨_, _, _, _, _, h, _⟩ => h.elim), fun as C hl h => ?_⟩
  exact h
end

/-! ### numbers, names and kinds -/
def R_is_int : PR := fun as C => ∃ i : Int, as = [.dat (.int i)] ∧ C (.dat (.bool true)) as
def R_is_within : PR := fun as C => ∃ i lo hi : Int, as = [.dat (.int i), .dat (.int lo), .dat (.int hi)] ∧ C (.dat (.bool (decide (lo ≤ i ∧ i ≤ hi)))) as
def R_is_number_of : PR := fun as C => ∃ i n : Int, as = [.dat (.int i), .dat (.int n)] ∧ C (.dat (.bool (decide (0 ≤ i ∧ i ≤ n - 1)))) as
theorem rangeN (n : Nat) : rangeP 0 (n : Int) = nums (List.range n) := rangeP0 n
def GPl (d : PyData) : Prop := KPl d ∧ plainD d = true
def R_pool : PR := fun as C => as = [] ∧ ∀ ns : List Str, 60 ≤ ns.length → ns.length ≤ 200 → (∀ n ∈ ns, PyData.strOk n = true) → C (.own (ns.map PyData.str)) as
section
variable {P : Program} {w : World} {K : PySem.W.Frag} {mg : Str → Option Value} {base : Heap}
theorem okp_is_int (T : Tx K mg w base) : FnOk P w K mg base CX0 1 T.f_is_int T.fd_is_int ["thing"] (spP K T.tbs 1 R_is_int) := by
  refine okP T.F_is_int sc_is_int rfl fun cdv A outer s H E G hG hcd hr => ⟨_, (pss_oneP (ps_retP (pe_andP (pe_isiP (by simp) (pe_callB call_isi (by rfl) T.z_isinstance (by decide +kernel) (pa_cons (pe_borP (pv 0)) (pa_cons (pe_bltn (v := .ty "int") rfl T.z_int (by decide +kernel) rfl) pa_nil)))) (pe_oneP (pe_notP (pe_isiP (by simp) (pe_callB call_isi (by rfl) T.z_isinstance (by decide +kernel) (pa_cons (pe_borP (pv 0)) (pa_cons (pe_bltn (v := .ty "bool") rfl T.z_bool (by decide +kernel) rfl) pa_nil))))))))), fun as C hl h => ?_⟩
  obtain ⟨i, rfl, q⟩ := h
  exact .t rfl q
theorem okp_is_within (T : Tx K mg w base) : FnOk P w K mg base CX0 2 T.f_is_within T.fd_is_within ["thing", "low", "high"] (spP K T.tbs 3 R_is_within) := by
  refine okP T.F_is_within sc_is_within rfl fun cdv A outer s H E G hG hcd hr => ⟨_, (pss_oneP (ps_retP (pe_andP (pe_callP hG (pe_call (okp_is_int T) (hr.mono (by decide)) rfl T.m_is_int T.F_is_int.kp T.b_is_int .nil pass0 (pa_consP (pe_borP (pv 0)) pa_nilP))) (pe_oneP (pe_chainP (pe_chain op_le op_le (pe_borP (pv 1)) (pe_borP (pv 0)) (pe_borP (pv 2)))))))), fun as C hl h => ?_⟩
  obtain ⟨i, lo, hi, rfl, q⟩ := h
  refine ⟨i, rfl, ?_⟩
  refine .t rfl ?_
  refine IfP.both (fun h1 => ?_) fun h1 => ?_
  · have e : decide (lo ≤ i ∧ i ≤ hi) = decide (i ≤ hi) := by
      have := of_decide_eq_true h1
      simp [this]
    rw [e] at q
    exact q
  · have e : decide (lo ≤ i ∧ i ≤ hi) = false := decide_eq_false fun z => of_decide_eq_false h1 z.1
    rw [e] at q
    exact q
theorem okp_is_number_of (T : Tx K mg w base) : FnOk P w K mg base CX0 3 T.f_is_number_of T.fd_is_number_of ["thing", "many"] (spP K T.tbs 2 R_is_number_of) := by
  refine okP T.F_is_number_of sc_is_number_of rfl fun cdv A outer s H E G hG hcd hr => ⟨_, (pss_oneP (ps_retP (pe_callP hG (pe_call (okp_is_within T) (hr.mono (by decide)) rfl T.m_is_within T.F_is_within.kp T.b_is_within .nil pass0 (pa_consP (pe_borP (pv 0)) (pa_consP (pe_cP (d := .int 0) pe_int) (pa_consP (pe_opP op_sub li_sub (pe_borP (pv 1)) (pe_cP (d := .int 1) pe_int)) pa_nilP))))))), fun as C hl h => ?_⟩
  obtain ⟨i, n, rfl, q⟩ := h
  exact ⟨i, 0, n - 1, rfl, q⟩
theorem okp_pool (T : Tx K mg w base) : FnOk P w K mg base CX0 1 T.f_pool T.fd_pool [] (spP K T.tbs 0 R_pool) := by
  refine okP T.F_pool sc_pool rfl fun cdv A outer s H E G hG hcd hr => ⟨_, (pss_consP (ps_setP (ps_set (i := 0) sc_pool.nd rfl (Or.inl rfl) (pe_cP (d := .str "a b c x y z k9 ok up no on off low top run idle stop warm door belt lamp fan tank pump valve speed level") pe_str)))
      (pss_consP (ps_setP (ps_set (i := 1) sc_pool.nd rfl (Or.inl rfl) (pe_cP (d := .str " press gate8 north alpha1 beta gamma delta8 motor1 heat2 cold3 open1 shut2 left right lift tray oven saw") pe_str)))
      (pss_consP (ps_setP (ps_set (i := 2) sc_pool.nd rfl (Or.inl rfl) (pe_cP (d := .str " drill plane stirrer conveyor p1 p2 q7 rr ss1 tt22 uuu3 vent hopper chute crane winch spool brush jig8") pe_str)))
      (pss_oneP (ps_retP (pe_splitP (pe_split (pe_opP op_addP li_add (pe_opP op_addP li_add (pe_borP (pv 0)) (pe_borP (pv 1))) (pe_borP (pv 2))) (pe_cP (d := .str " ") pe_str)))))))), fun as C hl h => ?_⟩
  obtain ⟨rfl, q⟩ := h
  refine ⟨szr, szr, rfl, szr, ?_⟩
  exact q _ (by decide +kernel) (by decide +kernel) (by decide +kernel)
theorem erase_strs (ns : List Str) (k : Nat) : (ns.map PyData.str).eraseIdx k = (ns.eraseIdx k).map PyData.str := by
  rw [List.eraseIdx_eq_take_drop_succ, List.eraseIdx_eq_take_drop_succ, List.map_append, List.map_take, List.map_drop]
theorem modeK {ns : List Str} (h1 : 1 ≤ ns.length) (h2 : ns.length ≤ 8) (ok : ∀ n ∈ ns, PyData.strOk n = true) : GPl (.tuple [.str "mode", .tuple (ns.map PyData.str)]) := by
  refine ⟨.inr (.inl ⟨ns, rfl, h1, h2⟩), ?_⟩
  have : ∀ l : List Str, (∀ n ∈ l, PyData.strOk n = true) → plainAll (l.map PyData.str) = true := fun l => by
    induction l with
    | nil => exact fun _ => rfl
    | cons a l ih =>
      intro h
      show (PyData.strOk a && plainAll (l.map PyData.str)) = true
      rw [ih fun n hn => h n (List.mem_cons_of_mem _ hn), h a List.mem_cons_self]
      rfl
  have e : plainD (.str "mode") = true := by decide +kernel
  show (plainD (.str "mode") && (plainD (.tuple (ns.map PyData.str)) && plainAll [])) = true
  rw [show plainD (.tuple (ns.map PyData.str)) = true from this ns ok, e]
  rfl
def R_plain_kind : PR := fun as C => ∃ (m : Int) (ns : List Str), as = [.drw, .dat (.int m), .arg (ns.map PyData.str)] ∧ 2 ≤ m ∧ m ≤ 100 ∧ 3 < ns.length ∧ ns.length ≤ 200 ∧ (∀ n ∈ ns, PyData.strOk n = true) ∧
  ∀ (kd : PyData) (ns' : List Str), GPl kd → (∀ n ∈ ns', PyData.strOk n = true) → ns.length ≤ ns'.length + 3 → ns'.length ≤ ns.length → C (.dat kd) [.drw, .dat (.int m), .arg (ns'.map PyData.str)]
theorem okp_plain_kind (T : Tx K mg w base) : FnOk P w K mg base CX0 4 T.f_plain_kind T.fd_plain_kind ["_law_d", "_law_most", "_law_pool_here"] (spP K T.tbs 3 R_plain_kind) := by
  refine okP T.F_plain_kind sc_plain_kind rfl fun cdv A outer s H E G hG hcd hr => ⟨_, (pss_consP (ps_setP (ps_set (i := 3) sc_plain_kind.nd rfl (Or.inl rfl) (pe_callP hG (pe_call (okp_draw T) (hr.mono (by decide)) rfl T.m_draw T.F_draw.kp T.b_draw .nil pass0 (pa_consP (pe_borP (pv 0)) (pa_consP (pe_cP (d := .int 4) pe_int) pa_nilP))))))
      (pss_consP (ps_ifP (pt_cmpP (op_eqP hr.units) li_eq (pe_borP (pv 3)) (pe_cP (d := .int 0) pe_int) (nomark _)) (pss_oneP (ps_retP (pe_tupP (pa_consP (pe_cP (d := .str "bool") pe_str) pa_nilP)))) pss_nilP)
      (pss_consP (ps_ifP (pt_cmpP (op_eqP hr.units) li_eq (pe_borP (pv 3)) (pe_cP (d := .int 1) pe_int) (nomark _)) (pss_consP (ps_setP (ps_set (i := 4) sc_plain_kind.nd rfl (Or.inl rfl) (pe_lstP pa_nilP)))
      (pss_consP (ps_forP (ps_for PassesOwn.never rfl (pi_range1P (pi_range1 (by rfl) T.z_range (pa_consP (pe_opP op_addP li_add (pe_cP (d := .int 2) pe_int) (pe_callP hG (pe_call (okp_draw T) (hr.mono (by decide)) rfl T.m_draw T.F_draw.kp T.b_draw .nil pass0 (pa_consP (pe_borP (pv 0)) (pa_consP (pe_cP (d := .int 2) pe_int) pa_nilP))))) pa_nilP))) (pg_nameP (pg_name (i := 5) sc_plain_kind.nd rfl (Or.inl rfl)))
      (pss_oneP (ps_dropP (pe_methP lm_app (pe_bm PySem.F.plainAttrs_list PySem.F.slot_list_append PySem.F.type_list_append mt_append (pe_borP (pv 4)) (pa_consP (pe_frzP (pe_callP hG (pe_call (okp_pop T) (hr.mono (by decide)) rfl T.m_pop T.F_pop.kp T.b_pop .nil pass0 (pa_consP (pe_borP (pv 0)) (pa_consP (pe_borP (pv 2)) pa_nilP))))) pa_nilP)))))))
      (pss_oneP (ps_retP (pe_tupP (pa_consP (pe_cP (d := .str "mode") pe_str) (pa_consP (pe_frzP (pe_cbP lc_tup (pe_callTy (show CallR _ (.type "tuple") (rTupOf K) from call_tup) (by rfl) T.z_tuple (by decide +kernel) (pa_consP (pe_borP (pv 4)) pa_nilP)))) pa_nilP))))))) pss_nilP)
      (pss_oneP (ps_retP (pe_callP hG (pe_call (okp_num T) (hr.mono (by decide)) rfl T.m_num T.F_num.kp T.b_num .nil pass0 (pa_consP (pe_borP (pv 0)) (pa_consP (pe_borP (pv 1)) pa_nilP))))))))), fun as C hl h => ?_⟩
  obtain ⟨m, ns, rfl, m2, m100, n3, n200, ok, q⟩ := h
  refine ⟨_, rfl, by decide, by decide, fun way w0 w4 => ?_⟩
  refine IfP.both (fun h1 => ?_) fun h1 => IfP.both (fun h2 => ?_) fun h2 => ?_
  · exact ⟨szr, q truthD ns ⟨truth_kpl, truth_gk.2⟩ ok (by omega) (Nat.le_refl _)⟩
  · refine ⟨szr, _, rfl, by decide, by decide, fun r r0 r1 => ?_⟩
    refine ⟨by omega, by omega, ?_⟩
    obtain ⟨n, en, n2, n3'⟩ : ∃ n : Nat, 2 + r = (n : Int) ∧ 2 ≤ n ∧ n ≤ 3 := ⟨(2 + r).toNat, by omega, by omega, by omega⟩
    rw [en, rangeN]
    refine ⟨fun i env => ∃ (nm ns' : List Str) (c5 : Cel), nm.length = i ∧ ns'.length + i = ns.length ∧ (∀ n ∈ nm, PyData.strOk n = true) ∧ (∀ n ∈ ns', PyData.strOk n = true) ∧ env = [.drw, .dat (.int m), .arg (ns'.map PyData.str), .dat (.int way), .own (nm.map PyData.str), c5], ⟨[], ns, _, rfl, rfl, (fun n h => by cases h), ok, rfl⟩, ?_, ?_⟩
    · rintro i x env hi ⟨nm, ns', c5, l1, l2, ok1, ok2, rfl⟩
      obtain ⟨j, hj, rfl⟩ := nums_at' hi
      have hi' := (List.getElem?_eq_some_iff.mp hj).1
      rw [List.length_range] at hi'
      rw [List.getElem?_range hi'] at hj
      cases hj
      refine ⟨ns'.map PyData.str, rfl, ?_, ?_, fun k d hd => ?_⟩
      · intro z
        rw [List.map_eq_nil_iff.mp z] at l2
        have : 0 + i = ns.length := l2
        omega
      · rw [List.length_map]
        omega
      · rw [List.getElem?_map] at hd
        obtain ⟨w, hw, rfl⟩ := Option.map_eq_some_iff.mp hd
        have hk := (List.getElem?_eq_some_iff.mp hw).1
        refine ⟨szl (by rw [List.length_map]; omega), nm ++ [w], ns'.eraseIdx k, .dat (.int (i : Int)), by rw [List.length_append]; show _ + 1 = _; omega, ?_, ?_, ?_, ?_⟩
        · rw [List.length_eraseIdx, if_pos hk]
          omega
        · intro n hn
          rcases List.mem_append.mp hn with h | h
          · exact ok1 n h
          · rw [List.mem_singleton.mp h]
            exact ok2 w (List.mem_of_getElem? hw)
        · exact fun n hn => ok2 n (List.mem_of_mem_eraseIdx hn)
        · rw [← erase_strs, List.map_append]
          rfl
    · rintro env ⟨nm, ns', c5, l1, l2, ok1, ok2, rfl⟩
      rw [nums_len, List.length_range] at l1 l2
      exact ⟨szr, q _ ns' (modeK (by omega) (by omega) ok1) ok2 (by omega) (by omega)⟩
  · exact ⟨m, rfl, m2, m100, fun kd k1 k2 => q kd ns ⟨k1, k2⟩ ok (by omega) (Nat.le_refl _)⟩
end

/-! ### rows of nodes -/
def sameKC (kd cd : PyData) (q : NQ) : Bool := PyData.eqv q.1.k kd && PyData.eqv (clD q.1.cl) cd
/-- a node at its place: its needs stand ahead of it, its source anywhere -/
structure Nk (B j : Nat) (q : NQ) : Prop where
  ok : q.1.ok q.2.1 q.2.2
  cl : q.1.cl.length ≤ 4
  few : q.2.1.length ≤ 12
  need : ∀ v ∈ q.1.needs q.2.1, v < j
  src : ∀ s, q.2.2 = some s → s < B
  k : GK q.1.k
def NOk (N : List NQ) : Prop := ∀ j q, N[j]? = some q → Nk N.length j q
theorem Nk.mono {B B' j : Nat} {q : NQ} (h : Nk B j q) (l : B ≤ B') : Nk B' j q := ⟨h.ok, h.cl, h.few, h.need, fun s e => Nat.lt_of_lt_of_le (h.src s e) l, h.k⟩
theorem Nk.len {B j : Nat} {q : NQ} (h : Nk B j q) : (q.1.needs q.2.1).length < 60 := by
  have := h.cl
  have := h.few
  unfold Nd.needs
  rw [List.length_append, List.length_map]
  omega
theorem NOk.app {N : List NQ} {q : NQ} (h : NOk N) (k : Nk (N.length + 1) N.length q) : NOk (N ++ [q]) := by
  intro j p e
  rw [List.length_append]
  rcases Nat.lt_or_ge j N.length with hj | hj
  · rw [List.getElem?_append_left hj] at e
    exact (h j p e).mono (Nat.le_succ _)
  · rw [List.getElem?_append_right hj] at e
    cases hz : j - N.length with
    | zero =>
      rw [hz] at e
      cases e
      rw [show j = N.length by omega]
      exact k
    | succ m => rw [hz] at e; simp at e
theorem nodesD_app (N : List NQ) (q : NQ) : nodesD (N ++ [q]) = nodesD N ++ [q.1.d] := List.map_append
theorem nodesD_len (N : List NQ) : (nodesD N).length = N.length := List.length_map _
theorem cl_lt {B j : Nat} {q : NQ} (h : Nk B j q) : ∀ p ∈ q.1.cl, p.1 < j := fun p hp => h.need p.1 (List.mem_append_left _ (List.mem_map_of_mem hp))
/-- the same kind and clock -/
theorem sameKC_iff {kd cd : PyData} {q : NQ} {cl : List (Nat × Int)} (hk : GK kd) (hq : GK q.1.k) (hc : cd = clD cl) (h : sameKC kd cd q = true) : q.1.k = kd ∧ clD q.1.cl = clD cl := by
  unfold sameKC at h
  rw [Bool.and_eq_true, hc] at h
  exact ⟨(eqv_iff hq.2 hk.2).mp h.1, (eqv_iff (clD_plain _) (clD_plain _)).mp h.2⟩
theorem clD_inj {a b : List (Nat × Int)} (h : clD a = clD b) : a = b := by
  have h := PyData.tuple.inj h
  induction a generalizing b with
  | nil => cases b with
    | nil => rfl
    | cons _ _ => cases h
  | cons p a ih =>
    cases b with
    | nil => cases h
    | cons r b =>
      have h := List.cons.inj h
      have h1 := PyData.tuple.inj h.1
      have h2 := List.cons.inj h1
      have h3 := List.cons.inj h2.2
      have e1 : (p.1 : Int) = (r.1 : Int) := PyData.int.inj h2.1
      have e2 : p.2 = r.2 := PyData.int.inj h3.1
      rw [ih (congrArg PyData.tuple h.2) h.2, show p = r from Prod.ext (Int.ofNat.inj e1) e2]
/-- a clock over some nodes -/
def ClOk (n : Nat) (cl : List (Nat × Int)) : Prop := cl.length ≤ 4 ∧ ∀ p ∈ cl, p.1 < n
theorem ClOk.mono {n m : Nat} {cl : List (Nat × Int)} (h : ClOk n cl) (l : n ≤ m) : ClOk m cl := ⟨h.1, fun p hp => Nat.lt_of_lt_of_le (h.2 p hp) l⟩
theorem NOk.cl {N : List NQ} (h : NOk N) {j : Nat} {q : NQ} (e : N[j]? = some q) : ClOk N.length q.1.cl := by
  have k := h j q e
  have hj := (List.getElem?_eq_some_iff.mp e).1
  exact ⟨k.cl, fun p hp => Nat.lt_trans (cl_lt k p hp) hj⟩
/-- a new node that needs its clock and other nodes -/
theorem nk_new {n : Nat} {w : Str} {k : PyData} {cl : List (Nat × Int)} {rest : List PyData} {ps : List Nat} {src : Option Nat} (ok : Nd.ok ⟨w, k, cl, rest⟩ ps src) (hc : ClOk n cl) (few : ps.length ≤ 12) (hp : ∀ v ∈ ps, v < n) (hs : ∀ s, src = some s → s < n + 1) (gk : GK k) : Nk (n + 1) n (⟨w, k, cl, rest⟩, ps, src) :=
  ⟨ok, hc.1, few, fun v hv => by
    rcases List.mem_append.mp (show v ∈ cl.map (·.1) ++ ps from hv) with hv | hv
    · obtain ⟨p, h, rfl⟩ := List.mem_map.mp hv
      exact hc.2 p h
    · exact hp v hv, hs, gk⟩
/-- words of operations with two parts and more -/
def twoW : List Str := ["and", "or", "xor", "add", "sub", "min", "max", "mul", "div", "lt", "le", "eq", "ne"]
def lowW : List Str := ["input", "here", "const", "beat", "when", "merge", "delay"]
def ArQ (q : NQ) : Prop := (q.1.w ∈ twoW → 2 ≤ q.2.1.length) ∧ (q.1.w = "pick" → 3 ≤ q.2.1.length) ∧ ∀ d ∈ q.1.rest, d.depth ≤ 8
theorem dpI (l : List Nat) : ∀ d ∈ nums l, d.depth ≤ 8 := fun d hd => by
  obtain ⟨i, _, rfl⟩ := List.mem_map.mp hd
  exact Nat.zero_le _
theorem dp1 (i : Int) : ∀ d ∈ [PyData.int i], d.depth ≤ 8 := fun d hd => by
  rw [List.mem_singleton.mp hd]
  exact Nat.zero_le _
theorem dp2 (i j : Int) : ∀ d ∈ [PyData.int i, .int j], d.depth ≤ 8 := fun d hd => by
  rcases List.mem_cons.mp hd with rfl | hd
  · exact Nat.zero_le _
  · exact dp1 j d hd
theorem dpT (l : List Nat) : ∀ d ∈ [PyData.tuple (nums l)], d.depth ≤ 8 := fun d hd => by
  rw [List.mem_singleton.mp hd]
  exact Nat.le_trans (Nat.succ_le_succ (depth_of (n := 0) fun d hd => by
    obtain ⟨i, _, rfl⟩ := List.mem_map.mp hd
    exact Nat.le_refl 0)) (by decide)
theorem dpM (i : Int) (l : List Nat) : ∀ d ∈ [PyData.int i, .tuple (nums l)], d.depth ≤ 8 := fun d hd => by
  rcases List.mem_cons.mp hd with rfl | hd
  · exact Nat.zero_le _
  · exact dpT l d hd
theorem dpV {v : PyData} (h : v.depth ≤ 8) : ∀ d ∈ [v], d.depth ≤ 8 := fun d hd => by
  rw [List.mem_singleton.mp hd]
  exact h
theorem dpD {v : PyData} (h : v.depth ≤ 8) (i : Int) (l : List Nat) : ∀ d ∈ [v, .int i, .tuple (nums l)], d.depth ≤ 8 := fun d hd => by
  rcases List.mem_cons.mp hd with rfl | hd
  · exact h
  · exact dpM i l d hd
theorem ArQ.lit {q : NQ} (w : Str) (e : q.1.w = w) (h : w ∈ lowW) (dp : ∀ d ∈ q.1.rest, d.depth ≤ 8 := by first | exact dp1 _ | exact dp2 _ _ | exact dpM _ _) : ArQ q := by
  have : ∀ x ∈ lowW, ¬ x ∈ twoW ∧ ¬ x = "pick" := by decide +kernel
  exact ⟨fun z => absurd (e ▸ z) (this w h).1, fun z => absurd (e.symm.trans z) (this w h).2, dp⟩
def PlN (N : List NQ) : Prop := ∀ q ∈ N, plainD q.1.d = true ∧ ArQ q
theorem PlN.app {N : List NQ} {q : NQ} (h : PlN N) (k : plainD q.1.d = true) (a : ArQ q) : PlN (N ++ [q]) := fun x hx => (List.mem_append.mp hx).elim (h x) fun hx => by rw [List.mem_singleton.mp hx]; exact ⟨k, a⟩
theorem plain_nd {w : Str} {k : PyData} {cl : List (Nat × Int)} {rest : List PyData} (hw : PyData.strOk w = true) (hk : plainD k = true) (hr : plainAll rest = true) : plainD (Nd.d ⟨w, k, cl, rest⟩) = true := by
  show (PyData.strOk w && (plainD k && (plainAll (cl.map pairD) && plainAll rest))) = true
  rw [hw, hk, plainAll_pairs, hr]
  rfl

/-! ### an input's node -/
def InD (d : PyData) : Prop := ∃ (n : Str) (kd : PyData) (e : Int), d = .tuple [.str n, kd, .int e] ∧ GK kd
def R_input_node : PR := fun as C => ∃ (ins : List PyData) (N : List NQ) (a : Nat) (cl : List (Nat × Int)), as = [.arg ins, .arg (nodesD N), .dat (.int (a : Int)), .dat (clD cl)] ∧ NOk N ∧ PlN N ∧ N.length ≤ 300 ∧ (∀ d ∈ ins, InD d) ∧ a < ins.length ∧ ClOk N.length cl ∧
  ∀ N' : List NQ, NOk N' → PlN N' → N.length + 1 ≤ N'.length → N'.length ≤ N.length + 2 → C (.dat .none) [.arg ins, .arg (nodesD N'), .dat (.int (a : Int)), .dat (clD cl)]
section
variable {P : Program} {w : World} {K : PySem.W.Frag} {mg : Str → Option Value} {base : Heap}
theorem okp_input_node (T : Tx K mg w base) : FnOk P w K mg base CX0 1 T.f_input_node T.fd_input_node ["_law_inputs", "_law_nodes", "_law_at", "_law_clock"] (spP K T.tbs 4 R_input_node) := by
  refine okP T.F_input_node sc_input_node rfl fun cdv A outer s H E G hG hcd hr => ⟨_, (pss_cutP (ps_ifP (pt_cmpP (op_eqP hr.units) li_eq (pe_ixP (pe_ixP (pe_borP (pv 0)) (pe_borP (pv 2)) (fun _ _ => rfl) li_ix) (pe_cP (d := .int 2) pe_int) (fun _ _ => rfl) li_ix) (pe_cP (d := .int 0) pe_int) (nomark _)) (pss_oneP (ps_setP (ps_set (i := 3) sc_input_node.nd rfl (Or.inl rfl) (pe_tupP pa_nilP)))) (pss_oneP (ps_ifP (pt_cmpP (op_eqP hr.units) li_eq (pe_ixP (pe_ixP (pe_borP (pv 0)) (pe_borP (pv 2)) (fun _ _ => rfl) li_ix) (pe_cP (d := .int 2) pe_int) (fun _ _ => rfl) li_ix) (pe_cP (d := .int 1) pe_int) (nomark _)) (pss_consP (ps_dropP (pe_methP lm_app (pe_bm PySem.F.plainAttrs_list PySem.F.slot_list_append PySem.F.type_list_append mt_append (pe_borP (pv 1)) (pa_consP (pe_tupP (pa_consP (pe_cP (d := .str "here") pe_str) (pa_consP (pe_tupP (pa_consP (pe_cP (d := .str "bool") pe_str) pa_nilP)) (pa_consP (pe_tupP pa_nilP) (pa_consP (pe_varP (pv 2)) pa_nilP))))) pa_nilP))))
      (pss_oneP (ps_setP (ps_set (i := 3) sc_input_node.nd rfl (Or.inl rfl) (pe_tupP (pa_consP (pe_tupP (pa_consP (pe_frzP (pe_opP op_sub li_sub (pe_cbP lc_len (pe_callB call_lenP (by rfl) T.z_len (by decide +kernel) (pa_consP (pe_borP (pv 1)) pa_nilP))) (pe_cP (d := .int 1) pe_int))) (pa_consP (pe_cP (d := .int 1) pe_int) pa_nilP))) pa_nilP)))))) pss_nilP)))
      (pss_oneP (ps_dropP (pe_methP lm_app (pe_bm PySem.F.plainAttrs_list PySem.F.slot_list_append PySem.F.type_list_append mt_append (pe_borP (pv 1)) (pa_consP (pe_tupP (pa_consP (pe_cP (d := .str "input") pe_str) (pa_consP (pe_ixP (pe_ixP (pe_borP (pv 0)) (pe_borP (pv 2)) (fun _ _ => rfl) li_ix) (pe_cP (d := .int 1) pe_int) (fun _ _ => rfl) li_ix) (pa_consP (pe_varP (pv 3)) (pa_consP (pe_varP (pv 2)) pa_nilP))))) pa_nilP)))))), fun as C hl h => ?_⟩
  obtain ⟨ins, N, a, cl, rfl, no, pl, lN, hin, ha, hc, q⟩ := h
  have hd := List.getElem?_eq_getElem ha
  obtain ⟨nm, kd, ev, ed, gk⟩ := hin _ (List.mem_of_getElem? hd)
  rw [ed] at hd
  have lD := nodesD_len N
  refine ⟨fun env => ∃ (N1 : List NQ) (cl1 : List (Nat × Int)), NOk N1 ∧ PlN N1 ∧ N.length ≤ N1.length ∧ N1.length ≤ N.length + 1 ∧ ClOk N1.length cl1 ∧ env = [.arg ins, .arg (nodesD N1), .dat (.int (a : Int)), .dat (clD cl1)], ?_, ?_⟩
  · refine ⟨_, atD a hd, _, atD 2 rfl, IfP.both (fun h1 => ?_) fun h1 => ⟨_, atD a hd, _, atD 2 rfl, IfP.both (fun h2 => ?_) fun h2 => ?_⟩⟩
    · exact ⟨szr, N, [], no, pl, Nat.le_refl _, Nat.le_succ _, ⟨Nat.zero_le _, fun p hp => by cases hp⟩, rfl⟩
    · refine ⟨szr, szr, szr, szl (by omega), szr, szr, ?_⟩
      have no1 := no.app (q := (⟨"here", truthD, [], [.int (a : Int)]⟩, [], none)) (nk_new (.inl ⟨.inr (.inl rfl), ⟨_, rfl⟩, rfl, rfl⟩) ⟨Nat.zero_le _, fun p hp => by cases hp⟩ (Nat.zero_le _) (fun v hv => by cases hv) (fun s e => by cases e) truth_gk)
      refine ⟨_, [(N.length, 1)], no1, pl.app (plain_nd (by decide +kernel) truth_gk.2 rfl) (.lit "here" rfl (by decide +kernel)), by rw [List.length_append]; exact Nat.le_add_right _ _, by rw [List.length_append]; exact Nat.le_refl _, ⟨Nat.le_of_ble_eq_true rfl, fun p hp => ?_⟩, ?_⟩
      · rw [List.mem_singleton.mp hp, List.length_append]
        exact Nat.lt_succ_self _
      · have e : (((nodesD N ++ [PyData.tuple [.str "here", truthD, .tuple [], .int (a : Int)]]).length : Nat) : Int) - 1 = (N.length : Int) := by
          rw [List.length_append, lD]
          show ((N.length + 1 : Nat) : Int) - 1 = _
          omega
        show List.set _ 3 (Cel.dat (.tuple [.tuple [.int ((((nodesD N ++ [PyData.tuple [.str "here", truthD, .tuple [], .int (a : Int)]]).length : Nat) : Int) - 1), .int 1]])) = _
        rw [e, nodesD_app]
        rfl
    · exact ⟨N, cl, no, pl, Nat.le_refl _, Nat.le_succ _, hc, rfl⟩
  · rintro env ⟨N1, cl1, no1, pl1, l1, l2, hc1, rfl⟩
    have lD1 := nodesD_len N1
    have no2 := no1.app (q := (⟨"input", kd, cl1, [.int (a : Int)]⟩, [], none)) (nk_new (.inl ⟨.inl rfl, ⟨_, rfl⟩, rfl, rfl⟩) hc1 (Nat.zero_le _) (fun v hv => by cases hv) (fun s e => by cases e) gk)
    have fin := q _ no2 (pl1.app (plain_nd (by decide +kernel) gk.2 rfl) (.lit "input" rfl (by decide +kernel))) (by rw [List.length_append]; exact Nat.succ_le_succ l1) (by rw [List.length_append]; exact Nat.succ_le_succ l2)
    rw [nodesD_app] at fin
    exact ⟨_, atD a hd, _, atD 1 rfl, szr, szl (by omega), fin⟩
end

/-! ### numbers kept by a test -/
section
variable {env : PEnv} {g : PTg} {t : PTst} {f : PEx} {vs : List Nat} {C : PK}
theorem lc_numsP {l : List Nat} (p : Nat → Bool) (hl : l.length < sizeLine) (hb : ∀ (j a : Nat), l[j]? = some a → ∀ Q : Option PyData → PEnv → Prop, (p a = true → Q (some (.int (a : Int))) (wipeP env vs)) → (p a = false → Q none (wipeP env vs)) → g (.int (a : Int)) (wipeP env vs) fun e3 => t e3 fun b e4 => IfP b (f e4 (fun p e5 => match p with
      | .dat d => Q (some d) (wipeP e5 vs)
      | _ => False)) (Q none (wipeP e4 vs))) (hc : C (.own (nums (l.filter p))) (wipeP env vs)) (hf : fgtB env vs = true := by rfl) : LcOk (nums l) env g t f vs C := by
  refine lc_filterP (l := l) (e := fun i : Nat => .int (i : Int)) (fun a => if p a = true then some (.int (a : Int)) else none) hl (fun j a ha Q k => ?_) ?_ hf
  · refine hb j a ha Q (fun h => ?_) fun h => ?_
    · rw [if_pos h] at k
      exact k
    · rw [if_neg (by rw [h]; decide)] at k
      exact k
  · have e : l.filterMap (fun a : Nat => if p a = true then some (PyData.int (a : Int)) else none) = nums (l.filter p) := by
      clear hc hb hl
      induction l with
      | nil => rfl
      | cons a l ih =>
        rw [List.filterMap_cons, List.filter_cons]
        by_cases h : p a = true
        · rw [if_pos h, if_pos h]
          dsimp only
          rw [ih]
          rfl
        · rw [if_neg h, if_neg h]
          exact ih
    rw [e]
    exact hc
end
/-- a test of the node at a number -/
def atN (N : List NQ) (p : NQ → Bool) (j : Nat) : Bool := match N[j]? with
  | some q => p q
  | none => false
theorem atN_some {N : List NQ} {p : NQ → Bool} {j : Nat} {q : NQ} (h : N[j]? = some q) : atN N p j = p q := by
  unfold atN
  rw [h]
theorem atN_mem {N : List NQ} {p : NQ → Bool} {j : Nat} {l : List Nat} (h : j ∈ l.filter (atN N p)) : ∃ q, N[j]? = some q ∧ p q = true ∧ j ∈ l := by
  have h1 := (List.mem_filter.mp h).1
  have h2 := (List.mem_filter.mp h).2
  unfold atN at h2
  cases e : N[j]? with
  | none => rw [e] at h2; cases h2
  | some q => rw [e] at h2; exact ⟨q, rfl, h2, h1⟩

/-! ### a node of a kind on a clock -/
theorem atI_back {α : Type} {xs : List α} {r : Int} (h0 : 0 ≤ r) (h1 : r < (xs.length : Int)) : ∃ k : Nat, k < xs.length ∧ ∀ v, xs[k]? = some v → atI xs (-1 - r) = some v := by
  refine ⟨(xs.length - 1 - r.toNat), by omega, fun v e => ?_⟩
  unfold atI ixN
  rw [if_neg (by omega), if_pos (by omega)]
  have : (-1 - r + (xs.length : Int)).toNat = xs.length - 1 - r.toNat := by omega
  show xs[(-1 - r + (xs.length : Int)).toNat]? = some v
  rw [this]
  exact e
def constN (kd : PyData) (cl : List (Nat × Int)) (v : PyData) : NQ := (⟨"const", kd, cl, [v]⟩, [], none)
def R_one_of : PR := fun as C => ∃ (N : List NQ) (kd : PyData) (cl : List (Nat × Int)), as = [.drw, .arg (nodesD N), .dat kd, .dat (clD cl)] ∧ NOk N ∧ PlN N ∧ N.length ≤ 300 ∧ GK kd ∧ ClOk N.length cl ∧
  ∀ (j : Nat) (N' : List NQ), NOk N' → PlN N' → N.length ≤ N'.length → N'.length ≤ N.length + 1 → (∀ (i : Nat) (q : NQ), N[i]? = some q → N'[i]? = some q) → (∃ q, N'[j]? = some q ∧ q.1.k = kd ∧ q.1.cl = cl) → C (.dat (.int (j : Int))) [.drw, .arg (nodesD N'), .dat kd, .dat (clD cl)]
section
variable {P : Program} {w : World} {K : PySem.W.Frag} {mg : Str → Option Value} {base : Heap}
theorem okp_one_of (T : Tx K mg w base) : FnOk P w K mg base CX0 9 T.f_one_of T.fd_one_of ["_law_d", "_law_nodes", "_law_kind", "_law_clock"] (spP K T.tbs 4 R_one_of) := by
  refine okP T.F_one_of sc_one_of rfl fun cdv A outer s H E G hG hcd hr => ⟨_, (pss_cutP (ps_setLcP (i := 4) (vs := [5]) (ps_setLc (i := 4) (own := [("_law_n", 5)]) rfl sc_one_of.nd rfl rfl (sw_true rfl rfl rfl (by decide +kernel)) (pi_range1P (pi_range1 (by rfl) T.z_range (pa_consP (pe_cbP lc_len (pe_callB call_lenP (by rfl) T.z_len (by decide +kernel) (pa_consP (pe_borP (pv 1)) pa_nilP))) pa_nilP))) (blkOk_by (N := ["_law_d", "_law_nodes", "_law_kind", "_law_clock", "_law_there", "_law_n"]) (sc := defScope s_one_of) (by decide +kernel)) (fun _ _ _ _ _ => (pg_compP (vs := [5]) (pg_name (i := 5) sc_one_of.nd rfl (Or.inl rfl)))) (fun _ _ _ _ _ => (pts_one (PW.pt (pw_andP (pt_cmpP (op_eqP hr.units) li_eq (pe_ixP (pe_ixP (pe_borP (pv 1)) (pe_borP (pv 5)) (fun _ _ => rfl) li_ix) (pe_cP (d := .int 1) pe_int) (fun _ _ => rfl) li_ix) (pe_borP (pv 2)) (nomark _)) (pw_and1P (pt_cmpP (op_eqP hr.units) li_eq (pe_ixP (pe_ixP (pe_borP (pv 1)) (pe_borP (pv 5)) (fun _ _ => rfl) li_ix) (pe_cP (d := .int 2) pe_int) (fun _ _ => rfl) li_ix) (pe_borP (pv 3)) (nomark _))))))) (fun _ _ _ _ _ => (pe_varP (pv 5)))))
      (pss_cutP (ps_ifP (PW.pt (pw_andP (pt_truP (pe_borP (pv 4))) (pw_and1P (pt_cmpP (op_neP hr.units) li_ne (pe_callP hG (pe_call (okp_draw T) (hr.mono (by decide)) rfl T.m_draw T.F_draw.kp T.b_draw .nil pass0 (pa_consP (pe_borP (pv 0)) (pa_consP (pe_cP (d := .int 6) pe_int) pa_nilP)))) (pe_cP (d := .int 3) pe_int) (nomark _))))) (pss_oneP (ps_retP (pe_ixP (pe_borP (pv 4)) (pe_opP op_sub li_sub (pe_negP (pe_cP (d := .int 1) pe_int)) (pe_callP hG (pe_call (okp_draw T) (hr.mono (by decide)) rfl T.m_draw T.F_draw.kp T.b_draw .nil pass0 (pa_consP (pe_borP (pv 0)) (pa_consP (pe_cbP lc_min (pe_callB (call_minP rfl) (by rfl) T.z_min (by decide +kernel) (pa_consP (pe_cbP lc_len (pe_callB call_lenP (by rfl) T.z_len (by decide +kernel) (pa_consP (pe_borP (pv 4)) pa_nilP))) (pa_consP (pe_cP (d := .int 6) pe_int) pa_nilP)))) pa_nilP))))) (fun _ _ => rfl) li_ix))) pss_nilP)
      (pss_consP (ps_dropP (pe_methP lm_app (pe_bm PySem.F.plainAttrs_list PySem.F.slot_list_append PySem.F.type_list_append mt_append (pe_borP (pv 1)) (pa_consP (pe_tupP (pa_consP (pe_cP (d := .str "const") pe_str) (pa_consP (pe_varP (pv 2)) (pa_consP (pe_varP (pv 3)) (pa_consP (pe_frzP (pe_callP hG (pe_call (okp_value T) (hr.mono (by decide)) rfl T.m_value T.F_value.kp T.b_value .nil pass0 (pa_consP (pe_borP (pv 0)) (pa_consP (pe_borP (pv 2)) pa_nilP))))) pa_nilP))))) pa_nilP))))
      (pss_oneP (ps_retP (pe_opP op_sub li_sub (pe_cbP lc_len (pe_callB call_lenP (by rfl) T.z_len (by decide +kernel) (pa_consP (pe_borP (pv 1)) pa_nilP))) (pe_cP (d := .int 1) pe_int))))))), fun as C hl h => ?_⟩
  obtain ⟨N, kd, cl, rfl, no, pl, lN, gk, hc, q⟩ := h
  obtain ⟨s0, t0, rfl⟩ := gk.head
  generalize ek : (PyData.tuple (.str s0 :: t0)) = kd at gk q
  have lD := nodesD_len N
  refine ⟨fun env => ∃ th : List Nat, th.length ≤ N.length ∧ (∀ v ∈ th, ∃ q, N[v]? = some q ∧ q.1.k = kd ∧ q.1.cl = cl) ∧ env = [.drw, .arg (nodesD N), .dat kd, .dat (clD cl), .own (nums th), .no], ?_, ?_⟩
  · refine ⟨by omega, by omega, ?_⟩
    rw [lD, rangeN]
    refine lc_numsP (atN N (sameKC kd (clD cl))) (szl (by rw [List.length_range]; omega)) (fun j b hb Q k1 k2 => ?_) ⟨_, Nat.le_trans (List.length_filter_le _ _) (by rw [List.length_range]; exact Nat.le_refl _), (fun v hv => ?_), rfl⟩
    · have hi := (List.getElem?_eq_some_iff.mp hb).1
      rw [List.length_range] at hi
      rw [List.getElem?_range hi] at hb
      cases hb
      have hj := List.getElem?_eq_getElem hi
      generalize N[j] = r at hj
      rw [atN_some hj] at k1 k2
      have g := (no j r hj).k
      obtain ⟨⟨w1, kr, clr, rest⟩, ps, src⟩ := r
      obtain ⟨s, t, er⟩ := g.head
      have er : kr = .tuple (.str s :: t) := er
      subst er
      subst ek
      refine ⟨_, atD j (nodesD_at hj), _, atD 1 rfl, g.shaped, gk.shaped, IfP.both (fun h1 => ?_) fun h1 => .f rfl (k2 ?_)⟩
      · refine ⟨_, atD j (nodesD_at hj), _, atD 2 rfl, clD_shaped _, clD_shaped _, IfP.both (fun h2 => k1 ?_) fun h2 => k2 ?_⟩
        · have h2 : PyData.eqv (clD clr) (clD cl) = true := h2
          show (PyData.eqv _ _ && PyData.eqv (clD clr) (clD cl)) = true
          rw [h1, h2]
          rfl
        · have h2 : PyData.eqv (clD clr) (clD cl) = false := h2
          show (PyData.eqv _ _ && PyData.eqv (clD clr) (clD cl)) = false
          rw [h1, h2]
          rfl
      · show (PyData.eqv _ _ && PyData.eqv _ _) = false
        rw [h1]
        rfl
    · obtain ⟨r, hr, sr, _⟩ := atN_mem hv
      obtain ⟨e1, e2⟩ := sameKC_iff gk (no v r hr).k rfl sr
      exact ⟨r, hr, e1, clD_inj e2⟩
  subst ek
  rintro env ⟨th, lth, mth, rfl⟩
  have ln := nums_len th
  refine ⟨fun env => env = [.drw, .arg (nodesD N), .dat (PyData.tuple (.str s0 :: t0)), .dat (clD cl), .own (nums th), .no], ?_, ?_⟩
  · refine IfP.both (fun h1 => ⟨_, rfl, by decide, by decide, fun r r0 r1 => ?_⟩) fun h1 => .f rfl rfl
    refine IfP.both (fun h2 => ?_) fun h2 => rfl
    have pos : 0 < th.length := by
      cases th with
      | nil => cases h1
      | cons a l => exact Nat.succ_pos _
    refine ⟨_, rfl, ?_, ?_, fun r2 a2 b2 => ?_⟩
    · split <;> omega
    · split <;> omega
    · have b3 : r2 < ((nums th).length : Int) := by split at b2 <;> omega
      obtain ⟨k, hk, ak⟩ := atI_back (xs := nums th) a2 b3
      have hj := List.getElem?_eq_getElem (l := th) (show k < th.length by omega)
      generalize th[k] = j at hj
      exact ⟨_, ak _ (nums_at hj), q j N no pl (Nat.le_refl _) (Nat.le_succ _) (fun _ _ e => e) (mth j (List.mem_of_getElem? hj))⟩
  · rintro env rfl
    refine ⟨_, rfl, gk.1, fun dv pd => ⟨szr, szl (by omega), ?_⟩⟩
    generalize ek : (PyData.tuple (.str s0 :: t0)) = kd at gk q mth
    have e : nodesD N ++ [.tuple [.str "const", kd, clD cl, dv]] = nodesD (N ++ [constN kd cl dv]) := (nodesD_app N (constN kd cl dv)).symm
    have ej : (((nodesD N ++ [PyData.tuple [.str "const", kd, clD cl, dv]]).length : Nat) : Int) - 1 = (N.length : Int) := by
      rw [List.length_append, lD]
      show ((N.length + 1 : Nat) : Int) - 1 = _
      omega
    have fin := q N.length (N ++ [constN kd cl dv]) (no.app (nk_new (.inl ⟨.inr (.inr rfl), ⟨_, rfl⟩, rfl, rfl⟩) hc (Nat.zero_le _) (fun v hv => by cases hv) (fun s e => by cases e) gk)) (pl.app (plain_nd (by decide +kernel) gk.2 (by show (plainD dv && plainAll []) = true; rw [pd.1]; rfl)) (.lit "const" rfl (by decide +kernel) (dpV (Nat.le_trans pd.2 (by decide))))) (by rw [List.length_append]; exact Nat.le_add_right _ _) (by rw [List.length_append]; exact Nat.le_refl _) (fun i p e => by rw [List.getElem?_append_left (List.getElem?_eq_some_iff.mp e).1]; exact e) ⟨constN kd cl dv, by simp, rfl, rfl⟩
    rw [← ej, ← e] at fin
    subst ek
    exact fin
end

/-! ### cuts of rows -/
theorem cutP_map {α : Type} (f : α → PyData) (l : List α) (lo hi : Option Int) : cutP (l.map f) lo hi = ((l.drop (HT.sIx l.length 0 lo)).take (HT.sIx l.length l.length hi - HT.sIx l.length 0 lo)).map f := by
  unfold cutP
  rw [List.length_map, List.map_take, List.map_drop]
theorem cut_cl (cl : List (Nat × Int)) (lo hi : Option Int) : ∃ c2 : List (Nat × Int), PyData.tuple (cutP (cl.map pairD) lo hi) = clD c2 := ⟨_, congrArg PyData.tuple (cutP_map _ _ _ _)⟩
theorem plain_nums : ∀ l : List Nat, plainAll (nums l) = true
  | [] => rfl
  | a :: l => by
    show (plainD (.int (a : Int)) && plainAll (nums l)) = true
    rw [plain_nums l]
    rfl

/-! ### a delay -/
theorem ints_nat {out : List Int} {rs : List Nat} (h : out.Perm (rs.map fun i : Nat => (i : Int))) : ∃ l : List Nat, out = l.map (fun i : Nat => (i : Int)) ∧ l.Perm rs := by
  have e : ∀ l : List Nat, (l.map fun i : Nat => (i : Int)).map Int.toNat = l := fun l => by
    rw [List.map_map]
    exact (List.map_congr_left (g := id) fun a _ => rfl).trans (List.map_id _)
  refine ⟨out.map Int.toNat, ?_, by have := h.map Int.toNat; rwa [e] at this⟩
  rw [List.map_map]
  refine (List.map_id _).symm.trans (List.map_congr_left fun d hd => ?_)
  obtain ⟨v, _, rfl⟩ := List.mem_map.mp (h.mem_iff.mp hd)
  rfl
theorem erase_nums (l : List Nat) (k : Nat) : (nums l).eraseIdx k = nums (l.eraseIdx k) := by
  unfold nums
  rw [List.eraseIdx_eq_take_drop_succ, List.eraseIdx_eq_take_drop_succ, List.map_append, List.map_take, List.map_drop]
theorem few4 {r : Int} (r0 : 0 ≤ r) (r1 : r < 4) : ∃ k : Nat, atI [PyData.int 0, .int 0, .int 1, .int 2] r = some (.int (k : Int)) ∧ k ≤ 2 := by
  rcases (show r = 0 ∨ r = 1 ∨ r = 2 ∨ r = 3 by omega) with rfl | rfl | rfl | rfl
  · exact ⟨0, atD 0 rfl, by decide⟩
  · exact ⟨0, atD 1 rfl, by decide⟩
  · exact ⟨1, atD 2 rfl, by decide⟩
  · exact ⟨2, atD 3 rfl, by decide⟩
def R_delay_node : PR := fun as C => ∃ (N : List NQ) (a : Nat), as = [.drw, .arg (nodesD N), .dat (.int (a : Int))] ∧ NOk N ∧ PlN N ∧ N.length ≤ 300 ∧ a < N.length ∧
  ∀ N' : List NQ, NOk N' → PlN N' → N'.length = N.length + 1 → C (.dat .none) [.drw, .arg (nodesD N'), .dat (.int (a : Int))]
section
variable {P : Program} {w : World} {K : PySem.W.Frag} {mg : Str → Option Value} {base : Heap}
theorem okp_delay_node (T : Tx K mg w base) : FnOk P w K mg base CX0 9 T.f_delay_node T.fd_delay_node ["_law_d", "_law_nodes", "_law_a"] (spP K T.tbs 3 R_delay_node) := by
  refine okP T.F_delay_node sc_delay_node rfl fun cdv A outer s H E G hG hcd hr => ⟨_, (pss_consP (ps_setP (ps_set (i := 3) sc_delay_node.nd rfl (Or.inr rfl) (pe_ixP (pe_ixP (pe_borP (pv 1)) (pe_borP (pv 2)) (fun _ _ => rfl) li_ix) (pe_cP (d := .int 2) pe_int) (fun _ _ => rfl) li_ix)))
      (pss_cutP (ps_setLcP (i := 4) (vs := [8]) (ps_setLc (i := 4) (own := [("_law_n", 8)]) rfl sc_delay_node.nd rfl rfl (sw_true rfl rfl rfl (by decide +kernel)) (pi_range1P (pi_range1 (by rfl) T.z_range (pa_consP (pe_cbP lc_len (pe_callB call_lenP (by rfl) T.z_len (by decide +kernel) (pa_consP (pe_borP (pv 1)) pa_nilP))) pa_nilP))) (blkOk_by (N := ["_law_d", "_law_nodes", "_law_a", "_law_clock", "_law_rest", "_law_resets", "_law_step", "_law_first", "_law_n"]) (sc := defScope s_delay_node) (by decide +kernel)) (fun _ _ _ _ _ => (pg_compP (vs := [8]) (pg_name (i := 8) sc_delay_node.nd rfl (Or.inl rfl)))) (fun _ _ _ _ _ => (pts_one (PW.pt (pw_andP (pt_cmpP (op_eqP hr.units) li_eq (pe_ixP (pe_ixP (pe_borP (pv 1)) (pe_borP (pv 8)) (fun _ _ => rfl) li_ix) (pe_cP (d := .int 1) pe_int) (fun _ _ => rfl) li_ix) (pe_tupP (pa_consP (pe_cP (d := .str "bool") pe_str) pa_nilP)) (nomark _)) (pw_and1P (pt_cmpP (op_eqP hr.units) li_eq (pe_ixP (pe_ixP (pe_borP (pv 1)) (pe_borP (pv 8)) (fun _ _ => rfl) li_ix) (pe_cP (d := .int 2) pe_int) (fun _ _ => rfl) li_ix) (pe_sliceP (pe_borP (pv 3)) po_noneP (po_someP (pe_cbP lc_len (pe_callB call_lenP (by rfl) T.z_len (by decide +kernel) (pa_consP (pe_ixP (pe_ixP (pe_borP (pv 1)) (pe_borP (pv 8)) (fun _ _ => rfl) li_ix) (pe_cP (d := .int 2) pe_int) (fun _ _ => rfl) li_ix) pa_nilP))))) (nomark _))))))) (fun _ _ _ _ _ => (pe_varP (pv 8)))))
      (pss_consP (ps_setP (ps_set (i := 5) sc_delay_node.nd rfl (Or.inl rfl) (pe_lstP pa_nilP)))
      (pss_consP (ps_forP (ps_for PassesOwn.never rfl (pi_range1P (pi_range1 (by rfl) T.z_range (pa_consP (pe_ixP (pe_lstP (pa_consP (pe_cP (d := .int 0) pe_int) (pa_consP (pe_cP (d := .int 0) pe_int) (pa_consP (pe_cP (d := .int 1) pe_int) (pa_consP (pe_cP (d := .int 2) pe_int) pa_nilP))))) (pe_callP hG (pe_call (okp_draw T) (hr.mono (by decide)) rfl T.m_draw T.F_draw.kp T.b_draw .nil pass0 (pa_consP (pe_borP (pv 0)) (pa_consP (pe_cP (d := .int 4) pe_int) pa_nilP)))) (fun _ _ => rfl) li_ix) pa_nilP))) (pg_nameP (pg_name (i := 6) sc_delay_node.nd rfl (Or.inl rfl)))
      (pss_oneP (ps_ifP (pt_truP (pe_borP (pv 4))) (pss_oneP (ps_dropP (pe_methP lm_app (pe_bm PySem.F.plainAttrs_list PySem.F.slot_list_append PySem.F.type_list_append mt_append (pe_borP (pv 5)) (pa_consP (pe_frzP (pe_callP hG (pe_call (okp_pop T) (hr.mono (by decide)) rfl T.m_pop T.F_pop.kp T.b_pop .nil pass0 (pa_consP (pe_borP (pv 0)) (pa_consP (pe_borP (pv 4)) pa_nilP))))) pa_nilP))))) pss_nilP))))
      (pss_consP (ps_setP (ps_set (i := 7) sc_delay_node.nd rfl (Or.inl rfl) (pe_callP hG (pe_call (okp_value T) (hr.mono (by decide)) rfl T.m_value T.F_value.kp T.b_value .nil pass0 (pa_consP (pe_borP (pv 0)) (pa_consP (pe_ixP (pe_ixP (pe_borP (pv 1)) (pe_borP (pv 2)) (fun _ _ => rfl) li_ix) (pe_cP (d := .int 1) pe_int) (fun _ _ => rfl) li_ix) pa_nilP))))))
      (pss_oneP (ps_dropP (pe_methP lm_app (pe_bm PySem.F.plainAttrs_list PySem.F.slot_list_append PySem.F.type_list_append mt_append (pe_borP (pv 1)) (pa_consP (pe_tupP (pa_consP (pe_cP (d := .str "delay") pe_str) (pa_consP (pe_ixP (pe_ixP (pe_borP (pv 1)) (pe_borP (pv 2)) (fun _ _ => rfl) li_ix) (pe_cP (d := .int 1) pe_int) (fun _ _ => rfl) li_ix) (pa_consP (pe_varP (pv 3)) (pa_consP (pe_varP (pv 7)) (pa_consP (pe_varP (pv 2)) (pa_consP (pe_frzP (pe_cbP lc_tup (pe_callTy (show CallR _ (.type "tuple") (rTupOf K) from call_tup) (by rfl) T.z_tuple (by decide +kernel) (pa_consP (pe_cbP lc_sorted (pe_callB cr_sorted (by rfl) T.z_sorted (by decide +kernel) (pa_consP (pe_borP (pv 5)) pa_nilP))) pa_nilP)))) pa_nilP))))))) pa_nilP)))))))))), fun as C hl h => ?_⟩
  obtain ⟨N, a, rfl, no, pl, lN, ha, q⟩ := h
  have lD := nodesD_len N
  have hq := List.getElem?_eq_getElem ha
  generalize N[a] = q0 at hq
  have hc := no.cl hq
  have gk := (no a q0 hq).k
  refine ⟨_, atD a (nodesD_at hq), _, atD 2 rfl, ?_⟩
  refine ⟨fun env => ∃ rs : List Nat, rs.length ≤ N.length ∧ (∀ v ∈ rs, v < N.length) ∧ env = [.drw, .arg (nodesD N), .dat (.int (a : Int)), .dat (clD q0.1.cl), .own (nums rs), .no, .no, .no, .no], ?_, ?_⟩
  · refine ⟨by omega, by omega, ?_⟩
    rw [lD, rangeN]
    refine lc_numsP (atN N fun r => PyData.eqv r.1.k truthD && PyData.eqv (clD r.1.cl) (.tuple (cutP (q0.1.cl.map pairD) none (some (((r.1.cl.map pairD).length : Nat) : Int))))) (szl (by rw [List.length_range]; omega)) (fun j b hb Q k1 k2 => ?_) ⟨_, Nat.le_trans (List.length_filter_le _ _) (by rw [List.length_range]; exact Nat.le_refl _), (fun v hv => List.mem_range.mp (List.mem_filter.mp hv).1), rfl⟩
    have hi := (List.getElem?_eq_some_iff.mp hb).1
    rw [List.length_range] at hi
    rw [List.getElem?_range hi] at hb
    cases hb
    have hj := List.getElem?_eq_getElem hi
    generalize N[j] = r at hj
    rw [atN_some hj] at k1 k2
    have g := (no j r hj).k
    obtain ⟨⟨w1, kr, clr, rest⟩, ps, src⟩ := r
    obtain ⟨s, t, er⟩ := g.head
    have er : kr = .tuple (.str s :: t) := er
    subst er
    obtain ⟨c2, ec⟩ := cut_cl q0.1.cl none (some (((clr.map pairD).length : Nat) : Int))
    refine ⟨_, atD j (nodesD_at hj), _, atD 1 rfl, szr, g.shaped, truth_gk.shaped, IfP.both (fun h1 => ?_) fun h1 => .f rfl (k2 ?_)⟩
    · refine ⟨_, atD j (nodesD_at hj), _, atD 2 rfl, _, atD j (nodesD_at hj), _, atD 2 rfl, clD_shaped _, by rw [ec]; exact clD_shaped _, IfP.both (fun h2 => k1 ?_) fun h2 => k2 ?_⟩
      · show (PyData.eqv (.tuple (.str s :: t)) truthD && _) = true
        rw [show PyData.eqv (.tuple (.str s :: t)) truthD = true from h1]
        exact h2
      · show (PyData.eqv (.tuple (.str s :: t)) truthD && _) = false
        rw [show PyData.eqv (.tuple (.str s :: t)) truthD = true from h1]
        exact h2
    · show (PyData.eqv (.tuple (.str s :: t)) truthD && _) = false
      rw [show PyData.eqv (.tuple (.str s :: t)) truthD = false from h1]
      rfl
  rintro env ⟨rs0, l0, m0, rfl⟩
  refine ⟨szr, szr, _, rfl, by decide, by decide, fun r r0 r1 => ?_⟩
  obtain ⟨n, e1, n2⟩ := few4 r0 r1
  refine ⟨_, e1, by omega, by omega, ?_⟩
  rw [rangeN]
  refine ⟨fun i env => ∃ (rs th : List Nat) (c6 : Cel), rs.length ≤ N.length ∧ (∀ v ∈ rs, v < N.length) ∧ th.length ≤ i ∧ (∀ v ∈ th, v < N.length) ∧ env = [.drw, .arg (nodesD N), .dat (.int (a : Int)), .dat (clD q0.1.cl), .own (nums rs), .own (nums th), c6, .no, .no], ⟨rs0, [], _, l0, m0, Nat.le_refl _, (fun v h => by cases h), rfl⟩, ?_, ?_⟩
  · rintro i x env hi ⟨rs, th, c6, lr, mr, lt, mt, rfl⟩
    obtain ⟨j, hj, rfl⟩ := nums_at' hi
    have hi' := (List.getElem?_eq_some_iff.mp hj).1
    rw [List.length_range] at hi'
    have lnr := nums_len rs
    have lnt := nums_len th
    refine IfP.both (fun h1 => ?_) fun h1 => ⟨rs, th, .dat (.int (j : Int)), lr, mr, by omega, mt, rfl⟩
    refine ⟨nums rs, rfl, ?_, by omega, fun k d hd => ?_⟩
    · intro z
      rw [List.map_eq_nil_iff.mp z] at h1
      cases h1
    · obtain ⟨u, hu, rfl⟩ := nums_at' hd
      have hk := (List.getElem?_eq_some_iff.mp hu).1
      refine ⟨szl (by omega), rs.eraseIdx k, th ++ [u], .dat (.int (j : Int)), ?_, fun v hv => mr v (List.mem_of_mem_eraseIdx hv), by rw [List.length_append]; show _ + 1 ≤ _; omega, fun v hv => ?_, ?_⟩
      · rw [List.length_eraseIdx, if_pos hk]
        omega
      · rcases List.mem_append.mp hv with h | h
        · exact mt v h
        · rw [List.mem_singleton.mp h]
          exact mr u (List.mem_of_getElem? hu)
      · rw [← erase_nums, nums_app]
        rfl
  · rintro env ⟨rs, th, c6, lr, mr, lt, mt, rfl⟩
    rw [nums_len, List.length_range] at lt
    refine ⟨_, atD a (nodesD_at hq), _, atD 1 rfl, q0.1.k, rfl, gk.1, fun dv pd => ?_⟩
    refine ⟨_, atD a (nodesD_at hq), _, atD 1 rfl, _, nums_int th, by rw [List.length_map]; omega, fun out perm _ => ?_⟩
    obtain ⟨l, rfl, pm⟩ := ints_nat perm
    rw [← nums_int l]
    refine ⟨szr, szl (by omega), ?_⟩
    have ll := pm.length_eq
    have no2 := no.app (q := (⟨"delay", q0.1.k, q0.1.cl, [dv, .int (a : Int), .tuple (nums l)]⟩, l, some a)) (nk_new (.inr (.inr (.inr (.inr (.inl ⟨rfl, dv, a, rfl, rfl⟩))))) hc (by omega) (fun v hv => mt v (pm.mem_iff.mp hv)) (fun s e => by cases e; omega) gk)
    have pd2 : plainAll [dv, PyData.int (a : Int), .tuple (nums l)] = true := by
      show (plainD dv && (plainD (.int (a : Int)) && (plainAll (nums l) && plainAll []))) = true
      rw [pd.1, plain_nums l]
      rfl
    have fin := q _ no2 (pl.app (plain_nd (by decide +kernel) gk.2 pd2) (.lit "delay" rfl (by decide +kernel) (dpD (Nat.le_trans pd.2 (by decide)) _ _))) (by rw [List.length_append]; rfl)
    rw [nodesD_app] at fin
    exact fin
end

/-! ### a merge -/
theorem clD_app (cl : List (Nat × Int)) (p : Nat × Int) : cl.map pairD ++ [pairD p] = (cl ++ [p]).map pairD := by
  rw [List.map_append]
  rfl
theorem KCh.le {d : PyData} {n : Nat} (h : KCh d n) : 1 ≤ n ∧ n ≤ 8 := by
  rcases h with ⟨_, rfl⟩ | ⟨ns, _, rfl, h1, h2⟩
  · exact ⟨by decide, by decide⟩
  · exact ⟨h1, h2⟩
/-- the nodes of a kind on a clock, by a comprehension -/
def R_merge_node : PR := fun as C => ∃ (N : List NQ) (a c : Nat) (q0 qc : NQ) (n : Nat), as = [.drw, .arg (nodesD N), .dat (.int (a : Int)), .dat (.int (c : Int))] ∧ NOk N ∧ PlN N ∧ N.length ≤ 200 ∧ N[a]? = some q0 ∧ N[c]? = some qc ∧ KCh qc.1.k n ∧ q0.1.cl.length ≤ 3 ∧
  ∀ N' : List NQ, NOk N' → PlN N' → N.length ≤ N'.length → N'.length ≤ N.length + 17 → C (.dat .none) [.drw, .arg (nodesD N'), .dat (.int (a : Int)), .dat (.int (c : Int))]
section
variable {P : Program} {w : World} {K : PySem.W.Frag} {mg : Str → Option Value} {base : Heap}
theorem okp_merge_node (T : Tx K mg w base) : FnOk P w K mg base CX0 10 T.f_merge_node T.fd_merge_node ["_law_d", "_law_nodes", "_law_a", "_law_chooser"] (spP K T.tbs 4 R_merge_node) := by
  refine okP T.F_merge_node sc_merge_node rfl fun cdv A outer s H E G hG hcd hr => ⟨_, (pss_consP (ps_setP (ps_set (i := 4) sc_merge_node.nd rfl (Or.inr rfl) (pe_ixP (pe_ixP (pe_borP (pv 1)) (pe_borP (pv 2)) (fun _ _ => rfl) li_ix) (pe_cP (d := .int 1) pe_int) (fun _ _ => rfl) li_ix)))
      (pss_consP (ps_setP (ps_set (i := 5) sc_merge_node.nd rfl (Or.inl rfl) (pe_ixP (pe_ixP (pe_borP (pv 1)) (pe_borP (pv 2)) (fun _ _ => rfl) li_ix) (pe_cP (d := .int 2) pe_int) (fun _ _ => rfl) li_ix)))
      (pss_consP (ps_setP (ps_set (i := 6) sc_merge_node.nd rfl (Or.inl rfl) (pe_lstP pa_nilP)))
      (pss_consP (ps_forP (ps_for PassesOwn.never rfl (pi_itemsP (pe_callP hG (pe_call (okp_kind_values T) (hr.mono (by decide)) rfl T.m_kind_values T.F_kind_values.kp T.b_kind_values .nil pass0 (pa_consP (pe_ixP (pe_ixP (pe_borP (pv 1)) (pe_borP (pv 3)) (fun _ _ => rfl) li_ix) (pe_cP (d := .int 1) pe_int) (fun _ _ => rfl) li_ix) pa_nilP)))) (pg_nameP (pg_name (i := 7) sc_merge_node.nd rfl (Or.inl rfl)))
      (pss_consP (ps_setP (ps_set (i := 8) sc_merge_node.nd rfl (Or.inr rfl) (pe_opP op_addP li_add (pe_borP (pv 5)) (pe_tupP (pa_consP (pe_tupP (pa_consP (pe_varP (pv 3)) (pa_consP (pe_varP (pv 7)) pa_nilP))) pa_nilP)))))
      (pss_cutP (ps_setLcP (i := 9) (vs := [11]) (ps_setLc (i := 9) (own := [("_law_n", 11)]) rfl sc_merge_node.nd rfl rfl (sw_true rfl rfl rfl (by decide +kernel)) (pi_range1P (pi_range1 (by rfl) T.z_range (pa_consP (pe_cbP lc_len (pe_callB call_lenP (by rfl) T.z_len (by decide +kernel) (pa_consP (pe_borP (pv 1)) pa_nilP))) pa_nilP))) (blkOk_by (N := ["_law_d", "_law_nodes", "_law_a", "_law_chooser", "_law_kind", "_law_clock", "_law_arms", "_law_value_here", "_law_below", "_law_there", "_law_source", "_law_n"]) (sc := defScope s_merge_node) (by decide +kernel)) (fun _ _ _ _ _ => (pg_compP (vs := [11]) (pg_name (i := 11) sc_merge_node.nd rfl (Or.inl rfl)))) (fun _ _ _ _ _ => (pts_one (PW.pt (pw_andP (pt_cmpP (op_eqP hr.units) li_eq (pe_ixP (pe_ixP (pe_borP (pv 1)) (pe_borP (pv 11)) (fun _ _ => rfl) li_ix) (pe_cP (d := .int 1) pe_int) (fun _ _ => rfl) li_ix) (pe_borP (pv 4)) (nomark _)) (pw_and1P (pt_cmpP (op_eqP hr.units) li_eq (pe_ixP (pe_ixP (pe_borP (pv 1)) (pe_borP (pv 11)) (fun _ _ => rfl) li_ix) (pe_cP (d := .int 2) pe_int) (fun _ _ => rfl) li_ix) (pe_borP (pv 8)) (nomark _))))))) (fun _ _ _ _ _ => (pe_varP (pv 11)))))
      (pss_cutP (ps_ifP (PW.pt (pw_orP (pt_cmpP (op_eqP hr.units) li_eq (pe_cbP lc_len (pe_callB call_lenP (by rfl) T.z_len (by decide +kernel) (pa_consP (pe_borP (pv 9)) pa_nilP))) (pe_cP (d := .int 0) pe_int) (nomark _)) (pw_or1P (pt_cmpP (op_eqP hr.units) li_eq (pe_callP hG (pe_call (okp_draw T) (hr.mono (by decide)) rfl T.m_draw T.F_draw.kp T.b_draw .nil pass0 (pa_consP (pe_borP (pv 0)) (pa_consP (pe_cP (d := .int 4) pe_int) pa_nilP)))) (pe_cP (d := .int 1) pe_int) (nomark _))))) (pss_consP (ps_setP (ps_set (i := 10) sc_merge_node.nd rfl (Or.inl rfl) (pe_callP hG (pe_call (okp_one_of T) (hr.mono (by decide)) rfl T.m_one_of T.F_one_of.kp T.b_one_of .nil pass0 (pa_consP (pe_borP (pv 0)) (pa_consP (pe_borP (pv 1)) (pa_consP (pe_borP (pv 4)) (pa_consP (pe_borP (pv 5)) pa_nilP))))))))
      (pss_consP (ps_dropP (pe_methP lm_app (pe_bm PySem.F.plainAttrs_list PySem.F.slot_list_append PySem.F.type_list_append mt_append (pe_borP (pv 1)) (pa_consP (pe_tupP (pa_consP (pe_cP (d := .str "when") pe_str) (pa_consP (pe_varP (pv 4)) (pa_consP (pe_varP (pv 8)) (pa_consP (pe_varP (pv 10)) pa_nilP))))) pa_nilP))))
      (pss_oneP (ps_setP (ps_set (i := 9) sc_merge_node.nd rfl (Or.inl rfl) (pe_lstP (pa_consP (pe_frzP (pe_opP op_sub li_sub (pe_cbP lc_len (pe_callB call_lenP (by rfl) T.z_len (by decide +kernel) (pa_consP (pe_borP (pv 1)) pa_nilP))) (pe_cP (d := .int 1) pe_int))) pa_nilP))))))) pss_nilP)
      (pss_oneP (ps_dropP (pe_methP lm_app (pe_bm PySem.F.plainAttrs_list PySem.F.slot_list_append PySem.F.type_list_append mt_append (pe_borP (pv 6)) (pa_consP (pe_frzP (pe_callP hG (pe_call (okp_pick T) (hr.mono (by decide)) rfl T.m_pick T.F_pick.kp T.b_pick .nil pass0 (pa_consP (pe_borP (pv 0)) (pa_consP (pe_borP (pv 9)) pa_nilP))))) pa_nilP))))))))))
      (pss_oneP (ps_dropP (pe_methP lm_app (pe_bm PySem.F.plainAttrs_list PySem.F.slot_list_append PySem.F.type_list_append mt_append (pe_borP (pv 1)) (pa_consP (pe_tupP (pa_consP (pe_cP (d := .str "merge") pe_str) (pa_consP (pe_varP (pv 4)) (pa_consP (pe_varP (pv 5)) (pa_consP (pe_varP (pv 3)) (pa_consP (pe_frzP (pe_cbP lc_tup (pe_callTy (show CallR _ (.type "tuple") (rTupOf K) from call_tup) (by rfl) T.z_tuple (by decide +kernel) (pa_consP (pe_borP (pv 6)) pa_nilP)))) pa_nilP)))))) pa_nilP))))))))), fun as C hl h => ?_⟩
  obtain ⟨N, a, c, q0, qc, n, rfl, no, pl, lN, hq, hqc, hk, lcl3, q⟩ := h
  have lD := nodesD_len N
  have hcN := (List.getElem?_eq_some_iff.mp hqc).1
  have hc0 := no.cl hq
  have gk0 := (no a q0 hq).k
  obtain ⟨n1, n8⟩ := hk.le
  refine ⟨_, atD a (nodesD_at hq), _, atD 1 rfl, _, atD a (nodesD_at hq), _, atD 2 rfl, szr, _, atD c (nodesD_at hqc), _, atD 1 rfl, qc.1.k, n, rfl, hk, ?_⟩
  generalize hcl : q0.1.cl = cl at hc0 lcl3
  generalize q0.1.k = kd at gk0
  refine ⟨fun i env => ∃ (N1 : List NQ) (arms : List Nat) (c7 c8 c9 c10 : Cel), NOk N1 ∧ PlN N1 ∧ N.length ≤ N1.length ∧ N1.length ≤ N.length + 2 * i ∧ arms.length = i ∧ (∀ v ∈ arms, v < N1.length) ∧ env = [.drw, .arg (nodesD N1), .dat (.int (a : Int)), .dat (.int (c : Int)), .dat kd, .dat (clD cl), .own (nums arms), c7, c8, c9, c10, .no], ⟨N, [], _, _, _, _, no, pl, Nat.le_refl _, Nat.le_refl _, rfl, (fun v h => by cases h), by rw [← hcl]; rfl⟩, ?_, ?_⟩
  · rintro i x env hi ⟨N1, arms, c7, c8, c9, c10, no1, pl1, g1, g2, la, hv, rfl⟩
    obtain ⟨v, hv', rfl⟩ := nums_at' hi
    have hi' := (List.getElem?_eq_some_iff.mp hi).1
    rw [nums_len, List.length_range] at hi'
    have lD1 := nodesD_len N1
    have hc1 : ClOk N1.length (cl ++ [(c, (v : Int))]) := ⟨by rw [List.length_append]; show _ + 1 ≤ _; omega, fun p hp => by
      rcases List.mem_append.mp hp with hp | hp
      · exact Nat.lt_of_lt_of_le (hc0.2 p hp) g1
      · rw [List.mem_singleton.mp hp]
        exact Nat.lt_of_lt_of_le hcN g1⟩
    have e0 : PyData.tuple (cl.map pairD ++ [.tuple [.int (c : Int), .int (v : Int)]]) = clD (cl ++ [(c, (v : Int))]) := congrArg PyData.tuple (clD_app cl (c, (v : Int)))
    refine ⟨szr, szr, szle (by rw [List.length_map]; show _ + 1 ≤ _; omega), ?_⟩
    refine ⟨fun env => ∃ th : List Nat, th.length ≤ N1.length ∧ (∀ v ∈ th, v < N1.length) ∧ env = [.drw, .arg (nodesD N1), .dat (.int (a : Int)), .dat (.int (c : Int)), .dat kd, .dat (clD cl), .own (nums arms), .dat (.int (v : Int)), .dat (clD (cl ++ [(c, (v : Int))])), .own (nums th), c10, .no], ?_, ?_⟩
    · refine ⟨by omega, by omega, ?_⟩
      rw [lD1, rangeN]
      refine lc_numsP (atN N1 (sameKC kd (clD (cl ++ [(c, (v : Int))])))) (szl (by rw [List.length_range]; omega)) (fun j b hb Q k1 k2 => ?_) ⟨_, Nat.le_trans (List.length_filter_le _ _) (by rw [List.length_range]; exact Nat.le_refl _), (fun v hv => List.mem_range.mp (List.mem_filter.mp hv).1), by rw [← e0]; rfl⟩
      have hi := (List.getElem?_eq_some_iff.mp hb).1
      rw [List.length_range] at hi
      rw [List.getElem?_range hi] at hb
      cases hb
      have hj := List.getElem?_eq_getElem hi
      generalize N1[j] = r at hj
      rw [atN_some hj] at k1 k2
      have g := (no1 j r hj).k
      obtain ⟨⟨w1, kr, clr, rest⟩, ps, src⟩ := r
      obtain ⟨s, t, er⟩ := g.head
      have er : kr = .tuple (.str s :: t) := er
      subst er
      obtain ⟨s0, t0, rfl⟩ := gk0.head
      refine ⟨_, atD j (nodesD_at hj), _, atD 1 rfl, g.shaped, gk0.shaped, IfP.both (fun h1 => ?_) fun h1 => .f rfl (k2 ?_)⟩
      · refine ⟨_, atD j (nodesD_at hj), _, atD 2 rfl, clD_shaped _, by rw [e0]; exact clD_shaped _, IfP.both (fun h2 => k1 ?_) fun h2 => k2 ?_⟩
        · have h2 : PyData.eqv (clD clr) (.tuple (cl.map pairD ++ [.tuple [.int (c : Int), .int (v : Int)]])) = true := h2
          rw [e0] at h2
          show (PyData.eqv _ _ && PyData.eqv (clD clr) (clD (cl ++ [(c, (v : Int))]))) = true
          rw [h1, h2]
          rfl
        · have h2 : PyData.eqv (clD clr) (.tuple (cl.map pairD ++ [.tuple [.int (c : Int), .int (v : Int)]])) = false := h2
          rw [e0] at h2
          show (PyData.eqv _ _ && PyData.eqv (clD clr) (clD (cl ++ [(c, (v : Int))]))) = false
          rw [h1, h2]
          rfl
      · show (PyData.eqv _ _ && PyData.eqv _ _) = false
        rw [h1]
        rfl
    · rintro env ⟨th, lth, mth, rfl⟩
      have lnt := nums_len th
      have make : ∀ (j : Nat) (N2 : List NQ), NOk N2 → PlN N2 → N1.length ≤ N2.length → N2.length ≤ N1.length + 1 → j < N2.length → ∃ (N3 : List NQ) (th : List Nat) (c10 : Cel), NOk N3 ∧ PlN N3 ∧ N1.length ≤ N3.length ∧ N3.length ≤ N1.length + 2 ∧ th ≠ [] ∧ th.length ≤ 300 ∧ (∀ v ∈ th, v < N3.length) ∧ ([.drw, .arg (nodesD N2 ++ [PyData.tuple [.str "when", kd, clD (cl ++ [(c, (v : Int))]), .int (j : Int)]]), .dat (.int (a : Int)), .dat (.int (c : Int)), .dat kd, .dat (clD cl), .own (nums arms), .dat (.int (v : Int)), .dat (clD (cl ++ [(c, (v : Int))])), .own [.int ((((nodesD N2 ++ [PyData.tuple [.str "when", kd, clD (cl ++ [(c, (v : Int))]), .int (j : Int)]]).length : Nat) : Int) - 1)], .dat (.int (j : Int)), .no] : PEnv) = [.drw, .arg (nodesD N3), .dat (.int (a : Int)), .dat (.int (c : Int)), .dat kd, .dat (clD cl), .own (nums arms), .dat (.int (v : Int)), .dat (clD (cl ++ [(c, (v : Int))])), .own (nums th), c10, .no] := by
        intro j N2 no2 pl2 a1 a2 hj
        refine ⟨N2 ++ [(⟨"when", kd, cl ++ [(c, (v : Int))], [.int (j : Int)]⟩, [j], none)], [N2.length], .dat (.int (j : Int)), no2.app (nk_new (.inr (.inr (.inl ⟨rfl, j, rfl, rfl, rfl⟩))) (hc1.mono a1) (Nat.le_of_ble_eq_true rfl) (fun u hu => by rw [List.mem_singleton.mp hu]; exact hj) (fun s e => by cases e) gk0), pl2.app (plain_nd (show PyData.strOk "when" = true by decide +kernel) gk0.2 rfl) (.lit "when" rfl (by decide +kernel)), by rw [List.length_append]; omega, by rw [List.length_append]; show _ + 1 ≤ _; omega, (fun z => by cases z), Nat.le_of_ble_eq_true rfl, fun u hu => ?_, ?_⟩
        · rw [List.mem_singleton.mp hu, List.length_append]
          exact Nat.lt_succ_self _
        · have e : (((nodesD N2 ++ [PyData.tuple [.str "when", kd, clD (cl ++ [(c, (v : Int))]), .int (j : Int)]]).length : Nat) : Int) - 1 = (N2.length : Int) := by
            rw [List.length_append, nodesD_len N2]
            show ((N2.length + 1 : Nat) : Int) - 1 = _
            omega
          rw [e, nodesD_app]
          rfl
      refine ⟨fun env => ∃ (N3 : List NQ) (th : List Nat) (c10 : Cel), NOk N3 ∧ PlN N3 ∧ N1.length ≤ N3.length ∧ N3.length ≤ N1.length + 2 ∧ th ≠ [] ∧ th.length ≤ 300 ∧ (∀ v ∈ th, v < N3.length) ∧ env = [.drw, .arg (nodesD N3), .dat (.int (a : Int)), .dat (.int (c : Int)), .dat kd, .dat (clD cl), .own (nums arms), .dat (.int (v : Int)), .dat (clD (cl ++ [(c, (v : Int))])), .own (nums th), c10, .no], ?_, ?_⟩
      · refine IfP.both (fun h1 => .t rfl ⟨N1, kd, cl, rfl, no1, pl1, by omega, gk0, hc0.mono g1, fun j N2 no2 pl2 a1 a2 sub ⟨qj, hj, _⟩ => ?_⟩) fun h1 => ⟨_, rfl, by decide, by decide, fun r r0 r1 => IfP.both (fun h2 => ⟨N1, kd, cl, rfl, no1, pl1, by omega, gk0, hc0.mono g1, fun j N2 no2 pl2 a1 a2 sub ⟨qj, hj, _⟩ => ?_⟩) fun h2 => ?_⟩
        · have lD2 := nodesD_len N2
          exact ⟨szr, szl (by omega), szr, make j N2 no2 pl2 a1 a2 (List.getElem?_eq_some_iff.mp hj).1⟩
        · have lD2 := nodesD_len N2
          exact ⟨szr, szl (by omega), szr, make j N2 no2 pl2 a1 a2 (List.getElem?_eq_some_iff.mp hj).1⟩
        · refine ⟨N1, th, c10, no1, pl1, Nat.le_refl _, Nat.le_add_right _ _, fun z => ?_, by omega, mth, rfl⟩
          subst z
          exact absurd h1 (by decide)
      · rintro env ⟨N3, th, c10, no3, pl3, a1, a2, nt, lt3, hth, rfl⟩
        refine ⟨nums th, .inl rfl, (fun z => nt (List.map_eq_nil_iff.mp z)), by rw [nums_len]; omega, fun k' d' hd' => ?_⟩
        obtain ⟨u, hu, rfl⟩ := nums_at' hd'
        refine ⟨szl (by rw [nums_len]; omega), N3, arms ++ [u], _, _, _, c10, no3, pl3, by omega, by omega, by rw [List.length_append, la]; rfl, fun v' hv' => ?_, by rw [nums_app]; rfl⟩
        rcases List.mem_append.mp hv' with h | h
        · exact Nat.lt_of_lt_of_le (hv v' h) a1
        · rw [List.mem_singleton.mp h]
          exact hth u (List.mem_of_getElem? hu)
  · rintro env ⟨N1, arms, c7, c8, c9, c10, no1, pl1, g1, g2, la, hv, rfl⟩
    rw [nums_len, List.length_range] at g2 la
    have lD1 := nodesD_len N1
    refine ⟨szr, szl (by omega), ?_⟩
    have pd2 : plainAll [PyData.int (c : Int), .tuple (nums arms)] = true := by
      show (plainD (.int (c : Int)) && (plainAll (nums arms) && plainAll [])) = true
      rw [plain_nums]
      rfl
    have fin := q _ (no1.app (q := (⟨"merge", kd, cl, [.int (c : Int), .tuple (nums arms)]⟩, c :: arms, none)) (nk_new (.inr (.inr (.inr (.inl ⟨rfl, c, arms, rfl, rfl, rfl⟩)))) (hc0.mono g1) (by rw [List.length_cons]; omega) (fun u hu => by
      rcases List.mem_cons.mp hu with rfl | hu
      · omega
      · exact hv u hu) (fun s e => by cases e) gk0)) (pl1.app (plain_nd (by decide +kernel) gk0.2 pd2) (.lit "merge" rfl (by decide +kernel))) (by rw [List.length_append]; omega) (by rw [List.length_append]; show _ + 1 ≤ _; omega)
    rw [nodesD_app] at fin
    exact fin
end

/-! ### an operation's node -/
/-- a word that a kind's node may be asked for -/
structure WdOk (kd : PyData) (w : Str) : Prop where
  op : w ∈ opWords
  row : w ∈ (["at", "put", "sum"] : List Str) → ∃ (p : PyData) (m : Nat), kd = .tuple [.str "row", p, .int (m : Int)] ∧ KPl p
  pl : w = "row" → KPl kd
def R_op_words : PR := fun as C => ∃ kd, as = [.dat kd] ∧ GK kd ∧ ∀ ws : List Str, ws ≠ [] → ws.length ≤ 40 → (∀ w ∈ ws, WdOk kd w) → C (.own (ws.map PyData.str)) as
theorem GK.row {kd p : PyData} {m : Nat} (h : GK kd) (e : kd = .tuple [.str "row", p, .int (m : Int)]) : GK p ∧ KPl p := by
  subst e
  obtain ⟨k, pl⟩ := h
  have pp : plainD p = true := by
    have pl : (PyData.strOk "row" && (plainD p && (true && true))) = true := pl
    rw [Bool.and_eq_true, Bool.and_eq_true] at pl
    exact pl.2.1
  rcases k with k | ⟨k, m', hk, e, _⟩
  · obtain ⟨s, r, e, hs⟩ := k.head
    have := List.cons.inj (PyData.tuple.inj e)
    exact absurd (PyData.str.inj this.1).symm hs
  · have h1 := List.cons.inj (PyData.tuple.inj e)
    have h2 := List.cons.inj h1.2
    have e2 : p = k := h2.1
    subst e2
    rcases hk with hk | ⟨_, _, z, _⟩
    · exact ⟨⟨.inl hk, pp⟩, hk⟩
    · exact z.elim
section
variable {P : Program} {w : World} {K : PySem.W.Frag} {mg : Str → Option Value} {base : Heap}
theorem wd_plain {kd : PyData} (h : KPl kd) {ws : List Str} (m : ∀ w ∈ ws, w ∈ opWords ∧ ¬ w ∈ (["at", "put", "sum"] : List Str)) : ∀ w ∈ ws, WdOk kd w := fun w hw => ⟨(m w hw).1, fun z => absurd z (m w hw).2, fun _ => h⟩
theorem wd_row {kd p : PyData} {n : Nat} (e : kd = .tuple [.str "row", p, .int (n : Int)]) (hp : KPl p) {ws : List Str} (m : ∀ w ∈ ws, w ∈ opWords ∧ ¬ w = "row") : ∀ w ∈ ws, WdOk kd w := fun w hw => ⟨(m w hw).1, fun _ => ⟨p, n, e, hp⟩, fun z => absurd z (m w hw).2⟩
theorem okp_op_words (T : Tx K mg w base) : FnOk P w K mg base CX0 1 T.f_op_words T.fd_op_words ["_law_kind"] (spP K T.tbs 1 R_op_words) := by
  refine okP T.F_op_words sc_op_words rfl fun cdv A outer s H E G hG hcd hr => ⟨_, (pss_consP (ps_ifP (pt_cmpP (op_eqP hr.units) li_eq (pe_ixP (pe_borP (pv 0)) (pe_cP (d := .int 0) pe_int) (fun _ _ => rfl) li_ix) (pe_cP (d := .str "bool") pe_str) (nomark _)) (pss_oneP (ps_retP (pe_splitP (pe_split (pe_cP (d := .str "not and or xor and or eq pick vote row") pe_str) (pe_cP (d := .str " ") pe_str))))) pss_nilP)
      (pss_consP (ps_ifP (pt_cmpP (op_eqP hr.units) li_eq (pe_ixP (pe_borP (pv 0)) (pe_cP (d := .int 0) pe_int) (fun _ _ => rfl) li_ix) (pe_cP (d := .str "num") pe_str) (nomark _)) (pss_oneP (ps_retP (pe_splitP (pe_split (pe_cP (d := .str "add sub mul div min max mid neg eq ne lt le as pick vote row add mul") pe_str) (pe_cP (d := .str " ") pe_str))))) pss_nilP)
      (pss_consP (ps_ifP (pt_cmpP (op_eqP hr.units) li_eq (pe_ixP (pe_borP (pv 0)) (pe_cP (d := .int 0) pe_int) (fun _ _ => rfl) li_ix) (pe_cP (d := .str "mode") pe_str) (nomark _)) (pss_oneP (ps_retP (pe_splitP (pe_split (pe_cP (d := .str "eq ne pick vote row") pe_str) (pe_cP (d := .str " ") pe_str))))) pss_nilP)
      (pss_consP (ps_setP (ps_set (i := 1) sc_op_words.nd rfl (Or.inl rfl) (pe_dgetTP (pe_dget (hu_of hr) (pe_dispP (pe_disp (pps_consP (pe_cP (d := .str "bool") pe_str) (pe_frzP (pe_lstP (pa_consP (pe_cP (d := .str "any") pe_str) (pa_consP (pe_cP (d := .str "all") pe_str) pa_nilP)))) (pps_consP (pe_cP (d := .str "num") pe_str) (pe_frzP (pe_lstP (pa_consP (pe_cP (d := .str "sum") pe_str) (pa_consP (pe_cP (d := .str "sum") pe_str) pa_nilP)))) (pps_consP (pe_cP (d := .str "mode") pe_str) (pe_frzP (pe_lstP (pa_consP (pe_cP (d := .str "at") pe_str) (pa_consP (pe_cP (d := .str "put") pe_str) pa_nilP)))) pps_nilP))) (by rfl) (by rfl) (fun z => by cases z) (by decide))) (pe_ixP (pe_ixP (pe_borP (pv 0)) (pe_cP (d := .int 1) pe_int) (fun _ _ => rfl) li_ix) (pe_cP (d := .int 0) pe_int) (fun _ _ => rfl) li_ix) (fun _ _ => rfl)))))
      (pss_oneP (ps_retP (pe_opP op_addP li_add (pe_lstP (pa_consP (pe_cP (d := .str "eq") pe_str) (pa_consP (pe_cP (d := .str "ne") pe_str) (pa_consP (pe_cP (d := .str "pick") pe_str) (pa_consP (pe_cP (d := .str "vote") pe_str) (pa_consP (pe_cP (d := .str "at") pe_str) (pa_consP (pe_cP (d := .str "put") pe_str) pa_nilP))))))) (pe_borP (pv 1))))))))), fun as C hl h => ?_⟩
  obtain ⟨kd, rfl, gk, q⟩ := h
  rcases gk.1 with hp | ⟨p, m, hk, rfl, m7⟩
  · rcases id hp with rfl | ⟨ns, rfl, n1, n8⟩ | ⟨lo, hi, per, how, rfl, hb⟩
    · exact ⟨_, atD 0 rfl, .t (by decide +kernel) ⟨rfl, szr, q _ (by decide +kernel) (by decide +kernel) (wd_plain hp (by decide +kernel))⟩⟩
    · exact ⟨_, atD 0 rfl, .f (by decide +kernel) ⟨_, atD 0 rfl, .f (by decide +kernel) ⟨_, atD 0 rfl, .t (by decide +kernel) ⟨rfl, szr, q _ (by decide +kernel) (by decide +kernel) (wd_plain hp (by decide +kernel))⟩⟩⟩⟩
    · exact ⟨_, atD 0 rfl, .f (by decide +kernel) ⟨_, atD 0 rfl, .t (by decide +kernel) ⟨rfl, szr, q _ (by decide +kernel) (by decide +kernel) (wd_plain hp (by decide +kernel))⟩⟩⟩
  · obtain ⟨_, hp⟩ := gk.row rfl
    refine ⟨_, atD 0 rfl, .f (by decide +kernel) ⟨_, atD 0 rfl, .f (by decide +kernel) ⟨_, atD 0 rfl, .f (by decide +kernel) ?_⟩⟩⟩
    refine ⟨szr, szr, szr, ?_⟩
    rcases id hp with rfl | ⟨ns, rfl, n1, n8⟩ | ⟨lo, hi, per, how, rfl, hb⟩
    · exact ⟨by decide +kernel, by show 3 ≤ 15; decide, _, atD 1 rfl, _, atD 0 rfl, _, _, rfl, rfl, szr, szr, q ["eq", "ne", "pick", "vote", "at", "put", "any", "all"] (by decide +kernel) (by decide +kernel) (wd_row rfl hp (by decide +kernel))⟩
    · exact ⟨by decide +kernel, by show 3 ≤ 15; decide, _, atD 1 rfl, _, atD 0 rfl, _, _, rfl, rfl, szr, szr, q ["eq", "ne", "pick", "vote", "at", "put", "at", "put"] (by decide +kernel) (by decide +kernel) (wd_row rfl hp (by decide +kernel))⟩
    · exact ⟨by decide +kernel, by show 3 ≤ 15; decide, _, atD 1 rfl, _, atD 0 rfl, _, _, rfl, rfl, szr, szr, q ["eq", "ne", "pick", "vote", "at", "put", "sum", "sum"] (by decide +kernel) (by decide +kernel) (wd_row rfl hp (by decide +kernel))⟩
end

/-! ### a new node of an operation -/
def Pre (N N' : List NQ) : Prop := ∀ (i : Nat) (q : NQ), N[i]? = some q → N'[i]? = some q
theorem Pre.trans {A B C : List NQ} (h : Pre A B) (k : Pre B C) : Pre A C := fun i q e => k i q (h i q e)
theorem str_of {l : List Str} {k : Nat} {d : PyData} (h : (l.map PyData.str)[k]? = some d) : ∃ i, d = .str i ∧ i ∈ l := by
  rw [List.getElem?_map] at h
  obtain ⟨i, hi, rfl⟩ := Option.map_eq_some_iff.mp h
  exact ⟨i, rfl, List.mem_of_getElem? hi⟩
def R_op_node : PR := fun as C => ∃ (N : List NQ) (a : Nat), as = [.drw, .arg (nodesD N), .dat (.int (a : Int))] ∧ NOk N ∧ PlN N ∧ N.length ≤ 290 ∧ a < N.length ∧
  ∀ N' : List NQ, NOk N' → PlN N' → N.length + 1 ≤ N'.length → N'.length ≤ N.length + 4 → C (.dat .none) [.drw, .arg (nodesD N'), .dat (.int (a : Int))]
theorem num_gk : GK (.tuple [.str "num", .int (-1), .int 3, .int 1, .str "hold"]) := ⟨.inl (.inr (.inr ⟨-1, 3, 1, "hold", rfl, by decide, by decide, by decide⟩)), by decide +kernel⟩
theorem row_gk {p : PyData} {n : Nat} (h : KPl p) (g : GK p) (n7 : n ≤ 7) : GK (.tuple [.str "row", p, .int (n : Int)]) := ⟨.inr ⟨p, n, .inl h, rfl, n7⟩, by
  show (PyData.strOk "row" && (plainD p && (true && true))) = true
  rw [g.2]
  decide +kernel⟩
theorem notS (z : Str) (ws : List Str) : (true ^^ ((ws.map PyData.str).any fun x => PyData.eqv x (.str z))) = decide (¬ z ∈ ws) := by
  have h := inS z ws
  rw [Bool.false_xor] at h
  rw [h]
  by_cases m : z ∈ ws <;> simp [m]
theorem opWords_ok : ∀ w ∈ opWords, PyData.strOk w = true := by decide +kernel
section
variable {P : Program} {w : World} {K : PySem.W.Frag} {mg : Str → Option Value} {base : Heap}
theorem okp_op_node (T : Tx K mg w base) : FnOk P w K mg base CX0 10 T.f_op_node T.fd_op_node ["_law_d", "_law_nodes", "_law_a"] (spP K T.tbs 3 R_op_node) := by
  refine okP T.F_op_node sc_op_node rfl fun cdv A outer s H E G hG hcd hr => ⟨_, (pss_consP (ps_setP (ps_set (i := 3) sc_op_node.nd rfl (Or.inl rfl) (pe_ixP (pe_ixP (pe_borP (pv 1)) (pe_borP (pv 2)) (fun _ _ => rfl) li_ix) (pe_cP (d := .int 1) pe_int) (fun _ _ => rfl) li_ix)))
      (pss_consP (ps_setP (ps_set (i := 4) sc_op_node.nd rfl (Or.inl rfl) (pe_ixP (pe_ixP (pe_borP (pv 1)) (pe_borP (pv 2)) (fun _ _ => rfl) li_ix) (pe_cP (d := .int 2) pe_int) (fun _ _ => rfl) li_ix)))
      (pss_consP (ps_setP (ps_set (i := 5) sc_op_node.nd rfl (Or.inl rfl) (pe_callP hG (pe_call (okp_pick T) (hr.mono (by decide)) rfl T.m_pick T.F_pick.kp T.b_pick .nil pass0 (pa_consP (pe_borP (pv 0)) (pa_consP (pe_callP hG (pe_call (okp_op_words T) (hr.mono (by decide)) rfl T.m_op_words T.F_op_words.kp T.b_op_words .nil pass0 (pa_consP (pe_borP (pv 3)) pa_nilP))) pa_nilP))))))
      (pss_consP (ps_setP (ps_set (i := 6) sc_op_node.nd rfl (Or.inl rfl) (pe_lstP (pa_consP (pe_varP (pv 2)) pa_nilP))))
      (pss_consP (ps_mvP (ps_set (i := 7) sc_op_node.nd rfl (Or.inl rfl) (pv 3)))
      (pss_cutP (ps_ifP (pt_cmpP (op_inP hr.u65) li_in (pe_borP (pv 5)) (pe_tupP (pa_consP (pe_cP (d := .str "mid") pe_str) (pa_consP (pe_cP (d := .str "vote") pe_str) pa_nilP))) (by rfl)) (pss_oneP (ps_setP (ps_set (i := 6) sc_op_node.nd rfl (Or.inl rfl) (pe_lstP (pa_consP (pe_varP (pv 2)) (pa_consP (pe_frzP (pe_callP hG (pe_call (okp_one_of T) (hr.mono (by decide)) rfl T.m_one_of T.F_one_of.kp T.b_one_of .nil pass0 (pa_consP (pe_borP (pv 0)) (pa_consP (pe_borP (pv 1)) (pa_consP (pe_borP (pv 3)) (pa_consP (pe_borP (pv 4)) pa_nilP))))))) (pa_consP (pe_frzP (pe_callP hG (pe_call (okp_one_of T) (hr.mono (by decide)) rfl T.m_one_of T.F_one_of.kp T.b_one_of .nil pass0 (pa_consP (pe_borP (pv 0)) (pa_consP (pe_borP (pv 1)) (pa_consP (pe_borP (pv 3)) (pa_consP (pe_borP (pv 4)) pa_nilP))))))) pa_nilP))))))) (pss_oneP (ps_ifP (pt_cmpP (op_eqP hr.units) li_eq (pe_borP (pv 5)) (pe_cP (d := .str "pick") pe_str) (nomark _)) (pss_oneP (ps_setP (ps_set (i := 6) sc_op_node.nd rfl (Or.inl rfl) (pe_lstP (pa_consP (pe_frzP (pe_callP hG (pe_call (okp_one_of T) (hr.mono (by decide)) rfl T.m_one_of T.F_one_of.kp T.b_one_of .nil pass0 (pa_consP (pe_borP (pv 0)) (pa_consP (pe_borP (pv 1)) (pa_consP (pe_tupP (pa_consP (pe_cP (d := .str "bool") pe_str) pa_nilP)) (pa_consP (pe_borP (pv 4)) pa_nilP))))))) (pa_consP (pe_varP (pv 2)) (pa_consP (pe_frzP (pe_callP hG (pe_call (okp_one_of T) (hr.mono (by decide)) rfl T.m_one_of T.F_one_of.kp T.b_one_of .nil pass0 (pa_consP (pe_borP (pv 0)) (pa_consP (pe_borP (pv 1)) (pa_consP (pe_borP (pv 3)) (pa_consP (pe_borP (pv 4)) pa_nilP))))))) pa_nilP))))))) (pss_oneP (ps_ifP (pt_cmpP (op_eqP hr.units) li_eq (pe_borP (pv 5)) (pe_cP (d := .str "as") pe_str) (nomark _)) (pss_oneP (ps_setP (ps_set (i := 7) sc_op_node.nd rfl (Or.inl rfl) (pe_callP hG (pe_call (okp_num T) (hr.mono (by decide)) rfl T.m_num T.F_num.kp T.b_num .nil pass0 (pa_consP (pe_borP (pv 0)) (pa_consP (pe_cP (d := .int 5) pe_int) pa_nilP))))))) (pss_oneP (ps_ifP (pt_cmpP (op_eqP hr.units) li_eq (pe_borP (pv 5)) (pe_cP (d := .str "row") pe_str) (nomark _)) (pss_consP (ps_forP (ps_for PassesOwn.never rfl (pi_range1P (pi_range1 (by rfl) T.z_range (pa_consP (pe_callP hG (pe_call (okp_draw T) (hr.mono (by decide)) rfl T.m_draw T.F_draw.kp T.b_draw .nil pass0 (pa_consP (pe_borP (pv 0)) (pa_consP (pe_cP (d := .int 3) pe_int) pa_nilP)))) pa_nilP))) (pg_nameP (pg_name (i := 8) sc_op_node.nd rfl (Or.inl rfl)))
      (pss_oneP (ps_dropP (pe_methP lm_app (pe_bm PySem.F.plainAttrs_list PySem.F.slot_list_append PySem.F.type_list_append mt_append (pe_borP (pv 6)) (pa_consP (pe_frzP (pe_callP hG (pe_call (okp_one_of T) (hr.mono (by decide)) rfl T.m_one_of T.F_one_of.kp T.b_one_of .nil pass0 (pa_consP (pe_borP (pv 0)) (pa_consP (pe_borP (pv 1)) (pa_consP (pe_borP (pv 3)) (pa_consP (pe_borP (pv 4)) pa_nilP))))))) pa_nilP)))))))
      (pss_oneP (ps_setP (ps_set (i := 7) sc_op_node.nd rfl (Or.inl rfl) (pe_tupP (pa_consP (pe_cP (d := .str "row") pe_str) (pa_consP (pe_varP (pv 3)) (pa_consP (pe_frzP (pe_cbP lc_len (pe_callB call_lenP (by rfl) T.z_len (by decide +kernel) (pa_consP (pe_borP (pv 6)) pa_nilP)))) pa_nilP)))))))) (pss_oneP (ps_ifP (pt_cmpP (op_inP hr.u65) li_in (pe_borP (pv 5)) (pe_tupP (pa_consP (pe_cP (d := .str "at") pe_str) (pa_consP (pe_cP (d := .str "put") pe_str) pa_nilP))) (by rfl)) (pss_consP (ps_dropP (pe_methP lm_app (pe_bm PySem.F.plainAttrs_list PySem.F.slot_list_append PySem.F.type_list_append mt_append (pe_borP (pv 6)) (pa_consP (pe_frzP (pe_callP hG (pe_call (okp_one_of T) (hr.mono (by decide)) rfl T.m_one_of T.F_one_of.kp T.b_one_of .nil pass0 (pa_consP (pe_borP (pv 0)) (pa_consP (pe_borP (pv 1)) (pa_consP (pe_tupP (pa_consP (pe_cP (d := .str "num") pe_str) (pa_consP (pe_negP (pe_cP (d := .int 1) pe_int)) (pa_consP (pe_cP (d := .int 3) pe_int) (pa_consP (pe_cP (d := .int 1) pe_int) (pa_consP (pe_cP (d := .str "hold") pe_str) pa_nilP)))))) (pa_consP (pe_borP (pv 4)) pa_nilP))))))) pa_nilP))))
      (pss_oneP (ps_ifP (pt_cmpP (op_eqP hr.units) li_eq (pe_borP (pv 5)) (pe_cP (d := .str "put") pe_str) (nomark _)) (pss_oneP (ps_dropP (pe_methP lm_app (pe_bm PySem.F.plainAttrs_list PySem.F.slot_list_append PySem.F.type_list_append mt_append (pe_borP (pv 6)) (pa_consP (pe_frzP (pe_callP hG (pe_call (okp_one_of T) (hr.mono (by decide)) rfl T.m_one_of T.F_one_of.kp T.b_one_of .nil pass0 (pa_consP (pe_borP (pv 0)) (pa_consP (pe_borP (pv 1)) (pa_consP (pe_ixP (pe_borP (pv 3)) (pe_cP (d := .int 1) pe_int) (fun _ _ => rfl) li_ix) (pa_consP (pe_borP (pv 4)) pa_nilP))))))) pa_nilP))))) pss_nilP))) (pss_oneP (ps_ifP (pt_cmpP (op_ninP hr.u65) li_in (pe_borP (pv 5)) (pe_tupP (pa_consP (pe_cP (d := .str "not") pe_str) (pa_consP (pe_cP (d := .str "neg") pe_str) (pa_consP (pe_cP (d := .str "any") pe_str) (pa_consP (pe_cP (d := .str "all") pe_str) (pa_consP (pe_cP (d := .str "sum") pe_str) pa_nilP)))))) (by rfl)) (pss_oneP (ps_dropP (pe_methP lm_app (pe_bm PySem.F.plainAttrs_list PySem.F.slot_list_append PySem.F.type_list_append mt_append (pe_borP (pv 6)) (pa_consP (pe_frzP (pe_callP hG (pe_call (okp_one_of T) (hr.mono (by decide)) rfl T.m_one_of T.F_one_of.kp T.b_one_of .nil pass0 (pa_consP (pe_borP (pv 0)) (pa_consP (pe_borP (pv 1)) (pa_consP (pe_borP (pv 3)) (pa_consP (pe_borP (pv 4)) pa_nilP))))))) pa_nilP))))) pss_nilP)))))))))))
      (pss_cutP (ps_ifP (pt_cmpP (op_inP hr.u65) li_in (pe_borP (pv 5)) (pe_tupP (pa_consP (pe_cP (d := .str "at") pe_str) (pa_consP (pe_cP (d := .str "sum") pe_str) pa_nilP))) (by rfl)) (pss_oneP (ps_setP (ps_set (i := 7) sc_op_node.nd rfl (Or.inl rfl) (pe_ixP (pe_borP (pv 3)) (pe_cP (d := .int 1) pe_int) (fun _ _ => rfl) li_ix)))) (pss_oneP (ps_ifP (pt_cmpP (op_inP hr.u65) li_in (pe_borP (pv 5)) (pe_tupP (pa_consP (pe_cP (d := .str "eq") pe_str) (pa_consP (pe_cP (d := .str "ne") pe_str) (pa_consP (pe_cP (d := .str "lt") pe_str) (pa_consP (pe_cP (d := .str "le") pe_str) (pa_consP (pe_cP (d := .str "any") pe_str) (pa_consP (pe_cP (d := .str "all") pe_str) pa_nilP))))))) (by rfl)) (pss_oneP (ps_setP (ps_set (i := 7) sc_op_node.nd rfl (Or.inl rfl) (pe_tupP (pa_consP (pe_cP (d := .str "bool") pe_str) pa_nilP))))) pss_nilP)))
      (pss_oneP (ps_dropP (pe_methP lm_app (pe_bm PySem.F.plainAttrs_list PySem.F.slot_list_append PySem.F.type_list_append mt_append (pe_borP (pv 1)) (pa_consP (pe_frzP (pe_opP op_addP li_add (pe_tupP (pa_consP (pe_varP (pv 5)) (pa_consP (pe_varP (pv 7)) (pa_consP (pe_varP (pv 4)) pa_nilP)))) (pe_cbP lc_tup (pe_callTy (show CallR _ (.type "tuple") (rTupOf K) from call_tup) (by rfl) T.z_tuple (by decide +kernel) (pa_consP (pe_borP (pv 6)) pa_nilP))))) pa_nilP)))))))))))), fun as C hl h => ?_⟩
  obtain ⟨N, a, rfl, no, pl, lN, ha, q⟩ := h
  have hq := List.getElem?_eq_getElem ha
  generalize N[a] = q0 at hq
  have gk := (no a q0 hq).k
  have hc : ClOk N.length q0.1.cl := no.cl hq
  obtain ⟨⟨w0, kd, cl, rest⟩, ps0, src0⟩ := q0
  have gk : GK kd := gk
  have hc : ClOk N.length cl := hc
  refine ⟨_, atD a (nodesD_at hq), _, atD 1 rfl, _, atD a (nodesD_at hq), _, atD 2 rfl, kd, rfl, gk, fun ws w0 w40 wok => ?_⟩
  refine ⟨_, .inl rfl, (fun z => w0 (List.map_eq_nil_iff.mp z)), by rw [List.length_map]; omega, fun k d hd => ?_⟩
  obtain ⟨op, rfl, mop⟩ := str_of hd
  have wd := wok op mop
  refine ⟨szr, ?_⟩
  have go : ∀ (N1 : List NQ), NOk N1 → PlN N1 → N.length ≤ N1.length → N1.length ≤ N.length + 3 → True := fun _ _ _ _ _ => trivial
  refine ⟨fun env => ∃ (N1 : List NQ) (ps : List Nat) (res : PyData) (c8 : Cel), NOk N1 ∧ PlN N1 ∧ N.length ≤ N1.length ∧ N1.length ≤ N.length + 3 ∧ ps.length ≤ 4 ∧ (op ∈ twoW → 2 ≤ ps.length) ∧ (op = "pick" → 3 ≤ ps.length) ∧ (∀ v ∈ ps, v < N1.length) ∧ GK res ∧ env = [.drw, .arg (nodesD N1), .dat (.int (a : Int)), .dat kd, .dat (clD cl), .dat (.str op), .own (nums ps), .dat res, c8], ?_, ?_⟩
  · have ha0 : ∀ N1 : List NQ, N.length ≤ N1.length → a < N1.length := fun N1 l => by omega
    refine ⟨szr, .inl ⟨rfl, flat_strs ["mid", "vote"]⟩, IfP.both (fun h1 => ?_) fun h1 => ?_⟩
    · refine ⟨N, kd, cl, rfl, no, pl, by omega, gk, hc, fun j1 N1 no1 pl1 l1 l1' pre1 ⟨q1, hq1, _⟩ => ⟨N1, kd, cl, rfl, no1, pl1, by omega, gk, hc.mono l1, fun j2 N2 no2 pl2 l2 l2' pre2 ⟨q2, hq2, _⟩ => ?_⟩⟩
      have b1 := (List.getElem?_eq_some_iff.mp (pre2 _ _ hq1)).1
      have b2 := (List.getElem?_eq_some_iff.mp hq2).1
      refine ⟨szr, N2, [a, j1, j2], kd, .no, no2, pl2, by omega, by omega, by simp, (fun _ => Nat.le_of_ble_eq_true rfl), (fun _ => Nat.le_of_ble_eq_true rfl), fun v hv => ?_, gk, rfl⟩
      simp only [List.mem_cons, List.not_mem_nil, or_false] at hv
      rcases hv with rfl | rfl | rfl <;> omega
    refine IfP.both (fun h2 => ?_) fun h2 => ?_
    · refine ⟨szr, N, truthD, cl, rfl, no, pl, by omega, truth_gk, hc, fun j1 N1 no1 pl1 l1 l1' pre1 ⟨q1, hq1, _⟩ => ⟨N1, kd, cl, rfl, no1, pl1, by omega, gk, hc.mono l1, fun j2 N2 no2 pl2 l2 l2' pre2 ⟨q2, hq2, _⟩ => ?_⟩⟩
      have b1 := (List.getElem?_eq_some_iff.mp (pre2 _ _ hq1)).1
      have b2 := (List.getElem?_eq_some_iff.mp hq2).1
      refine ⟨szr, N2, [j1, a, j2], kd, .no, no2, pl2, by omega, by omega, by simp, (fun _ => Nat.le_of_ble_eq_true rfl), (fun _ => Nat.le_of_ble_eq_true rfl), fun v hv => ?_, gk, rfl⟩
      simp only [List.mem_cons, List.not_mem_nil, or_false] at hv
      rcases hv with rfl | rfl | rfl <;> omega
    refine IfP.both (fun h3 => ?_) fun h3 => ?_
    · have ew : op = "as" := of_decide_eq_true h3
      exact ⟨5, rfl, by decide, by decide, fun k kp kpl => ⟨N, [a], k, .no, no, pl, Nat.le_refl _, by omega, by simp, (fun z => absurd (ew ▸ z) (by decide +kernel)), (fun z => absurd (ew.symm.trans z) (by decide +kernel)), (fun v hv => by rw [List.mem_singleton.mp hv]; exact ha), ⟨.inl kp, kpl⟩, rfl⟩⟩
    refine IfP.both (fun h4 => ?_) fun h4 => ?_
    · have ew : op = "row" := of_decide_eq_true h4
      have kp := wd.pl ew
      refine ⟨_, rfl, by decide, by decide, fun r r0 r1 => ⟨by omega, by omega, ?_⟩⟩
      refine ⟨fun i env => i ≤ 2 ∧ ∃ (N1 : List NQ) (ps : List Nat) (c8 : Cel), NOk N1 ∧ PlN N1 ∧ N.length ≤ N1.length ∧ N1.length ≤ N.length + i ∧ ps.length = i + 1 ∧ (∀ v ∈ ps, v < N1.length) ∧ env = [.drw, .arg (nodesD N1), .dat (.int (a : Int)), .dat kd, .dat (clD cl), .dat (.str op), .own (nums ps), .dat kd, c8], ⟨by omega, N, [a], .no, no, pl, Nat.le_refl _, Nat.le_refl _, rfl, (fun v hv => by rw [List.mem_singleton.mp hv]; exact ha), rfl⟩, ?_, ?_⟩
      · rintro i x env hx ⟨i2, N1, ps, c8, no1, pl1, l1, l2, lp, mp, rfl⟩
        have hi := (List.getElem?_eq_some_iff.mp hx).1
        unfold rangeP at hi
        rw [List.length_map, List.length_range] at hi
        have ln := nums_len ps
        refine ⟨N1, kd, cl, rfl, no1, pl1, by omega, gk, hc.mono l1, fun j2 N2 no2 pl2 l3 l3' pre2 ⟨q2, hq2, _⟩ => ?_⟩
        have b2 := (List.getElem?_eq_some_iff.mp hq2).1
        refine ⟨szl (by omega), by omega, N2, ps ++ [j2], .dat x, no2, pl2, by omega, by omega, by rw [List.length_append, lp]; rfl, fun v hv => ?_, by rw [nums_app]; rfl⟩
        rcases List.mem_append.mp hv with hv | hv
        · have := mp v hv
          omega
        · rw [List.mem_singleton.mp hv]
          exact b2
      · rintro env ⟨i2, N1, ps, c8, no1, pl1, l1, l2, lp, mp, rfl⟩
        have ln := nums_len ps
        refine ⟨szr, N1, ps, _, c8, no1, pl1, l1, by omega, by omega, (fun z => absurd (ew ▸ z) (by decide +kernel)), (fun z => absurd (ew.symm.trans z) (by decide +kernel)), mp, row_gk (n := ps.length) kp gk (by omega), by rw [ln]; rfl⟩
    refine ⟨szr, .inl ⟨rfl, flat_strs ["at", "put"]⟩, IfP.as (inS op ["at", "put"]) (IfP.both (fun h5 => ?_) fun h5 => ?_)⟩
    · have h5 : op ∈ (["at", "put"] : List Str) := of_decide_eq_true h5
      obtain ⟨p, m, e, hp⟩ := wd.row (by
        simp only [List.mem_cons, List.not_mem_nil, or_false] at h5 ⊢
        rcases h5 with h5 | h5
        · exact .inl h5
        · exact .inr (.inl h5))
      obtain ⟨gp, _⟩ := gk.row e
      subst e
      refine ⟨szr, N, _, cl, rfl, no, pl, by omega, num_gk, hc, fun j1 N1 no1 pl1 l1 l1' pre1 ⟨q1, hq1, _⟩ => ⟨szn, ?_⟩⟩
      have b1 := (List.getElem?_eq_some_iff.mp hq1).1
      refine IfP.both (fun h6 => ?_) fun h6 => ?_
      · refine ⟨_, atD 1 rfl, N1, p, cl, rfl, no1, pl1, by omega, gp, hc.mono l1, fun j2 N2 no2 pl2 l2 l2' pre2 ⟨q2, hq2, _⟩ => ⟨szn, N2, [a, j1, j2], _, .no, no2, pl2, by omega, by omega, by simp, (fun _ => Nat.le_of_ble_eq_true rfl), (fun _ => Nat.le_of_ble_eq_true rfl), fun v hv => ?_, gk, rfl⟩⟩
        have b2 := (List.getElem?_eq_some_iff.mp hq2).1
        simp only [List.mem_cons, List.not_mem_nil, or_false] at hv
        rcases hv with rfl | rfl | rfl <;> omega
      · refine ⟨N1, [a, j1], _, .no, no1, pl1, by omega, by omega, by simp, (fun _ => Nat.le_of_ble_eq_true rfl), (fun z => absurd (z ▸ h5) (by decide +kernel)), fun v hv => ?_, gk, rfl⟩
        simp only [List.mem_cons, List.not_mem_nil, or_false] at hv
        rcases hv with rfl | rfl <;> omega
    refine ⟨szr, .inl ⟨rfl, flat_strs ["not", "neg", "any", "all", "sum"]⟩, IfP.as (notS op ["not", "neg", "any", "all", "sum"]) (IfP.both (fun h6 => ?_) fun h6 => ?_)⟩
    · refine ⟨N, kd, cl, rfl, no, pl, by omega, gk, hc, fun j1 N1 no1 pl1 l1 l1' pre1 ⟨q1, hq1, _⟩ => ⟨szn, N1, [a, j1], kd, .no, no1, pl1, by omega, by omega, by simp, (fun _ => Nat.le_of_ble_eq_true rfl), (fun z => absurd z (of_decide_eq_false h2)), fun v hv => ?_, gk, rfl⟩⟩
      have b1 := (List.getElem?_eq_some_iff.mp hq1).1
      simp only [List.mem_cons, List.not_mem_nil, or_false] at hv
      rcases hv with rfl | rfl <;> omega
    · have h6 : op ∈ (["not", "neg", "any", "all", "sum"] : List Str) := Decidable.not_not.mp (of_decide_eq_false h6)
      have nt : ∀ x ∈ (["not", "neg", "any", "all", "sum"] : List Str), ¬ x ∈ twoW ∧ ¬ x = "pick" := by decide +kernel
      exact ⟨N, [a], kd, .no, no, pl, Nat.le_refl _, by omega, by simp, (fun z => absurd z (nt op h6).1), (fun z => absurd z (nt op h6).2), (fun v hv => by rw [List.mem_singleton.mp hv]; exact ha), gk, rfl⟩
  rintro env ⟨N1, ps, res, c8, no1, pl1, l1, l2, lp, ar1, ar2, mp, gr, rfl⟩
  have lD1 := nodesD_len N1
  refine ⟨fun env => ∃ res : PyData, GK res ∧ env = [.drw, .arg (nodesD N1), .dat (.int (a : Int)), .dat kd, .dat (clD cl), .dat (.str op), .own (nums ps), .dat res, c8], ?_, ?_⟩
  · refine ⟨szr, .inl ⟨rfl, flat_strs ["at", "sum"]⟩, IfP.as (inS op ["at", "sum"]) (IfP.both (fun h1 => ?_) fun h1 => ?_)⟩
    · have h1 : op ∈ (["at", "sum"] : List Str) := of_decide_eq_true h1
      obtain ⟨p, m, e, hp⟩ := wd.row (by
        simp only [List.mem_cons, List.not_mem_nil, or_false] at h1 ⊢
        rcases h1 with h1 | h1
        · exact .inl h1
        · exact .inr (.inr h1))
      obtain ⟨gp, _⟩ := gk.row e
      subst e
      exact ⟨_, atD 1 rfl, _, gp, rfl⟩
    · refine ⟨szr, .inl ⟨rfl, flat_strs ["eq", "ne", "lt", "le", "any", "all"]⟩, IfP.both (fun h2 => ?_) fun h2 => ⟨res, gr, rfl⟩⟩
      exact ⟨szr, _, truth_gk, rfl⟩
  rintro env ⟨res2, gr2, rfl⟩
  have ln := nums_len ps
  have no2 := no1.app (q := (⟨op, res2, cl, nums ps⟩, ps, none)) (nk_new (.inr (.inr (.inr (.inr (.inr ⟨wd.op, rfl, rfl⟩))))) (hc.mono l1) (by omega) mp (fun s e => by cases e) gr2)
  have fin := q _ no2 (pl1.app (plain_nd (opWords_ok op wd.op) gr2.2 (plain_nums ps)) ⟨ar1, ar2, dpI ps⟩) (by rw [List.length_append]; show _ + 1 ≤ _ + 1; omega) (by rw [List.length_append]; show _ + 1 ≤ _; omega)
  rw [nodesD_app] at fin
  refine ⟨szr, (show 3 + (nums ps).length ≤ _ from szle (by omega)), szl (by omega), ?_⟩
  exact fin
end

/-! ### any new node -/
def R_more_nodes : PR := fun as C => ∃ (ins : List PyData) (N : List NQ), as = [.drw, .arg ins, .arg (nodesD N)] ∧ NOk N ∧ PlN N ∧ 1 ≤ N.length ∧ N.length ≤ 150 ∧ (∀ d ∈ ins, InD d) ∧ 1 ≤ ins.length ∧ ins.length ≤ 10 ∧
  ∀ N' : List NQ, NOk N' → PlN N' → N.length ≤ N'.length → N'.length ≤ N.length + 18 → C (.dat .none) [.drw, .arg ins, .arg (nodesD N')]
def hw : PyData → Str
  | .tuple (.str s :: _) => s
  | _ => ""
def chooses (cl : List (Nat × Int)) (q : NQ) : Bool := PyData.eqv (clD q.1.cl) (clD cl) && decide (hw q.1.k ∈ (["bool", "mode"] : List Str))
theorem hw_choose {kd : PyData} (g : GK kd) (h : hw kd ∈ (["bool", "mode"] : List Str)) : ∃ n, KCh kd n := by
  rcases g.1 with hp | ⟨p, m, hk, rfl, m7⟩
  · rcases hp with rfl | ⟨ns, rfl, n1, n8⟩ | ⟨lo, hi, per, how, rfl, hb⟩
    · exact ⟨2, .inl ⟨rfl, rfl⟩⟩
    · exact ⟨ns.length, .inr ⟨ns, rfl, rfl, n1, n8⟩⟩
    · exact absurd (show ("num" : Str) ∈ (["bool", "mode"] : List Str) from h) (by decide +kernel)
  · exact absurd (show ("row" : Str) ∈ (["bool", "mode"] : List Str) from h) (by decide +kernel)
theorem choose_mem {N : List NQ} (no : NOk N) {cl : List (Nat × Int)} {l : List Nat} {v : Nat} (h : v ∈ l.filter (atN N (chooses cl))) : ∃ q n, N[v]? = some q ∧ q.1.cl = cl ∧ KCh q.1.k n := by
  obtain ⟨q, hq, c, _⟩ := atN_mem h
  unfold chooses at c
  rw [Bool.and_eq_true, decide_eq_true_eq] at c
  have e := (eqv_iff (clD_plain _) (clD_plain _)).mp c.1
  obtain ⟨n, hn⟩ := hw_choose (no v q hq).k c.2
  exact ⟨q, n, hq, clD_inj e, hn⟩
section
variable {P : Program} {w : World} {K : PySem.W.Frag} {mg : Str → Option Value} {base : Heap}
theorem okp_more_nodes (T : Tx K mg w base) : FnOk P w K mg base CX0 11 T.f_more_nodes T.fd_more_nodes ["_law_d", "_law_inputs", "_law_nodes"] (spP K T.tbs 3 R_more_nodes) := by
  refine okP T.F_more_nodes sc_more_nodes rfl fun cdv A outer s H E G hG hcd hr => ⟨_, (pss_consP (ps_setP (ps_set (i := 3) sc_more_nodes.nd rfl (Or.inl rfl) (pe_callP hG (pe_call (okp_draw T) (hr.mono (by decide)) rfl T.m_draw T.F_draw.kp T.b_draw .nil pass0 (pa_consP (pe_borP (pv 0)) (pa_consP (pe_cP (d := .int 12) pe_int) pa_nilP))))))
      (pss_cutP (ps_setP (ps_set (i := 4) sc_more_nodes.nd rfl (Or.inl rfl) (pe_opP op_sub li_sub (pe_opP op_sub li_sub (pe_cbP lc_len (pe_callB call_lenP (by rfl) T.z_len (by decide +kernel) (pa_consP (pe_borP (pv 2)) pa_nilP))) (pe_cP (d := .int 1) pe_int)) (pe_callP hG (pe_call (okp_draw T) (hr.mono (by decide)) rfl T.m_draw T.F_draw.kp T.b_draw .nil pass0 (pa_consP (pe_borP (pv 0)) (pa_consP (pe_cbP lc_min (pe_callB (call_minP rfl) (by rfl) T.z_min (by decide +kernel) (pa_consP (pe_cbP lc_len (pe_callB call_lenP (by rfl) T.z_len (by decide +kernel) (pa_consP (pe_borP (pv 2)) pa_nilP))) (pa_consP (pe_cP (d := .int 9) pe_int) pa_nilP)))) pa_nilP)))))))
      (pss_consP (ps_setP (ps_set (i := 5) sc_more_nodes.nd rfl (Or.inr rfl) (pe_ixP (pe_ixP (pe_borP (pv 2)) (pe_borP (pv 4)) (fun _ _ => rfl) li_ix) (pe_cP (d := .int 2) pe_int) (fun _ _ => rfl) li_ix)))
      (pss_cutP (ps_setLcP (i := 6) (vs := [10]) (ps_setLc (i := 6) (own := [("_law_n", 10)]) rfl sc_more_nodes.nd rfl rfl (sw_true rfl rfl rfl (by decide +kernel)) (pi_range1P (pi_range1 (by rfl) T.z_range (pa_consP (pe_cbP lc_len (pe_callB call_lenP (by rfl) T.z_len (by decide +kernel) (pa_consP (pe_borP (pv 2)) pa_nilP))) pa_nilP))) (blkOk_by (N := ["_law_d", "_law_inputs", "_law_nodes", "_law_way", "_law_a", "_law_clock", "_law_choosers", "_law_many", "_law_chooser", "_law_value_here", "_law_n"]) (sc := defScope s_more_nodes) (by decide +kernel)) (fun _ _ _ _ _ => (pg_compP (vs := [10]) (pg_name (i := 10) sc_more_nodes.nd rfl (Or.inl rfl)))) (fun _ _ _ _ _ => (pts_one (PW.pt (pw_andP (pt_cmpP (op_eqP hr.units) li_eq (pe_ixP (pe_ixP (pe_borP (pv 2)) (pe_borP (pv 10)) (fun _ _ => rfl) li_ix) (pe_cP (d := .int 2) pe_int) (fun _ _ => rfl) li_ix) (pe_borP (pv 5)) (nomark _)) (pw_and1P (pt_cmpP (op_inP hr.u65) li_in (pe_ixP (pe_ixP (pe_ixP (pe_borP (pv 2)) (pe_borP (pv 10)) (fun _ _ => rfl) li_ix) (pe_cP (d := .int 1) pe_int) (fun _ _ => rfl) li_ix) (pe_cP (d := .int 0) pe_int) (fun _ _ => rfl) li_ix) (pe_tupP (pa_consP (pe_cP (d := .str "bool") pe_str) (pa_consP (pe_cP (d := .str "mode") pe_str) pa_nilP))) (by rfl))))))) (fun _ _ _ _ _ => (pe_varP (pv 10)))))
      (pss_oneP (ps_ifP (PW.pt (pw_orP (pt_cmpP op_lt li_lt (pe_borP (pv 3)) (pe_cP (d := .int 5) pe_int) (nomark _)) (pw_or1P (PW.pt (pw_andP (pt_cmpP op_gt li_gt (pe_borP (pv 3)) (pe_cP (d := .int 8) pe_int) (nomark _)) (pw_and1P (pt_cmpP op_gt li_gt (pe_cbP lc_len (pe_callB call_lenP (by rfl) T.z_len (by decide +kernel) (pa_consP (pe_borP (pv 5)) pa_nilP))) (pe_cP (d := .int 1) pe_int) (nomark _)))))))) (pss_oneP (ps_dropP (pe_callP hG (pe_call (okp_op_node T) (hr.mono (by decide)) rfl T.m_op_node T.F_op_node.kp T.b_op_node .nil pass0 (pa_consP (pe_borP (pv 0)) (pa_consP (pe_borP (pv 2)) (pa_consP (pe_borP (pv 4)) pa_nilP))))))) (pss_oneP (ps_ifP (pt_cmpP op_lt li_lt (pe_borP (pv 3)) (pe_cP (d := .int 7) pe_int) (nomark _)) (pss_oneP (ps_dropP (pe_callP hG (pe_call (okp_delay_node T) (hr.mono (by decide)) rfl T.m_delay_node T.F_delay_node.kp T.b_delay_node .nil pass0 (pa_consP (pe_borP (pv 0)) (pa_consP (pe_borP (pv 2)) (pa_consP (pe_borP (pv 4)) pa_nilP))))))) (pss_oneP (ps_ifP (pt_cmpP (op_eqP hr.units) li_eq (pe_borP (pv 3)) (pe_cP (d := .int 7) pe_int) (nomark _)) (pss_consP (ps_setP (ps_set (i := 7) sc_more_nodes.nd rfl (Or.inl rfl) (pe_opP op_addP li_add (pe_cP (d := .int 1) pe_int) (pe_callP hG (pe_call (okp_draw T) (hr.mono (by decide)) rfl T.m_draw T.F_draw.kp T.b_draw .nil pass0 (pa_consP (pe_borP (pv 0)) (pa_consP (pe_cP (d := .int 3) pe_int) pa_nilP)))))))
      (pss_oneP (ps_dropP (pe_methP lm_app (pe_bm PySem.F.plainAttrs_list PySem.F.slot_list_append PySem.F.type_list_append mt_append (pe_borP (pv 2)) (pa_consP (pe_tupP (pa_consP (pe_cP (d := .str "beat") pe_str) (pa_consP (pe_tupP (pa_consP (pe_cP (d := .str "bool") pe_str) pa_nilP)) (pa_consP (pe_varP (pv 5)) (pa_consP (pe_varP (pv 7)) (pa_consP (pe_frzP (pe_callP hG (pe_call (okp_draw T) (hr.mono (by decide)) rfl T.m_draw T.F_draw.kp T.b_draw .nil pass0 (pa_consP (pe_borP (pv 0)) (pa_consP (pe_borP (pv 7)) pa_nilP))))) pa_nilP)))))) pa_nilP)))))) (pss_oneP (ps_ifP (pt_cmpP (op_eqP hr.units) li_eq (pe_borP (pv 3)) (pe_cP (d := .int 8) pe_int) (nomark _)) (pss_oneP (ps_dropP (pe_callP hG (pe_call (okp_input_node T) (hr.mono (by decide)) rfl T.m_input_node T.F_input_node.kp T.b_input_node .nil pass0 (pa_consP (pe_borP (pv 1)) (pa_consP (pe_borP (pv 2)) (pa_consP (pe_callP hG (pe_call (okp_draw T) (hr.mono (by decide)) rfl T.m_draw T.F_draw.kp T.b_draw .nil pass0 (pa_consP (pe_borP (pv 0)) (pa_consP (pe_cbP lc_len (pe_callB call_lenP (by rfl) T.z_len (by decide +kernel) (pa_consP (pe_borP (pv 1)) pa_nilP))) pa_nilP)))) (pa_consP (pe_borP (pv 5)) pa_nilP)))))))) (pss_cutP (ps_ifP (pt_cmpP (op_eqP hr.units) li_eq (pe_cbP lc_len (pe_callB call_lenP (by rfl) T.z_len (by decide +kernel) (pa_consP (pe_borP (pv 6)) pa_nilP))) (pe_cP (d := .int 0) pe_int) (nomark _)) (pss_consP (ps_dropP (pe_methP lm_app (pe_bm PySem.F.plainAttrs_list PySem.F.slot_list_append PySem.F.type_list_append mt_append (pe_borP (pv 2)) (pa_consP (pe_tupP (pa_consP (pe_cP (d := .str "beat") pe_str) (pa_consP (pe_tupP (pa_consP (pe_cP (d := .str "bool") pe_str) pa_nilP)) (pa_consP (pe_varP (pv 5)) (pa_consP (pe_cP (d := .int 2) pe_int) (pa_consP (pe_cP (d := .int 0) pe_int) pa_nilP)))))) pa_nilP))))
      (pss_oneP (ps_setP (ps_set (i := 6) sc_more_nodes.nd rfl (Or.inl rfl) (pe_lstP (pa_consP (pe_frzP (pe_opP op_sub li_sub (pe_cbP lc_len (pe_callB call_lenP (by rfl) T.z_len (by decide +kernel) (pa_consP (pe_borP (pv 2)) pa_nilP))) (pe_cP (d := .int 1) pe_int))) pa_nilP)))))) pss_nilP)
      (pss_consP (ps_setP (ps_set (i := 8) sc_more_nodes.nd rfl (Or.inl rfl) (pe_callP hG (pe_call (okp_pick T) (hr.mono (by decide)) rfl T.m_pick T.F_pick.kp T.b_pick .nil pass0 (pa_consP (pe_borP (pv 0)) (pa_consP (pe_borP (pv 6)) pa_nilP))))))
      (pss_oneP (ps_ifP (pt_cmpP op_lt li_lt (pe_borP (pv 3)) (pe_cP (d := .int 11) pe_int) (nomark _)) (pss_oneP (ps_dropP (pe_callP hG (pe_call (okp_merge_node T) (hr.mono (by decide)) rfl T.m_merge_node T.F_merge_node.kp T.b_merge_node .nil pass0 (pa_consP (pe_borP (pv 0)) (pa_consP (pe_borP (pv 2)) (pa_consP (pe_borP (pv 4)) (pa_consP (pe_borP (pv 8)) pa_nilP)))))))) (pss_consP (ps_setP (ps_set (i := 9) sc_more_nodes.nd rfl (Or.inl rfl) (pe_callP hG (pe_call (okp_pick T) (hr.mono (by decide)) rfl T.m_pick T.F_pick.kp T.b_pick .nil pass0 (pa_consP (pe_borP (pv 0)) (pa_consP (pe_callP hG (pe_call (okp_kind_values T) (hr.mono (by decide)) rfl T.m_kind_values T.F_kind_values.kp T.b_kind_values .nil pass0 (pa_consP (pe_ixP (pe_ixP (pe_borP (pv 2)) (pe_borP (pv 8)) (fun _ _ => rfl) li_ix) (pe_cP (d := .int 1) pe_int) (fun _ _ => rfl) li_ix) pa_nilP))) pa_nilP))))))
      (pss_oneP (ps_dropP (pe_methP lm_app (pe_bm PySem.F.plainAttrs_list PySem.F.slot_list_append PySem.F.type_list_append mt_append (pe_borP (pv 2)) (pa_consP (pe_tupP (pa_consP (pe_cP (d := .str "when") pe_str) (pa_consP (pe_ixP (pe_ixP (pe_borP (pv 2)) (pe_borP (pv 4)) (fun _ _ => rfl) li_ix) (pe_cP (d := .int 1) pe_int) (fun _ _ => rfl) li_ix) (pa_consP (pe_frzP (pe_opP op_addP li_add (pe_borP (pv 5)) (pe_tupP (pa_consP (pe_tupP (pa_consP (pe_varP (pv 8)) (pa_consP (pe_varP (pv 9)) pa_nilP))) pa_nilP)))) (pa_consP (pe_varP (pv 4)) pa_nilP))))) pa_nilP)))))))))))))))))))))), fun as C hl h => ?_⟩
  obtain ⟨ins, N, rfl, no, pl, n1, lN, hin, i1, i10, q⟩ := h
  have lD := nodesD_len N
  refine ⟨_, rfl, by decide, by decide, fun way w0 w1 => ?_⟩
  refine ⟨fun env => ∃ a : Nat, a < N.length ∧ env = [.drw, .arg ins, .arg (nodesD N), .dat (.int way), .dat (.int (a : Int)), .no, .no, .no, .no, .no, .no], ⟨_, rfl, ?_, ?_, fun r r0 r1 => ?_⟩, ?_⟩
  · split <;> omega
  · split <;> omega
  · have r2 : r < (N.length : Int) := by split at r1 <;> omega
    refine ⟨(N.length - 1 - r.toNat), by omega, ?_⟩
    rw [show ((N.length - 1 - r.toNat : Nat) : Int) = (((nodesD N).length : Nat) : Int) - 1 - r by omega]
    rfl
  rintro env ⟨a, ha, rfl⟩
  have hq := List.getElem?_eq_getElem ha
  generalize N[a] = q0 at hq
  have hc := no.cl hq
  have gk := (no a q0 hq).k
  refine ⟨_, atD a (nodesD_at hq), _, atD 2 rfl, ?_⟩
  refine ⟨fun env => ∃ th : List Nat, th.length ≤ N.length ∧ (∀ v ∈ th, ∃ q n, N[v]? = some q ∧ q.1.cl = q0.1.cl ∧ KCh q.1.k n) ∧ env = [.drw, .arg ins, .arg (nodesD N), .dat (.int way), .dat (.int (a : Int)), .dat (clD q0.1.cl), .own (nums th), .no, .no, .no, .no], ?_, ?_⟩
  · refine ⟨by omega, by omega, ?_⟩
    rw [lD, rangeN]
    refine lc_numsP (atN N (chooses q0.1.cl)) (szl (by rw [List.length_range]; omega)) (fun j b hb Q k1 k2 => ?_) ⟨_, Nat.le_trans (List.length_filter_le _ _) (by rw [List.length_range]; exact Nat.le_refl _), (fun v hv => choose_mem no hv), rfl⟩
    have hi := (List.getElem?_eq_some_iff.mp hb).1
    rw [List.length_range] at hi
    rw [List.getElem?_range hi] at hb
    cases hb
    have hj := List.getElem?_eq_getElem hi
    generalize N[j] = r at hj
    rw [atN_some hj] at k1 k2
    have g := (no j r hj).k
    obtain ⟨⟨w1, kr, clr, rest⟩, ps, src⟩ := r
    obtain ⟨s, t, er⟩ := g.head
    have er : kr = .tuple (.str s :: t) := er
    subst er
    refine ⟨_, atD j (nodesD_at hj), _, atD 2 rfl, clD_shaped _, clD_shaped _, IfP.both (fun h1 => ?_) fun h1 => .f rfl (k2 ?_)⟩
    · refine ⟨_, atD j (nodesD_at hj), _, atD 1 rfl, _, atD 0 rfl, szr, .inl ⟨rfl, flat_strs ["bool", "mode"]⟩, IfP.as (inS s ["bool", "mode"]) (IfP.both (fun h2 => k1 ?_) fun h2 => k2 ?_)⟩
      · show (PyData.eqv (clD clr) (clD q0.1.cl) && decide (s ∈ _)) = true
        rw [show PyData.eqv (clD clr) (clD q0.1.cl) = true from h1]
        exact h2
      · show (PyData.eqv (clD clr) (clD q0.1.cl) && decide (s ∈ _)) = false
        rw [show PyData.eqv (clD clr) (clD q0.1.cl) = true from h1]
        exact h2
    · show (PyData.eqv (clD clr) (clD q0.1.cl) && decide (s ∈ _)) = false
      rw [show PyData.eqv (clD clr) (clD q0.1.cl) = false from h1]
      rfl
  rintro env ⟨th, lt, mt, rfl⟩
  have llt := nums_len th
  have opn : R_op_node [.drw, .arg (nodesD N), .dat (.int (a : Int))] (fun r as' => ∃ N', as' = [.drw, .arg (nodesD N'), .dat (.int (a : Int))] ∧ r = .dat .none ∧ NOk N' ∧ PlN N' ∧ N.length ≤ N'.length ∧ N'.length ≤ N.length + 18) := ⟨N, a, rfl, no, pl, by omega, ha, fun N' no' pl' l l' => ⟨N', rfl, rfl, no', pl', by omega, by omega⟩⟩
  have rw01 : (way = 0 ∨ way = 1 ∨ way = 2 ∨ way = 3 ∨ way = 4) ∨ (way = 5 ∨ way = 6) ∨ way = 7 ∨ way = 8 ∨ way = 9 ∨ way = 10 ∨ way = 11 := by omega
  have lcl : (q0.1.cl.map pairD).length = q0.1.cl.length := List.length_map _
  rcases rw01 with h | h | rfl | rfl | h
  · rcases h with rfl | rfl | rfl | rfl | rfl
    all_goals exact .t rfl (.t rfl ⟨N, a, rfl, no, pl, by omega, ha, fun N' no' pl' l l' => q N' no' pl' (by omega) (by omega)⟩)
  · rcases h with rfl | rfl
    all_goals exact .f rfl (.f rfl (.f rfl (.t rfl ⟨N, a, rfl, no, pl, by omega, ha, fun N' no' pl' l => q N' no' pl' (by omega) (by omega)⟩)))
  · refine .f rfl (.f rfl (.f rfl (.f rfl (.t rfl ⟨_, rfl, by decide, by decide, fun m m0 m1 => ⟨szr, _, rfl, by omega, by omega, fun z z0 z1 => ⟨szr, szl (by omega), ?_⟩⟩⟩))))
    have fin := q (N ++ [(⟨"beat", truthD, q0.1.cl, [.int (1 + m), .int z]⟩, [], none)]) (no.app (nk_new (.inr (.inl ⟨rfl, ⟨_, _, rfl⟩, rfl, rfl⟩)) hc (Nat.zero_le _) (fun v hv => by cases hv) (fun s e => by cases e) truth_gk)) (pl.app (plain_nd (show PyData.strOk "beat" = true by decide +kernel) truth_gk.2 rfl) (.lit "beat" rfl (by decide +kernel))) (by rw [List.length_append]; exact Nat.le_add_right _ _) (by rw [List.length_append]; show _ + 1 ≤ _; omega)
    rw [nodesD_app] at fin
    exact fin
  · refine .f rfl (.f rfl (.f rfl (.f rfl (.f rfl (.t rfl ⟨_, rfl, by omega, by omega, fun z z0 z1 => ?_⟩)))))
    obtain ⟨b, rfl⟩ := Int.eq_ofNat_of_zero_le z0
    exact ⟨ins, N, b, q0.1.cl, rfl, no, pl, by omega, hin, by omega, hc, fun N' no' pl' l l' => q N' no' pl' (by omega) (by omega)⟩
  · have w9 : 9 ≤ way ∧ way ≤ 11 := by omega
    refine .f (decide_eq_false (by omega)) (.t (decide_eq_true (by omega)) (IfP.both (fun h1 => ⟨N, a, rfl, no, pl, by omega, ha, fun N' no' pl' l l' => q N' no' pl' (by omega) (by omega)⟩) fun h1 => ?_))
    have c1 : q0.1.cl.length ≤ 1 := by
      have h1 : ¬ (1 : Int) < (((q0.1.cl.map pairD).length : Nat) : Int) := of_decide_eq_false h1
      rw [lcl] at h1
      omega
    refine .f (decide_eq_false (by omega)) (.f (decide_eq_false (by omega)) (.f (decide_eq_false (by omega)) ?_))
    refine ⟨fun env => ∃ (N1 : List NQ) (th1 : List Nat), NOk N1 ∧ PlN N1 ∧ Pre N N1 ∧ N.length ≤ N1.length ∧ N1.length ≤ N.length + 1 ∧ th1 ≠ [] ∧ th1.length ≤ 300 ∧ (∀ v ∈ th1, ∃ q n, N1[v]? = some q ∧ KCh q.1.k n) ∧ env = [.drw, .arg ins, .arg (nodesD N1), .dat (.int way), .dat (.int (a : Int)), .dat (clD q0.1.cl), .own (nums th1), .no, .no, .no, .no], ?_, ?_⟩
    · refine IfP.both (fun h2 => ?_) fun h2 => ?_
      · refine ⟨szr, szr, szl (by omega), szr, N ++ [(⟨"beat", truthD, q0.1.cl, [.int 2, .int 0]⟩, [], none)], [N.length], no.app (nk_new (.inr (.inl ⟨rfl, ⟨_, _, rfl⟩, rfl, rfl⟩)) hc (Nat.zero_le _) (fun v hv => by cases hv) (fun s e => by cases e) truth_gk), pl.app (plain_nd (show PyData.strOk "beat" = true by decide +kernel) truth_gk.2 rfl) (.lit "beat" rfl (by decide +kernel)), fun i q e => ?_, by rw [List.length_append]; exact Nat.le_add_right _ _, by rw [List.length_append]; exact Nat.le_refl _, by simp, by simp, fun v hv => ⟨(⟨"beat", truthD, q0.1.cl, [.int 2, .int 0]⟩, [], none), 2, ?_, .inl ⟨rfl, rfl⟩⟩, ?_⟩
        · rw [List.getElem?_append_left (List.getElem?_eq_some_iff.mp e).1]
          exact e
        · rw [List.mem_singleton.mp hv, List.getElem?_append_right (Nat.le_refl _), Nat.sub_self]
          rfl
        · have e : (((nodesD N ++ [PyData.tuple [.str "beat", truthD, clD q0.1.cl, .int 2, .int 0]]).length : Nat) : Int) - 1 = (N.length : Int) := by
            rw [List.length_append, lD]
            show ((N.length + 1 : Nat) : Int) - 1 = _
            omega
          show List.set _ 6 (Cel.own [.int ((((nodesD N ++ [PyData.tuple [.str "beat", truthD, clD q0.1.cl, .int 2, .int 0]]).length : Nat) : Int) - 1)]) = _
          rw [e, nodesD_app]
          rfl
      · refine ⟨N, th, no, pl, (fun i q e => e), Nat.le_refl _, Nat.le_succ _, ?_, by omega, fun v hv => ?_, rfl⟩
        · intro z
          subst z
          exact absurd h2 (by decide)
        · obtain ⟨q, n, e, _, k⟩ := mt v hv
          exact ⟨q, n, e, k⟩
    rintro env ⟨N1, th1, no1, pl1, pre1, l1, l2, t0, t300, mt1, rfl⟩
    have lt1 := nums_len th1
    refine ⟨nums th1, .inl rfl, (fun z => t0 (List.map_eq_nil_iff.mp z)), by omega, fun k d hd => ?_⟩
    obtain ⟨c, hcx, rfl⟩ := nums_at' hd
    obtain ⟨qc, n, hqc, kc⟩ := mt1 c (List.mem_of_getElem? hcx)
    refine IfP.both (fun h3 => ?_) fun h3 => ?_
    · exact ⟨N1, a, c, q0, qc, n, rfl, no1, pl1, by omega, pre1 a q0 hq, hqc, kc, by omega, fun N' no' pl' l l' => q N' no' pl' (by omega) (by omega)⟩
    · refine ⟨_, atD c (nodesD_at hqc), _, atD 1 rfl, _, n, rfl, kc, ?_⟩
      have n18 := kc.le
      refine ⟨_, .inl rfl, (fun z => by have := congrArg List.length z; rw [nums_len, List.length_range] at this; simp at this; omega), by rw [nums_len, List.length_range]; omega, fun k2 d2 hd2 => ?_⟩
      obtain ⟨v, hv, rfl⟩ := nums_at' hd2
      have lD1 := nodesD_len N1
      have hc1 := hc.mono l1
      have hcc := (List.getElem?_eq_some_iff.mp hqc).1
      refine ⟨_, atD a (nodesD_at (pre1 a q0 hq)), _, atD 1 rfl, szr, szr, (show (q0.1.cl.map pairD).length + 1 ≤ _ from szle (by rw [lcl]; omega)), szr, szl (by omega), ?_⟩
      have fin := q (N1 ++ [(⟨"when", q0.1.k, q0.1.cl ++ [(c, (v : Int))], [.int (a : Int)]⟩, [a], none)]) (no1.app (nk_new (.inr (.inr (.inl ⟨rfl, a, rfl, rfl, rfl⟩))) ⟨by rw [List.length_append]; show _ + 1 ≤ 4; omega, fun p hp => ?_⟩ (Nat.le_of_ble_eq_true rfl) (fun u hu => by rw [List.mem_singleton.mp hu]; omega) (fun s e => by cases e) gk)) (pl1.app (plain_nd (show PyData.strOk "when" = true by decide +kernel) gk.2 rfl) (.lit "when" rfl (by decide +kernel))) (by rw [List.length_append]; exact Nat.le_trans l1 (Nat.le_add_right _ _)) (by rw [List.length_append]; show _ + 1 ≤ _; omega)
      · rw [nodesD_app] at fin
        have e : (Nd.d ⟨"when", q0.1.k, q0.1.cl ++ [(c, (v : Int))], [.int (a : Int)]⟩) = .tuple [.str "when", q0.1.k, .tuple (q0.1.cl.map pairD ++ [pairD (c, (v : Int))]), .int (a : Int)] := by
          show PyData.tuple [_, _, .tuple ((q0.1.cl ++ [(c, (v : Int))]).map pairD), _] = _
          rw [List.map_append]
          rfl
        rw [e] at fin
        exact fin
      · rcases List.mem_append.mp hp with hp | hp
        · exact hc1.2 p hp
        · rw [List.mem_singleton.mp hp]
          exact hcc
end

/-! ### the nodes that a flow begins with -/
/-- a node among B -/
structure Gd (B : Nat) (q : NQ) : Prop where
  ok : q.1.ok q.2.1 q.2.2
  cl : q.1.cl.length ≤ 4
  few : q.2.1.length ≤ 12
  need : ∀ v ∈ q.1.needs q.2.1, v < B
  src : ∀ s, q.2.2 = some s → s < B
  k : GK q.1.k
  pl : plainD q.1.d = true
  ar : ArQ q
def AllG (B : Nat) (N : List NQ) : Prop := ∀ q ∈ N, Gd B q
theorem Nk.gd {B j : Nat} {q : NQ} (h : Nk B j q) (hj : j < B) (p : plainD q.1.d = true) (a : ArQ q) : Gd B q := ⟨h.ok, h.cl, h.few, fun v hv => Nat.lt_trans (h.need v hv) hj, h.src, h.k, p, a⟩
theorem NOk.all {N : List NQ} (h : NOk N) (p : PlN N) : AllG N.length N := fun q hq => by
  obtain ⟨j, hj, e⟩ := List.mem_iff_getElem.mp hq
  exact (h j q (List.getElem?_eq_some_iff.mpr ⟨hj, e⟩)).gd hj (p q hq).1 (p q hq).2
/-- an input of a flow -/
def InP (d : PyData) : Prop := ∃ (n : Str) (kd : PyData) (e : Int), d = .tuple [.str n, kd, .int e] ∧ GK kd ∧ PyData.strOk n = true
theorem InP.d {d : PyData} (h : InP d) : InD d := by
  obtain ⟨n, kd, e, rfl, g, _⟩ := h
  exact ⟨n, kd, e, rfl, g⟩
def R_base : PR := fun as C => ∃ (many most : Int) (ns : List Str), as = [.drw, .arg [], .dat (.int many), .dat (.int most), .arg (ns.map PyData.str)] ∧ 1 ≤ many ∧ many ≤ 60 ∧ 2 ≤ most ∧ most ≤ 100 ∧ 40 ≤ ns.length ∧ ns.length ≤ 200 ∧ (∀ n ∈ ns, PyData.strOk n = true) ∧
  ∀ (ins : List PyData) (N : List NQ) (ns' : List Str), (∀ d ∈ ins, InP d) → 1 ≤ ins.length → ins.length ≤ 3 → AllG N.length N → 1 ≤ N.length → N.length ≤ 80 → ((N.length : Int) ≤ many + 17 ∨ N.length ≤ 6) → ns.length ≤ ns'.length + 12 → ns'.length ≤ ns.length → (∀ n ∈ ns', PyData.strOk n = true) →
    C (.own (nodesD N)) [.drw, .arg ins, .dat (.int many), .dat (.int most), .arg (ns'.map PyData.str)]
theorem Gd.delay {B : Nat} {q : NQ} (h : Gd B q) (hw : q.1.w = "delay") : ∃ (v : PyData) (s : Nat) (ps : List Nat), q = (⟨"delay", q.1.k, q.1.cl, [v, .int (s : Int), .tuple (nums ps)]⟩, ps, some s) ∧ ∀ j, j < B → Gd B (⟨"delay", q.1.k, q.1.cl, [v, .int (j : Int), .tuple (nums ps)]⟩, ps, some j) := by
  obtain ⟨⟨w, k, cl, rest⟩, ps, src⟩ := q
  have hw : w = "delay" := hw
  subst hw
  rcases h.ok with ⟨z, _⟩ | ⟨z, _⟩ | ⟨z, _⟩ | ⟨z, _⟩ | ⟨_, v, s, er, es⟩ | ⟨z, _⟩
  · rcases z with z | z | z <;> exact absurd z (by show ¬ ("delay" : Str) = _; decide +kernel)
  · exact absurd z (by show ¬ ("delay" : Str) = _; decide +kernel)
  · exact absurd z (by show ¬ ("delay" : Str) = _; decide +kernel)
  · exact absurd z (by show ¬ ("delay" : Str) = _; decide +kernel)
  · have er : rest = [v, .int (s : Int), .tuple (nums ps)] := er
    have es : src = some s := es
    subst er es
    refine ⟨v, s, ps, rfl, fun j hj => ⟨.inr (.inr (.inr (.inr (.inl ⟨rfl, v, j, rfl, rfl⟩)))), h.cl, h.few, h.need, fun u hu => by cases hu; exact hj, h.k, ?_, .lit "delay" rfl (by decide +kernel) (dpD (h.ar.2.2 v List.mem_cons_self) _ _)⟩⟩
    have pl : (PyData.strOk "delay" && (plainD k && (plainAll (cl.map pairD) && (plainD v && (true && (plainAll (nums ps) && true)))))) = true := h.pl
    show (PyData.strOk "delay" && (plainD k && (plainAll (cl.map pairD) && (plainD v && (true && (plainAll (nums ps) && true)))))) = true
    exact pl
  · exact absurd z (by show ¬ ("delay" : Str) ∈ opWords; decide +kernel)
theorem AllG.set {B : Nat} {N : List NQ} (h : AllG B N) {n : Nat} {q : NQ} (g : Gd B q) : AllG B (N.set n q) := fun x hx => (List.mem_or_eq_of_mem_set hx).elim (h x) fun e => by rw [e]; exact g
theorem nodesD_set (N : List NQ) (n : Nat) (q : NQ) : (nodesD N).set n q.1.d = nodesD (N.set n q) := (List.map_set).symm
section
variable {P : Program} {w : World} {K : PySem.W.Frag} {mg : Str → Option Value} {base : Heap}
theorem okp_base (T : Tx K mg w base) : FnOk P w K mg base CX0 12 T.f_base T.fd_base ["_law_d", "_law_inputs", "_law_many", "_law_most", "_law_pool_here"] (spP K T.tbs 5 R_base) := by
  refine okP T.F_base sc_base rfl fun cdv A outer s H E G hG hcd hr => ⟨_, (pss_consP (ps_setP (ps_set (i := 5) sc_base.nd rfl (Or.inr rfl) (pe_lstP pa_nilP)))
      (pss_consP (ps_forP (ps_for PassesOwn.never rfl (pi_range1P (pi_range1 (by rfl) T.z_range (pa_consP (pe_opP op_addP li_add (pe_cP (d := .int 1) pe_int) (pe_callP hG (pe_call (okp_draw T) (hr.mono (by decide)) rfl T.m_draw T.F_draw.kp T.b_draw .nil pass0 (pa_consP (pe_borP (pv 0)) (pa_consP (pe_cP (d := .int 3) pe_int) pa_nilP))))) pa_nilP))) (pg_nameP (pg_name (i := 6) sc_base.nd rfl (Or.inl rfl)))
      (pss_consP (ps_setP (ps_set (i := 7) sc_base.nd rfl (Or.inl rfl) (pe_callP hG (pe_call (okp_plain_kind T) (hr.mono (by decide)) rfl T.m_plain_kind T.F_plain_kind.kp T.b_plain_kind .nil pass0 (pa_consP (pe_borP (pv 0)) (pa_consP (pe_borP (pv 3)) (pa_consP (pe_borP (pv 4)) pa_nilP)))))))
      (pss_cutP (ps_ifP (pt_cmpP (op_eqP hr.units) li_eq (pe_callP hG (pe_call (okp_draw T) (hr.mono (by decide)) rfl T.m_draw T.F_draw.kp T.b_draw .nil pass0 (pa_consP (pe_borP (pv 0)) (pa_consP (pe_cP (d := .int 6) pe_int) pa_nilP)))) (pe_cP (d := .int 3) pe_int) (nomark _)) (pss_oneP (ps_setP (ps_set (i := 7) sc_base.nd rfl (Or.inl rfl) (pe_tupP (pa_consP (pe_cP (d := .str "row") pe_str) (pa_consP (pe_varP (pv 7)) (pa_consP (pe_frzP (pe_opP op_addP li_add (pe_cP (d := .int 1) pe_int) (pe_callP hG (pe_call (okp_draw T) (hr.mono (by decide)) rfl T.m_draw T.F_draw.kp T.b_draw .nil pass0 (pa_consP (pe_borP (pv 0)) (pa_consP (pe_cP (d := .int 2) pe_int) pa_nilP)))))) pa_nilP))))))) pss_nilP)
      (pss_consP (ps_dropP (pe_methP lm_app (pe_bm PySem.F.plainAttrs_list PySem.F.slot_list_append PySem.F.type_list_append mt_append (pe_borP (pv 1)) (pa_consP (pe_tupP (pa_consP (pe_frzP (pe_callP hG (pe_call (okp_pop T) (hr.mono (by decide)) rfl T.m_pop T.F_pop.kp T.b_pop .nil pass0 (pa_consP (pe_borP (pv 0)) (pa_consP (pe_borP (pv 4)) pa_nilP))))) (pa_consP (pe_varP (pv 7)) (pa_consP (pe_ixP (pe_lstP (pa_consP (pe_cP (d := .int 0) pe_int) (pa_consP (pe_cP (d := .int 0) pe_int) (pa_consP (pe_cP (d := .int 1) pe_int) (pa_consP (pe_cP (d := .int 2) pe_int) pa_nilP))))) (pe_callP hG (pe_call (okp_draw T) (hr.mono (by decide)) rfl T.m_draw T.F_draw.kp T.b_draw .nil pass0 (pa_consP (pe_borP (pv 0)) (pa_consP (pe_cP (d := .int 4) pe_int) pa_nilP)))) (fun _ _ => rfl) li_ix) pa_nilP)))) pa_nilP))))
      (pss_oneP (ps_dropP (pe_callP hG (pe_call (okp_input_node T) (hr.mono (by decide)) rfl T.m_input_node T.F_input_node.kp T.b_input_node .nil pass0 (pa_consP (pe_borP (pv 1)) (pa_consP (pe_borP (pv 5)) (pa_consP (pe_borP (pv 6)) (pa_consP (pe_tupP pa_nilP) pa_nilP)))))))))))))
      (pss_cutP (ps_forP (ps_for PassesOwn.never rfl (pi_range1P (pi_range1 (by rfl) T.z_range (pa_consP (pe_borP (pv 2)) pa_nilP))) (pg_nameP (pg_name (i := 8) sc_base.nd rfl (Or.inl rfl)))
      (pss_oneP (ps_ifP (pt_cmpP op_lt li_lt (pe_cbP lc_len (pe_callB call_lenP (by rfl) T.z_len (by decide +kernel) (pa_consP (pe_borP (pv 5)) pa_nilP))) (pe_borP (pv 2)) (nomark _)) (pss_oneP (ps_dropP (pe_callP hG (pe_call (okp_more_nodes T) (hr.mono (by decide)) rfl T.m_more_nodes T.F_more_nodes.kp T.b_more_nodes .nil pass0 (pa_consP (pe_borP (pv 0)) (pa_consP (pe_borP (pv 1)) (pa_consP (pe_borP (pv 5)) pa_nilP))))))) pss_nilP))))
      (pss_consP (ps_forP (ps_for PassesOwn.never rfl (pi_range1P (pi_range1 (by rfl) T.z_range (pa_consP (pe_cbP lc_len (pe_callB call_lenP (by rfl) T.z_len (by decide +kernel) (pa_consP (pe_borP (pv 5)) pa_nilP))) pa_nilP))) (pg_nameP (pg_name (i := 9) sc_base.nd rfl (Or.inl rfl)))
      (pss_consP (ps_setP (ps_set (i := 10) sc_base.nd rfl (Or.inr rfl) (pe_ixP (pe_borP (pv 5)) (pe_borP (pv 9)) (fun _ _ => rfl) li_ix)))
      (pss_oneP (ps_ifP (pt_cmpP (op_eqP hr.units) li_eq (pe_ixP (pe_borP (pv 10)) (pe_cP (d := .int 0) pe_int) (fun _ _ => rfl) li_ix) (pe_cP (d := .str "delay") pe_str) (nomark _)) (pss_cutP (ps_setLcP (i := 11) (vs := [12]) (ps_setLc (i := 11) (own := [("_law_m", 12)]) rfl sc_base.nd rfl rfl (sw_true rfl rfl rfl (by decide +kernel)) (pi_range1P (pi_range1 (by rfl) T.z_range (pa_consP (pe_cbP lc_len (pe_callB call_lenP (by rfl) T.z_len (by decide +kernel) (pa_consP (pe_borP (pv 5)) pa_nilP))) pa_nilP))) (blkOk_by (N := ["_law_d", "_law_inputs", "_law_many", "_law_most", "_law_pool_here", "_law_nodes", "_law_at", "_law_kind", "_law_step", "_law_n", "_law_node", "_law_there", "_law_m"]) (sc := defScope s_base) (by decide +kernel)) (fun _ _ _ _ _ => (pg_compP (vs := [12]) (pg_name (i := 12) sc_base.nd rfl (Or.inl rfl)))) (fun _ _ _ _ _ => (pts_one (PW.pt (pw_andP (pt_cmpP (op_eqP hr.units) li_eq (pe_ixP (pe_ixP (pe_borP (pv 5)) (pe_borP (pv 12)) (fun _ _ => rfl) li_ix) (pe_cP (d := .int 1) pe_int) (fun _ _ => rfl) li_ix) (pe_ixP (pe_borP (pv 10)) (pe_cP (d := .int 1) pe_int) (fun _ _ => rfl) li_ix) (nomark _)) (pw_and1P (pt_cmpP (op_eqP hr.units) li_eq (pe_ixP (pe_ixP (pe_borP (pv 5)) (pe_borP (pv 12)) (fun _ _ => rfl) li_ix) (pe_cP (d := .int 2) pe_int) (fun _ _ => rfl) li_ix) (pe_ixP (pe_borP (pv 10)) (pe_cP (d := .int 2) pe_int) (fun _ _ => rfl) li_ix) (nomark _))))))) (fun _ _ _ _ _ => (pe_varP (pv 12)))))
      (pss_oneP (ps_setIxP (ps_asg (pe_frzP (pe_opP op_addP li_add (pe_sliceP (pe_borP (pv 10)) po_noneP (po_someP (pe_cP (d := .int 4) pe_int))) (pe_tupP (pa_consP (pe_ixP (pe_borP (pv 11)) (pe_opP op_sub li_sub (pe_negP (pe_cP (d := .int 1) pe_int)) (pe_callP hG (pe_call (okp_draw T) (hr.mono (by decide)) rfl T.m_draw T.F_draw.kp T.b_draw .nil pass0 (pa_consP (pe_borP (pv 0)) (pa_consP (pe_cbP lc_min (pe_callB (call_minP rfl) (by rfl) T.z_min (by decide +kernel) (pa_consP (pe_cbP lc_len (pe_callB call_lenP (by rfl) T.z_len (by decide +kernel) (pa_consP (pe_borP (pv 11)) pa_nilP))) (pa_consP (pe_cP (d := .int 6) pe_int) pa_nilP)))) pa_nilP))))) (fun _ _ => rfl) li_ix) (pa_consP (pe_ixP (pe_borP (pv 10)) (pe_cP (d := .int 5) pe_int) (fun _ _ => rfl) li_ix) pa_nilP))))) (pg_sub (pe_borP (pv 5)) (pe_borP (pv 9)) set_list))))) pss_nilP)))))
      (pss_oneP (ps_retMvP (pv 5))))))), fun as C hl h => ?_⟩
  obtain ⟨many, most, ns, rfl, mm1, m60, m2, m100, n40, n200, nok, q⟩ := h
  refine ⟨szr, _, rfl, by decide, by decide, fun r r0 r1 => ⟨by omega, by omega, ?_⟩⟩
  refine ⟨fun i env => i ≤ 3 ∧ ∃ (ins : List PyData) (N : List NQ) (ns1 : List Str) (c6 c7 : Cel), (∀ d ∈ ins, InP d) ∧ ins.length = i ∧ NOk N ∧ PlN N ∧ i ≤ N.length ∧ N.length ≤ 2 * i ∧ ns.length ≤ ns1.length + 4 * i ∧ ns1.length ≤ ns.length ∧ (∀ n ∈ ns1, PyData.strOk n = true) ∧ env = [.drw, .arg ins, .dat (.int many), .dat (.int most), .arg (ns1.map PyData.str), .own (nodesD N), c6, c7, .no, .no, .no, .no, .no], ⟨by omega, [], [], ns, .no, .no, (fun d h => by cases h), rfl, (fun j q e => by simp at e), (fun q h => by cases h), Nat.le_refl _, Nat.le_refl _, by omega, by omega, nok, rfl⟩, ?_, ?_⟩
  · rintro i x env hx ⟨i3, ins, N, ns1, c6, c7, hin, li, no, pl, l1, l2, s1, s2, nok1, rfl⟩
    have hi := (List.getElem?_eq_some_iff.mp hx).1
    unfold rangeP at hi hx
    rw [List.length_map, List.length_range] at hi
    rw [List.getElem?_map, List.getElem?_range hi] at hx
    cases hx
    refine ⟨most, ns1, rfl, m2, m100, by omega, by omega, nok1, fun kd ns2 gp nok2 s3 s4 => ?_⟩
    refine ⟨fun env => ∃ kd : PyData, GK kd ∧ env = [.drw, .arg ins, .dat (.int many), .dat (.int most), .arg (ns2.map PyData.str), .own (nodesD N), .dat (.int (0 + (i : Int))), .dat kd, .no, .no, .no, .no, .no], ?_, ?_⟩
    · refine ⟨_, rfl, by decide, by decide, fun z z0 z1 => IfP.both (fun h1 => ?_) fun h1 => ⟨kd, ⟨.inl gp.1, gp.2⟩, rfl⟩⟩
      refine ⟨_, rfl, by decide, by decide, fun y y0 y1 => ⟨szr, _, row_gk (n := (1 + y).toNat) gp.1 ⟨.inl gp.1, gp.2⟩ (by omega), ?_⟩⟩
      rw [show (((1 + y).toNat : Nat) : Int) = 1 + y by omega]
      rfl
    rintro env ⟨kd2, gk, rfl⟩
    refine ⟨ns2.map PyData.str, rfl, (fun z => by have := congrArg List.length z; rw [List.length_map] at this; simp at this; subst this; simp at s3; omega), by rw [List.length_map]; omega, fun k d hd => ?_⟩
    obtain ⟨nm, rfl, mn⟩ := str_of hd
    have hk : k < ns2.length := by
      have := (List.getElem?_eq_some_iff.mp hd).1
      rw [List.length_map] at this
      exact this
    rw [erase_strs]
    refine ⟨szr, _, rfl, by decide, by decide, fun y y0 y1 => ?_⟩
    obtain ⟨e, e1, e2⟩ := few4 y0 y1
    refine ⟨_, e1, szr, szl (by omega), ?_⟩
    have hin2 : ∀ d ∈ ins ++ [PyData.tuple [.str nm, kd2, .int (e : Int)]], InP d := fun d hd => by
      rcases List.mem_append.mp hd with hd | hd
      · exact hin d hd
      · rw [List.mem_singleton.mp hd]
        exact ⟨nm, kd2, _, rfl, gk, nok2 nm mn⟩
    have li2 : (ins ++ [PyData.tuple [.str nm, kd2, .int (e : Int)]]).length = i + 1 := by rw [List.length_append, li]; rfl
    have le : (ns2.eraseIdx k).length + 1 = ns2.length := by rw [List.length_eraseIdx, if_pos hk]; omega
    refine ⟨szr, _, N, i, [], by rw [show (0 + (i : Int)) = (i : Int) by omega]; rfl, no, pl, by omega, fun d hd => (hin2 d hd).d, by omega, ⟨Nat.zero_le _, fun p hp => by cases hp⟩, fun N' no' pl' a1 a2 => ?_⟩
    exact ⟨by omega, _, N', ns2.eraseIdx k, _, _, hin2, li2, no', pl', by omega, by omega, by omega, by omega, fun s hs => nok2 s (List.mem_of_mem_eraseIdx hs), rfl⟩
  rintro env ⟨i3, ins, N, ns1, c6, c7, hin, li, no, pl, l1, l2, s1, s2, nok1, rfl⟩
  have lr : (rangeP 0 (1 + r)).length = (1 + r).toNat := by
    unfold rangeP
    rw [List.length_map, List.length_range]
    omega
  rw [lr] at i3 li l1 l2 s1
  refine ⟨fun env => ∃ (N2 : List NQ) (c8 : Cel), AllG N2.length N2 ∧ 1 ≤ N2.length ∧ N2.length ≤ 80 ∧ ((N2.length : Int) ≤ many + 17 ∨ N2.length ≤ 6) ∧ env = [.drw, .arg ins, .dat (.int many), .dat (.int most), .arg (ns1.map PyData.str), .own (nodesD N2), c6, c7, c8, .no, .no, .no, .no], ⟨by omega, by omega, ?_⟩, ?_⟩
  · refine ⟨fun i env => ∃ (N2 : List NQ) (c8 : Cel), NOk N2 ∧ PlN N2 ∧ 1 ≤ N2.length ∧ ((N2.length : Int) ≤ many + 17 ∨ N2.length ≤ 6) ∧ env = [.drw, .arg ins, .dat (.int many), .dat (.int most), .arg (ns1.map PyData.str), .own (nodesD N2), c6, c7, c8, .no, .no, .no, .no], ⟨N, .no, no, pl, by omega, by omega, rfl⟩, ?_, ?_⟩
    · rintro i x env hx ⟨N2, c8, no2, pl2, n1, nb, rfl⟩
      have lD := nodesD_len N2
      refine IfP.both (fun h1 => ?_) fun h1 => ⟨N2, _, no2, pl2, n1, nb, rfl⟩
      have h1 : (((nodesD N2).length : Nat) : Int) < many := of_decide_eq_true h1
      rw [lD] at h1
      exact ⟨ins, N2, rfl, no2, pl2, n1, by omega, (fun d hd => (hin d hd).d), by omega, by omega, fun N' no' pl' a1 a2 => ⟨N', _, no', pl', by omega, .inl (by omega), rfl⟩⟩
    · rintro env ⟨N2, c8, no2, pl2, n1, nb, rfl⟩
      exact ⟨N2, c8, no2.all pl2, n1, by omega, nb, rfl⟩
  rintro env ⟨N2, c8, al, n1, n80, nb, rfl⟩
  have lD := nodesD_len N2
  refine ⟨by omega, by omega, ?_⟩
  rw [lD, rangeN]
  refine ⟨fun i env => ∃ (N3 : List NQ) (c9 c10 c11 : Cel), N3.length = N2.length ∧ AllG N3.length N3 ∧ env = [.drw, .arg ins, .dat (.int many), .dat (.int most), .arg (ns1.map PyData.str), .own (nodesD N3), c6, c7, c8, c9, c10, c11, .no], ⟨N2, .no, .no, .no, rfl, al, rfl⟩, ?_, ?_⟩
  · clear al
    rintro i x env hx ⟨N3, c9, c10, c11, l3, al, rfl⟩
    obtain ⟨n, hn, rfl⟩ := nums_at' hx
    have hi := (List.getElem?_eq_some_iff.mp hn).1
    rw [List.length_range] at hi
    rw [List.getElem?_range hi] at hn
    cases hn
    have hq := List.getElem?_eq_getElem (l := N3) (show i < N3.length by omega)
    generalize N3[i] = q0 at hq
    have g0 := al _ (List.mem_of_getElem? hq)
    refine ⟨_, atD i (nodesD_at hq), _, atD 0 rfl, IfP.both (fun h1 => ?_) fun h1 => ⟨N3, _, _, _, l3, al, rfl⟩⟩
    have hw : q0.1.w = "delay" := of_decide_eq_true h1
    obtain ⟨v, s, ps, eq0, mk⟩ := g0.delay hw
    obtain ⟨⟨w0, kd, cl, rest⟩, ps0, src0⟩ := q0
    cases eq0
    have gk : GK kd := g0.k
    obtain ⟨s0, t0, ek⟩ := gk.head
    have lD3 := nodesD_len N3
    refine ⟨fun env => ∃ th : List Nat, th ≠ [] ∧ th.length ≤ N3.length ∧ (∀ u ∈ th, u < N3.length) ∧ env = [.drw, .arg ins, .dat (.int many), .dat (.int most), .arg (ns1.map PyData.str), .own (nodesD N3), c6, c7, c8, .dat (.int (i : Int)), .dat (Nd.d ⟨"delay", kd, cl, [v, .int (s : Int), .tuple (nums ps)]⟩), .own (nums th), .no], ?_, ?_⟩
    · refine ⟨by omega, by omega, ?_⟩
      rw [lD3, rangeN]
      refine lc_numsP (atN N3 (sameKC kd (clD cl))) (szl (by rw [List.length_range]; omega)) (fun j b hb Q k1 k2 => ?_) ⟨_, (fun z => ?_), Nat.le_trans (List.length_filter_le _ _) (by rw [List.length_range]; exact Nat.le_refl _), (fun u hu => ?_), rfl⟩
      · have hi2 := (List.getElem?_eq_some_iff.mp hb).1
        rw [List.length_range] at hi2
        rw [List.getElem?_range hi2] at hb
        cases hb
        have hj := List.getElem?_eq_getElem hi2
        generalize N3[j] = r at hj
        rw [atN_some hj] at k1 k2
        have g := (al _ (List.mem_of_getElem? hj)).k
        obtain ⟨⟨w1, kr, clr, rest1⟩, ps1, src1⟩ := r
        obtain ⟨s1', t1, er⟩ := g.head
        have er : kr = .tuple (.str s1' :: t1) := er
        subst er
        subst ek
        refine ⟨_, atD j (nodesD_at hj), _, atD 1 rfl, _, atD 1 rfl, g.shaped, gk.shaped, IfP.both (fun h1 => ?_) fun h1 => .f rfl (k2 ?_)⟩
        · refine ⟨_, atD j (nodesD_at hj), _, atD 2 rfl, _, atD 2 rfl, clD_shaped _, clD_shaped _, IfP.both (fun h2 => k1 ?_) fun h2 => k2 ?_⟩
          · have h2 : PyData.eqv (clD clr) (clD cl) = true := h2
            show (PyData.eqv _ _ && PyData.eqv (clD clr) (clD cl)) = true
            rw [h1, h2]
            rfl
          · have h2 : PyData.eqv (clD clr) (clD cl) = false := h2
            show (PyData.eqv _ _ && PyData.eqv (clD clr) (clD cl)) = false
            rw [h1, h2]
            rfl
        · show (PyData.eqv _ _ && PyData.eqv _ _) = false
          rw [h1]
          rfl
      · have : i ∈ (List.range N3.length).filter (atN N3 (sameKC kd (clD cl))) := by
          refine List.mem_filter.mpr ⟨List.mem_range.mpr (by omega), ?_⟩
          rw [atN_some hq]
          show (PyData.eqv kd kd && PyData.eqv (clD cl) (clD cl)) = true
          rw [(eqv_iff gk.2 gk.2).mpr rfl, (eqv_iff (clD_plain _) (clD_plain _)).mpr rfl]
          rfl
        rw [z] at this
        cases this
      · exact List.mem_range.mp (List.mem_filter.mp hu).1
    rintro env ⟨th, t0', lt, mt, rfl⟩
    have llt := nums_len th
    have pos : 0 < th.length := List.length_pos_iff.mpr t0'
    refine ⟨_, rfl, ?_, ?_, fun r2 a2 b2 => ?_⟩
    · split <;> omega
    · split <;> omega
    have b3 : r2 < ((nums th).length : Int) := by split at b2 <;> omega
    obtain ⟨k, hk, ak⟩ := atI_back (xs := nums th) a2 b3
    have hj := List.getElem?_eq_getElem (l := th) (show k < th.length by omega)
    generalize th[k] = j at hj
    have hjl := mt j (List.mem_of_getElem? hj)
    have fin := mk j hjl
    refine ⟨_, ak _ (nums_at hj), _, atD 5 rfl, szr, ?_⟩
    have ec : cutP [.str "delay", kd, clD cl, v, .int (s : Int), .tuple (nums ps)] none (some 4) = [.str "delay", kd, clD cl, v] := rfl
    show (cutP [.str "delay", kd, clD cl, v, .int (s : Int), .tuple (nums ps)] none (some 4)).length + 2 ≤ _ ∧ _
    rw [ec]
    refine ⟨szr, i, ixN_nat (by omega), N3.set i (⟨"delay", kd, cl, [v, .int (j : Int), .tuple (nums ps)]⟩, ps, some j), .dat (.int (i : Int)), .dat (Nd.d ⟨"delay", kd, cl, [v, .int (s : Int), .tuple (nums ps)]⟩), .own (nums th), by rw [List.length_set]; exact l3, ?_, ?_⟩
    · rw [List.length_set]
      exact AllG.set al fin
    · show List.set _ 5 (Cel.own ((nodesD N3).set i (.tuple (cutP [.str "delay", kd, clD cl, v, .int (s : Int), .tuple (nums ps)] none (some 4) ++ [.int (j : Int), .tuple (nums ps)])))) = _
      rw [ec, ← nodesD_set]
      rfl
  · rintro env ⟨N3, c9, c10, c11, l3, al, rfl⟩
    exact q ins N3 ns1 hin (by omega) (by omega) al (by omega) (by omega) (by omega) (by omega) s2 nok1
end

/-! ### a node, numbered anew: what comes out -/
theorem ascUniq : ∀ (a b : List Nat), a.Pairwise (· < ·) → b.Pairwise (· < ·) → (∀ v, v ∈ a ↔ v ∈ b) → a = b
  | [], [], _, _, _ => rfl
  | [], b :: bs, _, _, h => absurd ((h b).mpr List.mem_cons_self) (fun z => nomatch z)
  | a :: as, [], _, _, h => absurd ((h a).mp List.mem_cons_self) (fun z => nomatch z)
  | a :: as, b :: bs, ha, hb, h => by
    have a1 := List.pairwise_cons.mp ha
    have b1 := List.pairwise_cons.mp hb
    have e : a = b := by
      rcases List.mem_cons.mp ((h a).mp List.mem_cons_self) with e | m
      · exact e
      rcases List.mem_cons.mp ((h b).mpr List.mem_cons_self) with e | m'
      · exact e.symm
      have x1 : b < a := b1.1 a m
      have x2 : a < b := a1.1 b m'
      omega
    subst e
    rw [ascUniq as bs a1.2 b1.2 fun v => ⟨fun hv => ?_, fun hv => ?_⟩]
    · rcases List.mem_cons.mp ((h v).mp (List.mem_cons_of_mem _ hv)) with e | m
      · have := a1.1 v hv
        omega
      · exact m
    · rcases List.mem_cons.mp ((h v).mpr (List.mem_cons_of_mem _ hv)) with e | m
      · have := b1.1 v hv
        omega
      · exact m
theorem le_sum : ∀ (xs : List Nat) (v : Nat), v ∈ xs → v ≤ xs.sum
  | x :: xs, v, h => by
    rw [List.sum_cons]
    rcases List.mem_cons.mp h with rfl | h
    · omega
    · have := le_sum xs v h
      omega
/-- the members in their order, each once -/
def rsort (xs : List Nat) : List Nat := (List.range (xs.sum + 1)).filter fun v => decide (v ∈ xs)
theorem rsort_asc (xs : List Nat) : (rsort xs).Pairwise (· < ·) := List.Pairwise.filter _ List.pairwise_lt_range
theorem mem_rsort {xs : List Nat} {v : Nat} : v ∈ rsort xs ↔ v ∈ xs := by
  unfold rsort
  rw [List.mem_filter, List.mem_range, decide_eq_true_iff]
  exact ⟨fun h => h.2, fun h => ⟨by have := le_sum xs v h; omega, h⟩⟩
theorem rsort_eq {xs out : List Nat} (h : out.Pairwise (· < ·)) (m : ∀ v, v ∈ out ↔ v ∈ xs) : out = rsort xs := ascUniq _ _ h (rsort_asc xs) fun v => (m v).trans mem_rsort.symm
theorem asc_cov : ∀ (out xs : List Nat), out.Pairwise (· < ·) → (∀ v ∈ out, v ∈ xs) → out.length ≤ xs.length
  | [], xs, _, _ => Nat.zero_le _
  | a :: out, xs, h, m => by
    have h1 := List.pairwise_cons.mp h
    have ha := m a List.mem_cons_self
    have := asc_cov out (xs.erase a) h1.2 fun v hv => (List.mem_erase_of_ne (by have := h1.1 v hv; omega)).mpr (m v (List.mem_cons_of_mem _ hv))
    rw [List.length_erase, if_pos (by simpa using ha)] at this
    have l := List.length_pos_of_mem ha
    rw [List.length_cons]
    omega
theorem rsort_len (xs : List Nat) : (rsort xs).length ≤ xs.length := asc_cov _ _ (rsort_asc xs) fun v hv => mem_rsort.mp hv
def nth (sw : List Nat) (u : Nat) : Nat := (sw[u]?).getD 0
theorem nth_at {sw : List Nat} {u : Nat} (h : u < sw.length) : sw[u]? = some (nth sw u) := by
  unfold nth
  rw [List.getElem?_eq_getElem h]
  rfl
def renR (f : Nat → Nat) (n : Nd) (ps : List Nat) (src : Option Nat) : List PyData :=
  if n.w = "merge" then [.int (f (ps.headD 0) : Int), .tuple (nums (ps.tail.map f))]
  else if n.w = "delay" then [n.rest.headD .none, .int (f (src.getD 0) : Int), .tuple (nums (rsort (ps.map f)))]
  else if n.w ∈ (["input", "here", "const", "beat"] : List Str) then n.rest
  else nums (ps.map f)
def ren (f : Nat → Nat) (q : NQ) : NQ := (⟨q.1.w, q.1.k, q.1.cl.map (fun p => (f p.1, p.2)), renR f q.1 q.2.1 q.2.2⟩, (if q.1.w = "delay" then rsort (q.2.1.map f) else q.2.1.map f), q.2.2.map f)
/-- the four ways of a node numbered anew -/
theorem ren_ways {n : Nd} {ps : List Nat} {src : Option Nat} (ok : n.ok ps src) (f : Nat → Nat) :
    (n.w = "merge" ∧ ∃ (c : Nat) (arms : List Nat), n.rest = [.int (c : Int), .tuple (nums arms)] ∧ ps = c :: arms ∧ src = none ∧ renR f n ps src = [.int (f c : Int), .tuple (nums (arms.map f))]) ∨
    (n.w = "delay" ∧ ¬ n.w = "merge" ∧ ∃ (v : PyData) (s : Nat), n.rest = [v, .int (s : Int), .tuple (nums ps)] ∧ src = some s ∧ renR f n ps src = [v, .int (f s : Int), .tuple (nums (rsort (ps.map f)))]) ∨
    (n.w ∈ (["input", "here", "const", "beat"] : List Str) ∧ ¬ n.w = "merge" ∧ ¬ n.w = "delay" ∧ n.rest.length ≤ 2 ∧ ps = [] ∧ src = none ∧ renR f n ps src = n.rest) ∨
    (¬ n.w ∈ (["input", "here", "const", "beat"] : List Str) ∧ (n.w = "when" ∨ n.w ∈ opWords) ∧ ¬ n.w = "merge" ∧ ¬ n.w = "delay" ∧ n.rest = nums ps ∧ src = none ∧ renR f n ps src = nums (ps.map f)) := by
  obtain ⟨w, k, cl, rest⟩ := n
  have low : ∀ x ∈ (["input", "here", "const", "beat"] : List Str), ¬ x = "merge" ∧ ¬ x = "delay" := by decide +kernel
  have opw : ∀ x ∈ (("when" : Str) :: opWords), ¬ x ∈ (["input", "here", "const", "beat"] : List Str) ∧ ¬ x = "merge" ∧ ¬ x = "delay" := by decide +kernel
  have lowR : w ∈ (["input", "here", "const", "beat"] : List Str) → renR f ⟨w, k, cl, rest⟩ ps src = rest := fun h => by
    obtain ⟨n1, n2⟩ := low w h
    show (if w = "merge" then _ else if w = "delay" then _ else if w ∈ (["input", "here", "const", "beat"] : List Str) then rest else _) = _
    rw [if_neg n1, if_neg n2, if_pos h]
  have opR : w ∈ (("when" : Str) :: opWords) → renR f ⟨w, k, cl, rest⟩ ps src = nums (ps.map f) := fun h => by
    obtain ⟨n0, n1, n2⟩ := opw w h
    show (if w = "merge" then _ else if w = "delay" then _ else if w ∈ (["input", "here", "const", "beat"] : List Str) then rest else _) = _
    rw [if_neg n1, if_neg n2, if_neg n0]
  rcases ok with ⟨hw, ⟨x0, hr⟩, rfl, rfl⟩ | ⟨hw, ⟨x0, x1, hr⟩, rfl, rfl⟩ | ⟨hw, z, hr, rfl, rfl⟩ | ⟨hw, ch, arms, hr, rfl, rfl⟩ | ⟨hw, v, z, hr, rfl⟩ | ⟨hw, hr, rfl⟩
  · have hv : w = "input" ∨ w = "here" ∨ w = "const" := hw
    have hr : rest = [x0] := hr
    have m : w ∈ (["input", "here", "const", "beat"] : List Str) := by
      rcases hv with h | h | h <;> rw [h] <;> decide +kernel
    exact .inr (.inr (.inl ⟨m, (low w m).1, (low w m).2, by show rest.length ≤ 2; rw [hr]; exact Nat.le_of_ble_eq_true rfl, rfl, rfl, lowR m⟩))
  · have hv : w = "beat" := hw
    have hr : rest = [.int x0, .int x1] := hr
    have m : w ∈ (["input", "here", "const", "beat"] : List Str) := by rw [hv]; decide +kernel
    exact .inr (.inr (.inl ⟨m, (low w m).1, (low w m).2, by show rest.length ≤ 2; rw [hr]; exact Nat.le_of_ble_eq_true rfl, rfl, rfl, lowR m⟩))
  · have hv : w = "when" := hw
    have m : w ∈ (("when" : Str) :: opWords) := by rw [hv]; exact List.mem_cons_self
    exact .inr (.inr (.inr ⟨(opw w m).1, .inl hv, (opw w m).2.1, (opw w m).2.2, hr, rfl, opR m⟩))
  · have hv : w = "merge" := hw
    refine .inl ⟨hv, ch, arms, hr, rfl, rfl, ?_⟩
    show (if w = "merge" then _ else _) = _
    rw [if_pos hv]
    rfl
  · have hv : w = "delay" := hw
    have n1 : ¬ w = "merge" := by rw [hv]; decide +kernel
    have hr : rest = [v, .int (z : Int), .tuple (nums ps)] := hr
    refine .inr (.inl ⟨hv, n1, v, z, hr, rfl, ?_⟩)
    show (if w = "merge" then _ else if w = "delay" then [rest.headD .none, .int (f z : Int), .tuple (nums (rsort (ps.map f)))] else _) = _
    rw [if_neg n1, if_pos hv, hr]
    rfl
  · have m : w ∈ (("when" : Str) :: opWords) := List.mem_cons_of_mem _ hw
    exact .inr (.inr (.inr ⟨(opw w m).1, .inr hw, (opw w m).2.1, (opw w m).2.2, hr, rfl, opR m⟩))

theorem lcAs {xs ys : List PyData} {e : PEnv} {g : PTg} {t : PTst} {f : PEx} {vs : List Nat} {C : PK} (h : xs = ys) (x : LcOk ys e g t f vs C) : LcOk xs e g t f vs C := h ▸ x
/-! ### the law's and the program's renumbering give the same -/
def R_renumbered : PR := fun as C => ∃ (B : Nat) (q : NQ) (sw : List Nat), as = [.dat q.1.d, .dat (.list (nums sw))] ∧ Gd B q ∧ B ≤ sw.length ∧ sw.length ≤ 100 ∧ C (.dat (ren (nth sw) q).1.d) as
def R_p_renumbered : PR := fun as C => ∃ (B : Nat) (q : NQ) (sw : List Nat), as = [.dat q.1.d, .dat (.tuple (nums sw))] ∧ Gd B q ∧ B ≤ sw.length ∧ sw.length ≤ 100 ∧ C (.dat (ren (nth sw) q).1.d) as
theorem nums_mapE (f : Nat → Nat) (ps : List Nat) : ps.map (fun u => PyData.int (f u : Int)) = nums (ps.map f) := by unfold nums; rw [List.map_map]; rfl
theorem flat_nums (l : List Nat) : ∀ z ∈ nums l, flatD z = true := fun z hz => by
  obtain ⟨n, _, rfl⟩ := List.mem_map.mp hz
  rfl
theorem notNats (v : Nat) (fs : List Nat) : (true ^^ ((nums fs).any fun z => PyData.eqv z (.int (v : Int)))) = decide (¬ v ∈ fs) := by
  have e : ((nums fs).any fun z => PyData.eqv z (.int (v : Int))) = decide (v ∈ fs) := by
    induction fs with
    | nil => rfl
    | cons a l ih =>
      show (PyData.eqv (.int (a : Int)) (.int (v : Int)) || (nums l).any _) = _
      rw [ih]
      have : PyData.eqv (.int (a : Int)) (.int (v : Int)) = decide (v = a) := by
        show ((a : Int) == (v : Int)) = _
        by_cases z : v = a
        · rw [decide_eq_true z, z, beq_self_eq_true]
        · rw [decide_eq_false z]
          exact beq_eq_false_iff_ne.mpr (by omega)
      rw [this]
      by_cases z : v = a <;> by_cases y : v ∈ l <;> simp [z, y]
  rw [e]
  by_cases h : v ∈ fs <;> simp [h]
section
variable {P : Program} {w : World} {K : PySem.W.Frag} {mg : Str → Option Value} {base : Heap}
theorem okp_renumbered (T : Tx K mg w base) : FnOk P w K mg base CX0 1 T.f_renumbered T.fd_renumbered ["_law_node", "_law_swap"] (spP K T.tbs 2 R_renumbered) := by
  refine okP T.F_renumbered sc_renumbered rfl fun cdv A outer s H E G hG hcd hr => ⟨_, (pss_consP (ps_setP (ps_set (i := 2) sc_renumbered.nd rfl (Or.inl rfl) (pe_ixP (pe_borP (pv 0)) (pe_cP (d := .int 0) pe_int) (fun _ _ => rfl) li_ix)))
      (pss_cutP (ps_setP (ps_set (i := 3) sc_renumbered.nd rfl (Or.inl rfl) (pe_cbP lc_tup (pe_callTy (show CallR _ (.type "tuple") (rTupOf K) from call_tup) (by rfl) T.z_tuple (by decide +kernel) (pa_consP (pe_lcP (vs := [6]) (pe_lc (own := [("_law_pair", 6)]) rfl sc_renumbered.nd (pi_itemsP (pe_ixP (pe_borP (pv 0)) (pe_cP (d := .int 2) pe_int) (fun _ _ => rfl) li_ix)) (blkOk_by (N := ["_law_node", "_law_swap", "_law_word", "_law_clock", "_law_resets", "_law_reset", "_law_pair", "_law_arm", "_law_part"]) (sc := defScope s_renumbered) (by decide +kernel)) (fun _ _ _ _ _ => (pg_compP (vs := [6]) (pg_name (i := 6) sc_renumbered.nd rfl (Or.inl rfl)))) (fun _ _ _ _ _ => pts_nilP) (fun _ _ _ _ _ => (pe_tupP (pa_consP (pe_ixP (pe_borP (pv 1)) (pe_ixP (pe_borP (pv 6)) (pe_cP (d := .int 0) pe_int) (fun _ _ => rfl) li_ix) (fun _ _ => rfl) li_ix) (pa_consP (pe_ixP (pe_borP (pv 6)) (pe_cP (d := .int 1) pe_int) (fun _ _ => rfl) li_ix) pa_nilP)))))) pa_nilP)))))
      (pss_consP (ps_ifP (pt_cmpP (op_eqP hr.units) li_eq (pe_borP (pv 2)) (pe_cP (d := .str "merge") pe_str) (nomark _)) (pss_oneP (ps_retP (pe_tupP (pa_consP (pe_varP (pv 2)) (pa_consP (pe_ixP (pe_borP (pv 0)) (pe_cP (d := .int 1) pe_int) (fun _ _ => rfl) li_ix) (pa_consP (pe_varP (pv 3)) (pa_consP (pe_ixP (pe_borP (pv 1)) (pe_ixP (pe_borP (pv 0)) (pe_cP (d := .int 3) pe_int) (fun _ _ => rfl) li_ix) (fun _ _ => rfl) li_ix) (pa_consP (pe_frzP (pe_cbP lc_tup (pe_callTy (show CallR _ (.type "tuple") (rTupOf K) from call_tup) (by rfl) T.z_tuple (by decide +kernel) (pa_consP (pe_lcP (vs := [7]) (pe_lc (own := [("_law_arm", 7)]) rfl sc_renumbered.nd (pi_itemsP (pe_ixP (pe_borP (pv 0)) (pe_cP (d := .int 4) pe_int) (fun _ _ => rfl) li_ix)) (blkOk_by (N := ["_law_node", "_law_swap", "_law_word", "_law_clock", "_law_resets", "_law_reset", "_law_pair", "_law_arm", "_law_part"]) (sc := defScope s_renumbered) (by decide +kernel)) (fun _ _ _ _ _ => (pg_compP (vs := [7]) (pg_name (i := 7) sc_renumbered.nd rfl (Or.inl rfl)))) (fun _ _ _ _ _ => pts_nilP) (fun _ _ _ _ _ => (pe_ixP (pe_borP (pv 1)) (pe_borP (pv 7)) (fun _ _ => rfl) li_ix)))) pa_nilP)))) pa_nilP)))))))) pss_nilP)
      (pss_consP (ps_ifP (pt_cmpP (op_eqP hr.units) li_eq (pe_borP (pv 2)) (pe_cP (d := .str "delay") pe_str) (nomark _)) (pss_consP (ps_setP (ps_set (i := 4) sc_renumbered.nd rfl (Or.inl rfl) (pe_lstP pa_nilP)))
      (pss_consP (ps_forP (ps_for PassesOwn.never rfl (pi_itemsP (pe_cbP lc_sorted (pe_callB cr_sorted (by rfl) T.z_sorted (by decide +kernel) (pa_consP (pe_lcP (vs := [5]) (pe_lc (own := [("_law_reset", 5)]) rfl sc_renumbered.nd (pi_itemsP (pe_ixP (pe_borP (pv 0)) (pe_cP (d := .int 5) pe_int) (fun _ _ => rfl) li_ix)) (blkOk_by (N := ["_law_node", "_law_swap", "_law_word", "_law_clock", "_law_resets", "_law_reset", "_law_pair", "_law_arm", "_law_part"]) (sc := defScope s_renumbered) (by decide +kernel)) (fun _ _ _ _ _ => (pg_compP (vs := [5]) (pg_name (i := 5) sc_renumbered.nd rfl (Or.inl rfl)))) (fun _ _ _ _ _ => pts_nilP) (fun _ _ _ _ _ => (pe_ixP (pe_borP (pv 1)) (pe_borP (pv 5)) (fun _ _ => rfl) li_ix)))) pa_nilP)))) (pg_nameP (pg_name (i := 5) sc_renumbered.nd rfl (Or.inl rfl)))
      (pss_oneP (ps_ifP (pt_cmpP (op_ninP hr.u65) li_in (pe_borP (pv 5)) (pe_borP (pv 4)) (by rfl)) (pss_oneP (ps_dropP (pe_methP lm_app (pe_bm PySem.F.plainAttrs_list PySem.F.slot_list_append PySem.F.type_list_append mt_append (pe_borP (pv 4)) (pa_consP (pe_varP (pv 5)) pa_nilP))))) pss_nilP))))
      (pss_oneP (ps_retP (pe_tupP (pa_consP (pe_varP (pv 2)) (pa_consP (pe_ixP (pe_borP (pv 0)) (pe_cP (d := .int 1) pe_int) (fun _ _ => rfl) li_ix) (pa_consP (pe_varP (pv 3)) (pa_consP (pe_ixP (pe_borP (pv 0)) (pe_cP (d := .int 3) pe_int) (fun _ _ => rfl) li_ix) (pa_consP (pe_ixP (pe_borP (pv 1)) (pe_ixP (pe_borP (pv 0)) (pe_cP (d := .int 4) pe_int) (fun _ _ => rfl) li_ix) (fun _ _ => rfl) li_ix) (pa_consP (pe_frzP (pe_cbP lc_tup (pe_callTy (show CallR _ (.type "tuple") (rTupOf K) from call_tup) (by rfl) T.z_tuple (by decide +kernel) (pa_consP (pe_borP (pv 4)) pa_nilP)))) pa_nilP))))))))))) pss_nilP)
      (pss_consP (ps_ifP (pt_cmpP (op_inP hr.u65) li_in (pe_borP (pv 2)) (pe_tupP (pa_consP (pe_cP (d := .str "input") pe_str) (pa_consP (pe_cP (d := .str "here") pe_str) (pa_consP (pe_cP (d := .str "const") pe_str) (pa_consP (pe_cP (d := .str "beat") pe_str) pa_nilP))))) (by rfl)) (pss_oneP (ps_retP (pe_opP op_addP li_add (pe_tupP (pa_consP (pe_varP (pv 2)) (pa_consP (pe_ixP (pe_borP (pv 0)) (pe_cP (d := .int 1) pe_int) (fun _ _ => rfl) li_ix) (pa_consP (pe_varP (pv 3)) pa_nilP)))) (pe_sliceP (pe_borP (pv 0)) (po_someP (pe_cP (d := .int 3) pe_int)) po_noneP)))) pss_nilP)
      (pss_oneP (ps_retP (pe_opP op_addP li_add (pe_tupP (pa_consP (pe_varP (pv 2)) (pa_consP (pe_ixP (pe_borP (pv 0)) (pe_cP (d := .int 1) pe_int) (fun _ _ => rfl) li_ix) (pa_consP (pe_varP (pv 3)) pa_nilP)))) (pe_cbP lc_tup (pe_callTy (show CallR _ (.type "tuple") (rTupOf K) from call_tup) (by rfl) T.z_tuple (by decide +kernel) (pa_consP (pe_lcP (vs := [8]) (pe_lc (own := [("_law_part", 8)]) rfl sc_renumbered.nd (pi_itemsP (pe_sliceP (pe_borP (pv 0)) (po_someP (pe_cP (d := .int 3) pe_int)) po_noneP)) (blkOk_by (N := ["_law_node", "_law_swap", "_law_word", "_law_clock", "_law_resets", "_law_reset", "_law_pair", "_law_arm", "_law_part"]) (sc := defScope s_renumbered) (by decide +kernel)) (fun _ _ _ _ _ => (pg_compP (vs := [8]) (pg_name (i := 8) sc_renumbered.nd rfl (Or.inl rfl)))) (fun _ _ _ _ _ => pts_nilP) (fun _ _ _ _ _ => (pe_ixP (pe_borP (pv 1)) (pe_borP (pv 8)) (fun _ _ => rfl) li_ix)))) pa_nilP))))))))))), fun as C hl h => ?_⟩
  obtain ⟨B, ⟨⟨nw, nk, cl, rest⟩, ps, src⟩, sw, rfl, gd, lB, lsw, q⟩ := h
  have hcl : cl.length ≤ 4 := gd.cl
  have hps : ps.length ≤ 12 := gd.few
  have mf : ∀ u, u < B → sw[u]? = some (nth sw u) := fun u hu => nth_at (by omega)
  have ncl : ∀ p ∈ cl, p.1 < B := fun p hp => gd.need p.1 (List.mem_append_left _ (List.mem_map_of_mem hp))
  have nps : ∀ v ∈ ps, v < B := fun v hv => gd.need v (List.mem_append_right _ hv)
  have hsrc : ∀ s, src = some s → s < B := gd.src
  have ways := ren_ways (n := ⟨nw, nk, cl, rest⟩) gd.ok (nth sw)
  generalize hf : nth sw = f at mf ways q
  generalize hg : (fun p : Nat × Int => (f p.1, p.2)) = g
  have fin : ∀ r, renR f ⟨nw, nk, cl, rest⟩ ps src = r → C (.dat (Nd.d ⟨nw, nk, cl.map g, r⟩)) [.dat (Nd.d ⟨nw, nk, cl, rest⟩), .dat (.list (nums sw))] := fun r h => by
    subst h
    subst hg
    exact q
  clear q
  have lsn := nums_len sw
  refine ⟨_, atD 0 rfl, ?_⟩
  refine ⟨fun env => env = [.dat (Nd.d ⟨nw, nk, cl, rest⟩), .dat (.list (nums sw)), .dat (.str nw), .dat (clD (cl.map g)), .no, .no, .no, .no, .no], ?_, ?_⟩
  · refine ⟨_, atD 2 rfl, lc_mapP (l := cl) (e := pairD) (fun p => pairD (g p)) (szl (by omega)) (fun j a ha Q k => .t rfl ?_) ?_⟩
    · have la := ncl a (List.mem_of_getElem? ha)
      rw [← hg] at k
      exact ⟨_, atD 0 rfl, _, atD a.1 (nums_at (mf _ la)), _, atD 1 rfl, szr, k⟩
    · have e : cl.map (fun p => pairD (g p)) = (cl.map g).map pairD := by rw [List.map_map]; rfl
      rw [e]
      rfl
  rintro env rfl
  have e3 := cut3 (.str nw) nk (.tuple (cl.map pairD)) rest
  have lcl : (cl.map g).length = cl.length := List.length_map _
  rcases ways with ⟨hw, ch, arms, hr, hp, hs, re⟩ | ⟨hw, n1, v, z, hr, hs, re⟩ | ⟨n3, n1, n2, lr, hp, hs, re⟩ | ⟨n3, hw, n1, n2, hr, hs, re⟩
  · have hw : nw = "merge" := hw
    have hr : rest = [.int (ch : Int), .tuple (nums arms)] := hr
    subst hr hp
    have la : (ch :: arms).length = arms.length + 1 := rfl
    refine .t (eq_w hw) ⟨_, atD 1 rfl, _, atD 3 rfl, _, atD ch (nums_at (mf _ (nps ch List.mem_cons_self))), _, atD 4 rfl, ?_⟩
    refine lc_mapP (l := arms) (e := fun u : Nat => .int (u : Int)) (fun u => .int (f u : Int)) (szl (by omega)) (fun j a ha Q k => .t rfl ⟨_, atD a (nums_at (mf _ (nps a (List.mem_cons_of_mem _ (List.mem_of_getElem? ha))))), k⟩) ?_
    rw [nums_mapE]
    exact ⟨szr, fin _ re⟩
  · have hw : nw = "delay" := hw
    have n1 : ¬ nw = "merge" := n1
    have hr : rest = [v, .int (z : Int), .tuple (nums ps)] := hr
    subst hr
    refine .f (ne_w n1) (.t (eq_w hw) ⟨szr, _, atD 5 rfl, ?_⟩)
    refine lc_mapP (l := ps) (e := fun u : Nat => .int (u : Int)) (fun u => .int (f u : Int)) (szl (by omega)) (fun j a ha Q k => .t rfl ⟨_, atD a (nums_at (mf _ (nps a (List.mem_of_getElem? ha)))), k⟩) ?_
    refine ⟨ps.map (fun u => (f u : Int)), by rw [List.map_map]; rfl, by rw [List.length_map]; omega, fun out perm srt => ?_⟩
    have lo : out.length = ps.length := by rw [perm.length_eq, List.length_map]
    refine ⟨fun i env => ∃ (rs : List Nat) (c5 : Cel), rs.length ≤ i ∧ rs.Pairwise (· < ·) ∧ (∀ v : Nat, v ∈ rs ↔ (v : Int) ∈ out.take i) ∧ env = [.dat (Nd.d ⟨nw, nk, cl, [v, .int (z : Int), .tuple (nums ps)]⟩), .dat (.list (nums sw)), .dat (.str nw), .dat (clD (cl.map g)), .own (nums rs), c5, .no, .no, .no], ⟨[], _, Nat.zero_le _, .nil, (fun v => ⟨(fun h => nomatch h), (fun h => nomatch h)⟩), rfl⟩, ?_, ?_⟩
    · rintro i x env hi ⟨rs, c5, lr, asc, mr, rfl⟩
      rw [List.getElem?_map] at hi
      obtain ⟨m, hm, rfl⟩ := Option.map_eq_some_iff.mp hi
      have hl := (List.getElem?_eq_some_iff.mp hm).1
      obtain ⟨u, hu, rfl⟩ := List.mem_map.mp (perm.mem_iff.mp (List.mem_of_getElem? hm))
      have tk : out.take (i + 1) = out.take i ++ [(f u : Int)] := by
        rw [List.take_add_one, hm]
        rfl
      have bel : ∀ y ∈ out.take i, y ≤ (f u : Int) := fun y hy => by
        obtain ⟨j, hj, e⟩ := List.mem_iff_getElem.mp hy
        rw [List.length_take] at hj
        rw [List.getElem_take] at e
        have := List.pairwise_iff_getElem.mp srt j i (by omega) hl (by omega)
        rw [e] at this
        have e2 := (List.getElem?_eq_some_iff.mp hm).2
        rw [e2] at this
        exact this
      have lrs := nums_len rs
      refine ⟨.inl ⟨rfl, flat_nums rs⟩, IfP.as (notNats (f u) rs) (IfP.both (fun h => ⟨szl (by omega), rs ++ [f u], .dat (.int (f u : Int)), by rw [List.length_append]; show _ + 1 ≤ _; omega, ?_, fun v => ?_, by rw [nums_app]; rfl⟩) fun h => ⟨rs, _, by omega, asc, fun v => ?_, rfl⟩)⟩
      · have h := of_decide_eq_true h
        refine List.pairwise_append.mpr ⟨asc, List.pairwise_singleton _ _, fun a ha b hb => ?_⟩
        rw [List.mem_singleton.mp hb]
        have x1 := bel _ ((mr a).mp ha)
        have x2 : a ≠ f u := fun z => h (z ▸ ha)
        omega
      · rw [tk, List.mem_append, List.mem_append, mr v, List.mem_singleton, List.mem_singleton]
        exact or_congr Iff.rfl (by omega)
      · rw [tk, List.mem_append, ← mr v, List.mem_singleton]
        have h := Decidable.not_not.mp (of_decide_eq_false h)
        exact ⟨fun z => .inl z, fun z => z.elim id fun e => by rw [show v = f u by omega]; exact h⟩
    · rintro env ⟨rs, c5, lr, asc, mr, rfl⟩
      rw [List.length_map, lo] at lr
      rw [List.length_map, List.take_length] at mr
      have e : rs = rsort (ps.map f) := rsort_eq asc fun v => by
        rw [mr v, perm.mem_iff, List.mem_map, List.mem_map]
        exact ⟨fun ⟨a, h, e⟩ => ⟨a, h, by omega⟩, fun ⟨a, h, e⟩ => ⟨a, h, by omega⟩⟩
      subst e
      refine ⟨_, atD 1 rfl, _, atD 3 rfl, _, atD 4 rfl, _, atD z (nums_at (mf _ (hsrc z hs))), szr, fin _ re⟩
  · have n3 : nw ∈ (["input", "here", "const", "beat"] : List Str) := n3
    have lr : rest.length ≤ 2 := lr
    refine .f (ne_w n1) (.f (ne_w n2) ⟨szr, .inl ⟨rfl, flat_strs ["input", "here", "const", "beat"]⟩, IfP.as (inS nw ["input", "here", "const", "beat"]) (.t (decide_eq_true n3) ⟨_, atD 1 rfl, szr, ?_, ?_⟩)⟩)
    · rw [e3]
      exact szle (by show 3 + _ ≤ _; omega)
    · have fin2 : C (.dat (.tuple (.str nw :: nk :: clD (cl.map g) :: cutP (.str nw :: nk :: .tuple (cl.map pairD) :: rest) (some 3) none))) [.dat (Nd.d ⟨nw, nk, cl, rest⟩), .dat (.list (nums sw))] := by
        rw [e3]
        exact fin _ re
      exact fin2
  · have hr : rest = nums ps := hr
    have n3 : ¬ nw ∈ (["input", "here", "const", "beat"] : List Str) := n3
    refine .f (ne_w n1) (.f (ne_w n2) ⟨szr, .inl ⟨rfl, flat_strs ["input", "here", "const", "beat"]⟩, IfP.as (inS nw ["input", "here", "const", "beat"]) (.f (decide_eq_false n3) ⟨_, atD 1 rfl, szr, ?_⟩)⟩)
    refine lcAs (e3.trans hr) (lc_mapP (l := ps) (e := fun u : Nat => .int (u : Int)) (fun u => .int (f u : Int)) (szl (by omega)) (fun j a ha Q k => .t rfl ⟨_, atD a (nums_at (mf _ (nps a (List.mem_of_getElem? ha)))), k⟩) ?_)
    refine ⟨szle (by rw [List.length_map]; show 3 + _ ≤ _; omega), ?_⟩
    rw [nums_mapE]
    exact fin _ re
end

theorem cutH3 (x y z : PyData) (r : List PyData) : cutP (x :: y :: z :: r) none (some 3) = [x, y, z] := by
  unfold cutP
  rw [show (some (3 : Int)) = some (((3 : Nat) : Int)) from rfl, HT.sIx_nat, List.length_cons, List.length_cons, List.length_cons, Nat.min_eq_left (by omega)]
  rfl
section
variable {P : Program} {w : World} {K : PySem.W.Frag} {mg : Str → Option Value} {base : Heap}
theorem okp_p_renumbered (T : Tx K mg w base) : FnOk P w K mg base CX0 1 T.f_p_renumbered T.fd_p_renumbered ["node", "numbers"] (spP K T.tbs 2 R_p_renumbered) := by
  refine okP T.F_p_renumbered sc_p_renumbered rfl fun cdv A outer s H E G hG hcd hr => ⟨_, (pss_consP (ps_asgP (ps_asg (pe_sliceP (pe_borP (pv 0)) po_noneP (po_someP (pe_cP (d := .int 3) pe_int))) (pg_tupP (n := 3) rfl (pgs_consP (pg_nameP (pg_name (i := 2) sc_p_renumbered.nd rfl (Or.inl rfl))) (pgs_consP (pg_nameP (pg_name (i := 3) sc_p_renumbered.nd rfl (Or.inl rfl))) (pgs_consP (pg_nameP (pg_name (i := 4) sc_p_renumbered.nd rfl (Or.inl rfl))) pgs_nilP))))))
      (pss_cutP (ps_setP (ps_set (i := 5) sc_p_renumbered.nd rfl (Or.inl rfl) (pe_tupP (pa_consP (pe_varP (pv 2)) (pa_consP (pe_varP (pv 3)) (pa_consP (pe_frzP (pe_cbP lc_tup (pe_callTy (show CallR _ (.type "tuple") (rTupOf K) from call_tup) (by rfl) T.z_tuple (by decide +kernel) (pa_consP (pe_lcP (vs := [7, 8]) (pe_lc (own := [("each", 7), ("value", 8)]) rfl sc_p_renumbered.nd (pi_itemsP (pe_varP (pv 4))) (blkOk_by (N := ["node", "numbers", "word", "kind", "clock", "start", "resets", "each", "value"]) (sc := defScope s_p_renumbered) (by decide +kernel)) (fun _ _ _ _ _ => (pg_tupP (n := 2) rfl (pgs_consP (pg_compP (vs := [7, 8]) (pg_name (i := 7) sc_p_renumbered.nd rfl (Or.inl rfl))) (pgs_consP (pg_compP (vs := [7, 8]) (pg_name (i := 8) sc_p_renumbered.nd rfl (Or.inl rfl))) pgs_nilP)))) (fun _ _ _ _ _ => pts_nilP) (fun _ _ _ _ _ => (pe_tupP (pa_consP (pe_ixP (pe_borP (pv 1)) (pe_borP (pv 7)) (fun _ _ => rfl) li_ix) (pa_consP (pe_varP (pv 8)) pa_nilP)))))) pa_nilP)))) pa_nilP))))))
      (pss_consP (ps_ifP (pt_inTabP (keys := tab_COUNTS.map (·.1)) (nots := not_COUNTS) (tab_in T.kd_COUNTS) T.no_COUNTS (pt_cmpR (op_in_kd T.kx_COUNTS) (pe_borP (pv 2)) (pe_glob (v := .ref (He.ga K "COUNTS")) rfl T.mg_COUNTS rfl) (by rfl))) (pss_oneP (ps_retP (pe_opP op_addP li_add (pe_borP (pv 5)) (pe_cbP lc_tup (pe_callTy (show CallR _ (.type "tuple") (rTupOf K) from call_tup) (by rfl) T.z_tuple (by decide +kernel) (pa_consP (pe_lcP (vs := [7]) (pe_lc (own := [("each", 7)]) rfl sc_p_renumbered.nd (pi_itemsP (pe_sliceP (pe_borP (pv 0)) (po_someP (pe_cP (d := .int 3) pe_int)) po_noneP)) (blkOk_by (N := ["node", "numbers", "word", "kind", "clock", "start", "resets", "each", "value"]) (sc := defScope s_p_renumbered) (by decide +kernel)) (fun _ _ _ _ _ => (pg_compP (vs := [7]) (pg_name (i := 7) sc_p_renumbered.nd rfl (Or.inl rfl)))) (fun _ _ _ _ _ => pts_nilP) (fun _ _ _ _ _ => (pe_ixP (pe_borP (pv 1)) (pe_borP (pv 7)) (fun _ _ => rfl) li_ix)))) pa_nilP)))))) pss_nilP)
      (pss_consP (ps_ifP (pt_cmpP (op_eqP hr.units) li_eq (pe_borP (pv 2)) (pe_cP (d := .str "when") pe_str) (nomark _)) (pss_oneP (ps_retP (pe_opP op_addP li_add (pe_borP (pv 5)) (pe_tupP (pa_consP (pe_ixP (pe_borP (pv 1)) (pe_ixP (pe_borP (pv 0)) (pe_cP (d := .int 3) pe_int) (fun _ _ => rfl) li_ix) (fun _ _ => rfl) li_ix) pa_nilP))))) pss_nilP)
      (pss_consP (ps_ifP (pt_cmpP (op_eqP hr.units) li_eq (pe_borP (pv 2)) (pe_cP (d := .str "merge") pe_str) (nomark _)) (pss_oneP (ps_retP (pe_opP op_addP li_add (pe_borP (pv 5)) (pe_tupP (pa_consP (pe_ixP (pe_borP (pv 1)) (pe_ixP (pe_borP (pv 0)) (pe_cP (d := .int 3) pe_int) (fun _ _ => rfl) li_ix) (fun _ _ => rfl) li_ix) (pa_consP (pe_frzP (pe_cbP lc_tup (pe_callTy (show CallR _ (.type "tuple") (rTupOf K) from call_tup) (by rfl) T.z_tuple (by decide +kernel) (pa_consP (pe_lcP (vs := [7]) (pe_lc (own := [("each", 7)]) rfl sc_p_renumbered.nd (pi_itemsP (pe_ixP (pe_borP (pv 0)) (pe_cP (d := .int 4) pe_int) (fun _ _ => rfl) li_ix)) (blkOk_by (N := ["node", "numbers", "word", "kind", "clock", "start", "resets", "each", "value"]) (sc := defScope s_p_renumbered) (by decide +kernel)) (fun _ _ _ _ _ => (pg_compP (vs := [7]) (pg_name (i := 7) sc_p_renumbered.nd rfl (Or.inl rfl)))) (fun _ _ _ _ _ => pts_nilP) (fun _ _ _ _ _ => (pe_ixP (pe_borP (pv 1)) (pe_borP (pv 7)) (fun _ _ => rfl) li_ix)))) pa_nilP)))) pa_nilP)))))) pss_nilP)
      (pss_consP (ps_ifP (pt_cmpP (op_eqP hr.units) li_eq (pe_borP (pv 2)) (pe_cP (d := .str "delay") pe_str) (nomark _)) (pss_consP (ps_setP (ps_set (i := 6) sc_p_renumbered.nd rfl (Or.inl rfl) (pe_cbP lc_tup (pe_callTy (show CallR _ (.type "tuple") (rTupOf K) from call_tup) (by rfl) T.z_tuple (by decide +kernel) (pa_consP (pe_sortSetP (pe_callB (show CallR _ (.builtin "sorted") (rSortedSet w) from cr_sortedSet rfl) (by rfl) T.z_sorted (by decide +kernel) (pa_cons (pe_callTy (show CallR _ (.type "set") (rSetAny K w) from cr_setAny rfl) (by rfl) T.z_set (by decide +kernel) (pa_consP (pe_lcP (vs := [7]) (pe_lc (own := [("each", 7)]) rfl sc_p_renumbered.nd (pi_itemsP (pe_ixP (pe_borP (pv 0)) (pe_cP (d := .int 5) pe_int) (fun _ _ => rfl) li_ix)) (blkOk_by (N := ["node", "numbers", "word", "kind", "clock", "start", "resets", "each", "value"]) (sc := defScope s_p_renumbered) (by decide +kernel)) (fun _ _ _ _ _ => (pg_compP (vs := [7]) (pg_name (i := 7) sc_p_renumbered.nd rfl (Or.inl rfl)))) (fun _ _ _ _ _ => pts_nilP) (fun _ _ _ _ _ => (pe_ixP (pe_borP (pv 1)) (pe_borP (pv 7)) (fun _ _ => rfl) li_ix)))) pa_nilP)) pa_nil))) pa_nilP)))))
      (pss_oneP (ps_retP (pe_opP op_addP li_add (pe_borP (pv 5)) (pe_tupP (pa_consP (pe_ixP (pe_borP (pv 0)) (pe_cP (d := .int 3) pe_int) (fun _ _ => rfl) li_ix) (pa_consP (pe_ixP (pe_borP (pv 1)) (pe_ixP (pe_borP (pv 0)) (pe_cP (d := .int 4) pe_int) (fun _ _ => rfl) li_ix) (fun _ _ => rfl) li_ix) (pa_consP (pe_varP (pv 6)) pa_nilP)))))))) pss_nilP)
      (pss_oneP (ps_retP (pe_opP op_addP li_add (pe_borP (pv 5)) (pe_sliceP (pe_borP (pv 0)) (po_someP (pe_cP (d := .int 3) pe_int)) po_noneP)))))))))), fun as C hl h => ?_⟩
  obtain ⟨B, ⟨⟨nw, nk, cl, rest⟩, ps, src⟩, sw, rfl, gd, lB, lsw, q⟩ := h
  have hcl : cl.length ≤ 4 := gd.cl
  have hps : ps.length ≤ 12 := gd.few
  have mf : ∀ u, u < B → sw[u]? = some (nth sw u) := fun u hu => nth_at (by omega)
  have ncl : ∀ p ∈ cl, p.1 < B := fun p hp => gd.need p.1 (List.mem_append_left _ (List.mem_map_of_mem hp))
  have nps : ∀ v ∈ ps, v < B := fun v hv => gd.need v (List.mem_append_right _ hv)
  have hsrc : ∀ s, src = some s → s < B := gd.src
  have ways := ren_ways (n := ⟨nw, nk, cl, rest⟩) gd.ok (nth sw)
  generalize hf : nth sw = f at mf ways q
  generalize hg : (fun p : Nat × Int => (f p.1, p.2)) = g
  have fin : ∀ r, renR f ⟨nw, nk, cl, rest⟩ ps src = r → C (.dat (Nd.d ⟨nw, nk, cl.map g, r⟩)) [.dat (Nd.d ⟨nw, nk, cl, rest⟩), .dat (.tuple (nums sw))] := fun r h => by
    subst h
    subst hg
    exact q
  clear q
  have lsn := nums_len sw
  refine ⟨rfl, fun env => env = [.dat (Nd.d ⟨nw, nk, cl, rest⟩), .dat (.tuple (nums sw)), .dat (.str nw), .dat nk, .dat (clD cl), .dat (.tuple [.str nw, nk, clD (cl.map g)]), .no, .no, .no], ?_, ?_⟩
  · refine lc_mapP (l := cl) (e := pairD) (fun p => pairD (g p)) (szl (by omega)) (fun j a ha Q k => ⟨rfl, .t rfl ?_⟩) ?_
    · have la := ncl a (List.mem_of_getElem? ha)
      rw [← hg] at k
      exact ⟨_, atD a.1 (nums_at (mf _ la)), szr, k⟩
    · have e : cl.map (fun p => pairD (g p)) = (cl.map g).map pairD := by rw [List.map_map]; rfl
      rw [e]
      exact ⟨szr, rfl⟩
  rintro env rfl
  have e3 := cut3 (.str nw) nk (.tuple (cl.map pairD)) rest
  have nt : nw ∈ (["input", "here", "const", "beat", "when", "merge", "delay"] : List Str) → nw ∈ not_COUNTS := id
  rcases ways with ⟨hw, ch, arms, hr, hp, hs, re⟩ | ⟨hw, n1, v, z, hr, hs, re⟩ | ⟨n3, n1, n2, lr, hp, hs, re⟩ | ⟨n3, hw, n1, n2, hr, hs, re⟩
  · have hv : nw = "merge" := hw
    have o : nw ∈ not_COUNTS ∧ ¬ nw = "when" := by rw [hv]; decide +kernel
    clear hw
    have hr : rest = [.int (ch : Int), .tuple (nums arms)] := hr
    subst hr hp
    have la : (ch :: arms).length = arms.length + 1 := rfl
    refine .inr ⟨o.1, .f rfl (.f (ne_w o.2) (.t (eq_w hv) ⟨_, atD 3 rfl, _, atD ch (nums_at (mf _ (nps ch List.mem_cons_self))), _, atD 4 rfl, ?_⟩))⟩
    refine lc_mapP (l := arms) (e := fun u : Nat => .int (u : Int)) (fun u => .int (f u : Int)) (szl (by omega)) (fun j a ha Q k => .t rfl ⟨_, atD a (nums_at (mf _ (nps a (List.mem_cons_of_mem _ (List.mem_of_getElem? ha))))), k⟩) ?_
    rw [nums_mapE]
    exact ⟨szr, szr, fin _ re⟩
  · have hv : nw = "delay" := hw
    have o : nw ∈ not_COUNTS ∧ ¬ nw = "when" := by rw [hv]; decide +kernel
    clear hw
    have n1 : ¬ nw = "merge" := n1
    have hr : rest = [v, .int (z : Int), .tuple (nums ps)] := hr
    subst hr
    refine .inr ⟨o.1, .f rfl (.f (ne_w o.2) (.f (ne_w n1) (.t (eq_w hv) ⟨_, atD 5 rfl, ?_⟩)))⟩
    refine lc_mapP (l := ps) (e := fun u : Nat => .int (u : Int)) (fun u => .int (f u : Int)) (szl (by omega)) (fun j a ha Q k => .t rfl ⟨_, atD a (nums_at (mf _ (nps a (List.mem_of_getElem? ha)))), k⟩) ?_
    refine ⟨ps.map (fun u => (f u : Int)), by rw [List.map_map]; rfl, by rw [List.length_map]; omega, fun hs1 asc mem len => ?_⟩
    have e : hs1.map PyData.int = nums (rsort (ps.map f)) := by
      have nn : ∀ x ∈ hs1, (x.toNat : Int) = x := fun x hx => by
        obtain ⟨u, _, rfl⟩ := List.mem_map.mp ((mem x).mp hx)
        omega
      have e1 : hs1 = (hs1.map Int.toNat).map fun i : Nat => (i : Int) := by
        rw [List.map_map]
        exact ((List.map_congr_left fun x hx => nn x hx).trans (List.map_id hs1)).symm
      have e2 : hs1.map Int.toNat = rsort (ps.map f) := rsort_eq (List.pairwise_map.mpr (List.Pairwise.imp_of_mem (fun {a b} ha hb h => by have := nn a ha; have := nn b hb; omega) asc)) fun u => by
        rw [List.mem_map, List.mem_map]
        refine ⟨fun ⟨x, hx, ex⟩ => ?_, fun ⟨a, ha, ea⟩ => ⟨(u : Int), (mem _).mpr (List.mem_map.mpr ⟨a, ha, by omega⟩), rfl⟩⟩
        obtain ⟨a, ha, ea⟩ := List.mem_map.mp ((mem x).mp hx)
        exact ⟨a, ha, by omega⟩
      rw [e1, e2, ← nums_int]
    rw [e]
    exact ⟨_, atD 3 rfl, _, atD 4 rfl, _, atD z (nums_at (mf _ (hsrc z hs))), szr, szr, fin _ re⟩
  · have n3 : nw ∈ (["input", "here", "const", "beat"] : List Str) := n3
    have lr : rest.length ≤ 2 := lr
    have o3 : nw ∈ not_COUNTS ∧ ¬ nw = "when" := by
      have : ∀ x ∈ (["input", "here", "const", "beat"] : List Str), x ∈ not_COUNTS ∧ ¬ x = "when" := by decide +kernel
      exact this nw n3
    refine .inr ⟨o3.1, .f rfl (.f (ne_w o3.2) (.f (ne_w n1) (.f (ne_w n2) ⟨szle ?_, ?_⟩)))⟩
    · rw [e3]
      show 3 + _ ≤ _
      omega
    · have fin2 : C (.dat (.tuple (.str nw :: nk :: clD (cl.map g) :: cutP (.str nw :: nk :: .tuple (cl.map pairD) :: rest) (some 3) none))) [.dat (Nd.d ⟨nw, nk, cl, rest⟩), .dat (.tuple (nums sw))] := by
        rw [e3]
        exact fin _ re
      exact fin2
  · have hr : rest = nums ps := hr
    have n3 : ¬ nw ∈ (["input", "here", "const", "beat"] : List Str) := n3
    have hv : nw = "when" ∨ nw ∈ opWords := hw
    rcases hv with hv | hv
    · have o : nw ∈ not_COUNTS := by rw [hv]; decide +kernel
      obtain ⟨u, hu⟩ : ∃ u, ps = [u] := by
        rcases gd.ok with ⟨h, _⟩ | ⟨h, _⟩ | ⟨_, u, _, h, _⟩ | ⟨h, _⟩ | ⟨h, _⟩ | ⟨h, _⟩
        · exact absurd (show nw = "input" ∨ nw = "here" ∨ nw = "const" from h) (by rw [hv]; decide +kernel)
        · exact absurd (show nw = "beat" from h) (by rw [hv]; decide +kernel)
        · exact ⟨u, h⟩
        · exact absurd (show nw = "merge" from h) (by rw [hv]; decide +kernel)
        · exact absurd (show nw = "delay" from h) (by rw [hv]; decide +kernel)
        · exact absurd (show nw ∈ opWords from h) (by rw [hv]; decide +kernel)
      subst hu
      subst hr
      refine .inr ⟨o, .f rfl (.t (eq_w hv) ⟨_, atD 3 rfl, _, atD u (nums_at (mf _ (nps u List.mem_cons_self))), szr, szr, fin _ re⟩)⟩
    · refine .inl ⟨by rw [op_tab]; exact hv, .t rfl ?_⟩
      refine lcAs (e3.trans hr) (lc_mapP (l := ps) (e := fun u : Nat => .int (u : Int)) (fun u => .int (f u : Int)) (szl (by omega)) (fun j a ha Q k => .t rfl ⟨_, atD a (nums_at (mf _ (nps a (List.mem_of_getElem? ha)))), k⟩) ?_)
      refine ⟨szle (by rw [List.length_map]; show 3 + _ ≤ _; omega), ?_⟩
      rw [nums_mapE]
      exact fin _ re
end

/-! ### a node numbered anew is a node -/
theorem plain_cl (cl : List (Nat × Int)) : plainAll (cl.map pairD) = true := by
  induction cl with
  | nil => rfl
  | cons a l ih => exact ih
theorem Gd.numb {B B' : Nat} {q : NQ} {f : Nat → Nat} (h : Gd B q) (hf : ∀ u, u < B → f u < B') : Gd B' (ren f q) := by
  obtain ⟨⟨nw, nk, cl, rest⟩, ps, src⟩ := q
  have hcl : cl.length ≤ 4 := h.cl
  have hps : ps.length ≤ 12 := h.few
  have pl : (PyData.strOk nw && (plainD nk && (plainAll (cl.map pairD) && plainAll rest))) = true := h.pl
  rw [plain_cl, Bool.true_and, Bool.and_eq_true, Bool.and_eq_true] at pl
  obtain ⟨p1, p2, p3⟩ := pl
  have mk : ∀ r, plainAll r = true → plainD (Nd.d ⟨nw, nk, cl.map (fun p => (f p.1, p.2)), r⟩) = true := fun r p => by
    show (PyData.strOk nw && (plainD nk && (plainAll ((cl.map (fun p => (f p.1, p.2))).map pairD) && plainAll r))) = true
    rw [plain_cl, p1, p2, p]
    rfl
  have ncl : ∀ v ∈ (cl.map (fun p => (f p.1, p.2))).map (fun p : Nat × Int => p.1), v < B' := fun v hv => by
    obtain ⟨p, hp, rfl⟩ := List.mem_map.mp hv
    obtain ⟨p0, hp0, rfl⟩ := List.mem_map.mp hp
    exact hf _ (h.need p0.1 (List.mem_append_left _ (List.mem_map_of_mem hp0)))
  have nps : ∀ v ∈ ps.map f, v < B' := fun v hv => by
    obtain ⟨u, hu, rfl⟩ := List.mem_map.mp hv
    exact hf _ (h.need u (List.mem_append_right _ hu))
  have lc : (cl.map (fun p : Nat × Int => (f p.1, p.2))).length ≤ 4 := by rw [List.length_map]; exact hcl
  rcases ren_ways h.ok f with ⟨hw, ch, arms, hr, hp, hs, re⟩ | ⟨hw, n1, v, z, hr, hs, re⟩ | ⟨n3, n1, n2, lr, hp, hs, re⟩ | ⟨n3, hw, n1, n2, hr, hs, re⟩
  · have hv : nw = "merge" := hw
    have nd : ¬ nw = "delay" := by rw [hv]; decide +kernel
    have hr : rest = [.int (ch : Int), .tuple (nums arms)] := hr
    have hp : ps = ch :: arms := hp
    have hs : src = none := hs
    subst hr hp hs
    have re : renR f ⟨nw, nk, cl, [.int (ch : Int), .tuple (nums arms)]⟩ (ch :: arms) none = _ := re
    have e : ren f (⟨nw, nk, cl, [.int (ch : Int), .tuple (nums arms)]⟩, ch :: arms, none) = (⟨nw, nk, cl.map (fun p => (f p.1, p.2)), [.int (f ch : Int), .tuple (nums (arms.map f))]⟩, f ch :: arms.map f, none) := by
      unfold ren
      rw [re]
      show (_, (if nw = "delay" then _ else _), _) = _
      rw [if_neg nd]
      rfl
    rw [e]
    refine ⟨.inr (.inr (.inr (.inl ⟨hv, f ch, arms.map f, rfl, rfl, rfl⟩))), lc, by rw [List.length_cons, List.length_map]; exact hps, fun v hv => (List.mem_append.mp hv).elim (ncl v) (nps v), (fun s e => nomatch e), h.k, mk _ ?_, .lit "merge" hv (by decide +kernel)⟩
    show (true && (plainAll (nums (arms.map f)) && true)) = true
    rw [plain_nums]
    rfl
  · have hv : nw = "delay" := hw
    have hr : rest = [v, .int (z : Int), .tuple (nums ps)] := hr
    have hs : src = some z := hs
    have zB := h.src z hs
    subst hr hs
    have re : renR f ⟨nw, nk, cl, [v, .int (z : Int), .tuple (nums ps)]⟩ ps (some z) = _ := re
    have e : ren f (⟨nw, nk, cl, [v, .int (z : Int), .tuple (nums ps)]⟩, ps, some z) = (⟨nw, nk, cl.map (fun p => (f p.1, p.2)), [v, .int (f z : Int), .tuple (nums (rsort (ps.map f)))]⟩, rsort (ps.map f), some (f z)) := by
      unfold ren
      rw [re]
      show (_, (if nw = "delay" then _ else _), _) = _
      rw [if_pos hv]
      rfl
    rw [e]
    refine ⟨.inr (.inr (.inr (.inr (.inl ⟨hv, v, f z, rfl, rfl⟩)))), lc, Nat.le_trans (rsort_len _) (by rw [List.length_map]; exact hps), fun v hv => (List.mem_append.mp hv).elim (ncl v) (fun hv => nps v (mem_rsort.mp hv)), fun s e => by cases e; exact hf _ zB, h.k, mk _ ?_, .lit "delay" hv (by decide +kernel) (dpD (h.ar.2.2 v List.mem_cons_self) _ _)⟩
    have p3 : (plainD v && (true && (plainAll (nums ps) && true))) = true := p3
    rw [plain_nums] at p3
    show (plainD v && (true && (plainAll (nums (rsort (ps.map f))) && true))) = true
    rw [plain_nums]
    exact p3
  · have n1 : ¬ nw = "merge" := n1
    have n2 : ¬ nw = "delay" := n2
    have hp : ps = [] := hp
    have hs : src = none := hs
    have re : renR f ⟨nw, nk, cl, rest⟩ ps src = rest := re
    have e : ren f (⟨nw, nk, cl, rest⟩, ps, src) = (⟨nw, nk, cl.map (fun p => (f p.1, p.2)), rest⟩, [], none) := by
      unfold ren
      rw [re]
      show (_, (if nw = "delay" then _ else _), _) = _
      rw [if_neg n2, hp, hs]
      rfl
    rw [e]
    have lw : ∀ x ∈ (["input", "here", "const", "beat"] : List Str), x ∈ lowW := by decide +kernel
    refine ⟨?_, lc, Nat.zero_le _, fun v hv => (List.mem_append.mp hv).elim (ncl v) (fun hv => nomatch hv), (fun s e => nomatch e), h.k, mk _ p3, .lit nw rfl (lw nw n3) h.ar.2.2⟩
    rcases h.ok with h | h | ⟨_, _, _, h, _⟩ | ⟨_, _, _, _, h, _⟩ | ⟨h, _⟩ | ⟨hw, _⟩
    · exact .inl ⟨h.1, h.2.1, rfl, rfl⟩
    · exact .inr (.inl ⟨h.1, h.2.1, rfl, rfl⟩)
    · exact nomatch (hp.symm.trans h)
    · exact nomatch (hp.symm.trans h)
    · exact absurd h n2
    · have n3 : nw ∈ (["input", "here", "const", "beat"] : List Str) := n3
      have : ∀ x ∈ (["input", "here", "const", "beat"] : List Str), ¬ x ∈ opWords := by decide +kernel
      exact absurd hw (this nw n3)
  · have n1 : ¬ nw = "merge" := n1
    have n2 : ¬ nw = "delay" := n2
    have hs : src = none := hs
    have re : renR f ⟨nw, nk, cl, rest⟩ ps src = nums (ps.map f) := re
    have e : ren f (⟨nw, nk, cl, rest⟩, ps, src) = (⟨nw, nk, cl.map (fun p => (f p.1, p.2)), nums (ps.map f)⟩, ps.map f, none) := by
      unfold ren
      rw [re]
      show (_, (if nw = "delay" then _ else _), _) = _
      rw [if_neg n2, hs]
      rfl
    rw [e]
    refine ⟨?_, lc, by rw [List.length_map]; exact hps, fun v hv => (List.mem_append.mp hv).elim (ncl v) (nps v), (fun s e => nomatch e), h.k, mk _ (plain_nums _), ⟨fun z => by show 2 ≤ (ps.map f).length; rw [List.length_map]; exact h.ar.1 z, fun z => by show 3 ≤ (ps.map f).length; rw [List.length_map]; exact h.ar.2.1 z, dpI _⟩⟩
    have n3 : ¬ nw ∈ (["input", "here", "const", "beat"] : List Str) := n3
    rcases h.ok with ⟨h, _⟩ | ⟨h, _⟩ | ⟨h, u, _, h2, _⟩ | ⟨h, _⟩ | ⟨h, _⟩ | ⟨hw, _⟩
    · have h : nw = "input" ∨ nw = "here" ∨ nw = "const" := h
      exact absurd (by rcases h with h | h | h <;> rw [h] <;> decide +kernel) n3
    · have h : nw = "beat" := h
      exact absurd (by rw [h]; decide +kernel) n3
    · have h2 : ps = [u] := h2
      exact .inr (.inr (.inl ⟨h, f u, by rw [h2]; rfl, by rw [h2]; rfl, rfl⟩))
    · exact absurd h n1
    · exact absurd h n2
    · exact .inr (.inr (.inr (.inr (.inr ⟨hw, rfl, rfl⟩))))

/-! ### what stands for a node in a second copy's clocks -/
def R_mates : PR := fun as C => ∃ N : List NQ, as = [.drw, .dat (.list (nodesD N))] ∧ AllG N.length N ∧ N.length ≤ 100 ∧
  ∀ ms : List Nat, ms.length = N.length → (∀ v ∈ ms, v < 2 * N.length) → C (.own (nums ms)) as
section
variable {P : Program} {w : World} {K : PySem.W.Frag} {mg : Str → Option Value} {base : Heap}
theorem okp_mates (T : Tx K mg w base) : FnOk P w K mg base CX0 3 T.f_mates T.fd_mates ["_law_d", "_law_nodes"] (spP K T.tbs 2 R_mates) := by
  refine okP T.F_mates sc_mates rfl fun cdv A outer s H E G hG hcd hr => ⟨_, (pss_consP (ps_setP (ps_set (i := 2) sc_mates.nd rfl (Or.inr rfl) (pe_lstR1P (pe_listRg rfl (by rfl) T.z_list (prg_1 (by rfl) T.z_range (pe_cbP lc_len (pe_callB call_lenP (by rfl) T.z_len (by decide +kernel) (pa_consP (pe_borP (pv 1)) pa_nilP))))))))
      (pss_consP (ps_forP (ps_for PassesOwn.never rfl (pi_range1P (pi_range1 (by rfl) T.z_range (pa_consP (pe_cP (d := .int 3) pe_int) pa_nilP))) (pg_nameP (pg_name (i := 3) sc_mates.nd rfl (Or.inl rfl)))
      (pss_oneP (ps_forP (ps_for PassesOwn.never rfl (pi_range1P (pi_range1 (by rfl) T.z_range (pa_consP (pe_cbP lc_len (pe_callB call_lenP (by rfl) T.z_len (by decide +kernel) (pa_consP (pe_borP (pv 1)) pa_nilP))) pa_nilP))) (pg_nameP (pg_name (i := 4) sc_mates.nd rfl (Or.inl rfl)))
      (pss_oneP (ps_ifP (pt_cmpP (op_eqP hr.units) li_eq (pe_cbP lc_len (pe_callB call_lenP (by rfl) T.z_len (by decide +kernel) (pa_consP (pe_ixP (pe_ixP (pe_borP (pv 1)) (pe_borP (pv 4)) (fun _ _ => rfl) li_ix) (pe_cP (d := .int 2) pe_int) (fun _ _ => rfl) li_ix) pa_nilP))) (pe_borP (pv 3)) (nomark _)) (pss_consP (ps_setLcP (i := 5) (vs := [6]) (ps_setLc (i := 5) (own := [("_law_pair", 6)]) rfl sc_mates.nd rfl rfl (sw_true rfl rfl rfl (by decide +kernel)) (pi_itemsP (pe_ixP (pe_ixP (pe_borP (pv 1)) (pe_borP (pv 4)) (fun _ _ => rfl) li_ix) (pe_cP (d := .int 2) pe_int) (fun _ _ => rfl) li_ix)) (blkOk_by (N := ["_law_d", "_law_nodes", "_law_mate", "_law_size", "_law_n", "_law_apart", "_law_pair"]) (sc := defScope s_mates) (by decide +kernel)) (fun _ _ _ _ _ => (pg_compP (vs := [6]) (pg_name (i := 6) sc_mates.nd rfl (Or.inl rfl)))) (fun _ _ _ _ _ => (pts_one (pt_cmpP (op_neP hr.units) li_ne (pe_ixP (pe_borP (pv 2)) (pe_ixP (pe_borP (pv 6)) (pe_cP (d := .int 0) pe_int) (fun _ _ => rfl) li_ix) (fun _ _ => rfl) li_ix) (pe_ixP (pe_borP (pv 6)) (pe_cP (d := .int 0) pe_int) (fun _ _ => rfl) li_ix) (nomark _)))) (fun _ _ _ _ _ => (pe_varP (pv 6)))))
      (pss_oneP (ps_ifP (PW.pt (pw_orP (pt_truP (pe_borP (pv 5))) (pw_or1P (pt_cmpP (op_eqP hr.units) li_eq (pe_callP hG (pe_call (okp_draw T) (hr.mono (by decide)) rfl T.m_draw T.F_draw.kp T.b_draw .nil pass0 (pa_consP (pe_borP (pv 0)) (pa_consP (pe_cP (d := .int 2) pe_int) pa_nilP)))) (pe_cP (d := .int 1) pe_int) (nomark _))))) (pss_oneP (ps_setIxP (ps_asg (pe_frzP (pe_opP op_addP li_add (pe_borP (pv 4)) (pe_cbP lc_len (pe_callB call_lenP (by rfl) T.z_len (by decide +kernel) (pa_consP (pe_borP (pv 1)) pa_nilP))))) (pg_sub (pe_borP (pv 2)) (pe_borP (pv 4)) set_list)))) pss_nilP))) pss_nilP)))))))
      (pss_oneP (ps_retMvP (pv 2))))), fun as C hl h => ?_⟩
  obtain ⟨N, rfl, al, l100, q⟩ := h
  have lD := nodesD_len N
  refine ⟨by unfold RgOk; omega, ?_⟩
  rw [lD, rangeN]
  refine ⟨by decide, by decide, ?_⟩
  refine ⟨fun i env => ∃ (ms : List Nat) (c3 c4 c5 : Cel), ms.length = N.length ∧ (∀ v ∈ ms, v < 2 * N.length) ∧ env = [.drw, .dat (.list (nodesD N)), .own (nums ms), c3, c4, c5, .no], ⟨List.range N.length, _, _, _, List.length_range, (fun v hv => by have := List.mem_range.mp hv; omega), rfl⟩, ?_, ?_⟩
  · rintro i x env hi ⟨ms, c3, c4, c5, lm, bm, rfl⟩
    have i3 := (List.getElem?_eq_some_iff.mp hi).1
    rw [show (3 : Int) = ((3 : Nat) : Int) from rfl, rangeN] at hi
    obtain ⟨size, hs, rfl⟩ := nums_at' hi
    refine ⟨by omega, by omega, ?_⟩
    rw [lD, rangeN]
    refine ⟨fun i env => ∃ (ms : List Nat) (c4 c5 : Cel), ms.length = N.length ∧ (∀ v ∈ ms, v < 2 * N.length) ∧ env = [.drw, .dat (.list (nodesD N)), .own (nums ms), .dat (.int (size : Int)), c4, c5, .no], ⟨ms, _, _, lm, bm, rfl⟩, ?_, ?_⟩
    · clear lm bm
      rintro n x env hn ⟨ms, c4, c5, lm, bm, rfl⟩
      obtain ⟨n', hn', rfl⟩ := nums_at' hn
      have ln := (List.getElem?_eq_some_iff.mp hn').1
      rw [List.length_range] at ln
      rw [List.getElem?_range ln] at hn'
      cases hn'
      have hq := List.getElem?_eq_getElem ln
      generalize N[n] = q0 at hq
      have g0 := al _ (List.mem_of_getElem? hq)
      obtain ⟨⟨w0, kd, cl, rest⟩, ps0, src0⟩ := q0
      have lc : cl.length ≤ 4 := g0.cl
      have lms := nums_len ms
      refine ⟨_, atD n (nodesD_at hq), _, atD 2 rfl, IfP.both (fun h1 => ?_) fun h1 => ⟨ms, _, _, lm, bm, rfl⟩⟩
      refine ⟨_, atD n (nodesD_at hq), _, atD 2 rfl, lc_filterP (l := cl) (e := pairD) (fun p => if nth ms p.1 = p.1 then none else some (pairD p)) (szl (by omega)) (fun j a ha Q k => ?_) ?_⟩
      · have la : a.1 < N.length := g0.need a.1 (List.mem_append_left _ (List.mem_map_of_mem (List.mem_of_getElem? ha)))
        refine ⟨_, atD 0 rfl, _, atD a.1 (nums_at (nth_at (by omega))), _, atD 0 rfl, IfP.both (fun h2 => ?_) fun h2 => ?_⟩
        · have e : ¬ nth ms a.1 = a.1 := fun z => by
            rw [z, decide_eq_true rfl] at h2
            exact absurd h2 (by decide)
          rw [if_neg e] at k
          exact k
        · have e : nth ms a.1 = a.1 := by
            by_cases z : ((nth ms a.1 : Nat) : Int) = ((a.1 : Nat) : Int)
            · omega
            · rw [decide_eq_false z] at h2
              exact absurd h2 (by decide)
          rw [if_pos e] at k
          exact k
      · have bm2 : ∀ v ∈ ms.set n (n + N.length), v < 2 * N.length := fun v hv => (List.mem_or_eq_of_mem_set hv).elim (bm v) fun e => by omega
        have lm2 : (ms.set n (n + N.length)).length = N.length := by rw [List.length_set]; exact lm
        have es : (nums ms).set n (.int ((n : Int) + ((nodesD N).length : Int))) = nums (ms.set n (n + N.length)) := by
          rw [← nums_set, lD]
          rfl
        refine IfP.both (fun h2 => ?_) fun h2 => ?_
        · refine .t rfl ⟨n, ixN_nat (by omega), ms.set n (n + N.length), _, _, lm2, bm2, by rw [← es]; rfl⟩
        · refine ⟨_, rfl, by decide, by decide, fun r r0 r1 => IfP.both (fun h3 => ?_) fun h3 => ⟨ms, _, _, lm, bm, rfl⟩⟩
          refine ⟨n, ixN_nat (by omega), ms.set n (n + N.length), _, _, lm2, bm2, by rw [← es]; rfl⟩
    · rintro env ⟨ms, c4, c5, lm, bm, rfl⟩
      exact ⟨ms, _, _, _, lm, bm, rfl⟩
  · rintro env ⟨ms, c3, c4, c5, lm, bm, rfl⟩
    exact q ms lm bm
end

/-! ### a comprehension that draws, item by item -/
section
variable {env : PEnv} {g : PTg} {t : PTst} {f : PEx} {vs : List Nat} {C : PK}
theorem lc_atP {items : List PyData} (Pd : Nat → PyData → Prop) (hl : items.length < sizeLine) (hb : ∀ (j : Nat) (x : PyData), items[j]? = some x → ∀ Q : Option PyData → PEnv → Prop, (∀ d, Pd j d → Q (some d) (wipeP env vs)) → g x (wipeP env vs) fun e3 => t e3 fun b e4 => IfP b (f e4 (fun p e5 => match p with
      | .dat d => Q (some d) (wipeP e5 vs)
      | _ => False)) (Q none (wipeP e4 vs))) (hc : ∀ ds : List PyData, ds.length = items.length → (∀ (j : Nat) (d : PyData), ds[j]? = some d → Pd j d) → C (.own ds) (wipeP env vs)) (hf : fgtB env vs = true := by rfl) : LcOk items env g t f vs C := by
  refine ⟨hf, fun j e2 acc => e2 = wipeP env vs ∧ acc.length = j ∧ ∀ (i : Nat) (d : PyData), acc[i]? = some d → Pd i d, ⟨rfl, rfl, fun i d h => by simp at h⟩, ?_, ?_⟩
  · rintro j x e2 acc hx ⟨rfl, la, ma⟩
    rw [wipeP_idem]
    have jl := (List.getElem?_eq_some_iff.mp hx).1
    exact hb j x hx (fun od e' => match od with
      | some d => acc.length < sizeLine ∧ e' = wipeP env vs ∧ (acc ++ [d]).length = j + 1 ∧ ∀ (i : Nat) (d' : PyData), (acc ++ [d])[i]? = some d' → Pd i d'
      | none => e' = wipeP env vs ∧ acc.length = j + 1 ∧ ∀ (i : Nat) (d' : PyData), acc[i]? = some d' → Pd i d') fun d hd => ⟨by omega, rfl, by rw [List.length_append, la]; rfl, fun i d' h => by
      by_cases hi : i < acc.length
      · rw [List.getElem?_append_left hi] at h
        exact ma i d' h
      · rw [List.getElem?_append_right (by omega)] at h
        have e0 : i - acc.length = 0 := by
          have := (List.getElem?_eq_some_iff.mp h).1
          simp at this
          omega
        rw [e0] at h
        cases h
        have : i = j := by omega
        subst this
        exact hd⟩
  · rintro e2 acc ⟨rfl, la, ma⟩
    rw [wipeP_idem]
    exact hc acc la ma
end

/-! ### two copies of all nodes -/
theorem Gd.clock {B : Nat} {q : NQ} (h : Gd B q) {cl' : List (Nat × Int)} (hl : cl'.length ≤ 4) (hb : ∀ p ∈ cl', p.1 < B) : Gd B (⟨q.1.w, q.1.k, cl', q.1.rest⟩, q.2.1, q.2.2) := by
  obtain ⟨⟨nw, nk, cl, rest⟩, ps, src⟩ := q
  refine ⟨h.ok, hl, h.few, fun v hv => ?_, h.src, h.k, ?_, h.ar⟩
  · rcases List.mem_append.mp hv with hv | hv
    · obtain ⟨p, hp, rfl⟩ := List.mem_map.mp hv
      exact hb p hp
    · exact h.need v (List.mem_append_right _ hv)
  · have pl : (PyData.strOk nw && (plainD nk && (plainAll (cl.map pairD) && plainAll rest))) = true := h.pl
    rw [plain_cl] at pl
    show (PyData.strOk nw && (plainD nk && (plainAll (cl'.map pairD) && plainAll rest))) = true
    rw [plain_cl]
    exact pl
theorem nums_of {ds : List PyData} {B : Nat} (h : ∀ (j : Nat) (d : PyData), ds[j]? = some d → ∃ v : Nat, v < B ∧ d = .int (v : Int)) : ∃ gs : List Nat, ds = nums gs ∧ ∀ v ∈ gs, v < B := by
  induction ds with
  | nil => exact ⟨[], rfl, fun v h => nomatch h⟩
  | cons d ds ih =>
    obtain ⟨gs, rfl, hb⟩ := ih fun j d h' => h (j + 1) d h'
    obtain ⟨v, hv, rfl⟩ := h 0 d rfl
    exact ⟨v :: gs, rfl, fun u hu => (List.mem_cons.mp hu).elim (fun e => e ▸ hv) (hb u)⟩
theorem Gd.rest {B : Nat} {q : NQ} (h : Gd B q) : q.1.rest.length ≤ 12 := by
  have hf := h.few
  rcases h.ok with ⟨_, ⟨x0, hr⟩, _⟩ | ⟨_, ⟨x0, x1, hr⟩, _⟩ | ⟨_, z, hr, _⟩ | ⟨_, ch, arms, hr, _⟩ | ⟨_, v, z, hr, _⟩ | ⟨_, hr, _⟩
  · rw [hr]; exact Nat.le_of_ble_eq_true rfl
  · rw [hr]; exact Nat.le_of_ble_eq_true rfl
  · rw [hr]; exact Nat.le_of_ble_eq_true rfl
  · rw [hr]; exact Nat.le_of_ble_eq_true rfl
  · rw [hr]; exact Nat.le_of_ble_eq_true rfl
  · rw [hr, nums_len]; exact hf
/-- a merge -/
theorem Gd.merge {B : Nat} {q : NQ} (h : Gd B q) (hw : q.1.w = "merge") : ∃ (c : Nat) (arms : List Nat), q = (⟨"merge", q.1.k, q.1.cl, [.int (c : Int), .tuple (nums arms)]⟩, c :: arms, none) ∧ c < B ∧ ∀ j, j < B → Gd B (⟨"merge", q.1.k, q.1.cl, [.int (j : Int), .tuple (nums arms)]⟩, j :: arms, none) := by
  obtain ⟨⟨w, k, cl, rest⟩, ps, src⟩ := q
  have hw : w = "merge" := hw
  subst hw
  rcases h.ok with ⟨z, _⟩ | ⟨z, _⟩ | ⟨z, _⟩ | ⟨_, c, arms, er, ep, es⟩ | ⟨z, _⟩ | ⟨z, _⟩
  · rcases z with z | z | z <;> exact absurd z (by show ¬ ("merge" : Str) = _; decide +kernel)
  · exact absurd z (by show ¬ ("merge" : Str) = _; decide +kernel)
  · exact absurd z (by show ¬ ("merge" : Str) = _; decide +kernel)
  · have er : rest = [.int (c : Int), .tuple (nums arms)] := er
    have ep : ps = c :: arms := ep
    have es : src = none := es
    subst er ep es
    refine ⟨c, arms, rfl, h.need c (List.mem_append_right _ List.mem_cons_self), fun j hj => ⟨.inr (.inr (.inr (.inl ⟨rfl, j, arms, rfl, rfl, rfl⟩))), h.cl, h.few, fun v hv => ?_, (fun s e => nomatch e), h.k, h.pl, .lit "merge" rfl (by decide +kernel)⟩⟩
    rcases List.mem_append.mp hv with hv | hv
    · exact h.need v (List.mem_append_left _ hv)
    · rcases List.mem_cons.mp hv with rfl | hv
      · exact hj
      · exact h.need v (List.mem_append_right _ (List.mem_cons_of_mem _ hv))
  · exact absurd z (by show ¬ ("merge" : Str) = _; decide +kernel)
  · exact absurd z (by show ¬ ("merge" : Str) ∈ opWords; decide +kernel)
theorem cut2h (x y : PyData) (r : List PyData) : cutP (x :: y :: r) none (some 2) = [x, y] := by
  unfold cutP
  rw [show (some (2 : Int)) = some (((2 : Nat) : Int)) from rfl, HT.sIx_nat, HT.sIx_none, List.length_cons, List.length_cons, Nat.min_eq_left (by omega)]
  rfl
def R_doubled : PR := fun as C => ∃ N : List NQ, as = [.drw, .dat (.list (nodesD N))] ∧ AllG N.length N ∧ 1 ≤ N.length ∧ N.length ≤ 20 ∧
  ∀ N' : List NQ, N'.length = 2 * N.length → AllG N'.length N' → C (.own (nodesD N')) as
section
variable {P : Program} {w : World} {K : PySem.W.Frag} {mg : Str → Option Value} {base : Heap}
theorem okp_doubled (T : Tx K mg w base) : FnOk P w K mg base CX0 4 T.f_doubled T.fd_doubled ["_law_d", "_law_nodes"] (spP K T.tbs 2 R_doubled) := by
  refine okP T.F_doubled sc_doubled rfl fun cdv A outer s H E G hG hcd hr => ⟨_, (pss_consP (ps_setP (ps_set (i := 2) sc_doubled.nd rfl (Or.inr rfl) (pe_cbP lc_len (pe_callB call_lenP (by rfl) T.z_len (by decide +kernel) (pa_consP (pe_borP (pv 1)) pa_nilP)))))
      (pss_consP (ps_setP (ps_set (i := 3) sc_doubled.nd rfl (Or.inr rfl) (pe_frzP (pe_callP hG (pe_call (okp_mates T) (hr.mono (by decide)) rfl T.m_mates T.F_mates.kp T.b_mates .nil pass0 (pa_consP (pe_borP (pv 0)) (pa_consP (pe_borP (pv 1)) pa_nilP)))))))
      (pss_consP (ps_setP (ps_set (i := 4) sc_doubled.nd rfl (Or.inr rfl) (pe_lstP pa_nilP)))
      (pss_consP (ps_forP (ps_for PassesOwn.never rfl (pi_itemsP (pe_varP (pv 1))) (pg_nameP (pg_name (i := 5) sc_doubled.nd rfl (Or.inl rfl)))
      (pss_oneP (ps_dropP (pe_methP lm_app (pe_bm PySem.F.plainAttrs_list PySem.F.slot_list_append PySem.F.type_list_append mt_append (pe_borP (pv 4)) (pa_consP (pe_cmpP op_gt li_gt (pe_cbP lc_len (pe_callB call_lenP (by rfl) T.z_len (by decide +kernel) (pa_consP (pe_lcP (vs := [12]) (pe_lc (own := [("_law_pair", 12)]) rfl sc_doubled.nd (pi_itemsP (pe_ixP (pe_borP (pv 5)) (pe_cP (d := .int 2) pe_int) (fun _ _ => rfl) li_ix)) (blkOk_by (N := ["_law_d", "_law_nodes", "_law_many", "_law_mate", "_law_apart", "_law_node", "_law_found", "_law_world", "_law_n", "_law_goal", "_law_stands", "_law_clock", "_law_pair", "_law_m"]) (sc := defScope s_doubled) (by decide +kernel)) (fun _ _ _ _ _ => (pg_compP (vs := [12]) (pg_name (i := 12) sc_doubled.nd rfl (Or.inl rfl)))) (fun _ _ _ _ _ => (pts_one (pt_cmpP (op_neP hr.units) li_ne (pe_ixP (pe_borP (pv 3)) (pe_ixP (pe_borP (pv 12)) (pe_cP (d := .int 0) pe_int) (fun _ _ => rfl) li_ix) (fun _ _ => rfl) li_ix) (pe_ixP (pe_borP (pv 12)) (pe_cP (d := .int 0) pe_int) (fun _ _ => rfl) li_ix) (nomark _)))) (fun _ _ _ _ _ => (pe_varP (pv 12))))) pa_nilP))) (pe_cP (d := .int 0) pe_int) (nomark _)) pa_nilP)))))))
      (pss_consP (ps_setP (ps_set (i := 6) sc_doubled.nd rfl (Or.inl rfl) (pe_lstP pa_nilP)))
      (pss_consP (ps_forP (ps_for PassesOwn.never rfl (pi_itemsP (pe_tupP (pa_consP (pe_cP (d := .int 0) pe_int) (pa_consP (pe_cP (d := .int 1) pe_int) pa_nilP)))) (pg_nameP (pg_name (i := 7) sc_doubled.nd rfl (Or.inr rfl)))
      (pss_oneP (ps_forP (ps_for PassesOwn.never rfl (pi_range1P (pi_range1 (by rfl) T.z_range (pa_consP (pe_borP (pv 2)) pa_nilP))) (pg_nameP (pg_name (i := 8) sc_doubled.nd rfl (Or.inl rfl)))
      (pss_cutP (ps_setLcP (i := 9) (vs := [13]) (ps_setLc (i := 9) (own := [("_law_m", 13)]) rfl sc_doubled.nd rfl rfl (sw_true rfl rfl rfl (by decide +kernel)) (pi_range1P (pi_range1 (by rfl) T.z_range (pa_consP (pe_borP (pv 2)) pa_nilP))) (blkOk_by (N := ["_law_d", "_law_nodes", "_law_many", "_law_mate", "_law_apart", "_law_node", "_law_found", "_law_world", "_law_n", "_law_goal", "_law_stands", "_law_clock", "_law_pair", "_law_m"]) (sc := defScope s_doubled) (by decide +kernel)) (fun _ _ _ _ _ => (pg_compP (vs := [13]) (pg_name (i := 13) sc_doubled.nd rfl (Or.inl rfl)))) (fun _ _ _ _ _ => pts_nilP) (fun _ _ _ _ _ => (pe_frzP (pe_opP op_addP li_add (pe_borP (pv 13)) (pe_opP op_mulP li_mul (pe_borP (pv 2)) (pe_ifP (pt_truP (pe_ixP (pe_borP (pv 4)) (pe_borP (pv 13)) (fun _ _ => rfl) li_ix)) (pe_borP (pv 7)) (pe_callP hG (pe_call (okp_draw T) (hr.mono (by decide)) rfl T.m_draw T.F_draw.kp T.b_draw .nil pass0 (pa_consP (pe_borP (pv 0)) (pa_consP (pe_cP (d := .int 2) pe_int) pa_nilP)))))))))))
      (pss_consP (ps_setP (ps_set (i := 5) sc_doubled.nd rfl (Or.inl rfl) (pe_callP hG (pe_call (okp_renumbered T) (hr.mono (by decide)) rfl T.m_renumbered T.F_renumbered.kp T.b_renumbered .nil pass0 (pa_consP (pe_ixP (pe_borP (pv 1)) (pe_borP (pv 8)) (fun _ _ => rfl) li_ix) (pa_consP (pe_varP (pv 9)) pa_nilP))))))
      (pss_cutP (ps_setP (ps_set (i := 10) sc_doubled.nd rfl (Or.inr rfl) (pe_frzP (pe_ifP (pt_cmpP (op_eqP hr.units) li_eq (pe_borP (pv 7)) (pe_cP (d := .int 1) pe_int) (nomark _)) (pe_varP (pv 3)) (pe_lstR1P (pe_listRg rfl (by rfl) T.z_list (prg_1 (by rfl) T.z_range (pe_borP (pv 2)))))))))
      (pss_cutP (ps_setP (ps_set (i := 11) sc_doubled.nd rfl (Or.inl rfl) (pe_cbP lc_tup (pe_callTy (show CallR _ (.type "tuple") (rTupOf K) from call_tup) (by rfl) T.z_tuple (by decide +kernel) (pa_consP (pe_lcP (vs := [12]) (pe_lc (own := [("_law_pair", 12)]) rfl sc_doubled.nd (pi_itemsP (pe_ixP (pe_ixP (pe_borP (pv 1)) (pe_borP (pv 8)) (fun _ _ => rfl) li_ix) (pe_cP (d := .int 2) pe_int) (fun _ _ => rfl) li_ix)) (blkOk_by (N := ["_law_d", "_law_nodes", "_law_many", "_law_mate", "_law_apart", "_law_node", "_law_found", "_law_world", "_law_n", "_law_goal", "_law_stands", "_law_clock", "_law_pair", "_law_m"]) (sc := defScope s_doubled) (by decide +kernel)) (fun _ _ _ _ _ => (pg_compP (vs := [12]) (pg_name (i := 12) sc_doubled.nd rfl (Or.inl rfl)))) (fun _ _ _ _ _ => pts_nilP) (fun _ _ _ _ _ => (pe_tupP (pa_consP (pe_ixP (pe_borP (pv 10)) (pe_ixP (pe_borP (pv 12)) (pe_cP (d := .int 0) pe_int) (fun _ _ => rfl) li_ix) (fun _ _ => rfl) li_ix) (pa_consP (pe_ixP (pe_borP (pv 12)) (pe_cP (d := .int 1) pe_int) (fun _ _ => rfl) li_ix) pa_nilP)))))) pa_nilP)))))
      (pss_cutP (ps_setP (ps_set (i := 5) sc_doubled.nd rfl (Or.inl rfl) (pe_opP op_addP li_add (pe_opP op_addP li_add (pe_sliceP (pe_borP (pv 5)) po_noneP (po_someP (pe_cP (d := .int 2) pe_int))) (pe_tupP (pa_consP (pe_varP (pv 11)) pa_nilP))) (pe_sliceP (pe_borP (pv 5)) (po_someP (pe_cP (d := .int 3) pe_int)) po_noneP))))
      (pss_consP (ps_ifP (pt_cmpP (op_eqP hr.units) li_eq (pe_ixP (pe_borP (pv 5)) (pe_cP (d := .int 0) pe_int) (fun _ _ => rfl) li_ix) (pe_cP (d := .str "merge") pe_str) (nomark _)) (pss_oneP (ps_setP (ps_set (i := 5) sc_doubled.nd rfl (Or.inl rfl) (pe_opP op_addP li_add (pe_sliceP (pe_borP (pv 5)) po_noneP (po_someP (pe_cP (d := .int 3) pe_int))) (pe_tupP (pa_consP (pe_ixP (pe_borP (pv 10)) (pe_ixP (pe_ixP (pe_borP (pv 1)) (pe_borP (pv 8)) (fun _ _ => rfl) li_ix) (pe_cP (d := .int 3) pe_int) (fun _ _ => rfl) li_ix) (fun _ _ => rfl) li_ix) (pa_consP (pe_ixP (pe_borP (pv 5)) (pe_cP (d := .int 4) pe_int) (fun _ _ => rfl) li_ix) pa_nilP))))))) pss_nilP)
      (pss_oneP (ps_dropP (pe_methP lm_app (pe_bm PySem.F.plainAttrs_list PySem.F.slot_list_append PySem.F.type_list_append mt_append (pe_borP (pv 6)) (pa_consP (pe_varP (pv 5)) pa_nilP))))))))))))))))
      (pss_oneP (ps_retMvP (pv 6))))))))), fun as C hl h => ?_⟩
  obtain ⟨N, rfl, al, n1, n20, q⟩ := h
  have lD := nodesD_len N
  refine ⟨N, rfl, al, by omega, fun ms lm bm => ?_⟩
  have lms := nums_len ms
  refine ⟨szr, ?_⟩
  refine ⟨fun i env => ∃ (bs : List Bool) (c5 : Cel), bs.length = i ∧ env = [.drw, .dat (.list (nodesD N)), .dat (.int (N.length : Int)), .dat (.list (nums ms)), .own (bs.map .bool), c5, .no, .no, .no, .no, .no, .no, .no, .no], ⟨[], _, rfl, by rw [← lD]; rfl⟩, ?_, ?_⟩
  · rintro i x env hi ⟨bs, c5, lb, rfl⟩
    obtain ⟨q0, hq, rfl⟩ := nodesD_at' hi
    have iN := (List.getElem?_eq_some_iff.mp hq).1
    have g0 := al _ (List.mem_of_getElem? hq)
    obtain ⟨⟨w0, kd, cl, rest⟩, ps0, src0⟩ := q0
    have lc : cl.length ≤ 4 := g0.cl
    refine ⟨_, atD 2 rfl, lc_filterP (l := cl) (e := pairD) (fun p => if nth ms p.1 = p.1 then none else some (pairD p)) (szl (by omega)) (fun j a ha Q k => ?_) ?_⟩
    · have la : a.1 < N.length := g0.need a.1 (List.mem_append_left _ (List.mem_map_of_mem (List.mem_of_getElem? ha)))
      refine ⟨_, atD 0 rfl, _, atD a.1 (nums_at (nth_at (by omega))), _, atD 0 rfl, IfP.both (fun h2 => ?_) fun h2 => ?_⟩
      · have e : ¬ nth ms a.1 = a.1 := fun z => by
          rw [z, decide_eq_true rfl] at h2
          exact absurd h2 (by decide)
        rw [if_neg e] at k
        exact k
      · have e : nth ms a.1 = a.1 := by
          by_cases z : ((nth ms a.1 : Nat) : Int) = ((a.1 : Nat) : Int)
          · omega
          · rw [decide_eq_false z] at h2
            exact absurd h2 (by decide)
        rw [if_pos e] at k
        exact k
    · exact ⟨szl (by rw [List.length_map]; omega), bs ++ [_], _, by rw [List.length_append]; show _ + 1 = _; omega, by rw [List.map_append]; rfl⟩
  rintro env ⟨bs, c5, lb, rfl⟩
  rw [lD] at lb
  refine ⟨szr, szr, ?_⟩
  refine ⟨fun i env => ∃ (M : List NQ) (c5 c7 c8 c9 c10 c11 : Cel), M.length = i * N.length ∧ AllG (2 * N.length) M ∧ env = [.drw, .dat (.list (nodesD N)), .dat (.int (N.length : Int)), .dat (.list (nums ms)), .own (bs.map .bool), c5, .own (nodesD M), c7, c8, c9, c10, c11, .no, .no], ⟨[], _, _, _, _, _, _, by simp, (fun q h => nomatch h), rfl⟩, ?_, ?_⟩
  · rintro wi x env hi ⟨M, c5, c7, c8, c9, c10, c11, lM, aM, rfl⟩
    have w2 : wi < 2 := (List.getElem?_eq_some_iff.mp hi).1
    have hx : x = .int (wi : Int) := by
      rcases (show wi = 0 ∨ wi = 1 by omega) with rfl | rfl <;> (cases hi; rfl)
    subst hx
    refine ⟨by omega, by omega, ?_⟩
    rw [rangeN]
    refine ⟨fun j env => ∃ (M : List NQ) (c5 c8 c9 c10 c11 : Cel), M.length = wi * N.length + j ∧ AllG (2 * N.length) M ∧ env = [.drw, .dat (.list (nodesD N)), .dat (.int (N.length : Int)), .dat (.list (nums ms)), .own (bs.map .bool), c5, .own (nodesD M), .dat (.int (wi : Int)), c8, c9, c10, c11, .no, .no], ⟨M, _, _, _, _, _, lM, aM, rfl⟩, ?_, ?_⟩
    · clear lM aM
      rintro n x env hn ⟨M, c5, c8, c9, c10, c11, lM, aM, rfl⟩
      obtain ⟨n', hn', rfl⟩ := nums_at' hn
      have ln := (List.getElem?_eq_some_iff.mp hn').1
      rw [List.length_range] at ln
      rw [List.getElem?_range ln] at hn'
      cases hn'
      have hq := List.getElem?_eq_getElem ln
      generalize N[n] = q0 at hq
      have g0 := al _ (List.mem_of_getElem? hq)
      have lDM := nodesD_len M
      have lM40 : M.length < 40 := by
        have : wi * N.length ≤ 1 * N.length := Nat.mul_le_mul_right _ (by omega)
        omega
      refine ⟨fun env => ∃ gs : List Nat, gs.length = N.length ∧ (∀ v ∈ gs, v < 2 * N.length) ∧ env = [.drw, .dat (.list (nodesD N)), .dat (.int (N.length : Int)), .dat (.list (nums ms)), .own (bs.map .bool), c5, .own (nodesD M), .dat (.int (wi : Int)), .dat (.int (n : Int)), .own (nums gs), c10, c11, .no, .no], ?_, ?_⟩
      · refine ⟨by omega, by omega, ?_⟩
        rw [rangeN]
        refine lc_atP (fun _ d => ∃ v : Nat, v < 2 * N.length ∧ d = .int (v : Int)) (szl (by rw [nums_len, List.length_range]; omega)) (fun j x hx Q k => ?_) fun ds ld md => ?_
        · obtain ⟨m, hm, rfl⟩ := nums_at' hx
          have lm' := (List.getElem?_eq_some_iff.mp hm).1
          rw [List.length_range] at lm'
          rw [List.getElem?_range lm'] at hm
          cases hm
          have hb : (bs.map PyData.bool)[j]? = some (.bool (bs[j]'(by omega))) := by rw [List.getElem?_map, List.getElem?_eq_getElem (by omega)]; rfl
          refine .t rfl ⟨_, atD j hb, IfP.both (fun h1 => ?_) fun h1 => ?_⟩
          · refine ⟨?_, k _ ⟨j + N.length * wi, ?_, ?_⟩⟩
            · exact .inl ⟨by omega, by omega⟩
            · have : N.length * wi ≤ N.length * 1 := Nat.mul_le_mul_left _ (by omega)
              omega
            · rw [Int.natCast_add, Int.natCast_mul]
          · refine ⟨_, rfl, by decide, by decide, fun r r0 r1 => ⟨?_, k _ ⟨j + N.length * r.toNat, ?_, ?_⟩⟩⟩
            · exact .inl ⟨by omega, by omega⟩
            · have : N.length * r.toNat ≤ N.length * 1 := Nat.mul_le_mul_left _ (by omega)
              omega
            · rw [Int.natCast_add, Int.natCast_mul, show ((r.toNat : Nat) : Int) = r by omega]
        · obtain ⟨gs, rfl, bg⟩ := nums_of md
          rw [nums_len, nums_len, List.length_range] at ld
          exact ⟨gs, ld, bg, rfl⟩
      rintro env ⟨gs, lg, bg, rfl⟩
      refine ⟨_, atD n (nodesD_at hq), N.length, q0, gs, rfl, g0, by omega, by omega, ?_⟩
      have bgs : ∀ u, u < N.length → nth gs u < 2 * N.length := fun u hu => bg _ (List.mem_of_getElem? (nth_at (by omega)))
      have g1 : Gd (2 * N.length) (ren (nth gs) q0) := g0.numb bgs
      have ew : (ren (nth gs) q0).1.w = q0.1.w := rfl
      have em : q0.1.w = "merge" → ∃ (c : Nat) (arms : List Nat), q0.1.rest = [.int (c : Int), .tuple (nums arms)] ∧ c < N.length := fun hw => by
        obtain ⟨c, arms, e, hc, _⟩ := g0.merge hw
        exact ⟨c, arms, by rw [e], hc⟩
      generalize ren (nth gs) q0 = r at g1 ew
      obtain ⟨⟨w1, k1, cl1, rest1⟩, ps1, src1⟩ := r
      have g1r : rest1.length ≤ 12 := g1.rest
      refine ⟨fun env => ∃ st : List Nat, st.length = N.length ∧ (∀ v ∈ st, v < 2 * N.length) ∧ env = [.drw, .dat (.list (nodesD N)), .dat (.int (N.length : Int)), .dat (.list (nums ms)), .own (bs.map .bool), .dat (Nd.d ⟨w1, k1, cl1, rest1⟩), .own (nodesD M), .dat (.int (wi : Int)), .dat (.int (n : Int)), .dat (.list (nums gs)), .dat (.list (nums st)), c11, .no, .no], ?_, ?_⟩
      · refine IfP.both (fun h1 => ⟨ms, lm, bm, rfl⟩) fun h1 => ⟨by unfold RgOk; omega, ?_⟩
        rw [rangeN]
        exact ⟨List.range N.length, List.length_range, fun v hv => by have := List.mem_range.mp hv; omega, rfl⟩
      rintro env ⟨st, ls, bst, rfl⟩
      have lns := nums_len st
      obtain ⟨⟨w0, kd, cl, rest⟩, ps0, src0⟩ := q0
      have lc : cl.length ≤ 4 := g0.cl
      have ncl : ∀ p ∈ cl, p.1 < N.length := fun p hp => g0.need p.1 (List.mem_append_left _ (List.mem_map_of_mem hp))
      generalize hg : (fun p : Nat × Int => (nth st p.1, p.2)) = g
      refine ⟨fun env => env = [.drw, .dat (.list (nodesD N)), .dat (.int (N.length : Int)), .dat (.list (nums ms)), .own (bs.map .bool), .dat (Nd.d ⟨w1, k1, cl1, rest1⟩), .own (nodesD M), .dat (.int (wi : Int)), .dat (.int (n : Int)), .dat (.list (nums gs)), .dat (.list (nums st)), .dat (clD (cl.map g)), .no, .no], ?_, ?_⟩
      · refine ⟨_, atD n (nodesD_at hq), _, atD 2 rfl, lc_mapP (l := cl) (e := pairD) (fun p => pairD (g p)) (szl (by omega)) (fun j a ha Q k => .t rfl ?_) ?_⟩
        · have la := ncl a (List.mem_of_getElem? ha)
          rw [← hg] at k
          exact ⟨_, atD 0 rfl, _, atD a.1 (nums_at (nth_at (by omega))), _, atD 1 rfl, szr, k⟩
        · have e : cl.map (fun p => pairD (g p)) = (cl.map g).map pairD := by rw [List.map_map]; rfl
          rw [e]
          rfl
      rintro env rfl
      have lcl : (cl.map g).length = cl.length := List.length_map _
      have g2 : Gd (2 * N.length) (⟨w1, k1, cl.map g, rest1⟩, ps1, src1) := g1.clock (by omega) fun p hp => by
        obtain ⟨p0, hp0, rfl⟩ := List.mem_map.mp hp
        rw [← hg]
        exact bst _ (List.mem_of_getElem? (nth_at (sw := st) (u := p0.1) (by have := ncl p0 hp0; omega)))
      refine ⟨fun env => env = [.drw, .dat (.list (nodesD N)), .dat (.int (N.length : Int)), .dat (.list (nums ms)), .own (bs.map .bool), .dat (Nd.d ⟨w1, k1, cl.map g, rest1⟩), .own (nodesD M), .dat (.int (wi : Int)), .dat (.int (n : Int)), .dat (.list (nums gs)), .dat (.list (nums st)), .dat (clD (cl.map g)), .no, .no], ?_, ?_⟩
      · have e2 : cutP (.str w1 :: k1 :: .tuple (cl1.map pairD) :: rest1) none (some 2) = [.str w1, k1] := cut2h _ _ _
        have e3 : cutP (.str w1 :: k1 :: .tuple (cl1.map pairD) :: rest1) (some 3) none = rest1 := cut3 _ _ _ _
        refine ⟨szr, szle ?_, szle ?_, ?_⟩
        · rw [e2]; exact Nat.le_of_ble_eq_true rfl
        · rw [e2, e3]; show (3 + rest1.length) ≤ _; omega
        · have ee : ∀ x, cutP (.str w1 :: k1 :: .tuple (cl1.map pairD) :: rest1) none (some 2) ++ [x] ++ cutP (.str w1 :: k1 :: .tuple (cl1.map pairD) :: rest1) (some 3) none = .str w1 :: k1 :: x :: rest1 := fun x => by rw [e2, e3]; rfl
          have e4 : (PyData.tuple (cutP (.str w1 :: k1 :: .tuple (cl1.map pairD) :: rest1) none (some 2) ++ [clD (cl.map g)] ++ cutP (.str w1 :: k1 :: .tuple (cl1.map pairD) :: rest1) (some 3) none)) = Nd.d ⟨w1, k1, cl.map g, rest1⟩ := by rw [ee]; rfl
          rw [← e4]
          rfl
      rintro env rfl
      have fin : ∀ q1 : NQ, Gd (2 * N.length) q1 → AllG (2 * N.length) (M ++ [q1]) := fun q1 h1 q hq => (List.mem_append.mp hq).elim (aM q) fun e => by rw [List.mem_singleton.mp e]; exact h1
      have ap : ∀ q1 : NQ, nodesD (M ++ [q1]) = nodesD M ++ [q1.1.d] := fun q1 => List.map_append
      refine ⟨_, atD 0 rfl, IfP.both (fun h1 => ?_) fun h1 => ?_⟩
      · have hw : w1 = "merge" := of_decide_eq_true h1
        obtain ⟨c1, arms1, er1, c1N⟩ := em (ew.symm.trans hw)
        have er1 : rest = [.int (c1 : Int), .tuple (nums arms1)] := er1
        obtain ⟨c2, arms2, eq2, _, mk⟩ := g2.merge hw
        cases eq2
        subst er1
        have g3 := mk (nth st c1) (bst _ (List.mem_of_getElem? (nth_at (by omega))))
        refine ⟨_, atD n (nodesD_at hq), _, atD 3 rfl, _, atD c1 (nums_at (nth_at (by omega))), _, atD 4 rfl, szr, szle (Nat.le_of_ble_eq_true rfl), ?_⟩
        exact ⟨szl (by omega), M ++ [_], _, _, _, _, _, by rw [List.length_append]; show _ + 1 = _; omega, fin _ g3, by rw [ap]; rfl⟩
      · exact ⟨szl (by omega), M ++ [(⟨w1, k1, cl.map g, rest1⟩, ps1, src1)], _, _, _, _, _, by rw [List.length_append]; show _ + 1 = _; omega, fin _ g2, by rw [ap]; rfl⟩
    · rintro env ⟨M, c5, c8, c9, c10, c11, lM, aM, rfl⟩
      rw [nums_len, List.length_range] at lM
      exact ⟨M, _, _, _, _, _, _, by rw [Nat.add_mul]; omega, aM, rfl⟩
  · rintro env ⟨M, c5, c7, c8, c9, c10, c11, lM, aM, rfl⟩
    have lM : M.length = 2 * N.length := lM
    exact q M lM (by rw [lM]; exact aM)
end

/-! ### a node with one thing exchanged -/
def turnsK : List (Key × PyData) := [(.inr "and", .str "or"), (.inr "or", .str "xor"), (.inr "xor", .str "and"), (.inr "add", .str "sub"), (.inr "sub", .str "add"), (.inr "min", .str "max"), (.inr "max", .str "min"), (.inr "mul", .str "div"), (.inr "div", .str "mul"), (.inr "lt", .str "le"), (.inr "le", .str "lt"), (.inr "eq", .str "ne"), (.inr "ne", .str "eq")]
theorem getD_some (kvs : List (Key × PyData)) (k : Key) : (getD kvs k).isSome = true ↔ k ∈ kvs.map fun p : Key × PyData => p.1 := by
  unfold getD
  rw [Option.isSome_map, List.find?_isSome, List.mem_map]
  exact ⟨fun ⟨p, h, e⟩ => ⟨p, h, of_decide_eq_true e⟩, fun ⟨p, h, e⟩ => ⟨p, h, decide_eq_true e⟩⟩
theorem turn_in (z : Str) : (false ^^ (getD turnsK (.inr z)).isSome) = decide (z ∈ twoW) := by
  rw [Bool.false_xor]
  have e : (turnsK.map fun p : Key × PyData => p.1) = twoW.map Sum.inr := rfl
  have g := getD_some turnsK (.inr z)
  rw [e] at g
  have m : (Sum.inr z : Key) ∈ twoW.map (Sum.inr : Str → Key) ↔ z ∈ twoW := by
    rw [List.mem_map]
    exact ⟨fun ⟨a, h, e⟩ => Sum.inr.inj e ▸ h, fun h => ⟨z, h, rfl⟩⟩
  by_cases h : z ∈ twoW
  · rw [decide_eq_true h]
    exact g.mpr (m.mpr h)
  · rw [decide_eq_false h]
    exact Bool.eq_false_iff.mpr fun z => h (m.mp (g.mp z))
theorem turn_get {z : Str} (h : z ∈ twoW) : ∃ v, v ∈ twoW ∧ getD turnsK (.inr z) = some (.str v) := by
  have s := (turn_in z).trans (decide_eq_true h)
  rw [Bool.false_xor] at s
  obtain ⟨d, hd⟩ := Option.isSome_iff_exists.mp s
  rw [hd]
  unfold getD at hd
  obtain ⟨p, hp, rfl⟩ := Option.map_eq_some_iff.mp hd
  have hm := List.mem_of_find?_eq_some hp
  have all : ∀ p ∈ turnsK, ∃ v, v ∈ twoW ∧ p.2 = .str v := by
    have e : (turnsK.map fun p : Key × PyData => p.2) = (["or", "xor", "and", "sub", "add", "max", "min", "div", "mul", "le", "lt", "ne", "eq"] : List Str).map PyData.str := rfl
    have k : ∀ x ∈ (["or", "xor", "and", "sub", "add", "max", "min", "div", "mul", "le", "lt", "ne", "eq"] : List Str), x ∈ twoW := by decide +kernel
    intro p hp
    have := List.mem_map_of_mem (f := fun p : Key × PyData => p.2) hp
    rw [e] at this
    obtain ⟨v, hv, e2⟩ := List.mem_map.mp this
    exact ⟨v, k v hv, e2.symm⟩
  obtain ⟨v, hv, e⟩ := all p hm
  exact ⟨v, hv, by rw [e]⟩
theorem Gd.op {B : Nat} {q : NQ} (h : Gd B q) {w' : Str} {ps' : List Nat} (hw : w' ∈ opWords) (few : ps'.length ≤ 12) (lt : ∀ v ∈ ps', v < B) (ar : ArQ (⟨w', q.1.k, q.1.cl, nums ps'⟩, ps', none)) : Gd B (⟨w', q.1.k, q.1.cl, nums ps'⟩, ps', none) :=
  ⟨.inr (.inr (.inr (.inr (.inr ⟨hw, rfl, rfl⟩)))), h.cl, few, fun v hv => (List.mem_append.mp hv).elim (fun hv => h.need v (List.mem_append_left _ hv)) (lt v), (fun s e => nomatch e), h.k, plain_nd (opWords_ok w' hw) h.k.2 (plain_nums _), ar⟩
theorem cut1t (x : PyData) (r : List PyData) : cutP (x :: r) (some 1) none = r := by
  unfold cutP
  rw [show (some (1 : Int)) = some (((1 : Nat) : Int)) from rfl, HT.sIx_nat, List.length_cons, Nat.min_eq_left (by omega)]
  show (r.take (r.length + 1 - 1)) = r
  rw [Nat.add_sub_cancel, List.take_length]
theorem Gd.const {B : Nat} {q : NQ} (h : Gd B q) (hw : q.1.w = "const") : ∃ x0, q = (⟨"const", q.1.k, q.1.cl, [x0]⟩, [], none) := by
  obtain ⟨⟨w, k, cl, rest⟩, ps, src⟩ := q
  have hw : w = "const" := hw
  subst hw
  rcases h.ok with ⟨_, ⟨x0, hr⟩, hp, hs⟩ | ⟨z, _⟩ | ⟨z, _⟩ | ⟨z, _⟩ | ⟨z, _⟩ | ⟨z, _⟩
  · have hr : rest = [x0] := hr
    have hp : ps = [] := hp
    have hs : src = none := hs
    subst hr hp hs
    exact ⟨x0, rfl⟩
  · exact absurd z (by show ¬ ("const" : Str) = _; decide +kernel)
  · exact absurd z (by show ¬ ("const" : Str) = _; decide +kernel)
  · exact absurd z (by show ¬ ("const" : Str) = _; decide +kernel)
  · exact absurd z (by show ¬ ("const" : Str) = _; decide +kernel)
  · exact absurd z (by show ¬ ("const" : Str) ∈ opWords; decide +kernel)
theorem Gd.beat {B : Nat} {q : NQ} (h : Gd B q) (hw : q.1.w = "beat") : ∃ a b : Int, q = (⟨"beat", q.1.k, q.1.cl, [.int a, .int b]⟩, [], none) := by
  obtain ⟨⟨w, k, cl, rest⟩, ps, src⟩ := q
  have hw : w = "beat" := hw
  subst hw
  rcases h.ok with ⟨z, _⟩ | ⟨_, ⟨a, b, hr⟩, hp, hs⟩ | ⟨z, _⟩ | ⟨z, _⟩ | ⟨z, _⟩ | ⟨z, _⟩
  · rcases z with z | z | z <;> exact absurd z (by show ¬ ("beat" : Str) = _; decide +kernel)
  · have hr : rest = [.int a, .int b] := hr
    have hp : ps = [] := hp
    have hs : src = none := hs
    subst hr hp hs
    exact ⟨a, b, rfl⟩
  · exact absurd z (by show ¬ ("beat" : Str) = _; decide +kernel)
  · exact absurd z (by show ¬ ("beat" : Str) = _; decide +kernel)
  · exact absurd z (by show ¬ ("beat" : Str) = _; decide +kernel)
  · exact absurd z (by show ¬ ("beat" : Str) ∈ opWords; decide +kernel)
theorem Gd.opq {B : Nat} {q : NQ} (h : Gd B q) (hw : q.1.w ∈ opWords) : q = (⟨q.1.w, q.1.k, q.1.cl, nums q.2.1⟩, q.2.1, none) := by
  obtain ⟨⟨w, k, cl, rest⟩, ps, src⟩ := q
  have hw : w ∈ opWords := hw
  have no : ∀ x ∈ lowW, ¬ x ∈ opWords := by decide +kernel
  have no : ∀ x, w = x → x ∈ lowW → False := fun x e m => no x m (e ▸ hw)
  rcases h.ok with ⟨z, _⟩ | ⟨z, _⟩ | ⟨z, _⟩ | ⟨z, _⟩ | ⟨z, _⟩ | ⟨_, hr, hs⟩
  · rcases z with z | z | z <;> exact (no _ z (by decide +kernel)).elim
  · exact (no _ z (by decide +kernel)).elim
  · exact (no _ z (by decide +kernel)).elim
  · exact (no _ z (by decide +kernel)).elim
  · exact (no _ z (by decide +kernel)).elim
  · have hr : rest = nums ps := hr
    have hs : src = none := hs
    subst hr hs
    rfl
theorem cut4h (a b c d : PyData) (r : List PyData) : cutP (a :: b :: c :: d :: r) none (some 4) = [a, b, c, d] := by
  unfold cutP
  rw [show (some (4 : Int)) = some (((4 : Nat) : Int)) from rfl, HT.sIx_nat, HT.sIx_none, List.length_cons, List.length_cons, List.length_cons, List.length_cons, Nat.min_eq_left (by omega)]
  rfl
theorem cutTl (ps : List Nat) : cutP (nums ps) (some 1) none = nums ps.tail := by
  cases ps with
  | nil => rfl
  | cons a l => exact cut1t _ _
def R_bent : PR := fun as C => ∃ (B : Nat) (N : List NQ) (n : Nat) (q : NQ), as = [.drw, .arg (nodesD N), .dat (.int (n : Int))] ∧ N[n]? = some q ∧ Gd B q ∧
  ∀ q' : NQ, Gd B q' → C (.dat q'.1.d) as
section
variable {P : Program} {w : World} {K : PySem.W.Frag} {mg : Str → Option Value} {base : Heap}
theorem okp_bent (T : Tx K mg w base) : FnOk P w K mg base CX0 9 T.f_bent T.fd_bent ["_law_d", "_law_nodes", "_law_n"] (spP K T.tbs 3 R_bent) := by
  refine okP T.F_bent sc_bent rfl fun cdv A outer s H E G hG hcd hr => ⟨_, (pss_consP (ps_setP (ps_set (i := 3) sc_bent.nd rfl (Or.inl rfl) (pe_ixP (pe_borP (pv 1)) (pe_borP (pv 2)) (fun _ _ => rfl) li_ix)))
      (pss_cutP (ps_setP (ps_set (i := 4) sc_bent.nd rfl (Or.inl rfl) (pe_dispP (pe_disp (pps_consP (pe_cP (d := .str "and") pe_str) (pe_cP (d := .str "or") pe_str) (pps_consP (pe_cP (d := .str "or") pe_str) (pe_cP (d := .str "xor") pe_str) (pps_consP (pe_cP (d := .str "xor") pe_str) (pe_cP (d := .str "and") pe_str) (pps_consP (pe_cP (d := .str "add") pe_str) (pe_cP (d := .str "sub") pe_str) (pps_consP (pe_cP (d := .str "sub") pe_str) (pe_cP (d := .str "add") pe_str) (pps_consP (pe_cP (d := .str "min") pe_str) (pe_cP (d := .str "max") pe_str) (pps_consP (pe_cP (d := .str "max") pe_str) (pe_cP (d := .str "min") pe_str) (pps_consP (pe_cP (d := .str "mul") pe_str) (pe_cP (d := .str "div") pe_str) (pps_consP (pe_cP (d := .str "div") pe_str) (pe_cP (d := .str "mul") pe_str) (pps_consP (pe_cP (d := .str "lt") pe_str) (pe_cP (d := .str "le") pe_str) (pps_consP (pe_cP (d := .str "le") pe_str) (pe_cP (d := .str "lt") pe_str) (pps_consP (pe_cP (d := .str "eq") pe_str) (pe_cP (d := .str "ne") pe_str) (pps_consP (pe_cP (d := .str "ne") pe_str) (pe_cP (d := .str "eq") pe_str) pps_nilP))))))))))))) (by rfl) (by rfl) (fun z => by cases z) (by decide)))))
      (pss_consP (ps_ifP (pt_cmpP (op_eqP hr.units) li_eq (pe_ixP (pe_borP (pv 3)) (pe_cP (d := .int 0) pe_int) (fun _ _ => rfl) li_ix) (pe_cP (d := .str "const") pe_str) (nomark _)) (pss_oneP (ps_retP (pe_opP op_addP li_add (pe_sliceP (pe_borP (pv 3)) po_noneP (po_someP (pe_cP (d := .int 3) pe_int))) (pe_tupP (pa_consP (pe_frzP (pe_callP hG (pe_call (okp_value T) (hr.mono (by decide)) rfl T.m_value T.F_value.kp T.b_value .nil pass0 (pa_consP (pe_borP (pv 0)) (pa_consP (pe_ixP (pe_borP (pv 3)) (pe_cP (d := .int 1) pe_int) (fun _ _ => rfl) li_ix) pa_nilP))))) pa_nilP))))) pss_nilP)
      (pss_consP (ps_ifP (PW.pt (pw_andP (pt_cmpP (op_eqP hr.units) li_eq (pe_ixP (pe_borP (pv 3)) (pe_cP (d := .int 0) pe_int) (fun _ _ => rfl) li_ix) (pe_cP (d := .str "delay") pe_str) (nomark _)) (pw_and1P (pt_cmpP (op_eqP hr.units) li_eq (pe_callP hG (pe_call (okp_draw T) (hr.mono (by decide)) rfl T.m_draw T.F_draw.kp T.b_draw .nil pass0 (pa_consP (pe_borP (pv 0)) (pa_consP (pe_cP (d := .int 2) pe_int) pa_nilP)))) (pe_cP (d := .int 1) pe_int) (nomark _))))) (pss_oneP (ps_retP (pe_opP op_addP li_add (pe_sliceP (pe_borP (pv 3)) po_noneP (po_someP (pe_cP (d := .int 5) pe_int))) (pe_tupP (pa_consP (pe_frzP (pe_sliceP (pe_ixP (pe_borP (pv 3)) (pe_cP (d := .int 5) pe_int) (fun _ _ => rfl) li_ix) (po_someP (pe_cP (d := .int 1) pe_int)) po_noneP)) pa_nilP))))) pss_nilP)
      (pss_consP (ps_ifP (pt_cmpP (op_eqP hr.units) li_eq (pe_ixP (pe_borP (pv 3)) (pe_cP (d := .int 0) pe_int) (fun _ _ => rfl) li_ix) (pe_cP (d := .str "delay") pe_str) (nomark _)) (pss_oneP (ps_retP (pe_opP op_addP li_add (pe_opP op_addP li_add (pe_sliceP (pe_borP (pv 3)) po_noneP (po_someP (pe_cP (d := .int 3) pe_int))) (pe_tupP (pa_consP (pe_frzP (pe_callP hG (pe_call (okp_value T) (hr.mono (by decide)) rfl T.m_value T.F_value.kp T.b_value .nil pass0 (pa_consP (pe_borP (pv 0)) (pa_consP (pe_ixP (pe_borP (pv 3)) (pe_cP (d := .int 1) pe_int) (fun _ _ => rfl) li_ix) pa_nilP))))) pa_nilP))) (pe_sliceP (pe_borP (pv 3)) (po_someP (pe_cP (d := .int 4) pe_int)) po_noneP)))) pss_nilP)
      (pss_consP (ps_ifP (pt_cmpP (op_eqP hr.units) li_eq (pe_ixP (pe_borP (pv 3)) (pe_cP (d := .int 0) pe_int) (fun _ _ => rfl) li_ix) (pe_cP (d := .str "beat") pe_str) (nomark _)) (pss_consP (ps_setP (ps_set (i := 5) sc_bent.nd rfl (Or.inl rfl) (pe_opP op_addP li_add (pe_cP (d := .int 1) pe_int) (pe_callP hG (pe_call (okp_draw T) (hr.mono (by decide)) rfl T.m_draw T.F_draw.kp T.b_draw .nil pass0 (pa_consP (pe_borP (pv 0)) (pa_consP (pe_cP (d := .int 3) pe_int) pa_nilP)))))))
      (pss_oneP (ps_retP (pe_opP op_addP li_add (pe_sliceP (pe_borP (pv 3)) po_noneP (po_someP (pe_cP (d := .int 3) pe_int))) (pe_tupP (pa_consP (pe_varP (pv 5)) (pa_consP (pe_frzP (pe_callP hG (pe_call (okp_draw T) (hr.mono (by decide)) rfl T.m_draw T.F_draw.kp T.b_draw .nil pass0 (pa_consP (pe_borP (pv 0)) (pa_consP (pe_borP (pv 5)) pa_nilP))))) pa_nilP))))))) pss_nilP)
      (pss_consP (ps_ifP (pt_cmpP (op_eqP hr.units) li_eq (pe_ixP (pe_borP (pv 3)) (pe_cP (d := .int 0) pe_int) (fun _ _ => rfl) li_ix) (pe_cP (d := .str "pick") pe_str) (nomark _)) (pss_oneP (ps_retP (pe_opP op_addP li_add (pe_sliceP (pe_borP (pv 3)) po_noneP (po_someP (pe_cP (d := .int 4) pe_int))) (pe_tupP (pa_consP (pe_ixP (pe_borP (pv 3)) (pe_cP (d := .int 5) pe_int) (fun _ _ => rfl) li_ix) (pa_consP (pe_ixP (pe_borP (pv 3)) (pe_cP (d := .int 4) pe_int) (fun _ _ => rfl) li_ix) pa_nilP)))))) pss_nilP)
      (pss_consP (ps_ifP (PW.pt (pw_andP (pt_dinP (pt_cmp (pc_din (hu_of hr) (pe_ixP (pe_borP (pv 3)) (pe_cP (d := .int 0) pe_int) (fun _ _ => rfl) li_ix) (pe_borP (pv 4))))) (pw_and1P (pt_cmpP (op_eqP hr.units) li_eq (pe_callP hG (pe_call (okp_draw T) (hr.mono (by decide)) rfl T.m_draw T.F_draw.kp T.b_draw .nil pass0 (pa_consP (pe_borP (pv 0)) (pa_consP (pe_cP (d := .int 2) pe_int) pa_nilP)))) (pe_cP (d := .int 1) pe_int) (nomark _))))) (pss_oneP (ps_retP (pe_opP op_addP li_add (pe_tupP (pa_consP (pe_dgetP (pe_dget (hu_of hr) (pe_borP (pv 4)) (pe_ixP (pe_borP (pv 3)) (pe_cP (d := .int 0) pe_int) (fun _ _ => rfl) li_ix) (fun _ _ => rfl))) pa_nilP)) (pe_sliceP (pe_borP (pv 3)) (po_someP (pe_cP (d := .int 1) pe_int)) po_noneP)))) pss_nilP)
      (pss_consP (ps_ifP (pt_dinP (pt_cmp (pc_din (hu_of hr) (pe_ixP (pe_borP (pv 3)) (pe_cP (d := .int 0) pe_int) (fun _ _ => rfl) li_ix) (pe_borP (pv 4))))) (pss_oneP (ps_retP (pe_opP op_addP li_add (pe_sliceP (pe_borP (pv 3)) po_noneP (po_someP (pe_cP (d := .int 3) pe_int))) (pe_tupP (pa_consP (pe_ixP (pe_borP (pv 3)) (pe_cP (d := .int 4) pe_int) (fun _ _ => rfl) li_ix) (pa_consP (pe_ixP (pe_borP (pv 3)) (pe_cP (d := .int 3) pe_int) (fun _ _ => rfl) li_ix) pa_nilP)))))) pss_nilP)
      (pss_oneP (ps_retMvP (pv 3)))))))))))), fun as C hl h => ?_⟩
  obtain ⟨B, N, n, ⟨⟨nw, kd, cl, rest⟩, ps, src⟩, rfl, hq, g0, q⟩ := h
  refine ⟨_, atD n (nodesD_at hq), ?_⟩
  refine ⟨fun env => env = [.drw, .arg (nodesD N), .dat (.int (n : Int)), .dat (Nd.d ⟨nw, kd, cl, rest⟩), .dic turnsK, .no], ⟨by decide +kernel, Nat.le_of_ble_eq_true rfl, rfl⟩, ?_⟩
  rintro env rfl
  have gk : GK kd := g0.k
  have opT : ∀ x ∈ twoW, x ∈ opWords := by decide +kernel
  refine ⟨_, atD 0 rfl, IfP.both (fun h1 => ?_) fun h1 => ?_⟩
  · obtain ⟨x0, e⟩ := g0.const (of_decide_eq_true h1)
    cases e
    refine ⟨_, atD 1 rfl, kd, rfl, gk.1, fun dv ⟨pd, pe⟩ => ⟨szr, szle (Nat.le_of_ble_eq_true rfl), ?_⟩⟩
    have g1 : Gd B (⟨"const", kd, cl, [dv]⟩, [], none) := ⟨.inl ⟨.inr (.inr rfl), ⟨_, rfl⟩, rfl, rfl⟩, g0.cl, Nat.zero_le _, g0.need, (fun s e => nomatch e), gk, plain_nd (by decide +kernel) gk.2 (by show (plainD dv && true) = true; rw [pd]; rfl), .lit "const" rfl (by decide +kernel) (dpV (Nat.le_trans pe (by decide)))⟩
    exact q _ g1
  refine ⟨_, atD 0 rfl, IfP.both (fun h2 => ?_) fun h2 => .f rfl ⟨_, atD 0 rfl, IfP.both (fun h3 => absurd ((of_decide_eq_true h3 : nw = "delay")) (of_decide_eq_false h2)) fun h3 => ?_⟩⟩
  · obtain ⟨v, s, ps', e, _⟩ := g0.delay (of_decide_eq_true h2)
    cases e
    have sB := g0.src s rfl
    have pl : (PyData.strOk "delay" && (plainD kd && (plainAll (cl.map pairD) && (plainD v && (true && (plainAll (nums ps) && true)))))) = true := g0.pl
    have pv : plainD v = true := by
      rw [Bool.and_eq_true, Bool.and_eq_true, Bool.and_eq_true, Bool.and_eq_true] at pl
      exact pl.2.2.2.1
    have mk : ∀ (dv : PyData) (rs : List Nat), plainD dv = true → dv.depth ≤ 8 → rs.length ≤ 12 → (∀ u ∈ rs, u ∈ ps) → Gd B (⟨"delay", kd, cl, [dv, .int (s : Int), .tuple (nums rs)]⟩, rs, some s) := fun dv rs pd pe lr mr => ⟨.inr (.inr (.inr (.inr (.inl ⟨rfl, dv, s, rfl, rfl⟩)))), g0.cl, lr, fun u hu => (List.mem_append.mp hu).elim (fun hu => g0.need u (List.mem_append_left _ hu)) (fun hu => g0.need u (List.mem_append_right _ (mr u hu))), g0.src, gk, plain_nd (by decide +kernel) gk.2 (by show (plainD dv && (true && (plainAll (nums rs) && true))) = true; rw [pd, plain_nums]; rfl), .lit "delay" rfl (by decide +kernel) (dpD pe _ _)⟩
    have few : ps.length ≤ 12 := g0.few
    refine ⟨_, rfl, by decide, by decide, fun r r0 r1 => IfP.both (fun h3 => ?_) fun h3 => ?_⟩
    · refine ⟨_, atD 5 rfl, szr, szle (Nat.le_of_ble_eq_true rfl), ?_⟩
      have g1 := q _ (mk v ps.tail pv (g0.ar.2.2 v List.mem_cons_self) (by rw [List.length_tail]; omega) fun u hu => List.mem_of_mem_tail hu)
      have e : Nd.d ⟨"delay", kd, cl, [v, .int (s : Int), .tuple (nums ps.tail)]⟩ = .tuple [.str "delay", kd, clD cl, v, .int (s : Int), .tuple (cutP (nums ps) (some 1) none)] := by rw [cutTl]; rfl
      rw [e] at g1
      exact g1
    · refine ⟨_, atD 0 rfl, .t rfl ⟨_, atD 1 rfl, kd, rfl, gk.1, fun dv ⟨pd, pe⟩ => ⟨szr, szle (Nat.le_of_ble_eq_true rfl), szle (Nat.le_of_ble_eq_true rfl), ?_⟩⟩⟩
      exact q _ (mk dv ps pd (Nat.le_trans pe (by decide)) few fun u hu => hu)
  refine ⟨_, atD 0 rfl, IfP.both (fun h4 => ?_) fun h4 => ?_⟩
  · obtain ⟨a, b, e⟩ := g0.beat (of_decide_eq_true h4)
    cases e
    have mk : ∀ a b : Int, Gd B (⟨"beat", kd, cl, [.int a, .int b]⟩, [], none) := fun a b => ⟨.inr (.inl ⟨rfl, ⟨_, _, rfl⟩, rfl, rfl⟩), g0.cl, Nat.zero_le _, g0.need, (fun s e => nomatch e), gk, plain_nd (by decide +kernel) gk.2 rfl, .lit "beat" rfl (by decide +kernel)⟩
    refine ⟨_, rfl, by decide, by decide, fun r r0 r1 => ⟨_, rfl, by omega, by omega, fun r' r0' r1' => ⟨szr, szle (Nat.le_of_ble_eq_true rfl), ?_⟩⟩⟩
    exact q _ (mk (1 + r) r')
  refine ⟨_, atD 0 rfl, IfP.both (fun h5 => ?_) fun h5 => ?_⟩
  · have hw : nw = "pick" := of_decide_eq_true h5
    have ow : nw ∈ opWords := by rw [hw]; decide +kernel
    have e := g0.opq ow
    have l3 : 3 ≤ ps.length := g0.ar.2.1 hw
    have er : rest = nums ps := congrArg (fun q : NQ => q.1.rest) e
    have es : src = none := congrArg (fun q : NQ => q.2.2) e
    clear e
    subst er es
    match ps, l3 with
    | a :: b :: c :: more, _ => ?_
    have mps : ∀ u ∈ a :: b :: c :: more, u < B := fun u hu => g0.need u (List.mem_append_right _ hu)
    have g1 := q _ (g0.op (w' := nw) (ps' := [a, c, b]) ow (Nat.le_of_ble_eq_true rfl) (fun u hu => mps u (by
      simp only [List.mem_cons, List.not_mem_nil, or_false] at hu ⊢
      rcases hu with h | h | h
      · exact .inl h
      · exact .inr (.inr (.inl h))
      · exact .inr (.inl h))) ⟨fun _ => Nat.le_of_ble_eq_true rfl, fun _ => Nat.le_of_ble_eq_true rfl, dpI _⟩)
    have e4 : cutP (.str nw :: kd :: clD cl :: .int (a : Int) :: .int (b : Int) :: .int (c : Int) :: nums more) none (some 4) = [.str nw, kd, clD cl, .int (a : Int)] := cut4h _ _ _ _ _
    have e5 : (PyData.tuple (cutP (.str nw :: kd :: clD cl :: .int (a : Int) :: .int (b : Int) :: .int (c : Int) :: nums more) none (some 4) ++ [.int (c : Int), .int (b : Int)])) = Nd.d ⟨nw, kd, cl, nums [a, c, b]⟩ := by rw [e4]; rfl
    refine ⟨_, atD 5 rfl, _, atD 4 rfl, szr, szle ?_, ?_⟩
    · show (cutP (.str nw :: kd :: clD cl :: .int (a : Int) :: .int (b : Int) :: .int (c : Int) :: nums more) none (some 4)).length + _ ≤ _
      rw [e4]
      exact Nat.le_of_ble_eq_true rfl
    · have g1 : C (.dat (Nd.d ⟨nw, kd, cl, nums [a, c, b]⟩)) _ := g1
      rw [← e5] at g1
      exact g1
  have swap : nw ∈ twoW → ∃ (a b : Nat) (more : List Nat), ps = a :: b :: more ∧ rest = nums ps ∧ src = none := fun hm => by
    have l2 : 2 ≤ ps.length := g0.ar.1 hm
    have e := g0.opq (opT nw hm)
    have er : rest = nums ps := congrArg (fun q : NQ => q.1.rest) e
    have es : src = none := congrArg (fun q : NQ => q.2.2) e
    match ps, l2, er with
    | a :: b :: more, _, er => exact ⟨a, b, more, rfl, er, es⟩
  have fl : nw ∈ twoW → ∃ (a b : Nat) (more : List Nat), ps = a :: b :: more ∧ rest = nums ps ∧ Gd B (⟨nw, kd, cl, nums [b, a]⟩, [b, a], none) ∧ ∀ v, v ∈ twoW → Gd B (⟨v, kd, cl, nums ps⟩, ps, none) := fun hm => by
    obtain ⟨a, b, more, e1, e2, e3⟩ := swap hm
    have few : ps.length ≤ 12 := g0.few
    have mps : ∀ u ∈ ps, u < B := fun u hu => g0.need u (List.mem_append_right _ hu)
    have np : ∀ x ∈ twoW, ¬ x = "pick" := by decide +kernel
    refine ⟨a, b, more, e1, e2, g0.op (w' := nw) (ps' := [b, a]) (opT nw hm) (Nat.le_of_ble_eq_true rfl) (fun u hu => mps u ?_) ⟨fun _ => Nat.le_of_ble_eq_true rfl, fun z => absurd z (np nw hm), dpI _⟩, fun v hv => g0.op (w' := v) (ps' := ps) (opT v hv) few mps ⟨fun _ => g0.ar.1 hm, fun z => absurd z (np v hv), dpI _⟩⟩
    rw [e1]
    simp only [List.mem_cons, List.not_mem_nil, or_false] at hu ⊢
    exact hu.elim (fun h => .inr (.inl h)) .inl
  refine ⟨_, atD 0 rfl, IfP.as (turn_in nw) (IfP.both (fun h6 => ?_) fun h6 => .f rfl ⟨_, atD 0 rfl, IfP.as (turn_in nw) (.f h6 (q _ g0))⟩)⟩
  have hm : nw ∈ twoW := of_decide_eq_true h6
  obtain ⟨a, b, more, e1, e2, gs, gt⟩ := fl hm
  refine ⟨_, rfl, by decide, by decide, fun r r0 r1 => IfP.both (fun h7 => ?_) fun h7 => ?_⟩
  · obtain ⟨v, hv, ev⟩ := turn_get hm
    have g1 := q _ (gt v hv)
    have few : ps.length ≤ 12 := g0.few
    have ln := nums_len ps
    subst e2
    have c1 : cutP (.str nw :: kd :: clD cl :: nums ps) (some 1) none = kd :: clD cl :: nums ps := cut1t _ _
    have c2 : (PyData.tuple ([PyData.str v] ++ cutP (.str nw :: kd :: clD cl :: nums ps) (some 1) none)) = Nd.d ⟨v, kd, cl, nums ps⟩ := by rw [c1]; rfl
    refine ⟨_, atD 0 rfl, _, ev, szr, szle ?_, ?_⟩
    · show 1 + (cutP (.str nw :: kd :: clD cl :: nums ps) (some 1) none).length ≤ _
      rw [c1]
      show 1 + ((nums ps).length + 2) ≤ _
      omega
    · have g1 : C (.dat (Nd.d ⟨v, kd, cl, nums ps⟩)) _ := g1
      rw [← c2] at g1
      exact g1
  · refine ⟨_, atD 0 rfl, IfP.as (turn_in nw) (.t h6 ?_)⟩
    have g1 : C (.dat (Nd.d ⟨nw, kd, cl, nums [b, a]⟩)) _ := q _ gs
    subst e2
    subst e1
    have c1 : cutP (.str nw :: kd :: clD cl :: nums (a :: b :: more)) none (some 3) = [.str nw, kd, clD cl] := cutH3 _ _ _ _
    have c2 : (PyData.tuple (cutP (.str nw :: kd :: clD cl :: nums (a :: b :: more)) none (some 3) ++ [.int (b : Int), .int (a : Int)])) = Nd.d ⟨nw, kd, cl, nums [b, a]⟩ := by rw [c1]; rfl
    refine ⟨_, atD 4 rfl, _, atD 3 rfl, szr, szle ?_, ?_⟩
    · show (cutP (.str nw :: kd :: clD cl :: nums (a :: b :: more)) none (some 3)).length + _ ≤ _
      rw [c1]
      exact Nat.le_of_ble_eq_true rfl
    · rw [← c2] at g1
      exact g1
end

/-! ### flows of good nodes -/
structure FlowG (N : List NQ) (o1 o2 o3 : List (Str × Nat)) : Prop where
  node : AllG N.length N
  len : N.length ≤ 90
  pos : 1 ≤ N.length
  l1 : o1.length ≤ 10
  l2 : o2.length ≤ 10
  l3 : o3.length ≤ 10
  sh : ∀ p ∈ o1 ++ o2 ++ o3, p.2 < N.length
theorem nodes_at {P : Nat → NQ → Prop} : ∀ {xs : List PyData}, (∀ (v : Nat) (d : PyData), xs[v]? = some d → ∃ q : NQ, d = q.1.d ∧ P v q) → ∃ N : List NQ, xs = nodesD N ∧ ∀ (v : Nat) (q : NQ), N[v]? = some q → P v q := fun {xs} h => by
  induction xs generalizing P with
  | nil => exact ⟨[], rfl, fun v q e => by cases e⟩
  | cons d xs ih =>
    obtain ⟨q, rfl, hq⟩ := h 0 d rfl
    obtain ⟨N, e, hN⟩ := ih (P := fun v => P (v + 1)) fun v d' hd => h (v + 1) d' hd
    refine ⟨q :: N, by rw [e]; rfl, fun v q' hv => ?_⟩
    cases v with
    | zero => cases hv; exact hq
    | succ v => exact hN v q' hv
def natOf : PyData → Nat
  | .int i => i.toNat
  | _ => 0
theorem perm_nums {out : List PyData} {l : List Nat} (h : out.Perm (nums l)) : ∃ g : List Nat, out = nums g ∧ g.Perm l := by
  have e : ∀ l : List Nat, (nums l).map natOf = l := fun l => by
    unfold nums
    rw [List.map_map]
    exact (List.map_congr_left (g := id) fun a _ => rfl).trans (List.map_id _)
  refine ⟨out.map natOf, ?_, by have := h.map natOf; rwa [e] at this⟩
  unfold nums
  rw [List.map_map]
  refine (List.map_id _).symm.trans (List.map_congr_left fun d hd => ?_)
  obtain ⟨v, _, rfl⟩ := List.mem_map.mp (h.mem_iff.mp hd)
  rfl
def R_closed_flow : PR := fun as C => ∃ (ins : List PyData) (N : List NQ) (ns : List Str), as = [.drw, .dat (.list ins), .dat (.list (nodesD N)), .arg (ns.map PyData.str)] ∧ ins.length ≤ 10 ∧ AllG N.length N ∧ 1 ≤ N.length ∧ N.length ≤ 90 ∧ 10 ≤ ns.length ∧ ns.length ≤ 200 ∧ (∀ n ∈ ns, PyData.strOk n = true) ∧
  ∀ (N' : List NQ) (o1 o2 o3 : List (Str × Nat)) (ns' : List Str), FlowG N' o1 o2 o3 → N'.length = N.length → C (.dat (flowD ins N' o1 o2 o3)) [.drw, .dat (.list ins), .dat (.list (nodesD N)), .arg (ns'.map PyData.str)]
section
variable {P : Program} {w : World} {K : PySem.W.Frag} {mg : Str → Option Value} {base : Heap}
theorem okp_closed_flow (T : Tx K mg w base) : FnOk P w K mg base CX0 5 T.f_closed_flow T.fd_closed_flow ["_law_d", "_law_inputs", "_law_nodes", "_law_pool_here"] (spP K T.tbs 4 R_closed_flow) := by
  refine okP T.F_closed_flow sc_closed_flow rfl fun cdv A outer s H E G hG hcd hr => ⟨_, (pss_cutP (ps_setP (ps_set (i := 4) sc_closed_flow.nd rfl (Or.inl rfl) (pe_frzP (pe_ifP (pt_cmpP (op_eqP hr.units) li_eq (pe_callP hG (pe_call (okp_draw T) (hr.mono (by decide)) rfl T.m_draw T.F_draw.kp T.b_draw .nil pass0 (pa_consP (pe_borP (pv 0)) (pa_consP (pe_cP (d := .int 2) pe_int) pa_nilP)))) (pe_cP (d := .int 0) pe_int) (nomark _)) (pe_callP hG (pe_call (okp_shuffled T) (hr.mono (by decide)) rfl T.m_shuffled T.F_shuffled.kp T.b_shuffled .nil pass0 (pa_consP (pe_borP (pv 0)) (pa_consP (pe_lstR1P (pe_listRg rfl (by rfl) T.z_list (prg_1 (by rfl) T.z_range (pe_cbP lc_len (pe_callB call_lenP (by rfl) T.z_len (by decide +kernel) (pa_consP (pe_borP (pv 2)) pa_nilP)))))) pa_nilP)))) (pe_lstR1P (pe_listRg rfl (by rfl) T.z_list (prg_1 (by rfl) T.z_range (pe_cbP lc_len (pe_callB call_lenP (by rfl) T.z_len (by decide +kernel) (pa_consP (pe_borP (pv 2)) pa_nilP))))))))))
      (pss_cutP (ps_setP (ps_set (i := 5) sc_closed_flow.nd rfl (Or.inr rfl) (pe_lcP (vs := [11]) (pe_lc (own := [("_law_node", 11)]) rfl sc_closed_flow.nd (pi_itemsP (pe_varP (pv 2))) (blkOk_by (N := ["_law_d", "_law_inputs", "_law_nodes", "_law_pool_here", "_law_goal", "_law_found", "_law_number", "_law_bools", "_law_rows", "_law_step", "_law_way", "_law_node"]) (sc := defScope s_closed_flow) (by decide +kernel)) (fun _ _ _ _ _ => (pg_compP (vs := [11]) (pg_name (i := 11) sc_closed_flow.nd rfl (Or.inl rfl)))) (fun _ _ _ _ _ => pts_nilP) (fun _ _ _ _ _ => (pe_cP (d := .none) pe_non))))))
      (pss_consP (ps_forP (ps_for PassesOwn.never rfl (pi_range1P (pi_range1 (by rfl) T.z_range (pa_consP (pe_cbP lc_len (pe_callB call_lenP (by rfl) T.z_len (by decide +kernel) (pa_consP (pe_borP (pv 2)) pa_nilP))) pa_nilP))) (pg_nameP (pg_name (i := 6) sc_closed_flow.nd rfl (Or.inl rfl)))
      (pss_oneP (ps_setIxP (ps_asg (pe_frzP (pe_callP hG (pe_call (okp_renumbered T) (hr.mono (by decide)) rfl T.m_renumbered T.F_renumbered.kp T.b_renumbered .nil pass0 (pa_consP (pe_ixP (pe_borP (pv 2)) (pe_borP (pv 6)) (fun _ _ => rfl) li_ix) (pa_consP (pe_varP (pv 4)) pa_nilP))))) (pg_sub (pe_borP (pv 5)) (pe_ixP (pe_borP (pv 4)) (pe_borP (pv 6)) (fun _ _ => rfl) li_ix) set_list))))))
      (pss_cutP (ps_setLcP (i := 7) (vs := [6]) (ps_setLc (i := 7) (own := [("_law_number", 6)]) rfl sc_closed_flow.nd rfl rfl (sw_true rfl rfl rfl (by decide +kernel)) (pi_range1P (pi_range1 (by rfl) T.z_range (pa_consP (pe_cbP lc_len (pe_callB call_lenP (by rfl) T.z_len (by decide +kernel) (pa_consP (pe_borP (pv 5)) pa_nilP))) pa_nilP))) (blkOk_by (N := ["_law_d", "_law_inputs", "_law_nodes", "_law_pool_here", "_law_goal", "_law_found", "_law_number", "_law_bools", "_law_rows", "_law_step", "_law_way", "_law_node"]) (sc := defScope s_closed_flow) (by decide +kernel)) (fun _ _ _ _ _ => (pg_compP (vs := [6]) (pg_name (i := 6) sc_closed_flow.nd rfl (Or.inl rfl)))) (fun _ _ _ _ _ => (pts_one (pt_cmpP (op_eqP hr.units) li_eq (pe_ixP (pe_ixP (pe_borP (pv 5)) (pe_borP (pv 6)) (fun _ _ => rfl) li_ix) (pe_cP (d := .int 1) pe_int) (fun _ _ => rfl) li_ix) (pe_tupP (pa_consP (pe_cP (d := .str "bool") pe_str) pa_nilP)) (nomark _)))) (fun _ _ _ _ _ => (pe_varP (pv 6)))))
      (pss_consP (ps_setP (ps_set (i := 8) sc_closed_flow.nd rfl (Or.inl rfl) (pe_boxP (pa_consP (pe_lstP pa_nilP) (pa_consP (pe_lstP pa_nilP) (pa_consP (pe_lstP pa_nilP) pa_nilP))))))
      (pss_consP (ps_forP (ps_for PassesOwn.never rfl (pi_range1P (pi_range1 (by rfl) T.z_range (pa_consP (pe_opP op_addP li_add (pe_cP (d := .int 1) pe_int) (pe_callP hG (pe_call (okp_draw T) (hr.mono (by decide)) rfl T.m_draw T.F_draw.kp T.b_draw .nil pass0 (pa_consP (pe_borP (pv 0)) (pa_consP (pe_cP (d := .int 3) pe_int) pa_nilP))))) pa_nilP))) (pg_nameP (pg_name (i := 9) sc_closed_flow.nd rfl (Or.inl rfl)))
      (pss_oneP (ps_dropP (pe_appSP (pe_bm PySem.F.plainAttrs_list PySem.F.slot_list_append PySem.F.type_list_append mt_append (pe_ixBP (pe_borP (pv 8)) (pe_cP (d := .int 0) pe_int) (fun _ _ => rfl)) (pa_consP (pe_tupP (pa_consP (pe_frzP (pe_callP hG (pe_call (okp_pop T) (hr.mono (by decide)) rfl T.m_pop T.F_pop.kp T.b_pop .nil pass0 (pa_consP (pe_borP (pv 0)) (pa_consP (pe_borP (pv 3)) pa_nilP))))) (pa_consP (pe_ixP (pe_borP (pv 4)) (pe_opP op_sub li_sub (pe_opP op_sub li_sub (pe_cbP lc_len (pe_callB call_lenP (by rfl) T.z_len (by decide +kernel) (pa_consP (pe_borP (pv 2)) pa_nilP))) (pe_cP (d := .int 1) pe_int)) (pe_callP hG (pe_call (okp_draw T) (hr.mono (by decide)) rfl T.m_draw T.F_draw.kp T.b_draw .nil pass0 (pa_consP (pe_borP (pv 0)) (pa_consP (pe_cbP lc_min (pe_callB (call_minP rfl) (by rfl) T.z_min (by decide +kernel) (pa_consP (pe_cbP lc_len (pe_callB call_lenP (by rfl) T.z_len (by decide +kernel) (pa_consP (pe_borP (pv 2)) pa_nilP))) (pa_consP (pe_cP (d := .int 6) pe_int) pa_nilP)))) pa_nilP))))) (fun _ _ => rfl) li_ix) pa_nilP))) pa_nilP)))))))
      (pss_consP (ps_forP (ps_for PassesOwn.never rfl (pi_itemsP (pe_tupP (pa_consP (pe_cP (d := .int 1) pe_int) (pa_consP (pe_cP (d := .int 2) pe_int) pa_nilP)))) (pg_nameP (pg_name (i := 10) sc_closed_flow.nd rfl (Or.inl rfl)))
      (pss_oneP (ps_forP (ps_for PassesOwn.never rfl (pi_range1P (pi_range1 (by rfl) T.z_range (pa_consP (pe_ixP (pe_lstP (pa_consP (pe_cP (d := .int 0) pe_int) (pa_consP (pe_cP (d := .int 1) pe_int) (pa_consP (pe_cP (d := .int 1) pe_int) pa_nilP)))) (pe_callP hG (pe_call (okp_draw T) (hr.mono (by decide)) rfl T.m_draw T.F_draw.kp T.b_draw .nil pass0 (pa_consP (pe_borP (pv 0)) (pa_consP (pe_cP (d := .int 3) pe_int) pa_nilP)))) (fun _ _ => rfl) li_ix) pa_nilP))) (pg_nameP (pg_name (i := 9) sc_closed_flow.nd rfl (Or.inl rfl)))
      (pss_oneP (ps_ifP (pt_truP (pe_borP (pv 7))) (pss_oneP (ps_dropP (pe_appSP (pe_bm PySem.F.plainAttrs_list PySem.F.slot_list_append PySem.F.type_list_append mt_append (pe_ixBP (pe_borP (pv 8)) (pe_borP (pv 10)) (fun _ _ => rfl)) (pa_consP (pe_tupP (pa_consP (pe_frzP (pe_callP hG (pe_call (okp_pop T) (hr.mono (by decide)) rfl T.m_pop T.F_pop.kp T.b_pop .nil pass0 (pa_consP (pe_borP (pv 0)) (pa_consP (pe_borP (pv 3)) pa_nilP))))) (pa_consP (pe_frzP (pe_callP hG (pe_call (okp_pick T) (hr.mono (by decide)) rfl T.m_pick T.F_pick.kp T.b_pick .nil pass0 (pa_consP (pe_borP (pv 0)) (pa_consP (pe_borP (pv 7)) pa_nilP))))) pa_nilP))) pa_nilP))))) pss_nilP)))))))
      (pss_oneP (ps_retP (pe_tupP (pa_consP (pe_cP (d := .str "flow") pe_str) (pa_consP (pe_frzP (pe_cbP lc_tup (pe_callTy (show CallR _ (.type "tuple") (rTupOf K) from call_tup) (by rfl) T.z_tuple (by decide +kernel) (pa_consP (pe_borP (pv 1)) pa_nilP)))) (pa_consP (pe_frzP (pe_cbP lc_tup (pe_callTy (show CallR _ (.type "tuple") (rTupOf K) from call_tup) (by rfl) T.z_tuple (by decide +kernel) (pa_consP (pe_borP (pv 5)) pa_nilP)))) (pa_consP (pe_frzP (pe_cbP lc_tup (pe_callTy (show CallR _ (.type "tuple") (rTupOf K) from call_tup) (by rfl) T.z_tuple (by decide +kernel) (pa_consP (pe_ixP (pe_varP (pv 8)) (pe_cP (d := .int 0) pe_int) (fun _ _ => rfl) li_ix) pa_nilP)))) (pa_consP (pe_frzP (pe_cbP lc_tup (pe_callTy (show CallR _ (.type "tuple") (rTupOf K) from call_tup) (by rfl) T.z_tuple (by decide +kernel) (pa_consP (pe_ixP (pe_varP (pv 8)) (pe_cP (d := .int 1) pe_int) (fun _ _ => rfl) li_ix) pa_nilP)))) (pa_consP (pe_frzP (pe_cbP lc_tup (pe_callTy (show CallR _ (.type "tuple") (rTupOf K) from call_tup) (by rfl) T.z_tuple (by decide +kernel) (pa_consP (pe_ixP (pe_varP (pv 8)) (pe_cP (d := .int 2) pe_int) (fun _ _ => rfl) li_ix) pa_nilP)))) pa_nilP)))))))))))))))), fun as C hl h => ?_⟩
  obtain ⟨ins, N, ns, rfl, li, no, n1, lN, n10, n200, ok, q⟩ := h
  have lD := nodesD_len N
  refine ⟨fun env => ∃ g : List Nat, g.Perm (List.range N.length) ∧ env = [.drw, .dat (.list ins), .dat (.list (nodesD N)), .arg (ns.map PyData.str), .dat (.list (nums g)), .no, .no, .no, .no, .no, .no, .no], ?_, ?_⟩
  · refine ⟨_, rfl, by decide, by decide, fun r r0 r1 => IfP.both (fun h1 => ?_) fun h1 => ?_⟩
    · refine ⟨by unfold RgOk; omega, ?_⟩
      rw [lD, rangeN]
      refine ⟨nums (List.range N.length), rfl, by rw [nums_len, List.length_range]; omega, fun out perm => ?_⟩
      obtain ⟨g, rfl, pg⟩ := perm_nums perm
      exact ⟨g, pg, rfl⟩
    · refine ⟨by unfold RgOk; omega, ?_⟩
      rw [lD, rangeN]
      exact ⟨List.range N.length, List.Perm.refl _, rfl⟩
  rintro env ⟨g, pg, rfl⟩
  have lg : g.length = N.length := by rw [pg.length_eq, List.length_range]
  have lng := nums_len g
  have mg' : ∀ v, v ∈ g ↔ v < N.length := fun v => by rw [pg.mem_iff, List.mem_range]
  have ndg : g.Nodup := pg.nodup_iff.mpr List.nodup_range
  obtain ⟨f, hf⟩ : ∃ f : Nat → Nat, ∀ u, u < N.length → g[u]? = some (f u) := ⟨fun u => (g[u]?).getD 0, fun u hu => by show g[u]? = some ((g[u]?).getD 0); rw [List.getElem?_eq_getElem (show u < g.length by omega)]; rfl⟩
  have mf : ∀ u, u < N.length → f u < N.length := fun u hu => (mg' _).mp (List.mem_of_getElem? (hf u hu))
  refine ⟨fun env => env = [.drw, .dat (.list ins), .dat (.list (nodesD N)), .arg (ns.map PyData.str), .dat (.list (nums g)), .own (N.map fun _ => .none), .no, .no, .no, .no, .no, .no], ?_, ?_⟩
  · show LcOk (nodesD N) _ _ _ _ _ _
    refine lc_mapP (l := N) (e := fun q => q.1.d) (fun _ => .none) (szl (by omega)) (fun j a ha Q k => .t rfl k) rfl
  rintro env rfl
  refine ⟨by omega, by omega, ?_⟩
  rw [lD, rangeN]
  refine ⟨fun i env => ∃ (xs : List PyData) (c6 : Cel), (c6 = .no ∨ ∃ k : Int, c6 = .dat (.int k)) ∧ xs.length = N.length ∧ (∀ k v, k < i → g[k]? = some v → ∃ q : NQ, xs[v]? = some q.1.d ∧ Gd N.length q) ∧ env = [.drw, .dat (.list ins), .dat (.list (nodesD N)), .arg (ns.map PyData.str), .dat (.list (nums g)), .own xs, c6, .no, .no, .no, .no, .no], ⟨_, _, .inl rfl, List.length_map _, (fun k v h => absurd h (Nat.not_lt_zero _)), rfl⟩, ?_, ?_⟩
  · rintro i x env hi ⟨xs, c6, _, lx, hx, rfl⟩
    obtain ⟨j, hj, rfl⟩ := nums_at' hi
    have hj' := (List.getElem?_eq_some_iff.mp hj).1
    rw [List.length_range] at hj'
    rw [List.getElem?_range hj'] at hj
    cases hj
    have iN : i < N.length := by omega
    have hq := List.getElem?_eq_getElem iN
    generalize N[i] = q0 at hq
    have k0 := no _ (List.mem_of_getElem? hq)
    refine ⟨_, atD i (nodesD_at hq), N.length, q0, g, rfl, k0, by omega, by omega, ?_⟩
    have gn : Gd N.length (ren (nth g) q0) := k0.numb fun u hu => by
      have e1 := hf u hu
      have e2 := nth_at (sw := g) (u := u) (by omega)
      have := Option.some.inj (e1.symm.trans e2)
      rw [← this]
      exact mf u hu
    generalize ren (nth g) q0 = r at gn
    have hfi := mf i iN
    refine ⟨_, atD i (nums_at (hf i iN)), f i, ixN_nat (by omega), xs.set (f i) r.1.d, .dat (.int (i : Int)), .inr ⟨_, rfl⟩, by rw [List.length_set]; exact lx, fun k v hk hv => ?_, rfl⟩
    by_cases e : v = f i
    · subst e
      exact ⟨r, List.getElem?_set_self (by omega), gn⟩
    · have : k < i := by
        rcases Nat.lt_succ_iff_lt_or_eq.mp hk with h | rfl
        · exact h
        · rw [hf k iN] at hv
          exact absurd (Option.some.inj hv).symm e
      obtain ⟨q', h1, h2⟩ := hx k v this hv
      exact ⟨q', by rw [List.getElem?_set_ne (fun z => e z.symm)]; exact h1, h2⟩
  rintro env ⟨xs, c6, h6, lx, hx, rfl⟩
  rw [nums_len, List.length_range] at hx
  obtain ⟨N', rfl, hN'⟩ : ∃ N' : List NQ, xs = nodesD N' ∧ ∀ (v : Nat) (q : NQ), N'[v]? = some q → Gd N.length q := by
    refine nodes_at fun v d hd => ?_
    have hv := (List.getElem?_eq_some_iff.mp hd).1
    obtain ⟨k, hk, ek⟩ := List.mem_iff_getElem.mp ((mg' v).mpr (by omega))
    obtain ⟨q', h1, h2⟩ := hx k v (by omega) (by rw [List.getElem?_eq_getElem hk, ek])
    rw [hd] at h1
    exact ⟨q', Option.some.inj h1, h2⟩
  have lN' : N'.length = N.length := by rw [← nodesD_len N']; exact lx
  clear hx
  have lD' := nodesD_len N'
  refine ⟨fun env => ∃ tr : List Nat, tr.length ≤ N'.length ∧ (∀ v ∈ tr, v < N'.length) ∧ env = [.drw, .dat (.list ins), .dat (.list (nodesD N)), .arg (ns.map PyData.str), .dat (.list (nums g)), .own (nodesD N'), .no, .own (nums tr), .no, .no, .no, .no], ?_, ?_⟩
  · refine ⟨by omega, by omega, ?_⟩
    rw [lD', rangeN]
    refine lc_numsP (l := List.range N'.length) (atN N' fun r => PyData.eqv r.1.k truthD) (szl (by rw [List.length_range]; omega)) (fun j b hb Q k1 k2 => ?_) ⟨_, Nat.le_trans (List.length_filter_le _ _) (by rw [List.length_range]; exact Nat.le_refl _), (fun v hv => List.mem_range.mp (List.mem_filter.mp hv).1), rfl⟩ (by rcases h6 with rfl | ⟨_, rfl⟩ <;> rfl)
    have hi := (List.getElem?_eq_some_iff.mp hb).1
    rw [List.length_range] at hi
    rw [List.getElem?_range hi] at hb
    cases hb
    have hj := List.getElem?_eq_getElem hi
    generalize N'[j] = r at hj
    rw [atN_some hj] at k1 k2
    have g0 := (hN' j r hj).k
    obtain ⟨⟨w1, kd, cl, rest⟩, ps, src⟩ := r
    obtain ⟨s, t, ek⟩ := g0.head
    have ek : kd = .tuple (.str s :: t) := ek
    subst ek
    exact ⟨_, atD j (nodesD_at hj), _, atD 1 rfl, szr, g0.shaped, truth_gk.shaped, IfP.both k1 k2⟩
  rintro env ⟨tr, lt, mt, rfl⟩
  have ltr := nums_len tr
  refine ⟨szr, szr, szr, szr, _, rfl, by decide, by decide, fun r r0 r1 => ⟨by omega, by omega, ?_⟩⟩
  obtain ⟨k, ek, k3⟩ : ∃ k : Nat, 1 + r = (k : Int) ∧ k ≤ 3 := ⟨(1 + r).toNat, by omega, by omega⟩
  rw [ek, rangeN]
  refine ⟨fun i env => ∃ (ns' : List Str) (o1 : List (Str × Nat)) (c9 : Cel), ns'.length + i = ns.length ∧ (∀ n ∈ ns', PyData.strOk n = true) ∧ o1.length ≤ i ∧ (∀ p ∈ o1, p.2 < N'.length) ∧ env = [.drw, .dat (.list ins), .dat (.list (nodesD N)), .arg (ns'.map PyData.str), .dat (.list (nums g)), .own (nodesD N'), .no, .own (nums tr), .box [.l (o1.map shD), .l [], .l []], c9, .no, .no], ⟨ns, [], _, rfl, ok, Nat.zero_le _, (fun p hp => by cases hp), rfl⟩, ?_, ?_⟩
  · rintro i x env hi ⟨ns', o1, c9, l1, ok1, l2, m1, rfl⟩
    obtain ⟨j, hj, rfl⟩ := nums_at' hi
    have hj' := (List.getElem?_eq_some_iff.mp hj).1
    rw [List.length_range] at hj'
    have ln' : (ns'.map PyData.str).length = ns'.length := List.length_map _
    refine ⟨0, rfl, rfl, ns'.map PyData.str, rfl, (fun z => by rw [List.map_eq_nil_iff.mp z] at l1; have : 0 + i = ns.length := l1; omega), by omega, fun t d hd => ?_⟩
    rw [List.getElem?_map] at hd
    obtain ⟨wd, hw, rfl⟩ := Option.map_eq_some_iff.mp hd
    have tl := (List.getElem?_eq_some_iff.mp hw).1
    rw [erase_strs]
    have ok3 : ∀ n ∈ ns'.eraseIdx t, PyData.strOk n = true := fun n hn => ok1 n (List.mem_of_mem_eraseIdx hn)
    have l3 : (ns'.eraseIdx t).length + 1 = ns'.length := by
      rw [List.length_eraseIdx, if_pos tl]
      omega
    refine ⟨_, rfl, ?_, ?_, fun z z0 z1 => ?_⟩
    · split <;> omega
    · split <;> omega
    have zl : z < ((nodesD N).length : Int) := by split at z1 <;> omega
    obtain ⟨m, em⟩ := Int.eq_ofNat_of_zero_le (show 0 ≤ ((nodesD N).length : Int) - 1 - z by omega)
    have hm := hf m (by omega)
    refine ⟨_, by rw [em]; exact atD m (nums_at hm), szr, szl (by rw [List.length_map]; omega), ns'.eraseIdx t, o1 ++ [(wd, f m)], .dat (.int (j : Int)), by omega, ok3, by rw [List.length_append]; show _ + 1 ≤ _; omega, fun p hp => ?_, by rw [List.map_append]; rfl⟩
    rcases List.mem_append.mp hp with h | h
    · exact m1 p h
    · rw [List.mem_singleton.mp h, lN']
      exact mf m (by omega)
  · rintro env ⟨ns', o1, c9, l1, ok1, l2, m1, rfl⟩
    rw [nums_len, List.length_range] at l1 l2
    refine ⟨szr, ?_⟩
    refine ⟨fun i env => ∃ (ns' : List Str) (o2 o3 : List (Str × Nat)) (c9 c10 : Cel), ns.length ≤ ns'.length + 3 + i ∧ (∀ n ∈ ns', PyData.strOk n = true) ∧ o2.length ≤ i ∧ o3.length ≤ i ∧ (∀ p ∈ o2, p.2 < N'.length) ∧ (∀ p ∈ o3, p.2 < N'.length) ∧ ns'.length ≤ 200 ∧ env = [.drw, .dat (.list ins), .dat (.list (nodesD N)), .arg (ns'.map PyData.str), .dat (.list (nums g)), .own (nodesD N'), .no, .own (nums tr), .box [.l (o1.map shD), .l (o2.map shD), .l (o3.map shD)], c9, c10, .no], ⟨ns', [], [], _, _, by omega, ok1, Nat.zero_le _, Nat.zero_le _, (fun p hp => by cases hp), (fun p hp => by cases hp), by omega, rfl⟩, ?_, ?_⟩
    · clear l1 ok1 ns'
      rintro i x env hi ⟨ns', o2, o3, c9, c10, a1, ok1, a2, a3, m2, m3, a4, rfl⟩
      refine ⟨szr, _, rfl, by decide, by decide, fun z z0 z1 => ?_⟩
      obtain ⟨e, e1, el⟩ : ∃ e : Nat, atI [PyData.int 0, .int 1, .int 1] z = some (.int (e : Int)) ∧ e ≤ 1 := by
        rcases (show z = 0 ∨ z = 1 ∨ z = 2 by omega) with rfl | rfl | rfl
        · exact ⟨0, atD 0 rfl, by decide⟩
        · exact ⟨1, atD 1 rfl, by decide⟩
        · exact ⟨1, atD 2 rfl, by decide⟩
      refine ⟨_, e1, by omega, by omega, ?_⟩
      rw [rangeN]
      have il := (List.getElem?_eq_some_iff.mp hi).1
      rcases (show i = 0 ∨ i = 1 by simp at il; omega) with rfl | rfl
      · cases hi
        refine ⟨fun j env => ∃ (ns' : List Str) (o2 o3 : List (Str × Nat)) (c9 : Cel), ns.length ≤ ns'.length + 3 + j ∧ (∀ n ∈ ns', PyData.strOk n = true) ∧ o2.length ≤ j ∧ o3.length ≤ j ∧ (∀ p ∈ o2, p.2 < N'.length) ∧ (∀ p ∈ o3, p.2 < N'.length) ∧ ns'.length ≤ 200 ∧ env = [.drw, .dat (.list ins), .dat (.list (nodesD N)), .arg (ns'.map PyData.str), .dat (.list (nums g)), .own (nodesD N'), .no, .own (nums tr), .box [.l (o1.map shD), .l (o2.map shD), .l (o3.map shD)], c9, .dat (.int 1), .no], ⟨ns', o2, o3, _, by omega, ok1, a2, a3, m2, m3, a4, rfl⟩, ?_, ?_⟩
        · clear a1 a2 a3 a4 m2 m3 ok1 ns' o2 o3
          rintro j x env hj ⟨ns', o2, o3, c9, a1, ok1, a2, a3, m2, m3, a4, rfl⟩
          obtain ⟨v, hv, rfl⟩ := nums_at' hj
          have jl := (List.getElem?_eq_some_iff.mp hv).1
          rw [List.length_range] at jl
          refine IfP.both (fun hb => ?_) fun hb => ⟨ns', o2, o3, _, by omega, ok1, by omega, by omega, m2, m3, a4, rfl⟩
          have ln' : (ns'.map PyData.str).length = ns'.length := List.length_map _
          refine ⟨1, rfl, rfl, ns'.map PyData.str, rfl, (fun z => by rw [List.map_eq_nil_iff.mp z] at a1; have : ns.length ≤ 0 + 5 := by { show ns.length ≤ ([] : List Str).length + 5; omega }; omega), by omega, fun t d hd => ?_⟩
          rw [List.getElem?_map] at hd
          obtain ⟨wd, hw, rfl⟩ := Option.map_eq_some_iff.mp hd
          have tl := (List.getElem?_eq_some_iff.mp hw).1
          rw [erase_strs]
          have ok3 : ∀ n ∈ ns'.eraseIdx t, PyData.strOk n = true := fun n hn => ok1 n (List.mem_of_mem_eraseIdx hn)
          have l3 : (ns'.eraseIdx t).length + 1 = ns'.length := by
            rw [List.length_eraseIdx, if_pos tl]
            omega
          refine ⟨nums tr, .inl rfl, (fun z => by rw [z] at hb; cases hb), by rw [nums_len]; omega, fun k d hd => ?_⟩
          obtain ⟨u, hu, rfl⟩ := nums_at' hd
          have hu' : u < N'.length := mt u (List.mem_of_getElem? hu)
          refine ⟨szr, szl (by rw [List.length_map]; omega), ns'.eraseIdx t, o2 ++ [(wd, u)], o3, .dat (.int (v : Int)), by omega, ok3, by rw [List.length_append]; show _ + 1 ≤ _; omega, by omega, ?_, ?_, by omega, by rw [List.map_append]; rfl⟩
          · intro p hp
            rcases List.mem_append.mp hp with h | h
            · exact m2 p h
            · rw [List.mem_singleton.mp h]
              exact hu'
          · exact m3
        · rintro env ⟨ns', o2, o3, c9, a1, ok1, a2, a3, m2, m3, a4, rfl⟩
          rw [nums_len, List.length_range] at a1 a2 a3
          exact ⟨ns', o2, o3, _, _, by omega, ok1, by omega, by omega, m2, m3, a4, rfl⟩
      · cases hi
        refine ⟨fun j env => ∃ (ns' : List Str) (o2 o3 : List (Str × Nat)) (c9 : Cel), ns.length ≤ ns'.length + 4 + j ∧ (∀ n ∈ ns', PyData.strOk n = true) ∧ o2.length ≤ 1 + j ∧ o3.length ≤ 1 + j ∧ (∀ p ∈ o2, p.2 < N'.length) ∧ (∀ p ∈ o3, p.2 < N'.length) ∧ ns'.length ≤ 200 ∧ env = [.drw, .dat (.list ins), .dat (.list (nodesD N)), .arg (ns'.map PyData.str), .dat (.list (nums g)), .own (nodesD N'), .no, .own (nums tr), .box [.l (o1.map shD), .l (o2.map shD), .l (o3.map shD)], c9, .dat (.int 2), .no], ⟨ns', o2, o3, _, by omega, ok1, a2, a3, m2, m3, a4, rfl⟩, ?_, ?_⟩
        · clear a1 a2 a3 a4 m2 m3 ok1 ns' o2 o3
          rintro j x env hj ⟨ns', o2, o3, c9, a1, ok1, a2, a3, m2, m3, a4, rfl⟩
          obtain ⟨v, hv, rfl⟩ := nums_at' hj
          have jl := (List.getElem?_eq_some_iff.mp hv).1
          rw [List.length_range] at jl
          refine IfP.both (fun hb => ?_) fun hb => ⟨ns', o2, o3, _, by omega, ok1, by omega, by omega, m2, m3, a4, rfl⟩
          have ln' : (ns'.map PyData.str).length = ns'.length := List.length_map _
          refine ⟨2, rfl, rfl, ns'.map PyData.str, rfl, (fun z => by rw [List.map_eq_nil_iff.mp z] at a1; have : ns.length ≤ 0 + 5 := by { show ns.length ≤ ([] : List Str).length + 5; omega }; omega), by omega, fun t d hd => ?_⟩
          rw [List.getElem?_map] at hd
          obtain ⟨wd, hw, rfl⟩ := Option.map_eq_some_iff.mp hd
          have tl := (List.getElem?_eq_some_iff.mp hw).1
          rw [erase_strs]
          have ok3 : ∀ n ∈ ns'.eraseIdx t, PyData.strOk n = true := fun n hn => ok1 n (List.mem_of_mem_eraseIdx hn)
          have l3 : (ns'.eraseIdx t).length + 1 = ns'.length := by
            rw [List.length_eraseIdx, if_pos tl]
            omega
          refine ⟨nums tr, .inl rfl, (fun z => by rw [z] at hb; cases hb), by rw [nums_len]; omega, fun k d hd => ?_⟩
          obtain ⟨u, hu, rfl⟩ := nums_at' hd
          have hu' : u < N'.length := mt u (List.mem_of_getElem? hu)
          refine ⟨szr, szl (by rw [List.length_map]; omega), ns'.eraseIdx t, o2, o3 ++ [(wd, u)], .dat (.int (v : Int)), by omega, ok3, by omega, by rw [List.length_append]; show _ + 1 ≤ _; omega, ?_, ?_, by omega, by rw [List.map_append]; rfl⟩
          · exact m2
          · intro p hp
            rcases List.mem_append.mp hp with h | h
            · exact m3 p h
            · rw [List.mem_singleton.mp h]
              exact hu'
        · rintro env ⟨ns', o2, o3, c9, a1, ok1, a2, a3, m2, m3, a4, rfl⟩
          rw [nums_len, List.length_range] at a1 a2 a3
          exact ⟨ns', o2, o3, _, _, by omega, ok1, by omega, by omega, m2, m3, a4, rfl⟩
    · rintro env ⟨ns', o2, o3, c9, c10, a1, ok1, a2, a3, m2, m3, a4, rfl⟩
      have a2 : o2.length ≤ 2 := a2
      have a3 : o3.length ≤ 2 := a3
      refine ⟨_, atD 0 rfl, _, atD 1 rfl, _, atD 2 rfl, szr, q N' o1 o2 o3 ns' ⟨fun q hq => ?_, by omega, by omega, by omega, by omega, by omega, fun p hp => ?_⟩ lN'⟩
      · rw [lN']
        obtain ⟨j, hj⟩ := List.mem_iff_getElem?.mp hq
        exact hN' j q hj
      · rcases List.mem_append.mp hp with hp | hp
        · rcases List.mem_append.mp hp with hp | hp
          · exact m1 p hp
          · exact m2 p hp
        · exact m3 p hp
end

/-! ### a flow with many alike nodes -/
def R_twin_flow : PR := fun as C => ∃ (most : Int) (ns : List Str), as = [.drw, .arg (ns.map PyData.str), .dat (.int most)] ∧ 1 ≤ most ∧ most ≤ 60 ∧ 60 ≤ ns.length ∧ ns.length ≤ 200 ∧ (∀ n ∈ ns, PyData.strOk n = true) ∧
  ∀ (ins : List PyData) (N : List NQ) (o1 o2 o3 : List (Str × Nat)) (ns' : List Str), (∀ d ∈ ins, InP d) → 1 ≤ ins.length → ins.length ≤ 3 → FlowG N o1 o2 o3 → C (.dat (flowD ins N o1 o2 o3)) [.drw, .arg (ns'.map PyData.str), .dat (.int most)]
section
variable {P : Program} {w : World} {K : PySem.W.Frag} {mg : Str → Option Value} {base : Heap}
theorem okp_twin_flow (T : Tx K mg w base) : FnOk P w K mg base CX0 13 T.f_twin_flow T.fd_twin_flow ["_law_d", "_law_pool_here", "_law_most"] (spP K T.tbs 3 R_twin_flow) := by
  refine okP T.F_twin_flow sc_twin_flow rfl fun cdv A outer s H E G hG hcd hr => ⟨_, (pss_consP (ps_setP (ps_set (i := 3) sc_twin_flow.nd rfl (Or.inl rfl) (pe_lstP pa_nilP)))
      (pss_cutP (ps_setP (ps_set (i := 4) sc_twin_flow.nd rfl (Or.inl rfl) (pe_ifP (pt_truP (pe_callP hG (pe_call (okp_rare T) (hr.mono (by decide)) rfl T.m_rare T.F_rare.kp T.b_rare .nil pass0 (pa_consP (pe_borP (pv 0)) (pa_consP (pe_cP (d := .int 12) pe_int) pa_nilP))))) (pe_varP (pv 2)) (pe_opP op_addP li_add (pe_cP (d := .int 1) pe_int) (pe_callP hG (pe_call (okp_draw T) (hr.mono (by decide)) rfl T.m_draw T.F_draw.kp T.b_draw .nil pass0 (pa_consP (pe_borP (pv 0)) (pa_consP (pe_cP (d := .int 16) pe_int) pa_nilP))))))))
      (pss_consP (ps_setP (ps_set (i := 5) sc_twin_flow.nd rfl (Or.inl rfl) (pe_callP hG (pe_call (okp_base T) (hr.mono (by decide)) rfl T.m_base T.F_base.kp T.b_base .nil pass0 (pa_consP (pe_borP (pv 0)) (pa_consP (pe_borP (pv 3)) (pa_consP (pe_borP (pv 4)) (pa_consP (pe_cP (d := .int 4) pe_int) (pa_consP (pe_borP (pv 1)) pa_nilP)))))))))
      (pss_cutP (ps_ifP (PW.pt (pw_andP (pt_cmpP op_lt li_lt (pe_cbP lc_len (pe_callB call_lenP (by rfl) T.z_len (by decide +kernel) (pa_consP (pe_borP (pv 5)) pa_nilP))) (pe_cP (d := .int 21) pe_int) (nomark _)) (pw_and1P (pt_cmpP (op_neP hr.units) li_ne (pe_callP hG (pe_call (okp_draw T) (hr.mono (by decide)) rfl T.m_draw T.F_draw.kp T.b_draw .nil pass0 (pa_consP (pe_borP (pv 0)) (pa_consP (pe_cP (d := .int 5) pe_int) pa_nilP)))) (pe_cP (d := .int 1) pe_int) (nomark _))))) (pss_oneP (ps_setP (ps_set (i := 5) sc_twin_flow.nd rfl (Or.inl rfl) (pe_callP hG (pe_call (okp_doubled T) (hr.mono (by decide)) rfl T.m_doubled T.F_doubled.kp T.b_doubled .nil pass0 (pa_consP (pe_borP (pv 0)) (pa_consP (pe_varP (pv 5)) pa_nilP))))))) pss_nilP)
      (pss_consP (ps_forP (ps_for PassesOwn.never rfl (pi_range1P (pi_range1 (by rfl) T.z_range (pa_consP (pe_ixP (pe_lstP (pa_consP (pe_cP (d := .int 0) pe_int) (pa_consP (pe_cP (d := .int 1) pe_int) (pa_consP (pe_cP (d := .int 2) pe_int) (pa_consP (pe_cP (d := .int 4) pe_int) pa_nilP))))) (pe_callP hG (pe_call (okp_draw T) (hr.mono (by decide)) rfl T.m_draw T.F_draw.kp T.b_draw .nil pass0 (pa_consP (pe_borP (pv 0)) (pa_consP (pe_cP (d := .int 4) pe_int) pa_nilP)))) (fun _ _ => rfl) li_ix) pa_nilP))) (pg_nameP (pg_name (i := 6) sc_twin_flow.nd rfl (Or.inl rfl)))
      (pss_consP (ps_setP (ps_set (i := 7) sc_twin_flow.nd rfl (Or.inl rfl) (pe_callP hG (pe_call (okp_draw T) (hr.mono (by decide)) rfl T.m_draw T.F_draw.kp T.b_draw .nil pass0 (pa_consP (pe_borP (pv 0)) (pa_consP (pe_cbP lc_len (pe_callB call_lenP (by rfl) T.z_len (by decide +kernel) (pa_consP (pe_borP (pv 5)) pa_nilP))) pa_nilP))))))
      (pss_oneP (ps_setIxP (ps_asg (pe_frzP (pe_callP hG (pe_call (okp_bent T) (hr.mono (by decide)) rfl T.m_bent T.F_bent.kp T.b_bent .nil pass0 (pa_consP (pe_borP (pv 0)) (pa_consP (pe_borP (pv 5)) (pa_consP (pe_borP (pv 7)) pa_nilP)))))) (pg_sub (pe_borP (pv 5)) (pe_borP (pv 7)) set_list)))))))
      (pss_oneP (ps_retP (pe_callP hG (pe_call (okp_closed_flow T) (hr.mono (by decide)) rfl T.m_closed_flow T.F_closed_flow.kp T.b_closed_flow .nil pass0 (pa_consP (pe_borP (pv 0)) (pa_consP (pe_varP (pv 3)) (pa_consP (pe_varP (pv 5)) (pa_consP (pe_borP (pv 1)) pa_nilP))))))))))))), fun as C hl h => ?_⟩
  obtain ⟨most, ns, rfl, mo1, mo60, n60, n200, nok, q⟩ := h
  refine ⟨szr, ?_⟩
  refine ⟨fun env => ∃ m : Int, 1 ≤ m ∧ m ≤ 60 ∧ env = [.drw, .arg (ns.map PyData.str), .dat (.int most), .own [], .dat (.int m), .no, .no, .no], ?_, ?_⟩
  · refine ⟨_, rfl, by decide, by decide, fun b => IfP.both (fun h => ⟨most, mo1, mo60, rfl⟩) fun h => ⟨_, rfl, by decide, by decide, fun r r0 r1 => ⟨1 + r, by omega, by omega, rfl⟩⟩⟩
  rintro env ⟨m, m1, m60, rfl⟩
  refine ⟨m, 4, ns, rfl, m1, m60, by decide, by decide, by omega, n200, nok, fun ins N ns1 hin i1 i3 al n1 n80 nb s1 s2 nok1 => ?_⟩
  have lD := nodesD_len N
  refine ⟨fun env => ∃ M : List NQ, AllG M.length M ∧ 1 ≤ M.length ∧ M.length ≤ 80 ∧ env = [.drw, .arg (ns1.map PyData.str), .dat (.int most), .own ins, .dat (.int m), .own (nodesD M), .no, .no], ?_, ?_⟩
  · refine IfP.both (fun h1 => ?_) fun h1 => ?_
    · have h1 : (((nodesD N).length : Nat) : Int) < 21 := of_decide_eq_true h1
      refine ⟨_, rfl, by decide, by decide, fun r r0 r1 => IfP.both (fun h2 => ?_) fun h2 => ⟨N, al, n1, n80, rfl⟩⟩
      exact ⟨N, rfl, al, n1, by omega, fun N' l' al' => ⟨N', al', by omega, by omega, rfl⟩⟩
    · exact .f rfl ⟨N, al, n1, n80, rfl⟩
  rintro env ⟨M, alM, M1, M80, rfl⟩
  refine ⟨szr, _, rfl, by decide, by decide, fun z z0 z1 => ?_⟩
  obtain ⟨e, e1, el⟩ : ∃ e : Nat, atI [PyData.int 0, .int 1, .int 2, .int 4] z = some (.int (e : Int)) ∧ e ≤ 4 := by
    rcases (show z = 0 ∨ z = 1 ∨ z = 2 ∨ z = 3 by omega) with rfl | rfl | rfl | rfl
    · exact ⟨0, atD 0 rfl, by decide⟩
    · exact ⟨1, atD 1 rfl, by decide⟩
    · exact ⟨2, atD 2 rfl, by decide⟩
    · exact ⟨4, atD 3 rfl, by decide⟩
  refine ⟨_, e1, by omega, by omega, ?_⟩
  rw [rangeN]
  refine ⟨fun i env => ∃ (M : List NQ) (c6 c7 : Cel), AllG M.length M ∧ 1 ≤ M.length ∧ M.length ≤ 80 ∧ env = [.drw, .arg (ns1.map PyData.str), .dat (.int most), .own ins, .dat (.int m), .own (nodesD M), c6, c7], ⟨M, _, _, alM, M1, M80, rfl⟩, ?_, ?_⟩
  · clear alM M1 M80
    rintro i x env hx ⟨M, c6, c7, alM, M1, M80, rfl⟩
    have lDM := nodesD_len M
    refine ⟨_, rfl, by omega, by omega, fun y y0 y1 => ?_⟩
    obtain ⟨n, rfl⟩ : ∃ n : Nat, y = (n : Int) := ⟨y.toNat, by omega⟩
    have hn : n < M.length := by omega
    refine ⟨M.length, M, n, M[n], rfl, List.getElem?_eq_getElem hn, alM _ (List.getElem_mem hn), fun q' g' => ?_⟩
    exact ⟨n, ixN_nat (by omega), M.set n q', _, _, by rw [List.length_set]; exact alM.set g', by rw [List.length_set]; exact M1, by rw [List.length_set]; exact M80, by rw [← nodesD_set]; rfl⟩
  · rintro env ⟨M, c6, c7, alM, M1, M80, rfl⟩
    exact ⟨ins, M, ns1, rfl, by omega, alM, M1, by omega, by omega, by omega, nok1, fun N' o1 o2 o3 ns' fg _ => q ins N' o1 o2 o3 ns' hin i1 i3 fg⟩
end

/-! ### when a class paper is taken -/
def lookD (N : List NQ) (sw : List Nat) (n : Nat) : PyData := match N[n]? with
  | some q => (ren (nth sw) q).1.d
  | none => .none
def Low (ps : List Int) (n : Nat) : Prop := ∀ p : Int, ps[n]? = some p → 0 ≤ p ∧ p ≤ (n : Int) ∧ ps[p.toNat]? = some p
def Alike (N : List NQ) (ps : List Int) (n : Nat) : Prop := ∀ p : Int, ps[n]? = some p → lookD N (ps.map Int.toNat) n = lookD N (ps.map Int.toNat) p.toNat
def Taken (N : List NQ) (ps : List Int) : Prop := ps.length = N.length ∧ (∀ n, n < ps.length → Low ps n) ∧ ∀ n, n < ps.length → Alike N ps n
/-- no deep values in a node -/
def DpN (N : List NQ) : Prop := ∀ q ∈ N, ∀ d ∈ q.1.rest, d.depth ≤ 8
theorem AllG.dp {B : Nat} {N : List NQ} (h : AllG B N) : DpN N := fun q hq => (h q hq).ar.2.2
theorem depth_nums (l : List Nat) : PyData.depthAll (nums l) ≤ 0 := depth_of fun d hd => by
  obtain ⟨i, _, rfl⟩ := List.mem_map.mp hd
  exact Nat.le_refl 0
theorem ren_depth {B B' : Nat} {q : NQ} {f : Nat → Nat} (h : Gd B q) (hf : ∀ u, u < B → f u < B') (dp : ∀ d ∈ q.1.rest, d.depth ≤ 8) : (ren f q).1.d.depth ≤ 10 := by
  have hk : q.1.k.depth ≤ 4 := h.k.1.depth
  have hr : PyData.depthAll (renR f q.1 q.2.1 q.2.2) ≤ 8 := by
    have t1 : ∀ l : List Nat, (PyData.tuple (nums l)).depth ≤ 1 := fun l => Nat.succ_le_succ (depth_nums l)
    rcases ren_ways h.ok f with ⟨_, ch, arms, _, _, _, re⟩ | ⟨_, _, v, z, hr, _, re⟩ | ⟨_, _, _, _, _, _, re⟩ | ⟨_, _, _, _, _, _, re⟩
    · rw [re]
      exact depth_of fun d hd => by
        rcases List.mem_cons.mp hd with rfl | hd
        · exact Nat.zero_le _
        · rw [List.mem_singleton.mp hd]
          exact Nat.le_trans (t1 _) (by decide)
    · rw [re]
      exact depth_of fun d hd => by
        rcases List.mem_cons.mp hd with rfl | hd
        · exact dp _ (by rw [hr]; exact List.mem_cons_self)
        · rcases List.mem_cons.mp hd with rfl | hd
          · exact Nat.zero_le _
          · rw [List.mem_singleton.mp hd]
            exact Nat.le_trans (t1 _) (by decide)
    · rw [re]
      exact depth_of dp
    · rw [re]
      exact Nat.le_trans (depth_nums _) (by decide)
  have hc := depth_pairs (q.1.cl.map fun p => (f p.1, p.2))
  show max 0 (max q.1.k.depth (max (PyData.depthAll ((q.1.cl.map fun p => (f p.1, p.2)).map pairD) + 1) (PyData.depthAll (renR f q.1 q.2.1 q.2.2)))) + 1 ≤ 10
  omega
theorem ren_shaped {B B' : Nat} {q : NQ} {f : Nat → Nat} (h : Gd B q) (hf : ∀ u, u < B → f u < B') (dp : ∀ d ∈ q.1.rest, d.depth ≤ 8) : SeqAt.shaped (ren f q).1.d = true := shaped_of (h.numb hf).pl (Nat.le_trans (ren_depth h hf dp) (by decide))
def R_judge_classes : PR := fun as C => ∃ (ins : List PyData) (N : List NQ) (o1 o2 o3 : List (Str × Nat)) (ps : List Int), as = [.dat (flowD ins N o1 o2 o3), .dat (.tuple (ps.map .int))] ∧ AllG N.length N ∧ DpN N ∧ N.length ≤ 90 ∧ ps.length ≤ 200 ∧
  ∀ b : Bool, (b = true ↔ Taken N ps) → C (.dat (.bool b)) as
theorem ints_nums {ps : List Int} (h : ∀ p ∈ ps, 0 ≤ p) : ps.map PyData.int = nums (ps.map Int.toNat) := by
  unfold nums
  rw [List.map_map]
  refine List.map_congr_left fun p hp => ?_
  have := h p hp
  show PyData.int p = PyData.int ((p.toNat : Nat) : Int)
  rw [show ((p.toNat : Nat) : Int) = p by omega]
section
variable {P : Program} {w : World} {K : PySem.W.Frag} {mg : Str → Option Value} {base : Heap}
theorem okp_judge_classes (T : Tx K mg w base) : FnOk P w K mg base CX0 4 T.f_judge_classes T.fd_judge_classes ["flow", "paper"] (spP K T.tbs 2 R_judge_classes) := by
  refine okP T.F_judge_classes sc_judge_classes rfl fun cdv A outer s H E G hG hcd hr => ⟨_, (pss_consP (ps_setP (ps_set (i := 2) sc_judge_classes.nd rfl (Or.inl rfl) (pe_ixP (pe_borP (pv 0)) (pe_cP (d := .int 2) pe_int) (fun _ _ => rfl) li_ix)))
      (pss_consP (ps_ifP (pt_cmpP (op_neP hr.units) li_ne (pe_cbP lc_len (pe_callB call_lenP (by rfl) T.z_len (by decide +kernel) (pa_consP (pe_borP (pv 1)) pa_nilP))) (pe_cbP lc_len (pe_callB call_lenP (by rfl) T.z_len (by decide +kernel) (pa_consP (pe_borP (pv 2)) pa_nilP))) (nomark _)) (pss_oneP (ps_retP (pe_cP (d := .bool false) pe_bl))) pss_nilP)
      (pss_consP (ps_forP (ps_for PassesOwn.never rfl (pi_enumTP (pi_enumT (by rfl) T.z_enumerate (pa_consP (pe_varP (pv 1)) pa_nilP))) (pg_tupP (n := 2) rfl (pgs_consP (pg_nameP (pg_name (i := 3) sc_judge_classes.nd rfl (Or.inl rfl))) (pgs_consP (pg_nameP (pg_name (i := 4) sc_judge_classes.nd rfl (Or.inl rfl))) pgs_nilP)))
      (pss_oneP (ps_ifP (PW.pt (pw_orP (pt_notP (pt_truP (pe_callP hG (pe_call (okp_is_number_of T) (hr.mono (by decide)) rfl T.m_is_number_of T.F_is_number_of.kp T.b_is_number_of .nil pass0 (pa_consP (pe_borP (pv 4)) (pa_consP (pe_opP op_addP li_add (pe_borP (pv 3)) (pe_cP (d := .int 1) pe_int)) pa_nilP)))))) (pw_or1P (pt_cmpP (op_neP hr.units) li_ne (pe_ixP (pe_borP (pv 1)) (pe_borP (pv 4)) (fun _ _ => rfl) li_ix) (pe_borP (pv 4)) (nomark _))))) (pss_oneP (ps_retP (pe_cP (d := .bool false) pe_bl))) pss_nilP))))
      (pss_consP (ps_forP (ps_for PassesOwn.never rfl (pi_enumTP (pi_enumT (by rfl) T.z_enumerate (pa_consP (pe_varP (pv 1)) pa_nilP))) (pg_tupP (n := 2) rfl (pgs_consP (pg_nameP (pg_name (i := 3) sc_judge_classes.nd rfl (Or.inl rfl))) (pgs_consP (pg_nameP (pg_name (i := 4) sc_judge_classes.nd rfl (Or.inl rfl))) pgs_nilP)))
      (pss_oneP (ps_ifP (PW.pt (pw_andP (pt_cmpP (op_neP hr.units) li_ne (pe_borP (pv 4)) (pe_borP (pv 3)) (nomark _)) (pw_and1P (pt_cmpP (op_neP hr.units) li_ne (pe_callP hG (pe_call (okp_p_renumbered T) (hr.mono (by decide)) rfl T.m_p_renumbered T.F_p_renumbered.kp T.b_p_renumbered .nil pass0 (pa_consP (pe_ixP (pe_borP (pv 2)) (pe_borP (pv 3)) (fun _ _ => rfl) li_ix) (pa_consP (pe_borP (pv 1)) pa_nilP)))) (pe_callP hG (pe_call (okp_p_renumbered T) (hr.mono (by decide)) rfl T.m_p_renumbered T.F_p_renumbered.kp T.b_p_renumbered .nil pass0 (pa_consP (pe_ixP (pe_borP (pv 2)) (pe_borP (pv 4)) (fun _ _ => rfl) li_ix) (pa_consP (pe_borP (pv 1)) pa_nilP)))) (nomark _))))) (pss_oneP (ps_retP (pe_cP (d := .bool false) pe_bl))) pss_nilP))))
      (pss_oneP (ps_retP (pe_cP (d := .bool true) pe_bl))))))), fun as C hl h => ?_⟩
  obtain ⟨ins, N, o1, o2, o3, ps, rfl, al, dp, l90, l200, q⟩ := h
  have lD := nodesD_len N
  have lpi : (ps.map PyData.int).length = ps.length := List.length_map _
  refine ⟨_, atD 2 rfl, ?_⟩
  have both : ∀ a b : Nat, (!decide (((a : Nat) : Int) = ((b : Nat) : Int))) = decide (¬ a = b) := fun a b => by
    by_cases z : a = b
    · rw [z]; simp
    · rw [decide_eq_true z, decide_eq_false (by omega)]; rfl
  refine IfP.as (both _ _) (IfP.both (fun h1 => q false ⟨fun z => (nomatch z), fun z => ?_⟩) fun h1 => ?_)
  · rw [lpi, lD] at h1
    exact absurd z.1 (of_decide_eq_true h1)
  have el : ps.length = N.length := by
    have := of_decide_eq_false h1
    rw [lpi, lD] at this
    exact Decidable.not_not.mp this
  refine ⟨fun i env => ∃ (c3 c4 : Cel), (∀ n, n < i → Low ps n) ∧ env = [.dat (flowD ins N o1 o2 o3), .dat (.tuple (ps.map .int)), .dat (.tuple (nodesD N)), c3, c4], ⟨_, _, (fun n h => absurd h (Nat.not_lt_zero _)), rfl⟩, ?_, ?_⟩
  · rintro i x env hx ⟨c3, c4, lo, rfl⟩
    obtain ⟨d, hd, rfl⟩ := numD_at 0 _ i x hx
    rw [List.getElem?_map] at hd
    obtain ⟨p, hp, rfl⟩ := Option.map_eq_some_iff.mp hd
    have il := (List.getElem?_eq_some_iff.mp hp).1
    rw [show 0 + i = i by omega]
    have bad : ¬ Low ps i → C (.dat (.bool false)) [.dat (flowD ins N o1 o2 o3), .dat (.tuple (ps.map .int))] := fun nl => q false ⟨fun z => (nomatch z), fun z => absurd (z.2.1 i il) nl⟩
    refine ⟨rfl, p, (i : Int) + 1, rfl, IfP.both (fun h2 => .t rfl (bad fun z => ?_)) fun h2 => ?_⟩
    · have h3 : decide (0 ≤ p ∧ p ≤ (i : Int) + 1 - 1) = false := by
        cases e : decide (0 ≤ p ∧ p ≤ (i : Int) + 1 - 1)
        · rfl
        · rw [e] at h2
          exact absurd h2 (by decide)
      have := z p hp
      exact of_decide_eq_false h3 ⟨this.1, by omega⟩
    · have h3 : 0 ≤ p ∧ p ≤ (i : Int) + 1 - 1 := by
        refine of_decide_eq_true ?_
        cases e : decide (0 ≤ p ∧ p ≤ (i : Int) + 1 - 1)
        · rw [e] at h2
          exact absurd h2 (by decide)
        · rfl
      obtain ⟨m, rfl⟩ : ∃ m : Nat, p = (m : Int) := ⟨p.toNat, by omega⟩
      have ml : m < ps.length := by omega
      have hm : (ps.map PyData.int)[m]? = some (.int ps[m]) := by rw [List.getElem?_map, List.getElem?_eq_getElem ml]; rfl
      refine ⟨_, atD m hm, IfP.both (fun h4 => bad fun z => ?_) fun h4 => ⟨_, _, fun n hn => ?_, rfl⟩⟩
      · have := (z _ hp).2.2
        rw [show ((m : Nat) : Int).toNat = m by omega, List.getElem?_eq_getElem ml] at this
        rw [Option.some.inj this, decide_eq_true rfl] at h4
        exact absurd h4 (by decide)
      · rcases Nat.lt_succ_iff_lt_or_eq.mp hn with hn | rfl
        · exact lo n hn
        · intro p' hp'
          rw [hp] at hp'
          cases hp'
          refine ⟨h3.1, by omega, ?_⟩
          rw [show ((m : Nat) : Int).toNat = m by omega, List.getElem?_eq_getElem ml]
          by_cases e : ps[m] = (m : Int)
          · rw [e]
          · rw [decide_eq_false e] at h4
            exact absurd h4 (by decide)
  rintro env ⟨c3, c4, lo, rfl⟩
  rw [numD_len, lpi] at lo
  have nn : ∀ p ∈ ps, 0 ≤ p := fun p hp => by
    obtain ⟨j, hj⟩ := List.mem_iff_getElem?.mp hp
    exact (lo j (List.getElem?_eq_some_iff.mp hj).1 p hj).1
  have en := ints_nums nn
  have lsw : (ps.map Int.toNat).length = ps.length := List.length_map _
  have swB : ∀ u, u < N.length → nth (ps.map Int.toNat) u < N.length := fun u hu => by
    have e := nth_at (sw := ps.map Int.toNat) (u := u) (by omega)
    rw [List.getElem?_map] at e
    obtain ⟨p, hp, e⟩ := Option.map_eq_some_iff.mp e
    have := lo u (by omega) p hp
    omega
  refine ⟨fun i env => ∃ (c3 c4 : Cel), (∀ n, n < i → Alike N ps n) ∧ env = [.dat (flowD ins N o1 o2 o3), .dat (.tuple (ps.map .int)), .dat (.tuple (nodesD N)), c3, c4], ⟨_, _, (fun n h => absurd h (Nat.not_lt_zero _)), rfl⟩, ?_, ?_⟩
  · rintro i x env hx ⟨c3, c4, li, rfl⟩
    obtain ⟨d, hd, rfl⟩ := numD_at 0 _ i x hx
    rw [List.getElem?_map] at hd
    obtain ⟨p, hp, rfl⟩ := Option.map_eq_some_iff.mp hd
    have il := (List.getElem?_eq_some_iff.mp hp).1
    rw [show 0 + i = i by omega]
    obtain ⟨p0, pi, _⟩ := lo i il p hp
    obtain ⟨m, rfl⟩ : ∃ m : Nat, p = (m : Int) := ⟨p.toNat, by omega⟩
    have next : lookD N (ps.map Int.toNat) i = lookD N (ps.map Int.toNat) m → ∀ n, n < i + 1 → Alike N ps n := fun h n hn => by
      rcases Nat.lt_succ_iff_lt_or_eq.mp hn with hn | rfl
      · exact li n hn
      · intro p' hp'
        rw [hp] at hp'
        cases hp'
        rw [show ((m : Nat) : Int).toNat = m by omega]
        exact h
    have iN : i < N.length := by omega
    have mN : m < N.length := by omega
    have hq := List.getElem?_eq_getElem iN
    have hr := List.getElem?_eq_getElem mN
    have li1 : lookD N (ps.map Int.toNat) i = (ren (nth (ps.map Int.toNat)) N[i]).1.d := by unfold lookD; rw [hq]
    have li2 : lookD N (ps.map Int.toNat) m = (ren (nth (ps.map Int.toNat)) N[m]).1.d := by unfold lookD; rw [hr]
    have g1 := al _ (List.mem_of_getElem? hq)
    have g2 := al _ (List.mem_of_getElem? hr)
    have s1 := ren_shaped g1 swB (dp _ (List.mem_of_getElem? hq))
    have s2 := ren_shaped g2 swB (dp _ (List.mem_of_getElem? hr))
    have pq := eqv_iff (g1.numb swB).pl (g2.numb swB).pl
    refine ⟨rfl, IfP.as (both m i) (IfP.both (fun h1 => ?_) fun h1 => .f rfl ⟨_, _, next ?_, rfl⟩)⟩
    · refine ⟨_, atD i (nodesD_at hq), N.length, N[i], ps.map Int.toNat, by rw [en], g1, by omega, by omega, ?_⟩
      refine ⟨_, atD m (nodesD_at hr), N.length, N[m], ps.map Int.toNat, by rw [en], g2, by omega, by omega, ?_⟩
      refine ⟨s1, s2, IfP.both (fun h2 => q false ⟨fun z => (nomatch z), fun z => ?_⟩) fun h2 => ⟨_, _, next ?_, rfl⟩⟩
      · have h3 := z.2.2 i il _ hp
        rw [show ((m : Nat) : Int).toNat = m by omega, li1, li2] at h3
        rw [pq.mpr h3] at h2
        exact absurd h2 (by decide)
      · rw [li1, li2]
        refine pq.mp ?_
        cases e : (ren (nth (ps.map Int.toNat)) N[i]).1.d.eqv (ren (nth (ps.map Int.toNat)) N[m]).1.d
        · rw [e] at h2
          exact absurd h2 (by decide)
        · rfl
    · rw [Decidable.not_not.mp (of_decide_eq_false h1)]
  rintro env ⟨c3, c4, li, rfl⟩
  rw [numD_len, lpi] at li
  exact q true ⟨fun _ => ⟨el, lo, li⟩, fun _ => rfl⟩
end

/-! ### the law's own reading: when a class paper is taken -/
def R_classes_taken : PR := fun as C => ∃ (N : List NQ) (ps : List Int), as = [.dat (.tuple (nodesD N)), .dat (.list (ps.map .int))] ∧ AllG N.length N ∧ DpN N ∧ N.length ≤ 90 ∧ ps.length ≤ 200 ∧
  ∀ b : Bool, (b = true ↔ Taken N ps) → C (.dat (.bool b)) as
section
variable {P : Program} {w : World} {K : PySem.W.Frag} {mg : Str → Option Value} {base : Heap}
theorem okp_classes_taken (T : Tx K mg w base) : FnOk P w K mg base CX0 2 T.f_classes_taken T.fd_classes_taken ["_law_nodes", "_law_paper"] (spP K T.tbs 2 R_classes_taken) := by
  refine okP T.F_classes_taken sc_classes_taken rfl fun cdv A outer s H E G hG hcd hr => ⟨_, (pss_consP (ps_ifP (pt_cmpP (op_neP hr.units) li_ne (pe_cbP lc_len (pe_callB call_lenP (by rfl) T.z_len (by decide +kernel) (pa_consP (pe_borP (pv 1)) pa_nilP))) (pe_cbP lc_len (pe_callB call_lenP (by rfl) T.z_len (by decide +kernel) (pa_consP (pe_borP (pv 0)) pa_nilP))) (nomark _)) (pss_oneP (ps_retP (pe_cP (d := .bool false) pe_bl))) pss_nilP)
      (pss_consP (ps_forP (ps_for PassesOwn.never rfl (pi_range1P (pi_range1 (by rfl) T.z_range (pa_consP (pe_cbP lc_len (pe_callB call_lenP (by rfl) T.z_len (by decide +kernel) (pa_consP (pe_borP (pv 0)) pa_nilP))) pa_nilP))) (pg_nameP (pg_name (i := 2) sc_classes_taken.nd rfl (Or.inl rfl)))
      (pss_oneP (ps_ifP (PW.pt (pw_orP (pt_cmpP op_lt li_lt (pe_ixP (pe_borP (pv 1)) (pe_borP (pv 2)) (fun _ _ => rfl) li_ix) (pe_cP (d := .int 0) pe_int) (nomark _)) (pw_orP (pt_cmpP op_gt li_gt (pe_ixP (pe_borP (pv 1)) (pe_borP (pv 2)) (fun _ _ => rfl) li_ix) (pe_borP (pv 2)) (nomark _)) (pw_or1P (pt_cmpP (op_neP hr.units) li_ne (pe_ixP (pe_borP (pv 1)) (pe_ixP (pe_borP (pv 1)) (pe_borP (pv 2)) (fun _ _ => rfl) li_ix) (fun _ _ => rfl) li_ix) (pe_ixP (pe_borP (pv 1)) (pe_borP (pv 2)) (fun _ _ => rfl) li_ix) (nomark _)))))) (pss_oneP (ps_retP (pe_cP (d := .bool false) pe_bl))) pss_nilP))))
      (pss_consP (ps_setP (ps_set (i := 3) sc_classes_taken.nd rfl (Or.inr rfl) (pe_lcP (vs := [4]) (pe_lc (own := [("_law_node", 4)]) rfl sc_classes_taken.nd (pi_itemsP (pe_varP (pv 0))) (blkOk_by (N := ["_law_nodes", "_law_paper", "_law_n", "_law_looks", "_law_node"]) (sc := defScope s_classes_taken) (by decide +kernel)) (fun _ _ _ _ _ => (pg_compP (vs := [4]) (pg_name (i := 4) sc_classes_taken.nd rfl (Or.inl rfl)))) (fun _ _ _ _ _ => pts_nilP) (fun _ _ _ _ _ => (pe_frzP (pe_callP hG (pe_call (okp_renumbered T) (hr.mono (by decide)) rfl T.m_renumbered T.F_renumbered.kp T.b_renumbered .nil pass0 (pa_consP (pe_borP (pv 4)) (pa_consP (pe_borP (pv 1)) pa_nilP))))))))))
      (pss_oneP (ps_retP (pe_notTP (pe_lcP (vs := [2]) (pe_lc (own := [("_law_n", 2)]) rfl sc_classes_taken.nd (pi_range1P (pi_range1 (by rfl) T.z_range (pa_consP (pe_cbP lc_len (pe_callB call_lenP (by rfl) T.z_len (by decide +kernel) (pa_consP (pe_borP (pv 0)) pa_nilP))) pa_nilP))) (blkOk_by (N := ["_law_nodes", "_law_paper", "_law_n", "_law_looks", "_law_node"]) (sc := defScope s_classes_taken) (by decide +kernel)) (fun _ _ _ _ _ => (pg_compP (vs := [2]) (pg_name (i := 2) sc_classes_taken.nd rfl (Or.inl rfl)))) (fun _ _ _ _ _ => (pts_one (pt_cmpP (op_neP hr.units) li_ne (pe_ixP (pe_borP (pv 3)) (pe_borP (pv 2)) (fun _ _ => rfl) li_ix) (pe_ixP (pe_borP (pv 3)) (pe_ixP (pe_borP (pv 1)) (pe_borP (pv 2)) (fun _ _ => rfl) li_ix) (fun _ _ => rfl) li_ix) (nomark _)))) (fun _ _ _ _ _ => (pe_varP (pv 2))))))))))), fun as C hl h => ?_⟩
  obtain ⟨N, ps, rfl, al, dp, l90, l200, q⟩ := h
  have lD := nodesD_len N
  have lpi : (ps.map PyData.int).length = ps.length := List.length_map _
  have both : ∀ a b : Nat, (!decide (((a : Nat) : Int) = ((b : Nat) : Int))) = decide (¬ a = b) := fun a b => by
    by_cases z : a = b
    · rw [z]; simp
    · rw [decide_eq_true z, decide_eq_false (by omega)]; rfl
  refine IfP.as (both _ _) (IfP.both (fun h1 => q false ⟨fun z => (nomatch z), fun z => ?_⟩) fun h1 => ?_)
  · rw [lpi, lD] at h1
    exact absurd z.1 (of_decide_eq_true h1)
  have el : ps.length = N.length := by
    have := of_decide_eq_false h1
    rw [lpi, lD] at this
    exact Decidable.not_not.mp this
  refine ⟨by omega, by omega, ?_⟩
  rw [lD, rangeN]
  refine ⟨fun i env => ∃ c2 : Cel, (c2 = .no ∨ ∃ k : Int, c2 = .dat (.int k)) ∧ (∀ n, n < i → Low ps n) ∧ env = [.dat (.tuple (nodesD N)), .dat (.list (ps.map .int)), c2, .no, .no], ⟨_, .inl rfl, (fun n h => absurd h (Nat.not_lt_zero _)), rfl⟩, ?_, ?_⟩
  · rintro i x env hx ⟨c2, _, lo, rfl⟩
    obtain ⟨n', hn', rfl⟩ := nums_at' hx
    have iN := (List.getElem?_eq_some_iff.mp hn').1
    rw [List.length_range] at iN
    rw [List.getElem?_range iN] at hn'
    cases hn'
    have il : i < ps.length := by omega
    have hp : ps[i]? = some ps[i] := List.getElem?_eq_getElem il
    generalize ps[i] = p at hp
    have hpi : (ps.map PyData.int)[i]? = some (.int p) := by rw [List.getElem?_map, hp]; rfl
    have bad : ¬ Low ps i → C (.dat (.bool false)) [.dat (.tuple (nodesD N)), .dat (.list (ps.map .int))] := fun nl => q false ⟨fun z => (nomatch z), fun z => absurd (z.2.1 i il) nl⟩
    refine ⟨_, atD i hpi, IfP.both (fun h2 => .t rfl (bad fun z => ?_)) fun h2 => ⟨_, atD i hpi, IfP.both (fun h3 => .t rfl (bad fun z => ?_)) fun h3 => ?_⟩⟩
    · have := z p hp
      have := of_decide_eq_true h2
      omega
    · have := z p hp
      have := of_decide_eq_true h3
      omega
    · have h2 := of_decide_eq_false h2
      have h3 := of_decide_eq_false h3
      obtain ⟨m, rfl⟩ : ∃ m : Nat, p = (m : Int) := ⟨p.toNat, by omega⟩
      have ml : m < ps.length := by omega
      have hm : (ps.map PyData.int)[m]? = some (.int ps[m]) := by rw [List.getElem?_map, List.getElem?_eq_getElem ml]; rfl
      refine ⟨_, atD i hpi, _, atD m hm, _, atD i hpi, IfP.both (fun h4 => bad fun z => ?_) fun h4 => ⟨_, .inr ⟨_, rfl⟩, fun n hn => ?_, rfl⟩⟩
      · have := (z _ hp).2.2
        rw [show ((m : Nat) : Int).toNat = m by omega, List.getElem?_eq_getElem ml] at this
        rw [Option.some.inj this, decide_eq_true rfl] at h4
        exact absurd h4 (by decide)
      · rcases Nat.lt_succ_iff_lt_or_eq.mp hn with hn | rfl
        · exact lo n hn
        · intro p' hp'
          rw [hp] at hp'
          cases hp'
          refine ⟨by omega, by omega, ?_⟩
          rw [show ((m : Nat) : Int).toNat = m by omega, List.getElem?_eq_getElem ml]
          by_cases e : ps[m] = (m : Int)
          · rw [e]
          · rw [decide_eq_false e] at h4
            exact absurd h4 (by decide)
  rintro env ⟨c2, h6, lo, rfl⟩
  rw [nums_len, List.length_range, ← el] at lo
  have nn : ∀ p ∈ ps, 0 ≤ p := fun p hp => by
    obtain ⟨j, hj⟩ := List.mem_iff_getElem?.mp hp
    exact (lo j (List.getElem?_eq_some_iff.mp hj).1 p hj).1
  have en := ints_nums nn
  have lsw : (ps.map Int.toNat).length = ps.length := List.length_map _
  have swB : ∀ u, u < N.length → nth (ps.map Int.toNat) u < N.length := fun u hu => by
    have e := nth_at (sw := ps.map Int.toNat) (u := u) (by omega)
    rw [List.getElem?_map] at e
    obtain ⟨p, hp, e⟩ := Option.map_eq_some_iff.mp e
    have := lo u (by omega) p hp
    omega
  refine lc_mapP (l := N) (e := fun q => q.1.d) (fun q => (ren (nth (ps.map Int.toNat)) q).1.d) (szl (by omega)) (fun j a ha Q k => .t rfl ⟨N.length, a, ps.map Int.toNat, by rw [en], al a (List.mem_of_getElem? ha), by omega, by omega, k⟩) ?_
  refine ⟨by omega, by omega, ?_⟩
  rw [lD, rangeN]
  have lk : ∀ n, n < N.length → (N.map fun q => (ren (nth (ps.map Int.toNat)) q).1.d)[n]? = some (lookD N (ps.map Int.toNat) n) := fun n hn => by
    unfold lookD
    rw [List.getElem?_map, List.getElem?_eq_getElem hn]
    rfl
  have lk2 : ∀ n, n < N.length → ∃ q, q ∈ N ∧ lookD N (ps.map Int.toNat) n = (ren (nth (ps.map Int.toNat)) q).1.d := fun n hn => by
    unfold lookD
    rw [List.getElem?_eq_getElem hn]
    exact ⟨_, List.getElem_mem hn, rfl⟩
  refine lc_numsP (l := List.range N.length) (fun n => !((lookD N (ps.map Int.toNat) n).eqv (lookD N (ps.map Int.toNat) (nth (ps.map Int.toNat) n)))) (szl (by rw [List.length_range]; omega)) (fun j b hb Q k1 k2 => ?_) ?_ (by rcases h6 with rfl | ⟨_, rfl⟩ <;> rfl)
  · have bN := (List.getElem?_eq_some_iff.mp hb).1
    rw [List.length_range] at bN
    rw [List.getElem?_range bN] at hb
    cases hb
    have hp : (ps.map PyData.int)[j]? = some (.int ((nth (ps.map Int.toNat) j : Nat) : Int)) := by
      rw [en]
      exact nums_at (nth_at (by omega))
    have mN := swB j bN
    generalize nth (ps.map Int.toNat) j = m at hp mN k1 k2
    have e1 := lk j bN
    have e2 := lk m mN
    obtain ⟨q1, m1, f1⟩ := lk2 j bN
    obtain ⟨q2, m2, f2⟩ := lk2 m mN
    rw [f1] at e1 k1 k2
    rw [f2] at e2 k1 k2
    exact ⟨_, atD j e1, _, atD j hp, _, atD m e2, ren_shaped (al _ m1) swB (dp _ m1), ren_shaped (al _ m2) swB (dp _ m2), IfP.both k1 k2⟩
  · have key : ∀ n, n < ps.length → ((!((lookD N (ps.map Int.toNat) n).eqv (lookD N (ps.map Int.toNat) (nth (ps.map Int.toNat) n)))) = false ↔ Alike N ps n) := fun n hn => by
      have hp : ps[n]? = some ps[n] := List.getElem?_eq_getElem hn
      have em : nth (ps.map Int.toNat) n = ps[n].toNat := by
        unfold nth
        rw [List.getElem?_map, hp]
        rfl
      have mN := swB n (by omega)
      obtain ⟨q1, m1, f1⟩ := lk2 n (by omega)
      obtain ⟨q2, m2, f2⟩ := lk2 _ mN
      have pq := eqv_iff ((al _ m1).numb swB).pl ((al _ m2).numb swB).pl
      rw [← f1, ← f2] at pq
      have al2 : Alike N ps n ↔ lookD N (ps.map Int.toNat) n = lookD N (ps.map Int.toNat) (nth (ps.map Int.toNat) n) := by
        rw [em]
        exact ⟨fun h => h _ hp, fun h p' hp' => by rw [hp] at hp'; cases hp'; exact h⟩
      rw [al2, ← pq]
      cases (lookD N (ps.map Int.toNat) n).eqv (lookD N (ps.map Int.toNat) (nth (ps.map Int.toNat) n)) <;> simp
    generalize hX : (List.range N.length).filter (fun n => !((lookD N (ps.map Int.toNat) n).eqv (lookD N (ps.map Int.toNat) (nth (ps.map Int.toNat) n)))) = X
    have mX : ∀ n, n ∈ X ↔ n < ps.length ∧ ¬ Alike N ps n := fun n => by
      rw [← hX, List.mem_filter, List.mem_range, el]
      refine and_congr_right fun hn => ?_
      rw [← key n (by omega)]
      exact Bool.not_eq_false _ |>.symm ▸ Iff.rfl
    refine q _ ⟨fun z => ⟨el, lo, fun n hn => ?_⟩, fun z => ?_⟩
    · cases X with
      | nil => exact Classical.not_not.mp fun h => nomatch (mX n).mpr ⟨hn, h⟩
      | cons a l => exact nomatch z
    · cases X with
      | nil => rfl
      | cons a l =>
        have := (mX a).mp List.mem_cons_self
        exact absurd (z.2.2 a this.1) this.2
end

/-! ### renumbering twice -/
theorem rsort_comp (f g : Nat → Nat) (xs : List Nat) : rsort ((rsort (xs.map f)).map g) = rsort (xs.map fun u => g (f u)) := by
  refine rsort_eq (rsort_asc _) fun v => ?_
  rw [mem_rsort, List.mem_map, List.mem_map]
  refine ⟨fun ⟨u, hu, e⟩ => ?_, fun ⟨a, ha, e⟩ => ⟨f a, mem_rsort.mpr (List.mem_map.mpr ⟨a, ha, rfl⟩), e⟩⟩
  obtain ⟨a, ha, rfl⟩ := List.mem_map.mp (mem_rsort.mp hu)
  exact ⟨a, ha, e⟩
theorem ren_comp {B : Nat} {q : NQ} (h : Gd B q) (f g : Nat → Nat) : (ren g (ren f q)).1.d = (ren (fun u => g (f u)) q).1.d := by
  obtain ⟨⟨nw, nk, cl, rest⟩, ps, src⟩ := q
  have key : (ren g (ren f (⟨nw, nk, cl, rest⟩, ps, src))).1.rest = (ren (fun u => g (f u)) (⟨nw, nk, cl, rest⟩, ps, src)).1.rest := by
    rcases ren_ways h.ok f with ⟨hw, ch, arms, hr, hp, hs, _⟩ | ⟨hw, n1, v, z, hr, hs, _⟩ | ⟨n3, n1, n2, lr, hp, hs, _⟩ | ⟨n3, hw, n1, n2, hr, hs, _⟩
    · have hv : nw = "merge" := hw
      have nd : ¬ nw = "delay" := by rw [hv]; decide +kernel
      have hp : ps = ch :: arms := hp
      subst hp
      simp only [ren, renR, if_pos hv, if_neg nd, List.map_cons, List.headD_cons, List.tail_cons, List.map_map]
      rfl
    · have hv : nw = "delay" := hw
      have n1 : ¬ nw = "merge" := n1
      have hr : rest = [v, .int (z : Int), .tuple (nums ps)] := hr
      have hs : src = some z := hs
      subst hr hs
      simp only [ren, renR, if_pos hv, if_neg n1, rsort_comp]
      rfl
    · have n1 : ¬ nw = "merge" := n1
      have n2 : ¬ nw = "delay" := n2
      have n3 : nw ∈ (["input", "here", "const", "beat"] : List Str) := n3
      simp only [ren, renR, if_neg n1, if_neg n2, if_pos n3]
    · have n1 : ¬ nw = "merge" := n1
      have n2 : ¬ nw = "delay" := n2
      have n3 : ¬ nw ∈ (["input", "here", "const", "beat"] : List Str) := n3
      simp only [ren, renR, if_neg n1, if_neg n2, if_neg n3, List.map_map]
      rfl
  show PyData.tuple (.str nw :: nk :: .tuple (((cl.map fun p => (f p.1, p.2)).map fun p => (g p.1, p.2)).map pairD) :: _) = PyData.tuple (.str nw :: nk :: .tuple ((cl.map fun p => (g (f p.1), p.2)).map pairD) :: _)
  have e : (cl.map fun p : Nat × Int => (f p.1, p.2)).map (fun p => (g p.1, p.2)) = cl.map fun p => (g (f p.1), p.2) := by
    rw [List.map_map]
    rfl
  rw [key, e]
theorem nums_inj {a b : List Nat} (h : nums a = nums b) : a = b := by
  induction a generalizing b with
  | nil => cases b with
    | nil => rfl
    | cons y l => exact nomatch h
  | cons x l ih => cases b with
    | nil => exact nomatch h
    | cons y l' =>
      obtain ⟨h1, h2⟩ := List.cons.inj h
      rw [ih h2, show x = y by have := PyData.int.inj h1; omega]
theorem pairs_inj {a b : List (Nat × Int)} (h : a.map pairD = b.map pairD) : a = b := by
  induction a generalizing b with
  | nil => cases b with
    | nil => rfl
    | cons y l => exact nomatch h
  | cons x l ih => cases b with
    | nil => exact nomatch h
    | cons y l' =>
      obtain ⟨h1, h2⟩ := List.cons.inj h
      obtain ⟨h3, h4⟩ := List.cons.inj (PyData.tuple.inj h1)
      have e1 := PyData.int.inj h3
      have e2 := PyData.int.inj (List.cons.inj h4).1
      rw [ih h2, show x = y from Prod.ext (by omega) e2]
/-- a node is told by its data -/
theorem Gd.inj {B B' : Nat} {q q' : NQ} (h : Gd B q) (h' : Gd B' q') (e : q.1.d = q'.1.d) : q = q' := by
  obtain ⟨⟨w, k, cl, rest⟩, ps, src⟩ := q
  obtain ⟨⟨w', k', cl', rest'⟩, ps', src'⟩ := q'
  have f1 : w = w' ∧ k = k' ∧ cl = cl' ∧ rest = rest' := by
    obtain ⟨e1, e⟩ := List.cons.inj (PyData.tuple.inj e)
    obtain ⟨e2, e⟩ := List.cons.inj e
    obtain ⟨e3, e4⟩ := List.cons.inj e
    exact ⟨PyData.str.inj e1, e2, pairs_inj (PyData.tuple.inj e3), e4⟩
  clear e
  obtain ⟨rfl, rfl, rfl, rfl⟩ := f1
  have low : ∀ x ∈ (["input", "here", "const", "beat"] : List Str), ¬ x = "merge" ∧ ¬ x = "delay" := by decide +kernel
  have md : ¬ ("merge" : Str) = "delay" := by decide +kernel
  rcases ren_ways h.ok id with ⟨hw, ch, arms, hr, hp, hs, _⟩ | ⟨hw, n1, v, z, hr, hs, _⟩ | ⟨n3, n1, n2, lr, hp, hs, _⟩ | ⟨n3, hw, n1, n2, hr, hs, _⟩
  · rcases ren_ways h'.ok id with ⟨hw', ch', arms', hr', hp', hs', _⟩ | ⟨_, n1', _⟩ | ⟨_, n1', _⟩ | ⟨_, _, n1', _⟩
    · obtain ⟨a1, a2⟩ := List.cons.inj (hr.symm.trans hr')
      have a3 := nums_inj (PyData.tuple.inj (List.cons.inj a2).1)
      have a4 := PyData.int.inj a1
      have hp : ps = ch :: arms := hp
      have hp' : ps' = ch' :: arms' := hp'
      have hs : src = none := hs
      have hs' : src' = none := hs'
      rw [hp, hp', hs, hs', a3, show ch = ch' by omega]
    · exact absurd hw n1'
    · exact absurd hw n1'
    · exact absurd hw n1'
  · rcases ren_ways h'.ok id with ⟨hw', _⟩ | ⟨_, _, v', z', hr', hs', _⟩ | ⟨_, _, n2', _⟩ | ⟨_, _, _, n2', _⟩
    · exact absurd hw' n1
    · obtain ⟨a1, a2⟩ := List.cons.inj (hr.symm.trans hr')
      obtain ⟨a3, a4⟩ := List.cons.inj a2
      have a5 : ps = ps' := nums_inj (PyData.tuple.inj (List.cons.inj a4).1)
      have a6 := PyData.int.inj a3
      have hs : src = some z := hs
      have hs' : src' = some z' := hs'
      rw [a5, hs, hs', show z = z' by omega]
    · exact absurd hw n2'
    · exact absurd hw n2'
  · rcases ren_ways h'.ok id with ⟨hw', _⟩ | ⟨hw', _⟩ | ⟨_, _, _, _, hp', hs', _⟩ | ⟨n3', _⟩
    · exact absurd hw' n1
    · exact absurd hw' n2
    · have hp : ps = [] := hp
      have hp' : ps' = [] := hp'
      have hs : src = none := hs
      have hs' : src' = none := hs'
      rw [hp, hp', hs, hs']
    · exact absurd n3 n3'
  · rcases ren_ways h'.ok id with ⟨hw', _⟩ | ⟨hw', _⟩ | ⟨n3', _⟩ | ⟨_, _, _, _, hr', hs', _⟩
    · exact absurd hw' n1
    · exact absurd hw' n2
    · exact absurd n3' n3
    · have a5 : ps = ps' := nums_inj (hr.symm.trans hr')
      have hs : src = none := hs
      have hs' : src' = none := hs'
      rw [a5, hs, hs']
/-- what two nodes' looks share, they share under coarser numbers too -/
theorem ren_coarse {B : Nat} {q q' : NQ} (h : Gd B q) (h' : Gd B q') {f g : Nat → Nat} {B' : Nat} (hf : ∀ u, u < B → f u < B') (e : (ren f q).1.d = (ren f q').1.d) : (ren (fun u => g (f u)) q).1.d = (ren (fun u => g (f u)) q').1.d := by
  rw [← ren_comp h f g, ← ren_comp h' f g, (h.numb hf).inj (h'.numb hf) e]

/-! ### two classes joined -/
def joinI (ps : List Int) (x y : Int) : List Int := ps.map fun p => if p = max x y then min x y else p
def R_joined : PR := fun as C => ∃ (ps : List Int) (a b : Nat) (x y : Int), as = [.dat (.list (ps.map .int)), .dat (.int (a : Int)), .dat (.int (b : Int))] ∧ ps[a]? = some x ∧ ps[b]? = some y ∧ ps.length ≤ 300 ∧
  ∀ r : Cel, (r = .dat (.list ((joinI ps x y).map .int)) ∨ r = .own ((joinI ps x y).map .int)) → C r as
section
variable {P : Program} {w : World} {K : PySem.W.Frag} {mg : Str → Option Value} {base : Heap}
theorem okp_joined (T : Tx K mg w base) : FnOk P w K mg base CX0 1 T.f_joined T.fd_joined ["_law_leaders_here", "_law_a", "_law_b"] (spP K T.tbs 3 R_joined) := by
  refine okP T.F_joined sc_joined rfl fun cdv A outer s H E G hG hcd hr => ⟨_, (pss_consP (ps_setP (ps_set (i := 3) sc_joined.nd rfl (Or.inr rfl) (pe_cbP lc_min (pe_callB (call_minP rfl) (by rfl) T.z_min (by decide +kernel) (pa_consP (pe_ixP (pe_borP (pv 0)) (pe_borP (pv 1)) (fun _ _ => rfl) li_ix) (pa_consP (pe_ixP (pe_borP (pv 0)) (pe_borP (pv 2)) (fun _ _ => rfl) li_ix) pa_nilP))))))
      (pss_consP (ps_setP (ps_set (i := 4) sc_joined.nd rfl (Or.inr rfl) (pe_cbP lc_max (pe_callB (call_maxP rfl) (by rfl) T.z_max (by decide +kernel) (pa_consP (pe_ixP (pe_borP (pv 0)) (pe_borP (pv 1)) (fun _ _ => rfl) li_ix) (pa_consP (pe_ixP (pe_borP (pv 0)) (pe_borP (pv 2)) (fun _ _ => rfl) li_ix) pa_nilP))))))
      (pss_consP (ps_ifP (pt_cmpP (op_eqP hr.units) li_eq (pe_borP (pv 3)) (pe_borP (pv 4)) (nomark _)) (pss_oneP (ps_retMvP (pv 0))) pss_nilP)
      (pss_oneP (ps_retP (pe_lcP (vs := [5]) (pe_lc (own := [("_law_leader", 5)]) rfl sc_joined.nd (pi_itemsP (pe_varP (pv 0))) (blkOk_by (N := ["_law_leaders_here", "_law_a", "_law_b", "_law_low", "_law_high", "_law_leader"]) (sc := defScope s_joined) (by decide +kernel)) (fun _ _ _ _ _ => (pg_compP (vs := [5]) (pg_name (i := 5) sc_joined.nd rfl (Or.inl rfl)))) (fun _ _ _ _ _ => pts_nilP) (fun _ _ _ _ _ => (pe_frzP (pe_ifP (pt_cmpP (op_eqP hr.units) li_eq (pe_borP (pv 5)) (pe_borP (pv 4)) (nomark _)) (pe_varP (pv 3)) (pe_varP (pv 5)))))))))))), fun as C hl h => ?_⟩
  obtain ⟨ps, a, b, x, y, rfl, ha, hb, l300, q⟩ := h
  have pa : (ps.map PyData.int)[a]? = some (.int x) := by rw [List.getElem?_map, ha]; rfl
  have pb : (ps.map PyData.int)[b]? = some (.int y) := by rw [List.getElem?_map, hb]; rfl
  refine ⟨_, atD a pa, _, atD b pb, _, atD a pa, _, atD b pb, ?_⟩
  have emin : (if y < x then y else x) = min x y := by split <;> omega
  have emax : (if x < y then y else x) = max x y := by split <;> omega
  refine IfP.both (fun h1 => q _ (.inl ?_)) fun h1 => ?_
  · have e : joinI ps x y = ps := by
      unfold joinI
      have hxy : x = y := by
        have := of_decide_eq_true h1
        split at this <;> split at this <;> omega
      subst hxy
      refine (List.map_congr_left fun p _ => ?_).trans (List.map_id ps)
      split
      · next h => rw [h]; show min x x = max x x; omega
      · rfl
    rw [e]
  · refine lc_mapP (l := ps) (e := PyData.int) (fun p => .int (if p = max x y then min x y else p)) (szl (by omega)) (fun j p hp Q k => .t rfl ?_) (q _ (.inr ?_))
    · refine IfP.both (fun h2 => ?_) fun h2 => ?_
      · have h2 : p = (if x < y then y else x) := of_decide_eq_true h2
        rw [if_pos (h2.trans emax), ← emin] at k
        exact k
      · have h2 : ¬ p = (if x < y then y else x) := of_decide_eq_false h2
        rw [if_neg (fun z => h2 (z.trans emax.symm))] at k
        exact k
    all_goals (unfold joinI; rw [List.map_map]; rfl)
end

/-! ### the first place of a kind -/
def fo (p : Nat → Bool) : Nat → Nat
  | 0 => 0
  | a + 1 => if p (fo p a) = true then fo p a else a + 1
theorem fo_le (p : Nat → Bool) : ∀ a, fo p a ≤ a
  | 0 => Nat.le_refl _
  | a + 1 => by
    have := fo_le p a
    unfold fo
    split <;> omega
theorem fo_spec (p : Nat → Bool) : ∀ a, (∃ m, m ≤ a ∧ p m = true) → p (fo p a) = true ∧ ∀ m, m < fo p a → p m = false
  | 0, ⟨m, hm, h⟩ => by
    have : m = 0 := by omega
    subst this
    exact ⟨h, fun m hm => absurd hm (Nat.not_lt_zero _)⟩
  | a + 1, ⟨m, hm, h⟩ => by
    unfold fo
    split
    · next h1 => exact fo_spec p a ⟨_, fo_le p a, h1⟩
    · next h1 =>
      have no : ∀ m, m ≤ a → p m = false := fun m hm => by
        cases e : p m
        · rfl
        · exact absurd (fo_spec p a ⟨m, hm, e⟩).1 h1
      refine ⟨?_, fun m hm => no m (by omega)⟩
      rcases Nat.lt_or_ge a m with hl | hl
      · rw [show a + 1 = m by omega]
        exact h
      · rw [no m hl] at h
        cases h
/-- the first node with the same look -/
def lead (N : List NQ) (ls : List Nat) (a : Nat) : Nat := fo (fun j => (lookD N ls j).eqv (lookD N ls a)) a
def finer (N : List NQ) (ls : List Nat) : List Nat := (List.range N.length).map (lead N ls)
theorem finer_len (N : List NQ) (ls : List Nat) : (finer N ls).length = N.length := by
  unfold finer
  rw [List.length_map, List.length_range]
theorem finer_at {N : List NQ} {ls : List Nat} {a : Nat} (h : a < N.length) : (finer N ls)[a]? = some (lead N ls a) := by
  unfold finer
  rw [List.getElem?_map, List.getElem?_range h]
  rfl
theorem lead_le (N : List NQ) (ls : List Nat) (a : Nat) : lead N ls a ≤ a := fo_le _ a
theorem look_eqv {B : Nat} {N : List NQ} {ls : List Nat} (al : AllG N.length N) (hb : ∀ u, u < N.length → nth ls u < B) {a b : Nat} (ha : a < N.length) (hb' : b < N.length) : (lookD N ls a).eqv (lookD N ls b) = true ↔ lookD N ls a = lookD N ls b := by
  have f : ∀ n, n < N.length → plainD (lookD N ls n) = true := fun n hn => by
    unfold lookD
    rw [List.getElem?_eq_getElem hn]
    exact ((al _ (List.getElem_mem hn)).numb hb).pl
  exact eqv_iff (f a ha) (f b hb')
theorem lead_look {B : Nat} {N : List NQ} {ls : List Nat} (al : AllG N.length N) (hb : ∀ u, u < N.length → nth ls u < B) {a : Nat} (ha : a < N.length) : lookD N ls (lead N ls a) = lookD N ls a := by
  have s := fo_spec (fun j => (lookD N ls j).eqv (lookD N ls a)) a ⟨a, Nat.le_refl _, (look_eqv al hb ha ha).mpr rfl⟩
  exact (look_eqv al hb (Nat.lt_of_le_of_lt (lead_le N ls a) ha) ha).mp s.1
theorem lead_eq {B : Nat} {N : List NQ} {ls : List Nat} (al : AllG N.length N) (hb : ∀ u, u < N.length → nth ls u < B) {a b : Nat} (ha : a < N.length) (hb' : b < N.length) : lead N ls a = lead N ls b ↔ lookD N ls a = lookD N ls b := by
  constructor
  · intro e
    rw [← lead_look al hb ha, e, lead_look al hb hb']
  · intro e
    have sa := (fo_spec (fun j => (lookD N ls j).eqv (lookD N ls a)) a ⟨a, Nat.le_refl _, (look_eqv al hb ha ha).mpr rfl⟩)
    have sb := (fo_spec (fun j => (lookD N ls j).eqv (lookD N ls b)) b ⟨b, Nat.le_refl _, (look_eqv al hb hb' hb').mpr rfl⟩)
    rw [← e] at sb
    have h1 : ¬ lead N ls a < lead N ls b := fun z => by
      have := sb.2 (lead N ls a) (by unfold lead at z ⊢; rw [← e] at z; exact z)
      have s1 : (lookD N ls (lead N ls a)).eqv (lookD N ls a) = true := sa.1
      rw [this] at s1
      cases s1
    have h2 : ¬ lead N ls b < lead N ls a := fun z => by
      have := sa.2 (lead N ls b) z
      have s1 : (lookD N ls (lead N ls b)).eqv (lookD N ls a) = true := by
        have := sb.1
        unfold lead
        rw [← e]
        exact this
      rw [this] at s1
      cases s1
    omega

/-! ### each turn refines -/
theorem ren_congr {B : Nat} {q : NQ} (h : Gd B q) {f g : Nat → Nat} (e : ∀ u, u < B → f u = g u) : (ren f q).1.d = (ren g q).1.d := by
  obtain ⟨⟨nw, nk, cl, rest⟩, ps, src⟩ := q
  have ec : (cl.map fun p : Nat × Int => (f p.1, p.2)) = cl.map fun p => (g p.1, p.2) := List.map_congr_left fun p hp => by
    rw [e p.1 (h.need p.1 (List.mem_append_left _ (List.mem_map_of_mem hp)))]
  have ep : ps.map f = ps.map g := List.map_congr_left fun v hv => e v (h.need v (List.mem_append_right _ hv))
  have key : renR f ⟨nw, nk, cl, rest⟩ ps src = renR g ⟨nw, nk, cl, rest⟩ ps src := by
    have rf := ren_ways h.ok f
    have rg := ren_ways h.ok g
    rcases rf with ⟨hw, ch, arms, _, hp, _, re⟩ | ⟨hw, n1, v, z, hr, hs, re⟩ | ⟨n3, n1, n2, _, _, _, re⟩ | ⟨n3, _, n1, n2, _, _, re⟩
    · rcases rg with ⟨_, ch', arms', _, hp', _, re'⟩ | ⟨_, n1', _⟩ | ⟨_, n1', _⟩ | ⟨_, _, n1', _⟩
      · obtain ⟨rfl, rfl⟩ := List.cons.inj (hp.symm.trans hp')
        have hp : ps = ch :: arms := hp
        rw [hp] at ep
        obtain ⟨e1, e2⟩ := List.cons.inj ep
        rw [re, re', e1, e2]
      · exact absurd hw n1'
      · exact absurd hw n1'
      · exact absurd hw n1'
    · rcases rg with ⟨hw', _⟩ | ⟨_, _, v', z', hr', hs', re'⟩ | ⟨_, _, n2', _⟩ | ⟨_, _, _, n2', _⟩
      · exact absurd hw' n1
      · obtain ⟨a1, _⟩ := List.cons.inj (hr.symm.trans hr')
        have hz := Option.some.inj (hs.symm.trans hs')
        subst a1 hz
        rw [re, re', e z (h.src z hs)]
        show _ = [v, PyData.int (g z : Int), .tuple (nums (rsort (ps.map g)))]
        rw [← ep]
      · exact absurd hw n2'
      · exact absurd hw n2'
    · rcases rg with ⟨hw', _⟩ | ⟨hw', _⟩ | ⟨_, _, _, _, _, _, re'⟩ | ⟨n3', _⟩
      · exact absurd hw' n1
      · exact absurd hw' n2
      · exact re.trans re'.symm
      · exact absurd n3 n3'
    · rcases rg with ⟨hw', _⟩ | ⟨hw', _⟩ | ⟨n3', _⟩ | ⟨_, _, _, _, _, _, re'⟩
      · exact absurd hw' n1
      · exact absurd hw' n2
      · exact absurd n3' n3
      · rw [re, re']
        show nums (ps.map f) = nums (ps.map g)
        rw [ep]
  show PyData.tuple (.str nw :: nk :: .tuple ((cl.map fun p => (f p.1, p.2)).map pairD) :: renR f ⟨nw, nk, cl, rest⟩ ps src) = PyData.tuple (.str nw :: nk :: .tuple ((cl.map fun p => (g p.1, p.2)).map pairD) :: renR g ⟨nw, nk, cl, rest⟩ ps src)
  rw [ec, key]

/-! ### the classes while they are parted -/
structure Cls (N : List NQ) (ls : List Nat) : Prop where
  len : ls.length = N.length
  le : ∀ a, a < N.length → nth ls a ≤ a
  idem : ∀ a, a < N.length → nth ls (nth ls a) = nth ls a
  coh : ∀ a b, a < N.length → b < N.length → lookD N ls a = lookD N ls b → nth ls a = nth ls b
theorem Cls.lt {N : List NQ} {ls : List Nat} (c : Cls N ls) : ∀ u, u < N.length → nth ls u < N.length := fun u hu => Nat.lt_of_le_of_lt (c.le u hu) hu
theorem nth_finer {N : List NQ} {ls : List Nat} {a : Nat} (h : a < N.length) : nth (finer N ls) a = lead N ls a := by
  unfold nth
  rw [finer_at h]
  rfl
theorem Cls.next {N : List NQ} {ls : List Nat} (al : AllG N.length N) (c : Cls N ls) : Cls N (finer N ls) := by
  have lt : ∀ a, a < N.length → lead N ls a < N.length := fun a ha => Nat.lt_of_le_of_lt (lead_le N ls a) ha
  refine ⟨finer_len N ls, fun a ha => by rw [nth_finer ha]; exact lead_le N ls a, fun a ha => ?_, fun a b ha hb e => ?_⟩
  · rw [nth_finer ha, nth_finer (lt a ha)]
    exact (lead_eq al c.lt (lt a ha) ha).mpr (lead_look al c.lt ha)
  · rw [nth_finer ha, nth_finer hb]
    refine (lead_eq al c.lt ha hb).mpr ?_
    have la : ∀ n, (h : n < N.length) → ∀ sw, lookD N sw n = (ren (nth sw) N[n]).1.d := fun n h sw => by
      unfold lookD
      rw [List.getElem?_eq_getElem h]
    rw [la a ha, la b hb] at e
    have ga := al _ (List.getElem_mem ha)
    have gb := al _ (List.getElem_mem hb)
    have co := ren_coarse ga gb (f := nth (finer N ls)) (g := nth ls) (B' := N.length) (fun u hu => by rw [nth_finer hu]; exact lt u hu) e
    have eq : ∀ u, u < N.length → nth ls (nth (finer N ls) u) = nth ls u := fun u hu => by
      rw [nth_finer hu]
      exact c.coh _ _ (lt u hu) hu (lead_look al c.lt hu)
    rw [la a ha, la b hb, ← ren_congr ga eq, ← ren_congr gb eq]
    exact co
def fixd (N : List NQ) (ls : List Nat) : Nat := (List.range N.length).countP fun a => decide (nth ls a = a)
theorem fixd_le (N : List NQ) (ls : List Nat) : fixd N ls ≤ N.length := by
  have := List.countP_le_length (p := fun a => decide (nth ls a = a)) (l := List.range N.length)
  rw [List.length_range] at this
  exact this
theorem count_lt {p q : Nat → Bool} : ∀ (l : List Nat), (∀ x ∈ l, p x = true → q x = true) → (∃ x ∈ l, p x = false ∧ q x = true) → l.countP p < l.countP q
  | x :: l, h, ⟨y, hy, h1, h2⟩ => by
    have mono := List.countP_mono_left (l := l) (p := p) (q := q) fun z hz => h z (List.mem_cons_of_mem _ hz)
    rw [List.countP_cons, List.countP_cons]
    rcases List.mem_cons.mp hy with rfl | hy
    · rw [h1, h2]
      simp
      omega
    · have ih := count_lt l (fun z hz => h z (List.mem_cons_of_mem _ hz)) ⟨y, hy, h1, h2⟩
      by_cases e : p x = true
      · rw [e, h x List.mem_cons_self e]
        omega
      · rw [if_neg e]
        split <;> omega
theorem Cls.more {N : List NQ} {ls : List Nat} (al : AllG N.length N) (c : Cls N ls) (ne : finer N ls ≠ ls) : fixd N ls < fixd N (finer N ls) := by
  have lt : ∀ a, a < N.length → lead N ls a < N.length := fun a ha => Nat.lt_of_le_of_lt (lead_le N ls a) ha
  have co : ∀ a, a < N.length → nth ls (lead N ls a) = nth ls a := fun a ha => c.coh _ _ (lt a ha) ha (lead_look al c.lt ha)
  obtain ⟨a, ha, hne⟩ : ∃ a, a < N.length ∧ lead N ls a ≠ nth ls a := by
    refine Classical.byContradiction fun no => ne ?_
    refine List.ext_getElem? fun a => ?_
    by_cases ha : a < N.length
    · rw [finer_at ha, nth_at (sw := ls) (by rw [c.len]; exact ha)]
      exact congrArg some (Classical.byContradiction fun z => no ⟨a, ha, z⟩)
    · rw [List.getElem?_eq_none (by rw [finer_len]; omega), List.getElem?_eq_none (by rw [c.len]; omega)]
  refine count_lt _ (fun x hx h => ?_) ⟨lead N ls a, List.mem_range.mpr (lt a ha), decide_eq_false fun z => ?_, decide_eq_true ?_⟩
  · have hx := List.mem_range.mp hx
    have h := of_decide_eq_true h
    refine decide_eq_true ?_
    rw [nth_finer hx]
    have l1 := lead_le N ls x
    have l2 := c.le _ (lt x hx)
    rw [co x hx, h] at l2
    omega
  · rw [co a ha] at z
    exact hne z.symm
  · rw [nth_finer (lt a ha)]
    exact (lead_eq al c.lt (lt a ha) ha).mpr (lead_look al c.lt ha)
def Stable (N : List NQ) (ls : List Nat) : Prop := ∀ a b, a < N.length → b < N.length → nth ls a = nth ls b → lookD N ls a = lookD N ls b
theorem Cls.stable {N : List NQ} {ls : List Nat} (al : AllG N.length N) (c : Cls N ls) (e : finer N ls = ls) : Stable N ls := fun a b ha hb h => by
  have x : ∀ a, a < N.length → nth ls a = lead N ls a := fun a ha => by rw [← nth_finer ha, e]
  rw [x a ha, x b hb] at h
  exact (lead_eq al c.lt ha hb).mp h

/-! ### a comprehension over a list that is held by a name -/
inductive LcOkB (j : Nat) (items : List PyData) (e : PEnv) (g : PTg) (t : PTst) (f : PEx) (vs : List Nat) (C : PK) : Prop where
  | mk (hf : fgtB e vs = true) (nj : j ∉ vs) (W : Nat → PEnv → List PyData → Prop) (w0 : W 0 (wipeP e vs) []) (keep : ∀ i e2 acc, W i e2 acc → (wipeP e2 vs)[j]? = some (.own items)) (turn : ∀ i x e2 acc, items[i]? = some x → W i e2 acc → g x (wipeP e2 vs) fun e3 => t e3 fun b e4 => IfP b (f e4 (fun p e5 => match p with
      | .dat d => acc.length < sizeLine ∧ W (i + 1) (wipeP e5 vs) (acc ++ [d])
      | _ => False)) (W (i + 1) (wipeP e4 vs) acc)) (fin : ∀ e2 acc, W items.length e2 acc → C (.own acc) (wipeP e2 vs))
def pLcB (j : Nat) (g : PTg) (t : PTst) (f : PEx) (vs : List Nat) : PEx := fun env C => match env[j]? with
  | some (.own items) => LcOkB j items env g t f vs C
  | _ => False
section
variable {X : Cx} {G : Gam} {e : Expr} {g : PTg} {t : PTst} {f : PEx} {vs : List Nat}
theorem lcBP {j : Nat} (σ : L2.St) (H : Hp) (Q : VK) (h : tE X.K G (pLcB j g t f vs) σ H Q) : tLc (iSeqP X.K (tVar j)) (tG X.K G (some vs) g) (tQ X.K G t) (tE X.K G f) vs σ H Q := by
  obtain ⟨env, T, C, s, h, k⟩ := h
  unfold pLcB at h
  split at h
  · next items ej =>
    obtain ⟨hf, nj, W, w0, keep, turn, fin⟩ := h
    obtain ⟨Z1, s1⟩ := s
    obtain ⟨ov, eσ, a, us, rfl, ha, hx, _⟩ := s1.sl j _ ej
    have eσw : (wipe σ vs)[j]? = some (some (V.ref a)) := by rw [wipe_out nj]; exact eσ
    refine ⟨.ref a, eσ, a, rfl, .inl ⟨us, SqL.of ha, ?_⟩⟩
    intro D hD
    have nbv := s1.fgtB hf
    have sD := (s1.newLst (ds := []) (vs := []) hD rfl)
    have nbA : ∀ acc, ∀ v ∈ vs, ∀ t ∈ ((V.ref D, Cel.own acc) :: T), t.2 ≠ Cel.bor v ∧ ∀ k, t.2 ≠ Cel.sub v k := fun acc v hv t ht => by
      rcases List.mem_cons.mp ht with rfl | ht
      · exact ⟨(fun z => by cases z), fun k z => by cases z⟩
      · exact nbv v hv t ht
    have ww : wipe (wipe σ vs) vs = wipe σ vs := wipe_wipe vs fun _ h => h
    refine ⟨fun i m H => m = items.length - i ∧ i ≤ items.length ∧ ∃ env acc, W i env acc ∧ StE X.K G H (wipe σ vs) (wipeP env vs) ((.ref D, .own acc) :: T), ⟨_, rfl, Nat.zero_le _, wipeP env vs, [], w0, Z1, ?_⟩, ?_⟩
    · exact StZ.wipeA (StZ.wipeS (nbA []) (StZ.wipeS (nbA []) sD))
    · rintro i m H2 ⟨rfl, hi, e2, acc, w2, Z2, s2⟩
      obtain ⟨ov2, eσ2, a2, us2, rfl, ha2, hx2, _⟩ := s2.sl j _ (keep i e2 acc w2)
      rw [eσw] at eσ2
      cases eσ2
      by_cases hlt : i < items.length
      · obtain ⟨v, e1, hv⟩ := DaAll.at i items us2 _ hx2 (List.getElem?_eq_getElem hlt)
        refine .inr ⟨⟨us2, v, SqL.of ha2, e1⟩, fun H => ∃ env acc, W (i + 1) env acc ∧ StE X.K G H (wipe σ vs) (wipeP env vs) ((.ref D, .own acc) :: T), fun H' x => ⟨items.length - (i + 1), by omega, rfl, hlt, x⟩, fun x H3 y => ?_⟩
        obtain ⟨rfl, y⟩ := y
        have := y us2 (SqL.of ha2)
        rw [e1] at this
        cases this
        refine ⟨wipeP e2 vs, (.ref D, .own acc) :: T, _, _, (fun z => by cases z), ⟨Z2, s2.dat hv⟩, turn i _ e2 acc (List.getElem?_eq_getElem hlt) w2, fun e3 σ3 H3 h3 s3 hw => ?_⟩
        have hw3 : wipe σ3 vs = wipe σ vs := (hw vs rfl).trans ww
        refine ⟨hw3, e3, _, _, s3, h3, fun b e4 H4 h4 s4 => ?_⟩
        have back : ∀ {Z H5 e5 acc'}, StZ X.K G Z H5 σ3 e5 ((.ref D, .own acc') :: T) → StE X.K G H5 (wipe σ vs) (wipeP (wipeP e5 vs) vs) ((.ref D, .own acc') :: T) := fun {Z H5 e5 acc'} s5 => by
          have s6 := (StZ.wipeS (nbA acc') (StZ.wipeS (nbA acc') s5)).wipeA
          rw [hw3] at s6
          exact ⟨Z, s6⟩
        cases b with
        | true =>
          refine ⟨e4, _, _, s4, h4.tt, fun p e5 v H5 h5 ⟨Z5, s5⟩ => ?_⟩
          cases p with
          | dat d =>
            obtain ⟨a, us, e6, k1, k2, _⟩ := s5.pop.topOwn
            cases e6
            exact ⟨us, k1, by rw [k2.len]; exact h5.1, wipeP e5 vs, acc ++ [d], h5.2, back (s5.pop.wrT (DaAll.app _ _ _ _ k2 (DaAll.one s5.topDat)))⟩
          | _ => exact h5.elim
        | false =>
          obtain ⟨Z4, s4⟩ := s4
          exact ⟨_, _, h4.ff, back s4⟩
      · have e : i = items.length := by omega
        subst e
        exact .inl ⟨⟨us2, SqL.of ha2, by rw [hx2.len]; exact Nat.le_refl _⟩, k _ _ _ _ (fin e2 acc w2) ⟨Z2, s2.wipeB⟩⟩
  · exact h.elim
theorem ps_setLcBP {st : Stmt} {i j : Nat} (h : PS X st (tAsg (tLc (iSeqP X.K (tVar j)) (tG X.K G (some vs) g) (tQ X.K G t) (tE X.K G f) vs) (gName i))) : PS X st (tS X.K G (pSet i (pLcB j g t f vs))) :=
  ps_setP (h.le fun D σ H q => lcBP σ H _ q)
theorem pe_lcBP {j : Nat} (h : PE X e (tLc (iSeqP X.K (tVar j)) (tG X.K G (some vs) g) (tQ X.K G t) (tE X.K G f) vs)) : PE X e (tE X.K G (pLcB j g t f vs)) := h.le lcBP
end
section
variable {α : Type} {l : List α} {e : α → PyData} {env : PEnv} {g : PTg} {t : PTst} {f : PEx} {vs : List Nat} {C : PK}
theorem lc_mapB {j : Nat} (F : α → PyData) (hl : l.length < sizeLine) (hb : ∀ (i : Nat) (a : α), l[i]? = some a → ∀ Q : Option PyData → PEnv → Prop, Q (some (F a)) (wipeP env vs) → g (e a) (wipeP env vs) fun e3 => t e3 fun b e4 => IfP b (f e4 (fun p e5 => match p with
      | .dat d => Q (some d) (wipeP e5 vs)
      | _ => False)) (Q none (wipeP e4 vs))) (hc : C (.own (l.map F)) (wipeP env vs)) (hf : fgtB env vs = true := by rfl) (nj : j ∉ vs := by decide) (hk : (wipeP env vs)[j]? = some (.own (l.map e)) := by rfl) : LcOkB j (l.map e) env g t f vs C := by
  refine ⟨hf, nj, fun i e2 acc => e2 = wipeP env vs ∧ acc = (l.take i).map F, ⟨rfl, rfl⟩, ?_, ?_, ?_⟩
  · rintro i e2 acc ⟨rfl, _⟩
    rw [wipeP_idem]
    exact hk
  · rintro i x e2 acc hx ⟨rfl, rfl⟩
    rw [List.getElem?_map] at hx
    obtain ⟨a, ha, rfl⟩ := Option.map_eq_some_iff.mp hx
    rw [wipeP_idem]
    have tk : l.take (i + 1) = l.take i ++ [a] := by rw [List.take_succ, ha]; rfl
    refine hb i a ha (fun od e' => match od with
      | some d => ((l.take i).map F).length < sizeLine ∧ e' = wipeP env vs ∧ (l.take i).map F ++ [d] = (l.take (i + 1)).map F
      | none => e' = wipeP env vs ∧ (l.take i).map F = (l.take (i + 1)).map F) ?_
    exact ⟨by rw [List.length_map, List.length_take]; omega, rfl, by rw [tk, List.map_append]; rfl⟩
  · rintro e2 acc ⟨rfl, rfl⟩
    rw [List.length_map, List.take_length, wipeP_idem]
    exact hc
theorem lc_filterB {j : Nat} (F : α → Option PyData) (hl : l.length < sizeLine) (hb : ∀ (i : Nat) (a : α), l[i]? = some a → ∀ Q : Option PyData → PEnv → Prop, Q (F a) (wipeP env vs) → g (e a) (wipeP env vs) fun e3 => t e3 fun b e4 => IfP b (f e4 (fun p e5 => match p with
      | .dat d => Q (some d) (wipeP e5 vs)
      | _ => False)) (Q none (wipeP e4 vs))) (hc : C (.own (l.filterMap F)) (wipeP env vs)) (hf : fgtB env vs = true := by rfl) (nj : j ∉ vs := by decide) (hk : (wipeP env vs)[j]? = some (.own (l.map e)) := by rfl) : LcOkB j (l.map e) env g t f vs C := by
  refine ⟨hf, nj, fun i e2 acc => e2 = wipeP env vs ∧ acc = (l.take i).filterMap F, ⟨rfl, rfl⟩, ?_, ?_, ?_⟩
  · rintro i e2 acc ⟨rfl, _⟩
    rw [wipeP_idem]
    exact hk
  · rintro i x e2 acc hx ⟨rfl, rfl⟩
    rw [List.getElem?_map] at hx
    obtain ⟨a, ha, rfl⟩ := Option.map_eq_some_iff.mp hx
    rw [wipeP_idem]
    have tk : l.take (i + 1) = l.take i ++ [a] := by rw [List.take_succ, ha]; rfl
    refine hb i a ha (fun od e' => match od with
      | some d => ((l.take i).filterMap F).length < sizeLine ∧ e' = wipeP env vs ∧ (l.take i).filterMap F ++ [d] = (l.take (i + 1)).filterMap F
      | none => e' = wipeP env vs ∧ (l.take i).filterMap F = (l.take (i + 1)).filterMap F) ?_
    have lt : ((l.take i).filterMap F).length < sizeLine := Nat.lt_of_le_of_lt (List.length_filterMap_le _ _) (by rw [List.length_take]; omega)
    rw [tk, List.filterMap_append]
    cases q : F a with
    | none => exact ⟨rfl, by simp [q]⟩
    | some d => exact ⟨lt, rfl, by simp [q]⟩
  · rintro e2 acc ⟨rfl, rfl⟩
    rw [List.length_map, List.take_length, wipeP_idem]
    exact hc
end
section
variable {l : List Nat} {env : PEnv} {g : PTg} {t : PTst} {f : PEx} {vs : List Nat} {C : PK}
theorem lc_numsB {j : Nat} (p : Nat → Bool) (hl : l.length < sizeLine) (hb : ∀ (i : Nat) (a : Nat), l[i]? = some a → ∀ Q : Option PyData → PEnv → Prop, (p a = true → Q (some (.int (a : Int))) (wipeP env vs)) → (p a = false → Q none (wipeP env vs)) → g (.int (a : Int)) (wipeP env vs) fun e3 => t e3 fun b e4 => IfP b (f e4 (fun p e5 => match p with
      | .dat d => Q (some d) (wipeP e5 vs)
      | _ => False)) (Q none (wipeP e4 vs))) (hc : C (.own (nums (l.filter p))) (wipeP env vs)) (hf : fgtB env vs = true := by rfl) (nj : j ∉ vs := by decide) (hk : (wipeP env vs)[j]? = some (.own (nums l)) := by rfl) : LcOkB j (nums l) env g t f vs C := by
  refine lc_filterB (l := l) (e := fun a : Nat => .int (a : Int)) (fun a => if p a then some (.int (a : Int)) else none) hl (fun i a ha Q k => hb i a ha Q (fun h => ?_) fun h => ?_) ?_ hf nj hk
  · rw [if_pos h] at k
    exact k
  · rw [if_neg (by rw [h]; decide)] at k
    exact k
  · have e : ∀ l : List Nat, l.filterMap (fun a : Nat => if p a then some (PyData.int (a : Int)) else none) = nums (l.filter p) := fun l => by
      unfold nums
      induction l with
      | nil => rfl
      | cons a l ih =>
        rw [List.filterMap_cons, List.filter_cons]
        cases h : p a
        · simp [h, ih]
        · simp [h, ih]
    rw [e]
    exact hc
end

/-! ### lists of data: their shape -/
theorem slist_of {n : Nat} {ds : List PyData} (h : ∀ d ∈ ds, plainD d = true ∧ d.depth ≤ n) (hn : n ≤ 63) : SeqAt.shaped (.list ds) = true := by
  have h1 : PyData.canLay0 (.list ds) = true := by
    have := plain_lay _ (show plainD (.tuple ds) = true from plain_of fun d hd => (h d hd).1)
    simpa [PyData.canLay0] using this
  unfold SeqAt.shaped
  have h3 : (PyData.list ds).depth ≤ 64 := by
    show PyData.depthAll ds + 1 ≤ 64
    have := depth_of fun d hd => (h d hd).2
    omega
  rw [h1, decide_eq_true h3]
  rfl
theorem snums (l : List Nat) : SeqAt.shaped (.list (nums l)) = true := slist_of (n := 0) (fun d hd => by
  obtain ⟨i, _, rfl⟩ := List.mem_map.mp hd
  exact ⟨rfl, Nat.le_refl 0⟩) (by decide)
theorem eqv_nums (a b : List Nat) : PyData.eqv (.list (nums a)) (.list (nums b)) = true ↔ a = b := by
  have h := eqv_iff (d := .tuple (nums a)) (e := .tuple (nums b)) (plain_nums a) (plain_nums b)
  simp only [PyData.eqv] at h ⊢
  exact h.trans ⟨fun z => nums_inj (PyData.tuple.inj z), fun z => by rw [z]⟩

/-! ### the greatest class paper -/
def R_leaders : PR := fun as C => ∃ N : List NQ, as = [.dat (.tuple (nodesD N))] ∧ AllG N.length N ∧ 1 ≤ N.length ∧ N.length ≤ 90 ∧
  ∀ ls : List Nat, Cls N ls → Stable N ls → C (.dat (.list (nums ls))) as
section
variable {P : Program} {w : World} {K : PySem.W.Frag} {mg : Str → Option Value} {base : Heap}
theorem okp_leaders (T : Tx K mg w base) : FnOk P w K mg base CX0 2 T.f_leaders T.fd_leaders ["_law_nodes"] (spP K T.tbs 1 R_leaders) := by
  refine okP T.F_leaders sc_leaders rfl fun cdv A outer s H E G hG hcd hr => ⟨_, (pss_consP (ps_setP (ps_set (i := 1) sc_leaders.nd rfl (Or.inr rfl) (pe_frzP (pe_opP op_mulP li_mul (pe_lstP (pa_consP (pe_cP (d := .int 0) pe_int) pa_nilP)) (pe_cbP lc_len (pe_callB call_lenP (by rfl) T.z_len (by decide +kernel) (pa_consP (pe_borP (pv 0)) pa_nilP)))))))
      (pss_consP (ps_forP (ps_for PassesOwn.never rfl (pi_range1P (pi_range1 (by rfl) T.z_range (pa_consP (pe_cbP lc_len (pe_callB call_lenP (by rfl) T.z_len (by decide +kernel) (pa_consP (pe_borP (pv 0)) pa_nilP))) pa_nilP))) (pg_nameP (pg_name (i := 2) sc_leaders.nd rfl (Or.inl rfl)))
      (pss_consP (ps_setP (ps_set (i := 3) sc_leaders.nd rfl (Or.inr rfl) (pe_lcP (vs := [5]) (pe_lc (own := [("_law_node", 5)]) rfl sc_leaders.nd (pi_itemsP (pe_varP (pv 0))) (blkOk_by (N := ["_law_nodes", "_law_leaders_here", "_law_turn", "_law_looks", "_law_finer", "_law_node", "_law_look"]) (sc := defScope s_leaders) (by decide +kernel)) (fun _ _ _ _ _ => (pg_compP (vs := [5]) (pg_name (i := 5) sc_leaders.nd rfl (Or.inl rfl)))) (fun _ _ _ _ _ => pts_nilP) (fun _ _ _ _ _ => (pe_frzP (pe_callP hG (pe_call (okp_renumbered T) (hr.mono (by decide)) rfl T.m_renumbered T.F_renumbered.kp T.b_renumbered .nil pass0 (pa_consP (pe_borP (pv 5)) (pa_consP (pe_varP (pv 1)) pa_nilP))))))))))
      (pss_consP (ps_setLcBP (i := 4) (j := 3) (vs := [6]) (ps_setLc (i := 4) (own := [("_law_look", 6)]) rfl sc_leaders.nd rfl rfl (sw_true rfl rfl rfl (by decide +kernel)) (by exact pi_seqP (pv 3)) (blkOk_by (N := ["_law_nodes", "_law_leaders_here", "_law_turn", "_law_looks", "_law_finer", "_law_node", "_law_look"]) (sc := defScope s_leaders) (by decide +kernel)) (fun _ _ _ _ _ => (pg_compP (vs := [6]) (pg_name (i := 6) sc_leaders.nd rfl (Or.inl rfl)))) (fun _ _ _ _ _ => pts_nilP) (fun _ _ _ _ _ => (pe_frzP (pe_methP lm_indexD (pe_bm PySem.F.plainAttrs_list PySem.F.slot_list_index PySem.F.type_list_index (mt_indexD hr.u65) (pe_borP (pv 3)) (pa_consP (pe_varP (pv 6)) pa_nilP)))))))
      (pss_consP (ps_ifP (pt_cmpP (op_eqP hr.units) li_eq (pe_borP (pv 4)) (pe_borP (pv 1)) (nomark _)) (pss_oneP ps_breakP) pss_nilP)
      (pss_oneP (ps_setP (ps_set (i := 1) sc_leaders.nd rfl (Or.inr rfl) (pe_varP (pv 4))))))))))
      (pss_oneP (ps_retMvP (pv 1))))), fun as C hl h => ?_⟩
  obtain ⟨N, rfl, al, n1, n90, q⟩ := h
  have lD := nodesD_len N
  have zs : (List.replicate N.length [PyData.int 0]).flatten = nums (List.replicate N.length 0) := by
    generalize N.length = n
    induction n with
    | zero => rfl
    | succ n ih =>
      rw [List.replicate_succ, List.flatten_cons, ih, List.replicate_succ]
      rfl
  have z0 : ∀ a, a < N.length → nth (List.replicate N.length 0) a = 0 := fun a ha => by
    unfold nth
    rw [List.getElem?_replicate, if_pos ha]
    rfl
  have c0 : Cls N (List.replicate N.length 0) := ⟨List.length_replicate, fun a ha => by rw [z0 a ha]; omega, fun a ha => by rw [z0 a ha, z0 0 (by omega)], fun a b ha hb _ => by rw [z0 a ha, z0 b hb]⟩
  have f0 : 1 ≤ fixd N (List.replicate N.length 0) := by
    unfold fixd
    exact List.countP_pos_iff.mpr ⟨0, List.mem_range.mpr (by omega), decide_eq_true (z0 0 (by omega))⟩
  refine ⟨szr, by omega, by omega, ?_, ?_⟩
  · show 1 * ((((nodesD N).length : Nat) : Int)).toNat ≤ sizeLine
    rw [lD, sizeLine_eq]
    omega
  have e0 : (List.replicate ((((nodesD N).length : Nat) : Int)).toNat [PyData.int 0]).flatten = nums (List.replicate N.length 0) := by
    rw [lD, show ((N.length : Nat) : Int).toNat = N.length by omega]
    exact zs
  rw [e0]
  refine ⟨by omega, by omega, ?_⟩
  rw [lD, rangeN]
  refine ⟨fun i env => ∃ (ls : List Nat) (c2 c3 c4 : Cel), Cls N ls ∧ i + 1 ≤ fixd N ls ∧ env = [.dat (.tuple (nodesD N)), .dat (.list (nums ls)), c2, c3, c4, .no, .no], ⟨_, _, _, _, c0, f0, rfl⟩, ?_, ?_⟩
  · rintro i x env hx ⟨ls, c2, c3, c4, c, f, rfl⟩
    have ll := c.len
    have em : (N.map fun q => (ren (nth ls) q).1.d) = (List.range N.length).map (lookD N ls) := by
      refine List.ext_getElem? fun n => ?_
      by_cases hn : n < N.length
      · rw [List.getElem?_map, List.getElem?_map, List.getElem?_range hn, List.getElem?_eq_getElem hn]
        show _ = some (lookD N ls n)
        unfold lookD
        rw [List.getElem?_eq_getElem hn]
        rfl
      · rw [List.getElem?_eq_none (by rw [List.length_map]; omega), List.getElem?_eq_none (by rw [List.length_map, List.length_range]; omega)]
    refine lc_mapP (l := N) (e := fun q => q.1.d) (fun q => (ren (nth ls) q).1.d) (szl (by omega)) (fun j a ha Q k => .t rfl ⟨N.length, a, ls, rfl, al a (List.mem_of_getElem? ha), by omega, by omega, k⟩) ?_
    rw [em]
    have sh : ∀ a, a < N.length → SeqAt.shaped (lookD N ls a) = true := fun a ha => by
      unfold lookD
      rw [List.getElem?_eq_getElem ha]
      exact ren_shaped (al _ (List.getElem_mem ha)) c.lt (al.dp _ (List.getElem_mem ha))
    have shl : SeqAt.shaped (.list ((List.range N.length).map (lookD N ls))) = true := slist_of (n := 10) (fun d hd => by
      obtain ⟨a, ha, rfl⟩ := List.mem_map.mp hd
      have ha := List.mem_range.mp ha
      have g := al _ (List.getElem_mem ha)
      unfold lookD
      rw [List.getElem?_eq_getElem ha]
      exact ⟨(g.numb c.lt).pl, ren_depth g c.lt (al.dp _ (List.getElem_mem ha))⟩) (by decide)
    refine lc_mapB (l := List.range N.length) (e := lookD N ls) (fun a => .int (lead N ls a : Int)) (szl (by rw [List.length_range]; omega)) (fun j a ha Q k => .t rfl ?_) ?_
    · have ja := (List.getElem?_eq_some_iff.mp ha).1
      rw [List.length_range] at ja
      rw [List.getElem?_range ja] at ha
      cases ha
      have s := fo_spec (fun m => (lookD N ls m).eqv (lookD N ls j)) j ⟨j, Nat.le_refl _, (look_eqv al c.lt ja ja).mpr rfl⟩
      refine ⟨shl, sh j ja, lead N ls j, lookD N ls (lead N ls j), ?_, s.1, fun m z' hm hz => ?_, k⟩
      · rw [List.getElem?_map, List.getElem?_range (Nat.lt_of_le_of_lt (lead_le N ls j) ja)]
        rfl
      · have hml : m < N.length := Nat.lt_of_lt_of_le hm (Nat.le_of_lt (Nat.lt_of_le_of_lt (lead_le N ls j) ja))
        rw [List.getElem?_map, List.getElem?_range hml] at hz
        cases hz
        exact s.2 m hm
    · have ef : (List.range N.length).map (fun a => PyData.int (lead N ls a : Int)) = nums (finer N ls) := by
        unfold finer nums
        rw [List.map_map]
        rfl
      rw [ef]
      refine ⟨snums _, snums _, IfP.both (fun h1 => ?_) fun h1 => ?_⟩
      · have h1 := (eqv_nums _ _).mp h1
        exact q ls c (c.stable al h1)
      · have h1 : finer N ls ≠ ls := fun z => by
          rw [(eqv_nums _ _).mpr z] at h1
          cases h1
        exact ⟨finer N ls, _, _, _, c.next al, Nat.le_trans (Nat.succ_le_succ f) (c.more al h1), rfl⟩
  · rintro env ⟨ls, c2, c3, c4, _, f, rfl⟩
    rw [nums_len, List.length_range] at f
    have := fixd_le N ls
    omega
end

/-! ### the nodes in told places -/
def links (q : NQ) : List Nat := q.1.cl.map (fun p => p.1) ++ (if q.1.w = "delay" then [q.2.2.getD 0] else q.2.1)
def R_links : PR := fun as C => ∃ (B : Nat) (q : NQ), as = [.dat q.1.d] ∧ Gd B q ∧ C (.own (nums (links q))) as
theorem links_len {B : Nat} {q : NQ} (h : Gd B q) : (links q).length ≤ 16 := by
  have h1 := h.cl
  have h2 := h.few
  unfold links
  rw [List.length_append, List.length_map]
  split
  · show _ + 1 ≤ 16
    omega
  · omega
theorem links_lt {B : Nat} {q : NQ} (h : Gd B q) : ∀ v ∈ links q, v < B := fun v hv => by
  unfold links at hv
  rcases List.mem_append.mp hv with hv | hv
  · exact h.need v (List.mem_append_left _ hv)
  split at hv
  · next hw =>
    obtain ⟨_, s, _, e, _⟩ := h.delay hw
    have es : q.2.2 = some s := congrArg (fun z : NQ => z.2.2) e
    rw [List.mem_singleton.mp hv, es]
    exact h.src s es
  · exact h.need v (List.mem_append_right _ hv)
section
variable {P : Program} {w : World} {K : PySem.W.Frag} {mg : Str → Option Value} {base : Heap}
theorem okp_links (T : Tx K mg w base) : FnOk P w K mg base CX0 1 T.f_links T.fd_links ["_law_node"] (spP K T.tbs 1 R_links) := by
  refine okP T.F_links sc_links rfl fun cdv A outer s H E G hG hcd hr => ⟨_, (pss_consP (ps_setLcP (i := 1) (vs := [2]) (ps_setLc (i := 1) (own := [("_law_pair", 2)]) rfl sc_links.nd rfl rfl (sw_true rfl rfl rfl (by decide +kernel)) (pi_itemsP (pe_ixP (pe_borP (pv 0)) (pe_cP (d := .int 2) pe_int) (fun _ _ => rfl) li_ix)) (blkOk_by (N := ["_law_node", "_law_found", "_law_pair"]) (sc := defScope s_links) (by decide +kernel)) (fun _ _ _ _ _ => (pg_compP (vs := [2]) (pg_name (i := 2) sc_links.nd rfl (Or.inl rfl)))) (fun _ _ _ _ _ => pts_nilP) (fun _ _ _ _ _ => (pe_ixP (pe_borP (pv 2)) (pe_cP (d := .int 0) pe_int) (fun _ _ => rfl) li_ix))))
      (pss_consP (ps_ifP (pt_cmpP (op_eqP hr.units) li_eq (pe_ixP (pe_borP (pv 0)) (pe_cP (d := .int 0) pe_int) (fun _ _ => rfl) li_ix) (pe_cP (d := .str "merge") pe_str) (nomark _)) (pss_oneP (ps_retP (pe_opP op_addP li_add (pe_opP op_addP li_add (pe_borP (pv 1)) (pe_lstP (pa_consP (pe_ixP (pe_borP (pv 0)) (pe_cP (d := .int 3) pe_int) (fun _ _ => rfl) li_ix) pa_nilP))) (pe_cbP lc_lst (pe_callTy call_lstP (by rfl) T.z_list (by decide +kernel) (pa_consP (pe_ixP (pe_borP (pv 0)) (pe_cP (d := .int 4) pe_int) (fun _ _ => rfl) li_ix) pa_nilP)))))) pss_nilP)
      (pss_consP (ps_ifP (pt_cmpP (op_eqP hr.units) li_eq (pe_ixP (pe_borP (pv 0)) (pe_cP (d := .int 0) pe_int) (fun _ _ => rfl) li_ix) (pe_cP (d := .str "delay") pe_str) (nomark _)) (pss_oneP (ps_retP (pe_opP op_addP li_add (pe_borP (pv 1)) (pe_lstP (pa_consP (pe_ixP (pe_borP (pv 0)) (pe_cP (d := .int 4) pe_int) (fun _ _ => rfl) li_ix) pa_nilP))))) pss_nilP)
      (pss_consP (ps_ifP (pt_cmpP (op_inP hr.u65) li_in (pe_ixP (pe_borP (pv 0)) (pe_cP (d := .int 0) pe_int) (fun _ _ => rfl) li_ix) (pe_tupP (pa_consP (pe_cP (d := .str "input") pe_str) (pa_consP (pe_cP (d := .str "here") pe_str) (pa_consP (pe_cP (d := .str "const") pe_str) (pa_consP (pe_cP (d := .str "beat") pe_str) pa_nilP))))) (by rfl)) (pss_oneP (ps_retMvP (pv 1))) pss_nilP)
      (pss_oneP (ps_retP (pe_opP op_addP li_add (pe_borP (pv 1)) (pe_cbP lc_lst (pe_callTy call_lstP (by rfl) T.z_list (by decide +kernel) (pa_consP (pe_sliceP (pe_borP (pv 0)) (po_someP (pe_cP (d := .int 3) pe_int)) po_noneP) pa_nilP)))))))))), fun as C hl h => ?_⟩
  obtain ⟨B, ⟨⟨nw, nk, cl, rest⟩, ps, src⟩, rfl, gd, q⟩ := h
  have hcl : cl.length ≤ 4 := gd.cl
  have hps : ps.length ≤ 12 := gd.few
  have ways := ren_ways (n := ⟨nw, nk, cl, rest⟩) gd.ok id
  have e0 : cl.map (fun p => PyData.int (p.1 : Int)) = nums (cl.map fun p => p.1) := by unfold nums; rw [List.map_map]; rfl
  have l0 := nums_len (cl.map fun p => p.1)
  rw [List.length_map] at l0
  refine ⟨_, atD 2 rfl, lc_mapP (l := cl) (e := pairD) (fun p => .int (p.1 : Int)) (szl (by omega)) (fun j a ha Q k => .t rfl ⟨_, atD 0 rfl, k⟩) ?_⟩
  rw [e0]
  have e3 := cut3 (.str nw) nk (.tuple (cl.map pairD)) rest
  rcases ways with ⟨hw, ch, arms, hr, hp, hs, re⟩ | ⟨hw, n1, v, z, hr, hs, re⟩ | ⟨n3, n1, n2, lr, hp, hs, re⟩ | ⟨n3, hw, n1, n2, hr, hs, re⟩
  · have hw : nw = "merge" := hw
    have nd : ¬ nw = "delay" := by rw [hw]; decide +kernel
    have hr : rest = [.int (ch : Int), .tuple (nums arms)] := hr
    subst hr hp
    have q : C (.own (nums (cl.map (fun p => p.1) ++ (if nw = "delay" then [src.getD 0] else ch :: arms)))) _ := q
    rw [if_neg nd] at q
    refine ⟨_, atD 0 rfl, .t (eq_w hw) ?_⟩
    have la := nums_len arms
    have lc : (ch :: arms).length = arms.length + 1 := rfl
    refine ⟨_, atD 3 rfl, szr, szle (by show _ + 1 ≤ _; omega), _, atD 4 rfl, szle (by rw [List.length_append]; show _ + 1 + _ ≤ _; omega), ?_⟩
    have e5 : nums (cl.map fun p => p.1) ++ [PyData.int (ch : Int)] ++ nums arms = nums (cl.map (fun p => p.1) ++ ch :: arms) := by rw [nums_app, List.append_assoc]; rfl
    rw [← e5] at q
    exact q
  · have hw : nw = "delay" := hw
    have n1 : ¬ nw = "merge" := n1
    have hr : rest = [v, .int (z : Int), .tuple (nums ps)] := hr
    have hs : src = some z := hs
    subst hr hs
    have q : C (.own (nums (cl.map (fun p => p.1) ++ (if nw = "delay" then [z] else ps)))) _ := q
    rw [if_pos hw] at q
    refine ⟨_, atD 0 rfl, .f (ne_w n1) ⟨_, atD 0 rfl, .t (eq_w hw) ?_⟩⟩
    refine ⟨_, atD 4 rfl, szr, szle (by show _ + 1 ≤ _; omega), ?_⟩
    have e5 : nums (cl.map fun p => p.1) ++ [PyData.int (z : Int)] = nums (cl.map (fun p => p.1) ++ [z]) := by rw [nums_app]; rfl
    rw [← e5] at q
    exact q
  · have n3 : nw ∈ (["input", "here", "const", "beat"] : List Str) := n3
    have n1 : ¬ nw = "merge" := n1
    have n2 : ¬ nw = "delay" := n2
    have hp : ps = [] := hp
    subst hp
    have q : C (.own (nums (cl.map (fun p => p.1) ++ (if nw = "delay" then [src.getD 0] else [])))) _ := q
    rw [if_neg n2, List.append_nil] at q
    refine ⟨_, atD 0 rfl, .f (ne_w n1) ⟨_, atD 0 rfl, .f (ne_w n2) ⟨_, atD 0 rfl, szr, .inl ⟨rfl, flat_strs ["input", "here", "const", "beat"]⟩, IfP.as (inS nw ["input", "here", "const", "beat"]) (.t (decide_eq_true n3) ?_)⟩⟩⟩
    exact q
  · have hr : rest = nums ps := hr
    have n3 : ¬ nw ∈ (["input", "here", "const", "beat"] : List Str) := n3
    have n1 : ¬ nw = "merge" := n1
    have n2 : ¬ nw = "delay" := n2
    have q : C (.own (nums (cl.map (fun p => p.1) ++ (if nw = "delay" then [src.getD 0] else ps)))) _ := q
    rw [if_neg n2] at q
    refine ⟨_, atD 0 rfl, .f (ne_w n1) ⟨_, atD 0 rfl, .f (ne_w n2) ⟨_, atD 0 rfl, szr, .inl ⟨rfl, flat_strs ["input", "here", "const", "beat"]⟩, IfP.as (inS nw ["input", "here", "const", "beat"]) (.f (decide_eq_false n3) ?_)⟩⟩⟩
    have lp := nums_len ps
    have e4 : cutP (.str nw :: nk :: .tuple (cl.map pairD) :: rest) (some 3) none = nums ps := e3.trans hr
    refine ⟨szle (by rw [e4]; omega), ?_⟩
    have e5 : nums (cl.map fun p => p.1) ++ nums ps = nums (cl.map (fun p => p.1) ++ ps) := (nums_app _ _).symm
    rw [← e5, ← e4] at q
    exact q
end

/-! ### leaders within the greatest classes -/
structure Lds (n : Nat) (wh ls : List Nat) : Prop where
  len : ls.length = n
  lt : ∀ a, a < n → nth ls a < n
  wh : ∀ a, a < n → nth wh (nth ls a) = nth wh a
def joinN (ls : List Nat) (x y : Nat) : List Nat := ls.map fun p => if p = max x y then min x y else p
theorem joinN_eq (ls : List Nat) (x y : Nat) : (joinI (ls.map fun n : Nat => (n : Int)) x y).map PyData.int = nums (joinN ls x y) := by
  unfold joinI joinN nums
  rw [List.map_map, List.map_map, List.map_map]
  refine List.map_congr_left fun p _ => ?_
  show PyData.int (if (p : Int) = max (x : Int) (y : Int) then min (x : Int) y else p) = PyData.int ((if p = max x y then min x y else p : Nat) : Int)
  by_cases h : p = max x y
  · rw [if_pos h, if_pos (by omega), show (min (x : Int) y) = ((min x y : Nat) : Int) by omega]
  · rw [if_neg h, if_neg (by omega)]
theorem nth_joinN {ls : List Nat} {x y a : Nat} (h : a < ls.length) : nth (joinN ls x y) a = if nth ls a = max x y then min x y else nth ls a := by
  have e := nth_at h
  unfold nth joinN at *
  rw [List.getElem?_map, e]
  rfl
theorem Lds.join {n : Nat} {wh ls : List Nat} (h : Lds n wh ls) {a b : Nat} (ha : a < n) (hb : b < n) (e : nth wh a = nth wh b) : Lds n wh (joinN ls (nth ls a) (nth ls b)) := by
  have xa := h.wh a ha
  have xb := h.wh b hb
  have la := h.lt a ha
  have lb := h.lt b hb
  refine ⟨by unfold joinN; rw [List.length_map]; exact h.len, fun c hc => ?_, fun c hc => ?_⟩
  · rw [nth_joinN (by rw [h.len]; exact hc)]
    split
    · omega
    · exact h.lt c hc
  · rw [nth_joinN (by rw [h.len]; exact hc), ← h.wh c hc]
    split
    · next hm =>
      rw [hm]
      rcases Nat.le_total (nth ls a) (nth ls b) with z | z
      · rw [Nat.min_eq_left z, Nat.max_eq_right z, xa, xb, e]
      · rw [Nat.min_eq_right z, Nat.max_eq_left z, xa, xb, e]
    · rfl
/-- what a call of _law_joined wants -/
theorem Lds.atI {n : Nat} {wh ls : List Nat} (h : Lds n wh ls) {c : Nat} (hc : c < n) : (ls.map fun n : Nat => (n : Int))[c]? = some ((nth ls c : Nat) : Int) := by
  rw [List.getElem?_map, nth_at (by rw [h.len]; exact hc)]
  rfl
theorem Lds.lenI {n : Nat} {wh ls : List Nat} (h : Lds n wh ls) (hn : n ≤ 90) : (ls.map fun n : Nat => (n : Int)).length ≤ 300 := by
  rw [List.length_map, h.len]
  omega
theorem Lds.res {n : Nat} {wh ls : List Nat} (h : Lds n wh ls) {a b : Nat} (ha : a < n) (hb : b < n) (e : nth wh a = nth wh b) {r : Cel} (hr : r = .dat (.list ((joinI (ls.map fun n : Nat => (n : Int)) ((nth ls a : Nat) : Int) ((nth ls b : Nat) : Int)).map .int)) ∨ r = .own ((joinI (ls.map fun n : Nat => (n : Int)) ((nth ls a : Nat) : Int) ((nth ls b : Nat) : Int)).map .int)) : ∃ ls' : List Nat, Lds n wh ls' ∧ (r = .dat (.list (nums ls')) ∨ r = .own (nums ls')) := by
  rw [joinN_eq] at hr
  exact ⟨_, h.join ha hb e, hr⟩
theorem ren_alike {B : Nat} {N : List NQ} {wh : List Nat} (al : AllG N.length N) (c : ∀ u, u < N.length → nth wh u < B) {a b : Nat} {q r : NQ} (ha : N[a]? = some q) (hb : N[b]? = some r) (e : lookD N wh a = lookD N wh b) : ren (nth wh) q = ren (nth wh) r := by
  unfold lookD at e
  rw [ha, hb] at e
  exact ((al q (List.mem_of_getElem? ha)).numb c).inj ((al r (List.mem_of_getElem? hb)).numb c) e
theorem links_alike {B B' : Nat} {q r : NQ} {f : Nat → Nat} (gq : Gd B q) (gr : Gd B' r) (e : ren f q = ren f r) : (links q).map f = (links r).map f := by
  have ew := congrArg (fun z : NQ => z.1.w) e
  have ew : q.1.w = r.1.w := ew
  have ec : q.1.cl.map (fun p => (f p.1, p.2)) = r.1.cl.map (fun p => (f p.1, p.2)) := congrArg (fun z : NQ => z.1.cl) e
  have ep : (if q.1.w = "delay" then rsort (q.2.1.map f) else q.2.1.map f) = (if r.1.w = "delay" then rsort (r.2.1.map f) else r.2.1.map f) := congrArg (fun z : NQ => z.2.1) e
  have es : q.2.2.map f = r.2.2.map f := congrArg (fun z : NQ => z.2.2) e
  have ec2 : (q.1.cl.map fun p => p.1).map f = (r.1.cl.map fun p => p.1).map f := by
    have := congrArg (fun l : List (Nat × Int) => l.map fun p => p.1) ec
    simp only [List.map_map] at this ⊢
    exact this
  unfold links
  rw [List.map_append, List.map_append, ec2]
  by_cases hw : q.1.w = "delay"
  · have hr : r.1.w = "delay" := ew ▸ hw
    obtain ⟨_, s, _, e1, _⟩ := gq.delay hw
    obtain ⟨_, s', _, e2, _⟩ := gr.delay hr
    have e1 : q.2.2 = some s := congrArg (fun z : NQ => z.2.2) e1
    have e2 : r.2.2 = some s' := congrArg (fun z : NQ => z.2.2) e2
    rw [if_pos hw, if_pos hr, e1, e2]
    rw [e1, e2] at es
    have es : f s = f s' := Option.some.inj es
    show _ = _ ++ [f s']
    rw [← es]
    rfl
  · have hr : ¬ r.1.w = "delay" := ew ▸ hw
    rw [if_neg hw, if_neg hr] at ep
    rw [if_neg hw, if_neg hr, ep]
theorem resets_alike {q r : NQ} {f : Nat → Nat} (hw : q.1.w = "delay") (e : ren f q = ren f r) : ∀ v ∈ q.2.1, ∃ m ∈ r.2.1, f m = f v := fun v hv => by
  have ew := congrArg (fun z : NQ => z.1.w) e
  have ew : q.1.w = r.1.w := ew
  have ep : (if q.1.w = "delay" then rsort (q.2.1.map f) else q.2.1.map f) = (if r.1.w = "delay" then rsort (r.2.1.map f) else r.2.1.map f) := congrArg (fun z : NQ => z.2.1) e
  rw [if_pos hw, if_pos (ew ▸ hw)] at ep
  have : f v ∈ rsort (q.2.1.map f) := mem_rsort.mpr (List.mem_map_of_mem hv)
  rw [ep] at this
  obtain ⟨m, hm, em⟩ := List.mem_map.mp (mem_rsort.mp this)
  exact ⟨m, hm, em⟩

/-! ### resets joined -/
theorem natE (a b : Nat) : decide (((a : Nat) : Int) = ((b : Nat) : Int)) = decide (a = b) := by
  by_cases z : a = b
  · rw [z]; simp
  · rw [decide_eq_false z, decide_eq_false (by omega)]
def R_resets_joined : PR := fun as C => ∃ (n : Nat) (wh ls : List Nat) (q r : NQ), as = [.dat q.1.d, .dat r.1.d, .dat (.list (nums wh)), .dat (.list (nums ls))] ∧ Gd n q ∧ Gd n r ∧ ren (nth wh) q = ren (nth wh) r ∧ wh.length = n ∧ n ≤ 90 ∧ Lds n wh ls ∧
  ∀ ls' : List Nat, Lds n wh ls' → C (.dat (.list (nums ls'))) as
section
variable {P : Program} {w : World} {K : PySem.W.Frag} {mg : Str → Option Value} {base : Heap}
theorem okp_resets_joined (T : Tx K mg w base) : FnOk P w K mg base CX0 2 T.f_resets_joined T.fd_resets_joined ["_law_node", "_law_other", "_law_whole", "_law_leaders_here"] (spP K T.tbs 4 R_resets_joined) := by
  refine okP T.F_resets_joined sc_resets_joined rfl fun cdv A outer s H E G hG hcd hr => ⟨_, (pss_consP (ps_ifP (pt_cmpP (op_eqP hr.units) li_eq (pe_ixP (pe_borP (pv 0)) (pe_cP (d := .int 0) pe_int) (fun _ _ => rfl) li_ix) (pe_cP (d := .str "delay") pe_str) (nomark _)) (pss_oneP (ps_forP (ps_for PassesOwn.never rfl (pi_itemsP (pe_ixP (pe_borP (pv 0)) (pe_cP (d := .int 5) pe_int) (fun _ _ => rfl) li_ix)) (pg_nameP (pg_name (i := 4) sc_resets_joined.nd rfl (Or.inr rfl)))
      (pss_consP (ps_setLcP (i := 5) (vs := [6]) (ps_setLc (i := 5) (own := [("_law_mate", 6)]) rfl sc_resets_joined.nd rfl rfl (sw_true rfl rfl rfl (by decide +kernel)) (pi_itemsP (pe_ixP (pe_borP (pv 1)) (pe_cP (d := .int 5) pe_int) (fun _ _ => rfl) li_ix)) (blkOk_by (N := ["_law_node", "_law_other", "_law_whole", "_law_leaders_here", "_law_reset", "_law_mates_here", "_law_mate"]) (sc := defScope s_resets_joined) (by decide +kernel)) (fun _ _ _ _ _ => (pg_compP (vs := [6]) (pg_name (i := 6) sc_resets_joined.nd rfl (Or.inl rfl)))) (fun _ _ _ _ _ => (pts_one (pt_cmpP (op_eqP hr.units) li_eq (pe_ixP (pe_borP (pv 2)) (pe_borP (pv 6)) (fun _ _ => rfl) li_ix) (pe_ixP (pe_borP (pv 2)) (pe_borP (pv 4)) (fun _ _ => rfl) li_ix) (nomark _)))) (fun _ _ _ _ _ => (pe_varP (pv 6)))))
      (pss_oneP (ps_ifP (pt_notP (pt_truP (pe_lcBP (j := 5) (vs := [6]) (pe_lc (own := [("_law_mate", 6)]) rfl sc_resets_joined.nd (by exact pi_seqP (pv 5)) (blkOk_by (N := ["_law_node", "_law_other", "_law_whole", "_law_leaders_here", "_law_reset", "_law_mates_here", "_law_mate"]) (sc := defScope s_resets_joined) (by decide +kernel)) (fun _ _ _ _ _ => (pg_compP (vs := [6]) (pg_name (i := 6) sc_resets_joined.nd rfl (Or.inl rfl)))) (fun _ _ _ _ _ => (pts_one (pt_cmpP (op_eqP hr.units) li_eq (pe_ixP (pe_borP (pv 3)) (pe_borP (pv 6)) (fun _ _ => rfl) li_ix) (pe_ixP (pe_borP (pv 3)) (pe_borP (pv 4)) (fun _ _ => rfl) li_ix) (nomark _)))) (fun _ _ _ _ _ => (pe_varP (pv 6))))))) (pss_oneP (ps_setP (ps_set (i := 3) sc_resets_joined.nd rfl (Or.inr rfl) (pe_frzP (pe_callP hG (pe_call (okp_joined T) (hr.mono (by decide)) rfl T.m_joined T.F_joined.kp T.b_joined .nil pass0 (pa_consP (pe_borP (pv 3)) (pa_consP (pe_borP (pv 4)) (pa_consP (pe_ixP (pe_borP (pv 5)) (pe_cP (d := .int 0) pe_int) (fun _ _ => rfl) li_ix) pa_nilP))))))))) pss_nilP)))))) pss_nilP)
      (pss_oneP (ps_retMvP (pv 3)))), fun as C hl h => ?_⟩
  obtain ⟨n, wh, ls, ⟨⟨nw, nk, cl, rest⟩, ps, src⟩, ⟨⟨nw', nk', cl', rest'⟩, ps', src'⟩, rfl, gq, gr, e, lw, n90, ld, k⟩ := h
  refine ⟨_, atD 0 rfl, IfP.both (fun h1 => ?_) fun h1 => k ls ld⟩
  have hq : nw = "delay" := of_decide_eq_true h1
  have ew := congrArg (fun z : NQ => z.1.w) e
  have ew : nw = nw' := ew
  have hr : nw' = "delay" := ew ▸ hq
  have ra := resets_alike hq e
  obtain ⟨v, s, _, eq', _⟩ := gq.delay hq
  obtain ⟨v', s', _, er', _⟩ := gr.delay hr
  cases eq'
  cases er'
  have ra : ∀ v ∈ ps, ∃ m ∈ ps', nth wh m = nth wh v := ra
  have lps : ps'.length ≤ 12 := gr.few
  have bp : ∀ v ∈ ps, v < n := fun v hv => gq.need v (List.mem_append_right _ hv)
  have bp' : ∀ v ∈ ps', v < n := fun v hv => gr.need v (List.mem_append_right _ hv)
  refine ⟨_, atD 5 rfl, ?_⟩
  refine ⟨fun i env => ∃ (ls : List Nat) (c4 c5 : Cel), Lds n wh ls ∧ env = [.dat (Nd.d ⟨"delay", nk, cl, [v, .int (s : Int), .tuple (nums ps)]⟩), .dat (Nd.d ⟨"delay", nk', cl', [v', .int (s' : Int), .tuple (nums ps')]⟩), .dat (.list (nums wh)), .dat (.list (nums ls)), c4, c5, .no], ⟨ls, _, _, ld, rfl⟩, ?_, ?_⟩
  · clear ld k
    rintro i x env hx ⟨ls, c4, c5, ld, rfl⟩
    obtain ⟨u, hu, rfl⟩ := nums_at' hx
    have hu := List.mem_of_getElem? hu
    have un := bp u hu
    have wat : ∀ c, c < n → wh[c]? = some (nth wh c) := fun c hc => nth_at (by omega)
    have lat : ∀ c, c < n → ls[c]? = some (nth ls c) := fun c hc => nth_at (by rw [ld.len]; exact hc)
    refine ⟨_, atD 5 rfl, lc_numsP (l := ps') (fun m => decide (nth wh m = nth wh u)) (szl (by omega)) (fun j a ha Q k1 k2 => ?_) ?_⟩
    · have an := bp' a (List.mem_of_getElem? ha)
      refine ⟨_, atD a (nums_at (wat a an)), _, atD u (nums_at (wat u un)), IfP.as (natE _ _) (IfP.both k1 k2)⟩
    · have lf : (ps'.filter fun m => decide (nth wh m = nth wh u)).length ≤ 12 := Nat.le_trans (List.length_filter_le _ _) lps
      have mf : ∀ m, m ∈ (ps'.filter fun m => decide (nth wh m = nth wh u)) → m < n ∧ nth wh m = nth wh u := fun m hm => by
        obtain ⟨h1, h2⟩ := List.mem_filter.mp hm
        exact ⟨bp' m h1, of_decide_eq_true h2⟩
      have ne : (ps'.filter fun m => decide (nth wh m = nth wh u)) ≠ [] := fun z => by
        obtain ⟨m, hm, e⟩ := ra u hu
        have : m ∈ (ps'.filter fun m => decide (nth wh m = nth wh u)) := List.mem_filter.mpr ⟨hm, decide_eq_true e⟩
        rw [z] at this
        cases this
      generalize (ps'.filter fun m => decide (nth wh m = nth wh u)) = ms at lf mf ne
      refine lc_numsB (l := ms) (fun m => decide (nth ls m = nth ls u)) (szl (by omega)) (fun j a ha Q k1 k2 => ?_) ?_
      · have an := (mf a (List.mem_of_getElem? ha)).1
        exact ⟨_, atD a (nums_at (lat a an)), _, atD u (nums_at (lat u un)), IfP.as (natE _ _) (IfP.both k1 k2)⟩
      · generalize (ms.filter fun m => decide (nth ls m = nth ls u)) = ys
        cases ys with
        | cons y ys => exact .f rfl ⟨ls, _, _, ld, rfl⟩
        | nil =>
          refine .t rfl ?_
          cases ms with
          | nil => exact absurd rfl ne
          | cons m ms =>
            obtain ⟨m1, m2⟩ := mf m List.mem_cons_self
            refine ⟨_, atD 0 rfl, ls.map (fun n : Nat => (n : Int)), u, m, _, _, by rw [nums_int], ld.atI un, ld.atI m1, ld.lenI n90, fun r hr => ?_⟩
            obtain ⟨ls', ld', rfl | rfl⟩ := ld.res un m1 m2.symm hr
            · exact ⟨ls', _, _, ld', rfl⟩
            · exact ⟨ls', _, _, ld', rfl⟩
  · rintro env ⟨ls, c4, c5, ld, rfl⟩
    exact k ls ld
end

/-! ### the least taken paper that joins what leaders join -/
def R_closure : PR := fun as C => ∃ (N : List NQ) (wh ls : List Nat), as = [.dat (.tuple (nodesD N)), .dat (.list (nums wh)), .dat (.list (nums ls))] ∧ AllG N.length N ∧ 1 ≤ N.length ∧ N.length ≤ 90 ∧ Cls N wh ∧ Stable N wh ∧ Lds N.length wh ls ∧
  ∀ ls' : List Nat, Lds N.length wh ls' → C (.dat (.list (nums ls'))) as
section
variable {P : Program} {w : World} {K : PySem.W.Frag} {mg : Str → Option Value} {base : Heap}
theorem okp_closure (T : Tx K mg w base) : FnOk P w K mg base CX0 3 T.f_closure T.fd_closure ["_law_nodes", "_law_whole", "_law_leaders_here"] (spP K T.tbs 3 R_closure) := by
  refine okP T.F_closure sc_closure rfl fun cdv A outer s H E G hG hcd hr => ⟨_, (pss_consP (ps_forP (ps_for PassesOwn.never rfl (pi_range1P (pi_range1 (by rfl) T.z_range (pa_consP (pe_cbP lc_len (pe_callB call_lenP (by rfl) T.z_len (by decide +kernel) (pa_consP (pe_borP (pv 0)) pa_nilP))) pa_nilP))) (pg_nameP (pg_name (i := 3) sc_closure.nd rfl (Or.inl rfl)))
      (pss_consP (ps_mvP (ps_set (i := 4) sc_closure.nd rfl (Or.inl rfl) (pv 2)))
      (pss_consP (ps_forP (ps_for PassesOwn.never rfl (pi_range1P (pi_range1 (by rfl) T.z_range (pa_consP (pe_cbP lc_len (pe_callB call_lenP (by rfl) T.z_len (by decide +kernel) (pa_consP (pe_borP (pv 0)) pa_nilP))) pa_nilP))) (pg_nameP (pg_name (i := 5) sc_closure.nd rfl (Or.inl rfl)))
      (pss_consP (ps_setP (ps_set (i := 6) sc_closure.nd rfl (Or.inl rfl) (pe_ixP (pe_borP (pv 2)) (pe_borP (pv 5)) (fun _ _ => rfl) li_ix)))
      (pss_consP (ps_setP (ps_set (i := 7) sc_closure.nd rfl (Or.inl rfl) (pe_callP hG (pe_call (okp_links T) (hr.mono (by decide)) rfl T.m_links T.F_links.kp T.b_links .nil pass0 (pa_consP (pe_ixP (pe_borP (pv 0)) (pe_borP (pv 6)) (fun _ _ => rfl) li_ix) pa_nilP)))))
      (pss_consP (ps_setP (ps_set (i := 8) sc_closure.nd rfl (Or.inl rfl) (pe_callP hG (pe_call (okp_links T) (hr.mono (by decide)) rfl T.m_links T.F_links.kp T.b_links .nil pass0 (pa_consP (pe_ixP (pe_borP (pv 0)) (pe_borP (pv 5)) (fun _ _ => rfl) li_ix) pa_nilP)))))
      (pss_consP (ps_forP (ps_for PassesOwn.never rfl (pi_range1P (pi_range1 (by rfl) T.z_range (pa_consP (pe_cbP lc_len (pe_callB call_lenP (by rfl) T.z_len (by decide +kernel) (pa_consP (pe_borP (pv 7)) pa_nilP))) pa_nilP))) (pg_nameP (pg_name (i := 9) sc_closure.nd rfl (Or.inl rfl)))
      (pss_oneP (ps_setP (ps_set (i := 2) sc_closure.nd rfl (Or.inl rfl) (pe_frzP (pe_callP hG (pe_call (okp_joined T) (hr.mono (by decide)) rfl T.m_joined T.F_joined.kp T.b_joined .nil pass0 (pa_consP (pe_borP (pv 2)) (pa_consP (pe_ixP (pe_borP (pv 7)) (pe_borP (pv 9)) (fun _ _ => rfl) li_ix) (pa_consP (pe_ixP (pe_borP (pv 8)) (pe_borP (pv 9)) (fun _ _ => rfl) li_ix) pa_nilP)))))))))))
      (pss_consP (ps_setP (ps_set (i := 2) sc_closure.nd rfl (Or.inl rfl) (pe_callP hG (pe_call (okp_resets_joined T) (hr.mono (by decide)) rfl T.m_resets_joined T.F_resets_joined.kp T.b_resets_joined .nil pass0 (pa_consP (pe_ixP (pe_borP (pv 0)) (pe_borP (pv 5)) (fun _ _ => rfl) li_ix) (pa_consP (pe_ixP (pe_borP (pv 0)) (pe_borP (pv 6)) (fun _ _ => rfl) li_ix) (pa_consP (pe_borP (pv 1)) (pa_consP (pe_borP (pv 2)) pa_nilP))))))))
      (pss_oneP (ps_setP (ps_set (i := 2) sc_closure.nd rfl (Or.inl rfl) (pe_callP hG (pe_call (okp_resets_joined T) (hr.mono (by decide)) rfl T.m_resets_joined T.F_resets_joined.kp T.b_resets_joined .nil pass0 (pa_consP (pe_ixP (pe_borP (pv 0)) (pe_borP (pv 6)) (fun _ _ => rfl) li_ix) (pa_consP (pe_ixP (pe_borP (pv 0)) (pe_borP (pv 5)) (fun _ _ => rfl) li_ix) (pa_consP (pe_borP (pv 1)) (pa_consP (pe_borP (pv 2)) pa_nilP))))))))))))))))
      (pss_oneP (ps_ifP (pt_cmpP (op_eqP hr.units) li_eq (pe_borP (pv 2)) (pe_borP (pv 4)) (nomark _)) (pss_oneP ps_breakP) pss_nilP))))))
      (pss_oneP (ps_retMvP (pv 2)))), fun as C hl h => ?_⟩
  obtain ⟨N, wh, ls0, rfl, al, n1, n90, cw, st, ld0, q⟩ := h
  have lD := nodesD_len N
  have lN : ∀ a, (h : a < N.length) → (nodesD N)[a]? = some N[a].1.d := fun a h => nodesD_at (List.getElem?_eq_getElem h)
  refine ⟨by omega, by omega, ?_⟩
  rw [lD, rangeN]
  refine ⟨fun i env => ∃ (ls : List Nat) (c3 c4 c5 c6 c7 c8 c9 : Cel), Lds N.length wh ls ∧ env = [.dat (.tuple (nodesD N)), .dat (.list (nums wh)), .dat (.list (nums ls)), c3, c4, c5, c6, c7, c8, c9], ⟨_, _, _, _, _, _, _, _, ld0, rfl⟩, ?_, ?_⟩
  · clear ld0
    rintro i x env hx ⟨ls, c3, c4, c5, c6, c7, c8, c9, ld, rfl⟩
    refine ⟨by omega, by omega, ?_⟩
    rw [lD, rangeN]
    refine ⟨fun i env => ∃ (ls' : List Nat) (c5 c6 c7 c8 c9 : Cel), Lds N.length wh ls' ∧ env = [.dat (.tuple (nodesD N)), .dat (.list (nums wh)), .dat (.list (nums ls')), .dat x, .dat (.list (nums ls)), c5, c6, c7, c8, c9], ⟨_, _, _, _, _, _, ld, rfl⟩, ?_, ?_⟩
    · rintro j y env hy ⟨l1, c5, c6, c7, c8, c9, d1, rfl⟩
      obtain ⟨a, ha, rfl⟩ := nums_at' hy
      have aN := (List.getElem?_eq_some_iff.mp ha).1
      rw [List.length_range] at aN
      rw [List.getElem?_range aN] at ha
      cases ha
      have mN := d1.lt j aN
      have mw := d1.wh j aN
      have a1 : (nums l1)[j]? = some (.int ((nth l1 j : Nat) : Int)) := nums_at (nth_at (by rw [d1.len]; exact aN))
      generalize nth l1 j = m at mN mw a1
      have hj := List.getElem?_eq_getElem aN
      have hm := List.getElem?_eq_getElem mN
      have gj := al _ (List.getElem_mem aN)
      have gm := al _ (List.getElem_mem mN)
      generalize N[j] = qj at hj gj
      generalize N[m] = qm at hm gm
      have re := ren_alike al cw.lt hm hj (st m j mN aN mw)
      have lk := links_alike gm gj re
      have lm := links_len gm
      have lj := links_len gj
      have bm := links_lt gm
      have bj := links_lt gj
      have ll : (links qm).length = (links qj).length := by
        have := congrArg List.length lk
        rw [List.length_map, List.length_map] at this
        exact this
      refine ⟨_, atD j a1, _, atD m (nodesD_at hm), N.length, qm, rfl, gm, _, atD j (nodesD_at hj), N.length, qj, rfl, gj, ?_⟩
      have nl := nums_len (links qm)
      have nlj := nums_len (links qj)
      refine ⟨by omega, by omega, ?_⟩
      rw [nl, rangeN]
      refine ⟨fun k env => ∃ (ls' : List Nat) (c9 : Cel), Lds N.length wh ls' ∧ env = [.dat (.tuple (nodesD N)), .dat (.list (nums wh)), .dat (.list (nums ls')), .dat x, .dat (.list (nums ls)), .dat (.int (j : Int)), .dat (.int (m : Int)), .own (nums (links qm)), .own (nums (links qj)), c9], ⟨_, _, d1, rfl⟩, ?_, ?_⟩
      · clear d1 a1
        rintro k z env hz ⟨l2, c9, d2, rfl⟩
        obtain ⟨a, ha, rfl⟩ := nums_at' hz
        have kN := (List.getElem?_eq_some_iff.mp ha).1
        rw [List.length_range] at kN
        rw [List.getElem?_range kN] at ha
        cases ha
        have kM : k < (links qj).length := by omega
        have h1 := List.getElem?_eq_getElem kN
        have h2 := List.getElem?_eq_getElem kM
        have e : nth wh (links qm)[k] = nth wh (links qj)[k] := by
          have := congrArg (fun l : List Nat => l[k]?) lk
          simp only [List.getElem?_map] at this
          rw [h1, h2] at this
          exact Option.some.inj this
        have b1 := bm _ (List.getElem_mem kN)
        have b2 := bj _ (List.getElem_mem kM)
        generalize (links qm)[k] = u at h1 e b1
        generalize (links qj)[k] = v at h2 e b2
        refine ⟨_, atD k (nums_at h1), _, atD k (nums_at h2), l2.map (fun n : Nat => (n : Int)), u, v, _, _, by rw [nums_int], d2.atI b1, d2.atI b2, d2.lenI n90, fun r hr => ?_⟩
        obtain ⟨l3, d3, rfl | rfl⟩ := d2.res b1 b2 e hr
        · exact ⟨l3, _, d3, rfl⟩
        · exact ⟨l3, _, d3, rfl⟩
      · clear d1 a1
        rintro env ⟨l2, c9, d2, rfl⟩
        refine ⟨_, atD j (nodesD_at hj), _, atD m (nodesD_at hm), N.length, wh, l2, qj, qm, rfl, gj, gm, re.symm, cw.len, n90, d2, fun l3 d3 => ?_⟩
        refine ⟨_, atD m (nodesD_at hm), _, atD j (nodesD_at hj), N.length, wh, l3, qm, qj, rfl, gm, gj, re, cw.len, n90, d3, fun l4 d4 => ?_⟩
        exact ⟨l4, _, _, _, _, _, d4, rfl⟩
    · rintro env ⟨l1, c5, c6, c7, c8, c9, d1, rfl⟩
      refine ⟨snums _, snums _, IfP.both (fun h1 => q l1 d1) fun h1 => ⟨l1, _, _, _, _, _, _, _, d1, rfl⟩⟩
  · rintro env ⟨ls, c3, c4, c5, c6, c7, c8, c9, ld, rfl⟩
    exact q ls ld
end

/-! ### a taken paper -/
def R_some_paper : PR := fun as C => ∃ (N : List NQ) (wh : List Nat), as = [.drw, .dat (.tuple (nodesD N)), .dat (.list (nums wh))] ∧ AllG N.length N ∧ 1 ≤ N.length ∧ N.length ≤ 90 ∧ Cls N wh ∧ Stable N wh ∧
  ∀ ls : List Nat, Lds N.length wh ls → C (.dat (.list (nums ls))) as
theorem nth_range {n a : Nat} (h : a < n) : nth (List.range n) a = a := by
  unfold nth
  rw [List.getElem?_range h]
  rfl
theorem Lds.start {n : Nat} (wh : List Nat) : Lds n wh (List.range n) := ⟨List.length_range, fun a ha => by rw [nth_range ha]; exact ha, fun a ha => by rw [nth_range ha]⟩
section
variable {P : Program} {w : World} {K : PySem.W.Frag} {mg : Str → Option Value} {base : Heap}
theorem okp_some_paper (T : Tx K mg w base) : FnOk P w K mg base CX0 4 T.f_some_paper T.fd_some_paper ["_law_d", "_law_nodes", "_law_whole"] (spP K T.tbs 3 R_some_paper) := by
  refine okP T.F_some_paper sc_some_paper rfl fun cdv A outer s H E G hG hcd hr => ⟨_, (pss_consP (ps_setP (ps_set (i := 3) sc_some_paper.nd rfl (Or.inl rfl) (pe_frzP (pe_lstR1P (pe_listRg rfl (by rfl) T.z_list (prg_1 (by rfl) T.z_range (pe_cbP lc_len (pe_callB call_lenP (by rfl) T.z_len (by decide +kernel) (pa_consP (pe_borP (pv 1)) pa_nilP)))))))))
      (pss_consP (ps_forP (ps_for PassesOwn.never rfl (pi_range1P (pi_range1 (by rfl) T.z_range (pa_consP (pe_opP op_addP li_add (pe_cP (d := .int 1) pe_int) (pe_callP hG (pe_call (okp_draw T) (hr.mono (by decide)) rfl T.m_draw T.F_draw.kp T.b_draw .nil pass0 (pa_consP (pe_borP (pv 0)) (pa_consP (pe_cP (d := .int 3) pe_int) pa_nilP))))) pa_nilP))) (pg_nameP (pg_name (i := 4) sc_some_paper.nd rfl (Or.inl rfl)))
      (pss_consP (ps_setP (ps_set (i := 5) sc_some_paper.nd rfl (Or.inl rfl) (pe_callP hG (pe_call (okp_draw T) (hr.mono (by decide)) rfl T.m_draw T.F_draw.kp T.b_draw .nil pass0 (pa_consP (pe_borP (pv 0)) (pa_consP (pe_cbP lc_len (pe_callB call_lenP (by rfl) T.z_len (by decide +kernel) (pa_consP (pe_borP (pv 1)) pa_nilP))) pa_nilP))))))
      (pss_oneP (ps_setP (ps_set (i := 3) sc_some_paper.nd rfl (Or.inl rfl) (pe_frzP (pe_callP hG (pe_call (okp_joined T) (hr.mono (by decide)) rfl T.m_joined T.F_joined.kp T.b_joined .nil pass0 (pa_consP (pe_borP (pv 3)) (pa_consP (pe_borP (pv 5)) (pa_consP (pe_ixP (pe_borP (pv 2)) (pe_borP (pv 5)) (fun _ _ => rfl) li_ix) pa_nilP))))))))))))
      (pss_oneP (ps_retP (pe_callP hG (pe_call (okp_closure T) (hr.mono (by decide)) rfl T.m_closure T.F_closure.kp T.b_closure .nil pass0 (pa_consP (pe_borP (pv 1)) (pa_consP (pe_borP (pv 2)) (pa_consP (pe_borP (pv 3)) pa_nilP))))))))), fun as C hl h => ?_⟩
  obtain ⟨N, wh, rfl, al, n1, n90, cw, st, q⟩ := h
  have lD := nodesD_len N
  refine ⟨⟨by omega, by omega⟩, _, rfl, by decide, by decide, fun r r0 r1 => ⟨by omega, by omega, ?_⟩⟩
  refine ⟨fun i env => ∃ (ls : List Nat) (c4 c5 : Cel), Lds N.length wh ls ∧ env = [.drw, .dat (.tuple (nodesD N)), .dat (.list (nums wh)), .dat (.list (nums ls)), c4, c5], ⟨List.range N.length, _, _, Lds.start wh, by rw [← lD, ← rangeN]; rfl⟩, ?_, ?_⟩
  · rintro i x env hx ⟨ls, c4, c5, ld, rfl⟩
    refine ⟨_, rfl, by omega, by omega, fun y y0 y1 => ?_⟩
    obtain ⟨n, rfl⟩ : ∃ n : Nat, y = (n : Int) := ⟨y.toNat, by omega⟩
    have hn : n < N.length := by omega
    have hw : (nums wh)[n]? = some (.int ((nth wh n : Nat) : Int)) := nums_at (nth_at (by rw [cw.len]; exact hn))
    have e := cw.idem n hn
    have hl := cw.lt n hn
    have e : nth wh n = nth wh (nth wh n) := e.symm
    generalize hm : nth wh n = m at hw hl e
    have e : nth wh n = nth wh m := hm.trans e
    refine ⟨_, atD n hw, ls.map (fun n : Nat => (n : Int)), n, m, _, _, by rw [nums_int], ld.atI hn, ld.atI hl, ld.lenI n90, fun r hr => ?_⟩
    obtain ⟨l3, d3, rfl | rfl⟩ := ld.res hn hl e hr
    · exact ⟨l3, _, _, d3, rfl⟩
    · exact ⟨l3, _, _, d3, rfl⟩
  · rintro env ⟨ls, c4, c5, ld, rfl⟩
    exact ⟨N, wh, ls, rfl, al, n1, n90, cw, st, ld, q⟩
end

/-! ### x = [..], frozen -/
section
variable {X : Cx} {G : Gam} {it : PIt} {g : PTg} {t : PTst} {f : PEx} {vs : List Nat}
theorem frzE {f : PEx} (σ : L2.St) (H : Hp) (Q : VK) (h : tE X.K G (pFrz f) σ H Q) : tE X.K G f σ H Q := by
  obtain ⟨env, T, C, s, h, k⟩ := h
  refine ⟨env, T, _, s, h, fun p env' v H' hc s' => ?_⟩
  cases p with
  | dat d => exact k _ _ _ _ hc s'
  | own xs =>
    obtain ⟨Z, s'⟩ := s'
    exact k _ _ _ _ hc s'.frzT
  | _ => exact hc.elim
theorem ps_setLcFP {st : Stmt} {i : Nat} (h : PS X st (tAsg (tLc (tI X.K G it) (tG X.K G (some vs) g) (tQ X.K G t) (tE X.K G f) vs) (gName i))) : PS X st (tS X.K G (pSet i (pFrz (pLc it g t f vs)))) :=
  ps_setP (h.le fun D σ H q => lcP σ H _ (frzE σ H _ q))
end

/-! ### a paper with one thing exchanged -/
theorem Gd.restS {B : Nat} {q : NQ} (h : Gd B q) : plainD (.tuple q.1.rest) = true ∧ SeqAt.shaped (.tuple q.1.rest) = true := by
  have p : plainD (.tuple q.1.rest) = true := by
    obtain ⟨⟨nw, nk, cl, rest⟩, ps, src⟩ := q
    have pl : (PyData.strOk nw && (plainD nk && (plainAll (cl.map pairD) && plainAll rest))) = true := h.pl
    rw [Bool.and_eq_true, Bool.and_eq_true, Bool.and_eq_true] at pl
    exact pl.2.2.2
  exact ⟨p, shaped_of p (Nat.le_trans (Nat.succ_le_succ (depth_of h.ar.2.2)) (by decide))⟩
theorem Gd.cutS {B : Nat} {q : NQ} (h : Gd B q) : SeqAt.shaped (.tuple (cutP (.str q.1.w :: q.1.k :: .tuple (q.1.cl.map pairD) :: q.1.rest) (some 3) none)) = true := by
  rw [cut3]
  exact h.restS.2
def likeB (N : List NQ) (way : Int) (n a : Nat) : Bool := match N[a]?, N[n]? with
  | some q, some r => decide (q.1.w = r.1.w) && (decide (way = 8) || PyData.eqv (.tuple q.1.rest) (.tuple r.1.rest))
  | _, _ => false
theorem setI (ls : List Int) (n : Nat) (y : Int) : (ls.map PyData.int).set n (.int y) = (ls.set n y).map .int := (List.map_set).symm
def R_spoilt_paper : PR := fun as C => ∃ (N : List NQ) (ls : List Nat), as = [.drw, .dat (.tuple (nodesD N)), .dat (.list (nums ls))] ∧ AllG N.length N ∧ 1 ≤ N.length ∧ N.length ≤ 90 ∧ ls.length = N.length ∧
  ∀ (ps : List Int) (r : Cel), ps.length ≤ 100 → (r = .dat (.list (ps.map .int)) ∨ r = .own (ps.map .int)) → C r as
section
variable {P : Program} {w : World} {K : PySem.W.Frag} {mg : Str → Option Value} {base : Heap}
theorem okp_spoilt_paper (T : Tx K mg w base) : FnOk P w K mg base CX0 4 T.f_spoilt_paper T.fd_spoilt_paper ["_law_d", "_law_nodes", "_law_paper"] (spP K T.tbs 3 R_spoilt_paper) := by
  refine okP T.F_spoilt_paper sc_spoilt_paper rfl fun cdv A outer s H E G hG hcd hr => ⟨_, (pss_consP (ps_setP (ps_set (i := 2) sc_spoilt_paper.nd rfl (Or.inr rfl) (pe_cbP lc_lst (pe_callTy call_lstP (by rfl) T.z_list (by decide +kernel) (pa_consP (pe_borP (pv 2)) pa_nilP)))))
      (pss_consP (ps_setP (ps_set (i := 3) sc_spoilt_paper.nd rfl (Or.inl rfl) (pe_cbP lc_len (pe_callB call_lenP (by rfl) T.z_len (by decide +kernel) (pa_consP (pe_borP (pv 2)) pa_nilP)))))
      (pss_consP (ps_setP (ps_set (i := 4) sc_spoilt_paper.nd rfl (Or.inr rfl) (pe_callP hG (pe_call (okp_draw T) (hr.mono (by decide)) rfl T.m_draw T.F_draw.kp T.b_draw .nil pass0 (pa_consP (pe_borP (pv 0)) (pa_consP (pe_borP (pv 3)) pa_nilP))))))
      (pss_cutP (ps_setLcFP (i := 5) (vs := [9]) (ps_setLc (i := 5) (own := [("_law_m", 9)]) rfl sc_spoilt_paper.nd rfl rfl (sw_true rfl rfl rfl (by decide +kernel)) (pi_range1P (pi_range1 (by rfl) T.z_range (pa_consP (pe_borP (pv 3)) pa_nilP))) (blkOk_by (N := ["_law_d", "_law_nodes", "_law_paper", "_law_many", "_law_n", "_law_mates_here", "_law_way", "_law_likes", "_law_strange", "_law_m"]) (sc := defScope s_spoilt_paper) (by decide +kernel)) (fun _ _ _ _ _ => (pg_compP (vs := [9]) (pg_name (i := 9) sc_spoilt_paper.nd rfl (Or.inl rfl)))) (fun _ _ _ _ _ => (pts_one (pt_cmpP (op_eqP hr.units) li_eq (pe_ixP (pe_borP (pv 2)) (pe_borP (pv 9)) (fun _ _ => rfl) li_ix) (pe_ixP (pe_borP (pv 2)) (pe_borP (pv 4)) (fun _ _ => rfl) li_ix) (nomark _)))) (fun _ _ _ _ _ => (pe_varP (pv 9)))))
      (pss_consP (ps_setP (ps_set (i := 6) sc_spoilt_paper.nd rfl (Or.inr rfl) (pe_callP hG (pe_call (okp_draw T) (hr.mono (by decide)) rfl T.m_draw T.F_draw.kp T.b_draw .nil pass0 (pa_consP (pe_borP (pv 0)) (pa_consP (pe_cP (d := .int 9) pe_int) pa_nilP))))))
      (pss_cutP (ps_setLcFP (i := 7) (vs := [9]) (ps_setLc (i := 7) (own := [("_law_m", 9)]) rfl sc_spoilt_paper.nd rfl rfl (sw_true rfl rfl rfl (by decide +kernel)) (pi_range1P (pi_range1 (by rfl) T.z_range (pa_consP (pe_borP (pv 3)) pa_nilP))) (blkOk_by (N := ["_law_d", "_law_nodes", "_law_paper", "_law_many", "_law_n", "_law_mates_here", "_law_way", "_law_likes", "_law_strange", "_law_m"]) (sc := defScope s_spoilt_paper) (by decide +kernel)) (fun _ _ _ _ _ => (pg_compP (vs := [9]) (pg_name (i := 9) sc_spoilt_paper.nd rfl (Or.inl rfl)))) (fun _ _ _ _ _ => (pts_one (PW.pt (pw_andP (pt_cmpP (op_eqP hr.units) li_eq (pe_ixP (pe_ixP (pe_borP (pv 1)) (pe_borP (pv 9)) (fun _ _ => rfl) li_ix) (pe_cP (d := .int 0) pe_int) (fun _ _ => rfl) li_ix) (pe_ixP (pe_ixP (pe_borP (pv 1)) (pe_borP (pv 4)) (fun _ _ => rfl) li_ix) (pe_cP (d := .int 0) pe_int) (fun _ _ => rfl) li_ix) (nomark _)) (pw_and1P (PW.pt (pw_orP (pt_cmpP (op_eqP hr.units) li_eq (pe_borP (pv 6)) (pe_cP (d := .int 8) pe_int) (nomark _)) (pw_or1P (pt_cmpP (op_eqP hr.units) li_eq (pe_sliceP (pe_ixP (pe_borP (pv 1)) (pe_borP (pv 9)) (fun _ _ => rfl) li_ix) (po_someP (pe_cP (d := .int 3) pe_int)) po_noneP) (pe_sliceP (pe_ixP (pe_borP (pv 1)) (pe_borP (pv 4)) (fun _ _ => rfl) li_ix) (po_someP (pe_cP (d := .int 3) pe_int)) po_noneP) (nomark _)))))))))) (fun _ _ _ _ _ => (pe_varP (pv 9)))))
      (pss_consP (ps_ifP (pt_cmpP (op_eqP hr.units) li_eq (pe_borP (pv 6)) (pe_cP (d := .int 0) pe_int) (nomark _)) (pss_oneP (ps_setIxP (ps_asg (pe_frzP (pe_callP hG (pe_call (okp_draw T) (hr.mono (by decide)) rfl T.m_draw T.F_draw.kp T.b_draw .nil pass0 (pa_consP (pe_borP (pv 0)) (pa_consP (pe_borP (pv 3)) pa_nilP))))) (pg_sub (pe_borP (pv 2)) (pe_borP (pv 4)) set_list)))) (pss_oneP (ps_ifP (pt_cmpP (op_eqP hr.units) li_eq (pe_borP (pv 6)) (pe_cP (d := .int 1) pe_int) (nomark _)) (pss_consP (ps_setP (ps_set (i := 8) sc_spoilt_paper.nd rfl (Or.inl rfl) (pe_lstP (pa_consP (pe_negP (pe_cP (d := .int 1) pe_int)) (pa_consP (pe_varP (pv 3)) (pa_consP (pe_frzP (pe_opP op_sub li_sub (pe_negP (pe_cP (d := .int 1) pe_int)) (pe_callP hG (pe_call (okp_draw T) (hr.mono (by decide)) rfl T.m_draw T.F_draw.kp T.b_draw .nil pass0 (pa_consP (pe_borP (pv 0)) (pa_consP (pe_cP (d := .int 1000000) pe_int) pa_nilP)))))) (pa_consP (pe_frzP (pe_opP op_addP li_add (pe_borP (pv 3)) (pe_callP hG (pe_call (okp_draw T) (hr.mono (by decide)) rfl T.m_draw T.F_draw.kp T.b_draw .nil pass0 (pa_consP (pe_borP (pv 0)) (pa_consP (pe_cP (d := .int 999000) pe_int) pa_nilP)))))) pa_nilP)))))))
      (pss_oneP (ps_setIxP (ps_asg (pe_frzP (pe_callP hG (pe_call (okp_pick T) (hr.mono (by decide)) rfl T.m_pick T.F_pick.kp T.b_pick .nil pass0 (pa_consP (pe_borP (pv 0)) (pa_consP (pe_varP (pv 8)) pa_nilP))))) (pg_sub (pe_borP (pv 2)) (pe_borP (pv 4)) set_list))))) (pss_oneP (ps_ifP (pt_cmpP (op_eqP hr.units) li_eq (pe_borP (pv 6)) (pe_cP (d := .int 2) pe_int) (nomark _)) (pss_oneP (ps_setP (ps_set (i := 2) sc_spoilt_paper.nd rfl (Or.inr rfl) (pe_callP hG (pe_call (okp_pick T) (hr.mono (by decide)) rfl T.m_pick T.F_pick.kp T.b_pick .nil pass0 (pa_consP (pe_borP (pv 0)) (pa_consP (pe_frzP (pe_lstP (pa_consP (pe_frzP (pe_sliceP (pe_borP (pv 2)) po_noneP (po_someP (pe_negP (pe_cP (d := .int 1) pe_int))))) (pa_consP (pe_frzP (pe_opP op_addP li_add (pe_borP (pv 2)) (pe_lstP (pa_consP (pe_varP (pv 3)) pa_nilP)))) (pa_consP (pe_frzP (pe_opP op_addP li_add (pe_borP (pv 2)) (pe_lstP (pa_consP (pe_cP (d := .int 0) pe_int) pa_nilP)))) (pa_consP (pe_frzP (pe_lstP pa_nilP)) pa_nilP)))))) pa_nilP))))))) (pss_oneP (ps_ifP (pt_cmpP (op_eqP hr.units) li_eq (pe_borP (pv 6)) (pe_cP (d := .int 3) pe_int) (nomark _)) (pss_oneP (ps_setIxP (ps_asg (pe_frzP (pe_callP hG (pe_call (okp_pick T) (hr.mono (by decide)) rfl T.m_pick T.F_pick.kp T.b_pick .nil pass0 (pa_consP (pe_borP (pv 0)) (pa_consP (pe_varP (pv 5)) pa_nilP))))) (pg_sub (pe_borP (pv 2)) (pe_borP (pv 4)) set_list)))) (pss_oneP (ps_ifP (pt_cmpP (op_eqP hr.units) li_eq (pe_borP (pv 6)) (pe_cP (d := .int 4) pe_int) (nomark _)) (pss_oneP (ps_forP (ps_for PassesOwn.never rfl (pi_itemsP (pe_varP (pv 5))) (pg_nameP (pg_name (i := 9) sc_spoilt_paper.nd rfl (Or.inl rfl)))
      (pss_oneP (ps_setIxP (ps_asg (pe_ixP (pe_borP (pv 5)) (pe_negP (pe_cP (d := .int 1) pe_int)) (fun _ _ => rfl) li_ix) (pg_sub (pe_borP (pv 2)) (pe_borP (pv 9)) set_list))))))) (pss_oneP (ps_ifP (pt_cmpP (op_eqP hr.units) li_eq (pe_borP (pv 6)) (pe_cP (d := .int 5) pe_int) (nomark _)) (pss_oneP (ps_setIxP (ps_asg (pe_varP (pv 4)) (pg_sub (pe_borP (pv 2)) (pe_borP (pv 4)) set_list)))) (pss_oneP (ps_setP (ps_set (i := 2) sc_spoilt_paper.nd rfl (Or.inr rfl) (pe_callP hG (pe_call (okp_joined T) (hr.mono (by decide)) rfl T.m_joined T.F_joined.kp T.b_joined .nil pass0 (pa_consP (pe_varP (pv 2)) (pa_consP (pe_borP (pv 4)) (pa_consP (pe_callP hG (pe_call (okp_pick T) (hr.mono (by decide)) rfl T.m_pick T.F_pick.kp T.b_pick .nil pass0 (pa_consP (pe_borP (pv 0)) (pa_consP (pe_varP (pv 7)) pa_nilP)))) pa_nilP)))))))))))))))))))
      (pss_oneP (ps_retMvP (pv 2)))))))))), fun as C hl h => ?_⟩
  obtain ⟨N, ls, rfl, al, n1, n90, ll, q⟩ := h
  have lD := nodesD_len N
  have lls := nums_len ls
  refine ⟨_, rfl, by omega, by omega, fun y y0 y1 => ?_⟩
  obtain ⟨n, rfl⟩ : ∃ n : Nat, y = (n : Int) := ⟨y.toNat, by omega⟩
  have hn : n < ls.length := by omega
  have lat : ∀ c, c < ls.length → (nums ls)[c]? = some (.int ((nth ls c : Nat) : Int)) := fun c hc => nums_at (nth_at hc)
  have head : ([.drw, .dat (.tuple (nodesD N)), .dat (.list (nums ls))] : List Cel).length = 3 := rfl
  refine ⟨fun env => ∃ ms : List Nat, (∀ m, m ∈ ms → m < ls.length) ∧ n ∈ ms ∧ ms.length ≤ 90 ∧ env = [.drw, .dat (.tuple (nodesD N)), .own (nums ls), .dat (.int (ls.length : Int)), .dat (.int (n : Int)), .dat (.list (nums ms)), .no, .no, .no, .no], ?_, ?_⟩
  · refine ⟨by omega, by omega, ?_⟩
    rw [lls, rangeN]
    refine lc_numsP (l := List.range ls.length) (fun m => decide (nth ls m = nth ls n)) (szl (by rw [List.length_range]; omega)) (fun j a ha Q k1 k2 => ?_) ?_
    · have aN := (List.getElem?_eq_some_iff.mp ha).1
      rw [List.length_range] at aN
      rw [List.getElem?_range aN] at ha
      cases ha
      exact ⟨_, atD j (lat j aN), _, atD n (lat n hn), IfP.as (natE _ _) (IfP.both k1 k2)⟩
    · exact ⟨(List.range ls.length).filter fun m => decide (nth ls m = nth ls n), fun m hm => List.mem_range.mp (List.mem_filter.mp hm).1, List.mem_filter.mpr ⟨List.mem_range.mpr hn, decide_eq_true rfl⟩, Nat.le_trans (List.length_filter_le _ _) (by rw [List.length_range]; omega), rfl⟩
  rintro env ⟨ms, mm, mn, lm, rfl⟩
  have lms := nums_len ms
  refine ⟨_, rfl, by decide, by decide, fun way w0 w1 => ?_⟩
  refine ⟨fun env => ∃ ks : List Nat, (∀ m, m ∈ ks → m < ls.length) ∧ n ∈ ks ∧ ks.length ≤ 90 ∧ env = [.drw, .dat (.tuple (nodesD N)), .own (nums ls), .dat (.int (ls.length : Int)), .dat (.int (n : Int)), .dat (.list (nums ms)), .dat (.int way), .dat (.list (nums ks)), .no, .no], ?_, ?_⟩
  · refine ⟨by omega, by omega, ?_⟩
    rw [rangeN]
    have hN := List.getElem?_eq_getElem (l := N) (by omega : n < N.length)
    have gn := al _ (List.getElem_mem (by omega : n < N.length))
    refine lc_numsP (l := List.range ls.length) (fun m => likeB N way n m) (szl (by rw [List.length_range]; omega)) (fun j a ha Q k1 k2 => ?_) ?_
    · have aN := (List.getElem?_eq_some_iff.mp ha).1
      rw [List.length_range] at aN
      rw [List.getElem?_range aN] at ha
      cases ha
      have hj := List.getElem?_eq_getElem (l := N) (by omega : j < N.length)
      have gj := al _ (List.getElem_mem (by omega : j < N.length))
      unfold likeB at k1 k2
      rw [hj, hN] at k1 k2
      generalize N[j] = qj at hj gj k1 k2
      generalize N[n] = qn at hN gn k1 k2
      have k1 : (decide (qj.1.w = qn.1.w) && (decide (way = 8) || PyData.eqv (.tuple qj.1.rest) (.tuple qn.1.rest))) = true → _ := k1
      have k2 : (decide (qj.1.w = qn.1.w) && (decide (way = 8) || PyData.eqv (.tuple qj.1.rest) (.tuple qn.1.rest))) = false → _ := k2
      refine ⟨_, atD j (nodesD_at hj), _, atD 0 rfl, _, atD n (nodesD_at hN), _, atD 0 rfl, ?_⟩
      have ej := cut3 (.str qj.1.w) qj.1.k (.tuple (qj.1.cl.map pairD)) qj.1.rest
      have en := cut3 (.str qn.1.w) qn.1.k (.tuple (qn.1.cl.map pairD)) qn.1.rest
      have sj := gj.cutS
      have sn := gn.cutS
      rw [← ej, ← en] at k1 k2
      refine IfP.both (fun h1 => IfP.both (fun h8 => ?_) fun h8 => ⟨_, atD j (nodesD_at hj), _, atD n (nodesD_at hN), sj, sn, IfP.both (fun h9 => ?_) fun h9 => ?_⟩) fun h1 => ?_
      · exact .t rfl (k1 (by rw [h1, h8]; rfl))
      · exact k1 (by rw [h1, h9, Bool.or_true]; rfl)
      · exact k2 (by rw [h8, h9, Bool.or_false, Bool.and_false])
      · exact .f rfl (k2 (by rw [h1]; rfl))
    have km : ∀ m, m ∈ ((List.range ls.length).filter fun m => likeB N way n m) → m < ls.length := fun m hm => List.mem_range.mp (List.mem_filter.mp hm).1
    have kn : n ∈ ((List.range ls.length).filter fun m => likeB N way n m) := List.mem_filter.mpr ⟨List.mem_range.mpr hn, by
      unfold likeB
      rw [hN]
      show (decide _ && (_ || _)) = true
      rw [decide_eq_true rfl, (eqv_iff gn.restS.1 gn.restS.1).mpr rfl, Bool.or_true]
      rfl⟩
    have lk : ((List.range ls.length).filter fun m => likeB N way n m).length ≤ 90 := Nat.le_trans (List.length_filter_le _ _) (by rw [List.length_range]; omega)
    exact ⟨_, km, kn, lk, rfl⟩
  rintro env ⟨ks, km, kn, lk, rfl⟩
  have lks := nums_len ks
  have lsI : (ls.map fun n : Nat => (n : Int)).length = ls.length := List.length_map _
  refine IfP.both (fun h => ?_) fun h => IfP.both (fun h => ?_) fun h => IfP.both (fun h => ?_) fun h => IfP.both (fun h => ?_) fun h => IfP.both (fun h => ?_) fun h => IfP.both (fun h => ?_) fun h => ?_
  · clear h
    refine ⟨_, rfl, by omega, by omega, fun y y0 y1 => ⟨n, ixN_nat (by omega), q ((ls.map fun n : Nat => (n : Int)).set n y) _ (by rw [List.length_set]; omega) (.inr ?_)⟩⟩
    rw [nums_int, setI]
  · clear h
    refine ⟨_, rfl, by decide, by decide, fun a a0 a1 => ⟨_, rfl, by decide, by decide, fun b b0 b1 => ⟨szr, ?_⟩⟩⟩
    refine ⟨_, .inr rfl, (fun z => nomatch z), Nat.le_of_ble_eq_true rfl, fun k d hd => ?_⟩
    obtain ⟨y, rfl⟩ : ∃ y : Int, d = .int y := by
      have := List.mem_of_getElem? hd
      simp only [List.mem_cons, List.not_mem_nil, or_false] at this
      rcases this with rfl | rfl | rfl | rfl <;> exact ⟨_, rfl⟩
    refine ⟨n, ixN_nat (by omega), q ((ls.map fun n : Nat => (n : Int)).set n y) _ (by rw [List.length_set]; omega) (.inr ?_)⟩
    rw [nums_int, setI]
  · clear h
    refine ⟨szr, szle (by show _ + 1 ≤ _; omega), szr, szle (by show _ + 1 ≤ _; omega), szr, szr, ?_⟩
    refine ⟨_, .inr rfl, (fun z => nomatch z), Nat.le_of_ble_eq_true rfl, fun k d hd => ?_⟩
    obtain ⟨ps, rfl, lp⟩ : ∃ ps : List Int, d = .list (ps.map .int) ∧ ps.length ≤ 100 := by
      have := List.mem_of_getElem? hd
      simp only [List.mem_cons, List.not_mem_nil, or_false] at this
      rcases this with rfl | rfl | rfl | rfl
      · rw [nums_int, cutP_map]
        exact ⟨_, rfl, by rw [List.length_take, List.length_drop]; omega⟩
      · exact ⟨ls.map (fun n : Nat => (n : Int)) ++ [(ls.length : Int)], by rw [nums_int, List.map_append]; rfl, by rw [List.length_append]; show _ + 1 ≤ _; omega⟩
      · exact ⟨ls.map (fun n : Nat => (n : Int)) ++ [0], by rw [nums_int, List.map_append]; rfl, by rw [List.length_append]; show _ + 1 ≤ _; omega⟩
      · exact ⟨[], rfl, Nat.zero_le _⟩
    exact q ps _ lp (.inl rfl)
  · clear h
    refine ⟨_, .inr rfl, (fun z => by rw [show ms = [] from List.map_eq_nil_iff.mp z] at mn; cases mn), by omega, fun k d hd => ?_⟩
    obtain ⟨y, hy, rfl⟩ := nums_at' hd
    refine ⟨n, ixN_nat (by omega), q ((ls.map fun n : Nat => (n : Int)).set n y) _ (by rw [List.length_set]; omega) (.inr ?_)⟩
    rw [nums_int, setI]
  · clear h
    refine ⟨fun i env => ∃ (ps : List Int) (c : Cel), ps.length = ls.length ∧ env = [.drw, .dat (.tuple (nodesD N)), .own (ps.map .int), .dat (.int (ls.length : Int)), .dat (.int (n : Int)), .dat (.list (nums ms)), .dat (.int way), .dat (.list (nums ks)), .no, c], ⟨ls.map fun n : Nat => (n : Int), _, lsI, by rw [← nums_int]⟩, ?_, ?_⟩
    · rintro i x env hx ⟨ps, c, lp, rfl⟩
      obtain ⟨m, hm, rfl⟩ := nums_at' hx
      have ml := mm m (List.mem_of_getElem? hm)
      obtain ⟨k, hk, hv⟩ := atI_back (xs := nums ms) (r := 0) (by decide) (by have := List.length_pos_of_mem mn; omega)
      obtain ⟨z, hz⟩ : ∃ z, ms[k]? = some z := ⟨_, List.getElem?_eq_getElem (by omega)⟩
      have lpi : (ps.map PyData.int).length = ps.length := List.length_map _
      refine ⟨_, hv _ (nums_at hz), m, ixN_nat (by omega), ps.set m z, _, by rw [List.length_set]; exact lp, by rw [← setI]; rfl⟩
    · rintro env ⟨ps, c, lp, rfl⟩
      exact q ps _ (by omega) (.inr rfl)
  · clear h
    refine ⟨n, ixN_nat (by omega), q ((ls.map fun n : Nat => (n : Int)).set n n) _ (by rw [List.length_set]; omega) (.inr ?_)⟩
    rw [nums_int, setI]
  · clear h
    refine ⟨_, .inr rfl, (fun z => by rw [show ks = [] from List.map_eq_nil_iff.mp z] at kn; cases kn), by omega, fun k d hd => ?_⟩
    obtain ⟨y, hy, rfl⟩ := nums_at' hd
    have yl := km y (List.mem_of_getElem? hy)
    have atI' : ∀ c, c < ls.length → (ls.map fun n : Nat => (n : Int))[c]? = some ((nth ls c : Nat) : Int) := fun c hc => by
      rw [List.getElem?_map, nth_at hc]
      rfl
    refine ⟨ls.map (fun n : Nat => (n : Int)), n, y, _, _, by rw [nums_int], atI' n hn, atI' y yl, by omega, fun r hr => ?_⟩
    rcases hr with rfl | rfl
    · exact q _ _ (by unfold joinI; rw [List.length_map]; omega) (.inl rfl)
    · exact q _ _ (by unfold joinI; rw [List.length_map]; omega) (.inr rfl)
end

/-! ### the law -/
theorem pss_exG {X : Cx} {rest : List Stmt} {g : PSt} {tbs : List Addr} (h : ∀ G : Gam, G.tbs = tbs → PSs X rest (tS X.K G g)) : PSs X rest (fun D σ H => ∃ G : Gam, G.tbs = tbs ∧ tS X.K G g D σ H) := ⟨fun pins s σ H D I ⟨G, e, q⟩ => (h G e).run pins s σ H D I q⟩
theorem StZ.init {K : PySem.W.Frag} {d c : Addr} {H : Hp} {x : V} {tbs : List Addr} (n : Nat) (dr : Dr d c H) (tk : ∀ b ∈ tbs, GxR.TabG H b) : StZ K ⟨some (d, c), H, fun _ => False, fun _ => False, [], tbs⟩ (fun _ => False) H (some x :: some (.ref d) :: List.replicate n none) (.no :: .drw :: List.replicate n .no) [] := by
  have at_ : ∀ (i : Nat) (p : Cel), (Cel.no :: .drw :: List.replicate n .no)[i]? = some p → (p = .no ∧ ∃ ov : Option V, (some x :: some (V.ref d) :: List.replicate n none)[i]? = some ov) ∨ (p = .drw ∧ (some x :: some (V.ref d) :: List.replicate n none)[i]? = some (some (.ref d))) := fun i p e => by
    rcases i with _ | _ | i
    · exact .inl ⟨(Option.some.inj e).symm, _, rfl⟩
    · exact .inr ⟨(Option.some.inj e).symm, rfl⟩
    · have e : (List.replicate n Cel.no)[i]? = some p := e
      rw [List.getElem?_replicate] at e
      split at e
      · next hi => exact .inl ⟨(Option.some.inj e).symm, none, by show (List.replicate n none)[i]? = _; rw [List.getElem?_replicate, if_pos hi]⟩
      · cases e
  have no : ∀ {i a}, ¬ OwnS H (some x :: some (.ref d) :: List.replicate n none) (.no :: .drw :: List.replicate n .no) i a := fun {i a} ⟨ov, p, _, e2, hb⟩ => by
    rcases at_ i p e2 with ⟨rfl, _⟩ | ⟨rfl, _⟩ <;> cases ov <;> cases hb
  obtain ⟨cells, k, big, seed, cnt, h1, h2, h3⟩ := id dr
  refine ⟨⟨fun a h => h.elim, fun a h => h.elim, fun d' c' e => ?_⟩, fun i p e => ?_, fun t ht => (by cases ht), fun t ht => (by cases ht), fun t ht => (by cases ht), List.Pairwise.nil, fun i j a o => (no o).elim, List.Pairwise.nil, fun i a t o => (no o).elim, fun t ht => (by cases ht), fun j xs e => ?_, fun a h => h, fun a h => .inl h, fun a h => h.elim, fun b o e _ _ _ => e, fun b e => e, fun d' c' e => by cases e; exact dr, fun b h => h, tk⟩
  · cases e
    exact ⟨id, id, id, id, (fun z => by rw [show H d = none from z] at h1; cases h1), fun z => by rw [show H c = none from z] at h2; cases h2⟩
  · rcases at_ i p e with ⟨rfl, ov, e1⟩ | ⟨rfl, e1⟩
    · exact ⟨ov, e1, trivial⟩
    · exact ⟨_, e1, d, c, rfl, rfl⟩
  · rcases at_ j _ e with ⟨z, _⟩ | ⟨z, _⟩ <;> cases z
def rLaw (K : PySem.W.Frag) (tbs : List Addr) : V → Hp → VK → Prop := fun x H Q => ∃ (a : Addr) (ns : List Int), x = .ref a ∧ SqL K H a (ns.map V.int) ∧ ns.length ≤ 63 ∧ (∀ b ∈ tbs, GxR.TabG H b) ∧ ∀ H', Q (.bl true) H'
theorem range_int {n : Int} {i : Nat} {x : PyData} (h : (rangeP 0 n)[i]? = some x) : ∃ k : Int, x = .int k := by
  unfold rangeP at h
  rw [List.getElem?_map] at h
  obtain ⟨k, _, rfl⟩ := Option.map_eq_some_iff.mp h
  exact ⟨_, rfl⟩

def paperD (ps : List Int) : PyData := .list (ps.map .int)
theorem cut4a {a b : List PyData} (h : a.length = 4) : cutP (a ++ b) none (some 4) = a := by
  unfold cutP
  rw [show (some (4 : Int)) = some (((4 : Nat) : Int)) from rfl, HT.sIx_nat, HT.sIx_none, List.length_append, h, Nat.min_eq_left (by omega)]
  show ((a ++ b).take 4) = a
  rw [← h, List.take_left']
  rfl
section
variable {P : Program} {w : World} {K : PySem.W.Frag} {mg : Str → Option Value} {base : Heap}
theorem ok_law (T : Tx K mg w base) : FnOk P w K mg base CX0 14 T.f_law T.fd_law ["_law_script"] (sp1 (rLaw K T.tbs)) := by
  refine okR1 T.F_law sc_law rfl fun cdv A outer s H Q E x hr h => ?_
  obtain ⟨a, ns, rfl, hS, h63, tk, q⟩ := h
  refine ⟨_, (pss_cons (ps_set (i := 1) sc_law.nd rfl (Or.inl rfl) (pe_call (ok_begin T) (hr.mono (by decide)) rfl T.m_begin T.F_begin.kp T.b_begin .nil pass0 (pa_cons (pv 0) pa_nil))) (pss_exG fun G hG =>
      (pss_consP (ps_setP (ps_set (i := 2) sc_law.nd rfl (Or.inl rfl) (pe_callP hG (pe_call (okp_twin_flow T) (hr.mono (by decide)) rfl T.m_twin_flow T.F_twin_flow.kp T.b_twin_flow .nil pass0 (pa_consP (pe_borP (pv 1)) (pa_consP (pe_call0P hG (pe_call0 (okp_pool T) (hr.mono (by decide)) rfl T.m_pool T.F_pool.kp T.b_pool .nil pass0)) (pa_consP (pe_cP (d := .int 40) pe_int) pa_nilP)))))))
      (pss_consP (ps_setP (ps_set (i := 3) sc_law.nd rfl (Or.inl rfl) (pe_ixP (pe_borP (pv 2)) (pe_cP (d := .int 2) pe_int) (fun _ _ => rfl) li_ix)))
      (pss_consP (ps_setP (ps_set (i := 4) sc_law.nd rfl (Or.inl rfl) (pe_callP hG (pe_call (okp_leaders T) (hr.mono (by decide)) rfl T.m_leaders T.F_leaders.kp T.b_leaders .nil pass0 (pa_consP (pe_borP (pv 3)) pa_nilP)))))
      (pss_consP (ps_setP (ps_set (i := 5) sc_law.nd rfl (Or.inl rfl) (pe_lstP (pa_consP (pe_frzP (pe_lstR1P (pe_listRg rfl (by rfl) T.z_list (prg_1 (by rfl) T.z_range (pe_cbP lc_len (pe_callB call_lenP (by rfl) T.z_len (by decide +kernel) (pa_consP (pe_borP (pv 3)) pa_nilP))))))) (pa_consP (pe_varP (pv 4)) pa_nilP)))))
      (pss_consP (ps_forP (ps_for PassesOwn.never rfl (pi_range1P (pi_range1 (by rfl) T.z_range (pa_consP (pe_cP (d := .int 2) pe_int) pa_nilP))) (pg_nameP (pg_name (i := 6) sc_law.nd rfl (Or.inl rfl)))
      (pss_oneP (ps_dropP (pe_methP lm_app (pe_bm PySem.F.plainAttrs_list PySem.F.slot_list_append PySem.F.type_list_append mt_append (pe_borP (pv 5)) (pa_consP (pe_frzP (pe_callP hG (pe_call (okp_some_paper T) (hr.mono (by decide)) rfl T.m_some_paper T.F_some_paper.kp T.b_some_paper .nil pass0 (pa_consP (pe_borP (pv 1)) (pa_consP (pe_borP (pv 3)) (pa_consP (pe_borP (pv 4)) pa_nilP)))))) pa_nilP)))))))
      (pss_consP (ps_forP (ps_for PassesOwn.never rfl (pi_range1P (pi_range1 (by rfl) T.z_range (pa_consP (pe_cP (d := .int 7) pe_int) pa_nilP))) (pg_nameP (pg_name (i := 6) sc_law.nd rfl (Or.inl rfl)))
      (pss_oneP (ps_dropP (pe_methP lm_app (pe_bm PySem.F.plainAttrs_list PySem.F.slot_list_append PySem.F.type_list_append mt_append (pe_borP (pv 5)) (pa_consP (pe_frzP (pe_callP hG (pe_call (okp_spoilt_paper T) (hr.mono (by decide)) rfl T.m_spoilt_paper T.F_spoilt_paper.kp T.b_spoilt_paper .nil pass0 (pa_consP (pe_borP (pv 1)) (pa_consP (pe_borP (pv 3)) (pa_consP (pe_callP hG (pe_call (okp_pick T) (hr.mono (by decide)) rfl T.m_pick T.F_pick.kp T.b_pick .nil pass0 (pa_consP (pe_borP (pv 1)) (pa_consP (pe_sliceP (pe_borP (pv 5)) po_noneP (po_someP (pe_cP (d := .int 4) pe_int))) pa_nilP)))) pa_nilP)))))) pa_nilP)))))))
      (pss_consP (ps_forP (ps_for PassesOwn.never rfl (pi_itemsP (pe_varP (pv 5))) (pg_nameP (pg_name (i := 7) sc_law.nd rfl (Or.inl rfl)))
      (pss_consP (ps_setP (ps_set (i := 8) sc_law.nd rfl (Or.inl rfl) (pe_callP hG (pe_call (okp_judge_classes T) (hr.mono (by decide)) rfl T.m_judge_classes T.F_judge_classes.kp T.b_judge_classes .nil pass0 (pa_consP (pe_borP (pv 2)) (pa_consP (pe_cbP lc_tup (pe_callTy (show CallR _ (.type "tuple") (rTupOf K) from call_tup) (by rfl) T.z_tuple (by decide +kernel) (pa_consP (pe_borP (pv 7)) pa_nilP))) pa_nilP))))))
      (pss_oneP (ps_ifP (PW.pt (pw_orP (pt_notP (pt_truP (pe_isiP (by simp) (pe_callB call_isi (by rfl) T.z_isinstance (by decide +kernel) (pa_cons (pe_borP (pv 8)) (pa_cons (pe_bltn (v := .ty "bool") rfl T.z_bool (by decide +kernel) rfl) pa_nil)))))) (pw_or1P (pt_cmpP (op_neP hr.units) li_ne (pe_borP (pv 8)) (pe_callP hG (pe_call (okp_classes_taken T) (hr.mono (by decide)) rfl T.m_classes_taken T.F_classes_taken.kp T.b_classes_taken .nil pass0 (pa_consP (pe_borP (pv 3)) (pa_consP (pe_borP (pv 7)) pa_nilP)))) (nomark _))))) (pss_oneP (ps_retP (pe_cP (d := .bool false) pe_bl))) pss_nilP)))))
      (pss_oneP (ps_retP (pe_cP (d := .bool true) pe_bl)))))))))))), ?_⟩
  refine ⟨_, rfl, _, rfl, a, ns, rfl, hS, h63, fun d c H1 dr1 s1 => ?_⟩
  have tk1 : ∀ b ∈ T.tbs, GxR.TabG H1 b := fun b hb => by
    obtain ⟨ps, h1, h2⟩ := tk b hb
    exact ⟨ps, (s1 b _ h1), h2⟩
  refine ⟨⟨some (d, c), H1, fun _ => False, fun _ => False, [], T.tbs⟩, rfl, [.no, .drw, .no, .no, .no, .no, .no, .no, .no], [], ⟨fun _ => False, fun p _ => p = .dat (.bool true), fun _ => False, fun _ => False⟩, (fun t ht => by cases ht), ⟨_, StZ.init 7 dr1 tk1⟩, ?_, ⟨fun _ _ _ h _ => h.elim, fun p env σ v H' e st => ?_, fun _ _ _ h _ => h.elim, fun _ _ _ h _ => h.elim⟩⟩
  · refine ⟨rfl, fun ns s60 s200 ok => ?_⟩
    refine ⟨40, ns, rfl, by decide, by decide, s60, s200, ok, fun ins N o1 o2 o3 ns' hin i1 i3 fl => ?_⟩
    have lD := nodesD_len N
    have n1 := fl.pos
    have lN := fl.len
    have al := fl.node
    refine ⟨_, atD 2 rfl, N, rfl, al, n1, lN, fun wh cw st => ?_⟩
    refine ⟨⟨by omega, by omega⟩, szr, by decide, by decide, ?_⟩
    have e0 : rangeP 0 (((nodesD N).length : Nat) : Int) = nums (List.range N.length) := by rw [lD]; exact rangeN _
    refine ⟨fun i env => ∃ (FS : List (List Nat)) (c6 : Cel), FS.length = 2 + i ∧ (∀ l ∈ FS, l.length = N.length) ∧ env = [.no, .drw, .dat (flowD ins N o1 o2 o3), .dat (.tuple (nodesD N)), .dat (.list (nums wh)), .own (FS.map fun l => .list (nums l)), c6, .no, .no], ⟨[List.range N.length, wh], .no, rfl, fun l hl => ?_, ?_⟩, ?_, ?_⟩
    · simp only [List.mem_cons, List.not_mem_nil, or_false] at hl
      rcases hl with rfl | rfl
      · exact List.length_range
      · exact cw.len
    · rw [show ([List.range N.length, wh].map fun l => PyData.list (nums l)) = [.list (nums (List.range N.length)), .list (nums wh)] from rfl, ← e0]
      rfl
    · rintro i x env hx ⟨FS, c6, l1, l2, rfl⟩
      have hi := (List.getElem?_eq_some_iff.mp hx).1
      unfold rangeP at hi
      rw [List.length_map, List.length_range] at hi
      have hi : i < 2 := hi
      refine ⟨N, wh, rfl, al, n1, lN, cw, st, fun ls ld => ⟨szl (by rw [List.length_map]; omega), FS ++ [ls], .dat x, by rw [List.length_append]; show _ + 1 = _; omega, fun l hl => ?_, ?_⟩⟩
      · rcases List.mem_append.mp hl with hl | hl
        · exact l2 l hl
        · rw [List.mem_singleton.mp hl]
          exact ld.len
      · rw [List.map_append]
        rfl
    rintro env ⟨FS, c6, l1, l2, rfl⟩
    have l1 : FS.length = 4 := l1
    have lF : (FS.map fun l => PyData.list (nums l)).length = 4 := by rw [List.length_map, l1]
    refine ⟨by decide, by decide, ?_⟩
    refine ⟨fun i env => ∃ (PS : List (List Int)) (c6 : Cel), PS.length ≤ i ∧ (∀ l ∈ PS, l.length ≤ 100) ∧ env = [.no, .drw, .dat (flowD ins N o1 o2 o3), .dat (.tuple (nodesD N)), .dat (.list (nums wh)), .own ((FS.map fun l => .list (nums l)) ++ PS.map paperD), c6, .no, .no], ⟨[], _, Nat.zero_le _, (fun l hl => nomatch hl), by rw [List.map_nil, List.append_nil]⟩, ?_, ?_⟩
    · rintro i x env hx ⟨PS, c6, l3, l4, rfl⟩
      have hi := (List.getElem?_eq_some_iff.mp hx).1
      unfold rangeP at hi
      rw [List.length_map, List.length_range] at hi
      have hi : i < 7 := hi
      refine ⟨_, .inl rfl, ?_, ?_, fun k d hd => ?_⟩
      · rw [cut4a lF]
        exact fun z => by rw [z] at lF; cases lF
      · rw [cut4a lF, lF]
        decide
      rw [cut4a lF, List.getElem?_map] at hd
      obtain ⟨l, hl, rfl⟩ := Option.map_eq_some_iff.mp hd
      refine ⟨N, l, rfl, al, n1, lN, l2 l (List.mem_of_getElem? hl), fun ps r lp hr => ?_⟩
      have lA : ((FS.map fun l => PyData.list (nums l)) ++ PS.map paperD).length ≤ 4 + 7 := by
        rw [List.length_append, lF, List.length_map]
        omega
      have fin : ∃ (PS' : List (List Int)) (c6 : Cel), PS'.length ≤ i + 1 ∧ (∀ l ∈ PS', l.length ≤ 100) ∧ ([.no, .drw, .dat (flowD ins N o1 o2 o3), .dat (.tuple (nodesD N)), .dat (.list (nums wh)), .own (((FS.map fun l => .list (nums l)) ++ PS.map paperD) ++ [paperD ps]), .dat x, .no, .no] : List Cel) = [.no, .drw, .dat (flowD ins N o1 o2 o3), .dat (.tuple (nodesD N)), .dat (.list (nums wh)), .own ((FS.map fun l => .list (nums l)) ++ PS'.map paperD), c6, .no, .no] := by
        refine ⟨PS ++ [ps], .dat x, by rw [List.length_append]; show _ + 1 ≤ _; omega, fun l hl => ?_, ?_⟩
        · rcases List.mem_append.mp hl with hl | hl
          · exact l4 l hl
          · rw [List.mem_singleton.mp hl]
            exact lp
        · rw [List.map_append, List.append_assoc]
          rfl
      rcases hr with rfl | rfl
      · exact ⟨szl (by omega), fin⟩
      · exact ⟨szl (by omega), fin⟩
    rintro env ⟨PS, c6, l3, l4, rfl⟩
    have mem : ∀ x ∈ (FS.map fun l => PyData.list (nums l)) ++ PS.map paperD, ∃ ps : List Int, x = .list (ps.map .int) ∧ ps.length ≤ 100 := fun x hx => by
      rcases List.mem_append.mp hx with hx | hx
      · obtain ⟨l, hl, rfl⟩ := List.mem_map.mp hx
        exact ⟨l.map fun n : Nat => (n : Int), by rw [nums_int], by rw [List.length_map, l2 l hl]; omega⟩
      · obtain ⟨ps, hp, rfl⟩ := List.mem_map.mp hx
        exact ⟨ps, rfl, l4 ps hp⟩
    refine ⟨fun i env => ∃ c5 c7 c8 : Cel, env = [.no, .drw, .dat (flowD ins N o1 o2 o3), .dat (.tuple (nodesD N)), .dat (.list (nums wh)), c5, c6, c7, c8], ⟨_, _, _, rfl⟩, ?_, ?_⟩
    · rintro i x env hx ⟨c5, c7, c8, rfl⟩
      obtain ⟨ps, rfl, lp⟩ := mem x (List.mem_of_getElem? hx)
      refine ⟨ins, N, o1, o2, o3, ps, rfl, al, al.dp, lN, by omega, fun b hb => ?_⟩
      refine .f rfl ⟨N, ps, rfl, al, al.dp, lN, by omega, fun b' hb' => ?_⟩
      have e : b = b' := by
        cases b <;> cases b' <;> first | rfl | exact absurd (hb.mpr (hb'.mp rfl)) (by decide) | exact absurd (hb'.mpr (hb.mp rfl)) (by decide)
      subst e
      cases b
      · exact .f rfl ⟨_, _, _, rfl⟩
      · exact .f rfl ⟨_, _, _, rfl⟩
    · rintro env ⟨c5, c7, c8, rfl⟩
      rfl
  · obtain ⟨Z, st⟩ := st
    subst e
    have := st.topDat
    cases this
    exact q H'
end

example : tfs = ([] : List He.Defn) := rfl
theorem cd_of {K : PySem.W.Frag} {x qual : Str} {params : Arguments} {body : List Stmt} {scope : Scope} {dvs : List V} {kws : List (Str × V)} {p : Str × Option Str} {fd : FuncData} (F : FunD K x qual params body scope dvs kws (He.fAd K p) fd) : fd.code = .ref (He.codeOf K p) := by
  obtain ⟨oc, od, dV, kV, doc, pm, an, cdv, ct, osl, rfl, lk, hcd, _, _⟩ := F.ex
  obtain ⟨c, rfl⟩ := He.codeIn_ref hcd
  rw [He.codeOf_eq lk rfl]
theorem factsM {P : Program} {w : World} {K : PySem.W.Frag} {h : Heap} {mg : Str → Option Value} {f : Addr} (X : K.In h) (G : h.Ns mainGlobals mg) (hfa : mg ("law" : Str) = some (.ref f)) (cX : He.SaysX fa fn tabs tfs exB w h K) :
    ∃ fd : FuncData, (∀ (s : Shared) (v : Value), BindsTo s fd ⟨[v], []⟩ [("_law_script", v)]) ∧ ∀ base : Heap, K.In base → base.Ns mainGlobals mg → (∀ p ∈ tfs.map (He.cT K), GxR.TabB base mg p.1 p.2) → FnOk P w K mg base CX0 14 f fd ["_law_script"] (sp1 (rLaw K (tfs.map fun p => (He.cT K p).2))) := by
  have cT := cX.t
  have cex := cX.more
  have c := cT.d
  have ct := fun (i : Nat) (t : He.Tab) (h : tabs[i]? = some t) => cT.tab i (t := t) h
  obtain ⟨fd_is_int, F_is_int⟩ := c.def_ 0 (d := d_is_int) rfl
  obtain ⟨fd_is_within, F_is_within⟩ := c.def_ 1 (d := d_is_within) rfl
  obtain ⟨fd_is_number_of, F_is_number_of⟩ := c.def_ 2 (d := d_is_number_of) rfl
  obtain ⟨fd_p_renumbered, F_p_renumbered⟩ := c.def_ 3 (d := d_p_renumbered) rfl
  obtain ⟨fd_judge_classes, F_judge_classes⟩ := c.def_ 4 (d := d_judge_classes) rfl
  obtain ⟨fd_begin, F_begin⟩ := c.def_ 5 (d := d_begin) rfl
  obtain ⟨fd_mixed, F_mixed⟩ := c.def_ 6 (d := d_mixed) rfl
  obtain ⟨fd_draw, F_draw⟩ := c.def_ 7 (d := d_draw) rfl
  obtain ⟨fd_draw_digit, F_draw_digit⟩ := c.def_ 8 (d := d_draw_digit) rfl
  obtain ⟨fd_pick, F_pick⟩ := c.def_ 9 (d := d_pick) rfl
  obtain ⟨fd_pop, F_pop⟩ := c.def_ 10 (d := d_pop) rfl
  obtain ⟨fd_rare, F_rare⟩ := c.def_ 11 (d := d_rare) rfl
  obtain ⟨fd_shuffled, F_shuffled⟩ := c.def_ 12 (d := d_shuffled) rfl
  obtain ⟨fd_pool, F_pool⟩ := c.def_ 13 (d := d_pool) rfl
  obtain ⟨fd_kind_values, F_kind_values⟩ := c.def_ 14 (d := d_kind_values) rfl
  obtain ⟨fd_ends, F_ends⟩ := c.def_ 15 (d := d_ends) rfl
  obtain ⟨fd_value, F_value⟩ := c.def_ 16 (d := d_value) rfl
  obtain ⟨fd_num, F_num⟩ := c.def_ 17 (d := d_num) rfl
  obtain ⟨fd_plain_kind, F_plain_kind⟩ := c.def_ 18 (d := d_plain_kind) rfl
  obtain ⟨fd_renumbered, F_renumbered⟩ := c.def_ 19 (d := d_renumbered) rfl
  obtain ⟨fd_closed_flow, F_closed_flow⟩ := c.def_ 20 (d := d_closed_flow) rfl
  obtain ⟨fd_one_of, F_one_of⟩ := c.def_ 21 (d := d_one_of) rfl
  obtain ⟨fd_op_words, F_op_words⟩ := c.def_ 22 (d := d_op_words) rfl
  obtain ⟨fd_op_node, F_op_node⟩ := c.def_ 23 (d := d_op_node) rfl
  obtain ⟨fd_merge_node, F_merge_node⟩ := c.def_ 24 (d := d_merge_node) rfl
  obtain ⟨fd_input_node, F_input_node⟩ := c.def_ 25 (d := d_input_node) rfl
  obtain ⟨fd_delay_node, F_delay_node⟩ := c.def_ 26 (d := d_delay_node) rfl
  obtain ⟨fd_more_nodes, F_more_nodes⟩ := c.def_ 27 (d := d_more_nodes) rfl
  obtain ⟨fd_base, F_base⟩ := c.def_ 28 (d := d_base) rfl
  obtain ⟨fd_mates, F_mates⟩ := c.def_ 29 (d := d_mates) rfl
  obtain ⟨fd_doubled, F_doubled⟩ := c.def_ 30 (d := d_doubled) rfl
  obtain ⟨fd_bent, F_bent⟩ := c.def_ 31 (d := d_bent) rfl
  obtain ⟨fd_leaders, F_leaders⟩ := c.def_ 32 (d := d_leaders) rfl
  obtain ⟨fd_classes_taken, F_classes_taken⟩ := c.def_ 33 (d := d_classes_taken) rfl
  obtain ⟨fd_joined, F_joined⟩ := c.def_ 34 (d := d_joined) rfl
  obtain ⟨fd_links, F_links⟩ := c.def_ 35 (d := d_links) rfl
  obtain ⟨fd_resets_joined, F_resets_joined⟩ := c.def_ 36 (d := d_resets_joined) rfl
  obtain ⟨fd_closure, F_closure⟩ := c.def_ 37 (d := d_closure) rfl
  obtain ⟨fd_twin_flow, F_twin_flow⟩ := c.def_ 38 (d := d_twin_flow) rfl
  obtain ⟨fd_some_paper, F_some_paper⟩ := c.def_ 39 (d := d_some_paper) rfl
  obtain ⟨fd_spoilt_paper, F_spoilt_paper⟩ := c.def_ 40 (d := d_spoilt_paper) rfl
  obtain ⟨fd_law, F_law⟩ := c.def_ 41 (d := d_law) rfl
  have tb_COUNTS := cex
  obtain ⟨es_COUNTS, n_COUNTS, kx_COUNTS⟩ := ct 0 (fun K => He.ga K "COUNTS", keys_COUNTS) rfl
  obtain ⟨vb_COUNTS, nb_COUNTS⟩ := He.ba tb_COUNTS
  have kd_COUNTS : ∀ q ∈ tab_COUNTS, KDct K w (He.ga K "COUNTS") q.1 q.2 := fun q hq => by
    obtain ⟨p, hp, e1, e2⟩ : ∃ p ∈ dtab_COUNTS, p.1 = q.1 ∧ p.2.v K = q.2 := by
      have e : dtab_COUNTS.map (fun p => (p.1, p.2.v K)) = tab_COUNTS := rfl
      rw [← e] at hq
      obtain ⟨p, hp, rfl⟩ := List.mem_map.mp hq
      exact ⟨p, hp, rfl, rfl⟩
    obtain ⟨u, hu, ru⟩ := He.valsB_ok vb_COUNTS hp
    rw [e1] at hu
    rw [e2] at ru
    exact ⟨_, _, u, kx_COUNTS.at_, kx_COUNTS.lit, hu, ru⟩
  have no_COUNTS : ∀ z ∈ not_COUNTS, PySem.W.nsIn K (He.ga K "COUNTS") z = some none := fun z hz => He.eqO_ok (List.all_eq_true.mp nb_COUNTS z hz)
  have e := hfa.symm.trans (He.glo_ok X G (c.fact 41 (f := .glo "law") rfl))
  cases e
  have b := FunD.bindsA (ps := ["_law_script"]) F_law fun _ _ _ _ _ _ us hl => match us, hl with | [_], _ => rfl
  refine ⟨fd_law, fun s v => b s [v] rfl, fun base _ _ TB => ?_⟩
  let T : Tx K mg w base := {
    f_is_int := _, fd_is_int := fd_is_int, F_is_int := F_is_int, m_is_int := He.glo_ok X G (c.fact 0 (f := .glo "is_int") rfl), b_is_int := F_is_int.bindsN fun _ _ _ _ _ _ us hl => match us, hl with | [_], _ => rfl
    f_is_within := _, fd_is_within := fd_is_within, F_is_within := F_is_within, m_is_within := He.glo_ok X G (c.fact 1 (f := .glo "is_within") rfl), b_is_within := F_is_within.bindsN fun _ _ _ _ _ _ us hl => match us, hl with | [_, _, _], _ => rfl
    f_is_number_of := _, fd_is_number_of := fd_is_number_of, F_is_number_of := F_is_number_of, m_is_number_of := He.glo_ok X G (c.fact 2 (f := .glo "is_number_of") rfl), b_is_number_of := F_is_number_of.bindsN fun _ _ _ _ _ _ us hl => match us, hl with | [_, _], _ => rfl
    f_p_renumbered := _, fd_p_renumbered := fd_p_renumbered, F_p_renumbered := F_p_renumbered, m_p_renumbered := He.glo_ok X G (c.fact 3 (f := .glo "renumbered") rfl), b_p_renumbered := F_p_renumbered.bindsN fun _ _ _ _ _ _ us hl => match us, hl with | [_, _], _ => rfl
    f_judge_classes := _, fd_judge_classes := fd_judge_classes, F_judge_classes := F_judge_classes, m_judge_classes := He.glo_ok X G (c.fact 4 (f := .glo "judge_classes") rfl), b_judge_classes := F_judge_classes.bindsN fun _ _ _ _ _ _ us hl => match us, hl with | [_, _], _ => rfl
    f_begin := _, fd_begin := fd_begin, F_begin := F_begin, m_begin := He.glo_ok X G (c.fact 5 (f := .glo "_law_begin") rfl), b_begin := F_begin.bindsN fun _ _ _ _ _ _ us hl => match us, hl with | [_], _ => rfl
    f_mixed := _, fd_mixed := fd_mixed, F_mixed := F_mixed, m_mixed := He.glo_ok X G (c.fact 6 (f := .glo "_law_mixed") rfl), b_mixed := F_mixed.bindsN fun _ _ _ _ _ _ us hl => match us, hl with | [_, _], _ => rfl
    f_draw := _, fd_draw := fd_draw, F_draw := F_draw, m_draw := He.glo_ok X G (c.fact 7 (f := .glo "_law_draw") rfl), b_draw := F_draw.bindsN fun _ _ _ _ _ _ us hl => match us, hl with | [_, _], _ => rfl
    f_draw_digit := _, fd_draw_digit := fd_draw_digit, F_draw_digit := F_draw_digit, m_draw_digit := He.glo_ok X G (c.fact 8 (f := .glo "_law_draw_digit") rfl), b_draw_digit := F_draw_digit.bindsN fun _ _ _ _ _ _ us hl => match us, hl with | [_, _], _ => rfl
    f_pick := _, fd_pick := fd_pick, F_pick := F_pick, m_pick := He.glo_ok X G (c.fact 9 (f := .glo "_law_pick") rfl), b_pick := F_pick.bindsN fun _ _ _ _ _ _ us hl => match us, hl with | [_, _], _ => rfl
    f_pop := _, fd_pop := fd_pop, F_pop := F_pop, m_pop := He.glo_ok X G (c.fact 10 (f := .glo "_law_pop") rfl), b_pop := F_pop.bindsN fun _ _ _ _ _ _ us hl => match us, hl with | [_, _], _ => rfl
    f_rare := _, fd_rare := fd_rare, F_rare := F_rare, m_rare := He.glo_ok X G (c.fact 11 (f := .glo "_law_rare") rfl), b_rare := F_rare.bindsN fun _ _ _ _ _ _ us hl => match us, hl with | [_, _], _ => rfl
    f_shuffled := _, fd_shuffled := fd_shuffled, F_shuffled := F_shuffled, m_shuffled := He.glo_ok X G (c.fact 12 (f := .glo "_law_shuffled") rfl), b_shuffled := F_shuffled.bindsN fun _ _ _ _ _ _ us hl => match us, hl with | [_, _], _ => rfl
    f_pool := _, fd_pool := fd_pool, F_pool := F_pool, m_pool := He.glo_ok X G (c.fact 13 (f := .glo "_law_pool") rfl), b_pool := F_pool.bindsN fun _ _ _ _ _ _ us hl => match us, hl with | [], _ => rfl
    f_kind_values := _, fd_kind_values := fd_kind_values, F_kind_values := F_kind_values, m_kind_values := He.glo_ok X G (c.fact 14 (f := .glo "_law_kind_values") rfl), b_kind_values := F_kind_values.bindsN fun _ _ _ _ _ _ us hl => match us, hl with | [_], _ => rfl
    f_ends := _, fd_ends := fd_ends, F_ends := F_ends, m_ends := He.glo_ok X G (c.fact 15 (f := .glo "_law_ends") rfl), b_ends := F_ends.bindsN fun _ _ _ _ _ _ us hl => match us, hl with | [_], _ => rfl
    f_value := _, fd_value := fd_value, F_value := F_value, m_value := He.glo_ok X G (c.fact 16 (f := .glo "_law_value") rfl), b_value := F_value.bindsN fun _ _ _ _ _ _ us hl => match us, hl with | [_, _], _ => rfl
    f_num := _, fd_num := fd_num, F_num := F_num, m_num := He.glo_ok X G (c.fact 17 (f := .glo "_law_num") rfl), b_num := F_num.bindsN fun _ _ _ _ _ _ us hl => match us, hl with | [_, _], _ => rfl
    f_plain_kind := _, fd_plain_kind := fd_plain_kind, F_plain_kind := F_plain_kind, m_plain_kind := He.glo_ok X G (c.fact 18 (f := .glo "_law_plain_kind") rfl), b_plain_kind := F_plain_kind.bindsN fun _ _ _ _ _ _ us hl => match us, hl with | [_, _, _], _ => rfl
    f_renumbered := _, fd_renumbered := fd_renumbered, F_renumbered := F_renumbered, m_renumbered := He.glo_ok X G (c.fact 19 (f := .glo "_law_renumbered") rfl), b_renumbered := F_renumbered.bindsN fun _ _ _ _ _ _ us hl => match us, hl with | [_, _], _ => rfl
    f_closed_flow := _, fd_closed_flow := fd_closed_flow, F_closed_flow := F_closed_flow, m_closed_flow := He.glo_ok X G (c.fact 20 (f := .glo "_law_closed_flow") rfl), b_closed_flow := F_closed_flow.bindsN fun _ _ _ _ _ _ us hl => match us, hl with | [_, _, _, _], _ => rfl
    f_one_of := _, fd_one_of := fd_one_of, F_one_of := F_one_of, m_one_of := He.glo_ok X G (c.fact 21 (f := .glo "_law_one_of") rfl), b_one_of := F_one_of.bindsN fun _ _ _ _ _ _ us hl => match us, hl with | [_, _, _, _], _ => rfl
    f_op_words := _, fd_op_words := fd_op_words, F_op_words := F_op_words, m_op_words := He.glo_ok X G (c.fact 22 (f := .glo "_law_op_words") rfl), b_op_words := F_op_words.bindsN fun _ _ _ _ _ _ us hl => match us, hl with | [_], _ => rfl
    f_op_node := _, fd_op_node := fd_op_node, F_op_node := F_op_node, m_op_node := He.glo_ok X G (c.fact 23 (f := .glo "_law_op_node") rfl), b_op_node := F_op_node.bindsN fun _ _ _ _ _ _ us hl => match us, hl with | [_, _, _], _ => rfl
    f_merge_node := _, fd_merge_node := fd_merge_node, F_merge_node := F_merge_node, m_merge_node := He.glo_ok X G (c.fact 24 (f := .glo "_law_merge_node") rfl), b_merge_node := F_merge_node.bindsN fun _ _ _ _ _ _ us hl => match us, hl with | [_, _, _, _], _ => rfl
    f_input_node := _, fd_input_node := fd_input_node, F_input_node := F_input_node, m_input_node := He.glo_ok X G (c.fact 25 (f := .glo "_law_input_node") rfl), b_input_node := F_input_node.bindsN fun _ _ _ _ _ _ us hl => match us, hl with | [_, _, _, _], _ => rfl
    f_delay_node := _, fd_delay_node := fd_delay_node, F_delay_node := F_delay_node, m_delay_node := He.glo_ok X G (c.fact 26 (f := .glo "_law_delay_node") rfl), b_delay_node := F_delay_node.bindsN fun _ _ _ _ _ _ us hl => match us, hl with | [_, _, _], _ => rfl
    f_more_nodes := _, fd_more_nodes := fd_more_nodes, F_more_nodes := F_more_nodes, m_more_nodes := He.glo_ok X G (c.fact 27 (f := .glo "_law_more_nodes") rfl), b_more_nodes := F_more_nodes.bindsN fun _ _ _ _ _ _ us hl => match us, hl with | [_, _, _], _ => rfl
    f_base := _, fd_base := fd_base, F_base := F_base, m_base := He.glo_ok X G (c.fact 28 (f := .glo "_law_base") rfl), b_base := F_base.bindsN fun _ _ _ _ _ _ us hl => match us, hl with | [_, _, _, _, _], _ => rfl
    f_mates := _, fd_mates := fd_mates, F_mates := F_mates, m_mates := He.glo_ok X G (c.fact 29 (f := .glo "_law_mates") rfl), b_mates := F_mates.bindsN fun _ _ _ _ _ _ us hl => match us, hl with | [_, _], _ => rfl
    f_doubled := _, fd_doubled := fd_doubled, F_doubled := F_doubled, m_doubled := He.glo_ok X G (c.fact 30 (f := .glo "_law_doubled") rfl), b_doubled := F_doubled.bindsN fun _ _ _ _ _ _ us hl => match us, hl with | [_, _], _ => rfl
    f_bent := _, fd_bent := fd_bent, F_bent := F_bent, m_bent := He.glo_ok X G (c.fact 31 (f := .glo "_law_bent") rfl), b_bent := F_bent.bindsN fun _ _ _ _ _ _ us hl => match us, hl with | [_, _, _], _ => rfl
    f_leaders := _, fd_leaders := fd_leaders, F_leaders := F_leaders, m_leaders := He.glo_ok X G (c.fact 32 (f := .glo "_law_leaders") rfl), b_leaders := F_leaders.bindsN fun _ _ _ _ _ _ us hl => match us, hl with | [_], _ => rfl
    f_classes_taken := _, fd_classes_taken := fd_classes_taken, F_classes_taken := F_classes_taken, m_classes_taken := He.glo_ok X G (c.fact 33 (f := .glo "_law_classes_taken") rfl), b_classes_taken := F_classes_taken.bindsN fun _ _ _ _ _ _ us hl => match us, hl with | [_, _], _ => rfl
    f_joined := _, fd_joined := fd_joined, F_joined := F_joined, m_joined := He.glo_ok X G (c.fact 34 (f := .glo "_law_joined") rfl), b_joined := F_joined.bindsN fun _ _ _ _ _ _ us hl => match us, hl with | [_, _, _], _ => rfl
    f_links := _, fd_links := fd_links, F_links := F_links, m_links := He.glo_ok X G (c.fact 35 (f := .glo "_law_links") rfl), b_links := F_links.bindsN fun _ _ _ _ _ _ us hl => match us, hl with | [_], _ => rfl
    f_resets_joined := _, fd_resets_joined := fd_resets_joined, F_resets_joined := F_resets_joined, m_resets_joined := He.glo_ok X G (c.fact 36 (f := .glo "_law_resets_joined") rfl), b_resets_joined := F_resets_joined.bindsN fun _ _ _ _ _ _ us hl => match us, hl with | [_, _, _, _], _ => rfl
    f_closure := _, fd_closure := fd_closure, F_closure := F_closure, m_closure := He.glo_ok X G (c.fact 37 (f := .glo "_law_closure") rfl), b_closure := F_closure.bindsN fun _ _ _ _ _ _ us hl => match us, hl with | [_, _, _], _ => rfl
    f_twin_flow := _, fd_twin_flow := fd_twin_flow, F_twin_flow := F_twin_flow, m_twin_flow := He.glo_ok X G (c.fact 38 (f := .glo "_law_twin_flow") rfl), b_twin_flow := F_twin_flow.bindsN fun _ _ _ _ _ _ us hl => match us, hl with | [_, _, _], _ => rfl
    f_some_paper := _, fd_some_paper := fd_some_paper, F_some_paper := F_some_paper, m_some_paper := He.glo_ok X G (c.fact 39 (f := .glo "_law_some_paper") rfl), b_some_paper := F_some_paper.bindsN fun _ _ _ _ _ _ us hl => match us, hl with | [_, _, _], _ => rfl
    f_spoilt_paper := _, fd_spoilt_paper := fd_spoilt_paper, F_spoilt_paper := F_spoilt_paper, m_spoilt_paper := He.glo_ok X G (c.fact 40 (f := .glo "_law_spoilt_paper") rfl), b_spoilt_paper := F_spoilt_paper.bindsN fun _ _ _ _ _ _ us hl => match us, hl with | [_, _, _], _ => rfl
    f_law := _, fd_law := fd_law, F_law := F_law, m_law := He.glo_ok X G (c.fact 41 (f := .glo "law") rfl), b_law := F_law.bindsN fun _ _ _ _ _ _ us hl => match us, hl with | [_], _ => rfl
    z_abs := He.free_ok X G (c.fact 42 (f := .free "abs") rfl)
    z_bool := He.free_ok X G (c.fact 43 (f := .free "bool") rfl)
    z_divmod := He.free_ok X G (c.fact 44 (f := .free "divmod") rfl)
    z_enumerate := He.free_ok X G (c.fact 45 (f := .free "enumerate") rfl)
    z_int := He.free_ok X G (c.fact 46 (f := .free "int") rfl)
    z_isinstance := He.free_ok X G (c.fact 47 (f := .free "isinstance") rfl)
    z_len := He.free_ok X G (c.fact 48 (f := .free "len") rfl)
    z_list := He.free_ok X G (c.fact 49 (f := .free "list") rfl)
    z_max := He.free_ok X G (c.fact 50 (f := .free "max") rfl)
    z_min := He.free_ok X G (c.fact 51 (f := .free "min") rfl)
    z_range := He.free_ok X G (c.fact 52 (f := .free "range") rfl)
    z_set := He.free_ok X G (c.fact 53 (f := .free "set") rfl)
    z_sorted := He.free_ok X G (c.fact 54 (f := .free "sorted") rfl)
    z_tuple := He.free_ok X G (c.fact 55 (f := .free "tuple") rfl)
    mg_COUNTS := He.glo_ok X G (c.fact 56 (f := .glo "COUNTS") rfl), es_COUNTS := es_COUNTS, n_COUNTS := n_COUNTS, kx_COUNTS := kx_COUNTS, kd_COUNTS := kd_COUNTS, no_COUNTS := no_COUNTS
  }
  exact ok_law T
end My
open PySem PySem.W PySem.Calls PyProof.Rows
set_option maxRecDepth 100000 in
set_option maxHeartbeats 0 in
theorem PySem.Challenge.cw_keepsgoing_k49_classes_judged_holds : PySem.Challenge.rw_keepsgoing_k49_classes_judged.Holds := by
  w_on; o_law
  refine HandSHeadRun.head_any (r := My.theRow) (q := view My.theRow.prog [46]) (H := My.hookM) (ob := My.obM) (M := 20000) (loose := My.others) (d := HandSHeadRun.topDef My.theRow.prog 46) (kwd := []) My.obM_eq
    (by kernel_rfl) (fun s => by kernel_rfl) My.runM (by kernel_rfl) (by kernel_rfl) (by kernel_rfl) (by rfl) (by first | assumption | decide +kernel) (by decide +kernel) ⟨rfl, rfl, rfl, rfl, rfl, by decide +kernel⟩ ?hw ?hc
  case hw => w_witness2
  case hc =>
    refine LamX.walk_ofTsE (l := PySem.Challenge.rw_keepsgoing_k49_classes_judged) (n := 63) (k := 14) (x := "_law_script") (CX := fun _ => L2.CX0) rfl (by decide) (by kernel_rfl) ⟨rfl, by decide, by decide⟩ ?F (fun _ _ _ _ _ z => z)
    intro w mg fa h Y G hmg0
    obtain ⟨K, KX, c⟩ := Y
    have hmg : mg ("law" : PySem.Str) = some (.ref fa) := by
      have e : (HandSHeadRun.topDef My.theRow.prog 46).name = ("law" : PySem.Str) := by kernel_rfl
      rw [← e]
      exact hmg0
    obtain ⟨fd, hb, hF⟩ := My.factsM (P := My.theRow.prog) (w := w) KX G hmg c
    refine ⟨K, KX, fd, My.tfs.map (He.cT K), My.sp1 (My.rLaw K (My.tfs.map fun p => (He.cT K p).2)), fun p hp => ?_, fun p hp => ?_, fun p hp => ?_, hb, fun H a ns hl _ hT hS => ⟨_, rfl, a, ns, rfl, hS, hl, fun b hb => ?_, fun _ => rfl⟩, fun base h1 h2 h3 => hF base h1 h2 fun p hp => ⟨(h3 p hp).code, (h3 p hp).bm, (h3 p hp).gP⟩⟩
    · obtain ⟨q, hq, rfl⟩ := List.mem_map.mp hp
      exact c.empty q hq
    · obtain ⟨q, hq, rfl⟩ := List.mem_map.mp hp
      exact c.out q hq
    · obtain ⟨q, hq, rfl⟩ := List.mem_map.mp hp
      exact PySem.W.codeHd_of_K KX (c.hd q hq)
    · obtain ⟨q, hq, rfl⟩ := List.mem_map.mp hb
      exact ⟨#[], hT _ (List.mem_map.mpr ⟨q, hq, rfl⟩), trivial⟩
