import PyProof.Rows.All
import Wide.All
import OpenK.AllK
import Wide.FinOn
import KE.KExcSuper
import HandS.Exc
import HandS.ForSpec
import HandS.ForMost
import HandS.ForExc
import HandS.Star
import HandS.IsInst
import HandS.TupAny
import HandS.Style
import KE.KDictKeyed
import KE.KDictLaw
import HandS.Wide
import HandS.RaiseMore
import HandS.Lambda
import HandS.Zip
import HandS.TupMul
import HandS.TryMany
import KE.KExcIs
import PyProof.NeKinds
import HandS.Property
import HandS.Gcd
import HandS.Defaults
import HandS.Walk
import HandS.Iter
import PyProof.Draws
import HandS.TryOnly
import HandS.OwnEq
import HandS.TupLen
import KE.KDictPairs
import KE.KRevSl
import PyProof.P3In
import HandS.EndTab
import HandS.ClsMeth
import HandS.RaiseFrom
import HandS.SuiteRaise
import PyProof.CompFree
import KE.KDictDisplayH
import HandS.Conv
import HandS.TupLe
import HandS.DictComp
import HandS.Records
import KE.KExcInit
import KE.KNestM
import HandS.Text
import HandS.StrMore
import HandS.FStr
import PyProof.StrOps2
import HandS.NoneIn
import HandS.LawCells
import HandS.Codes
import PySem.Challenge.RW_beamframes_k17_refused_in_order
set_option Elab.async false
set_option linter.all false
set_option maxRecDepth 100000
set_option maxHeartbeats 4000000
namespace Bf
open PySem PySem.Spec PySem.W PySem.Calls PyProof.Rows PySem.HandSPX
/-! ## Own errors: super().__init__('..'); self.f = v -/
def xA (f : Str) (p1 p2 : Pos) : Arguments := { posonlyargs := [], args := [{ arg := "self", annotation := none, pos := p1 }, { arg := f, annotation := none, pos := p2 }], vararg := none, kwonlyargs := [], kw_defaults := [], kwarg := none, defaults := [] }
def xB (f t : Str) (q : Nat → Pos) : List Stmt := [.Expr (.Call (.Attribute (.Call (.Name "super" (q 1)) [] [] (q 2)) "__init__" (q 3)) [.Constant (.str t) 0 (q 4)] [] (q 5)) (q 6), .Assign [.Attribute (.Name "self" (q 7)) f (q 8)] (.Name f (q 9)) (q 10)]
def xS (f : Str) : Scope := { kind := .function, names := [("self", .local), (f, .local), ("__class__", .free), ("super", .globalImplicit)], isGenerator := false, isCoroutine := false, more := [] }
/-- where the call stands in the file plays no part -/
def xCall (t : Str) (q : Nat → Pos) : Prop := ∀ env : Env, ∃ pl : Sem Bool, eval (.Call (.Attribute (.Call (.Name "super" (q 1)) [] [] (q 2)) "__init__" (q 3)) [.Constant (.str t) 0 (q 4)] [] (q 5)) env = (do
  let ov ← attributeBase (.Call (.Name "super" (q 1)) [] [] (q 2)) "__init__" env (eval (.Call (.Name "super" (q 1)) [] [] (q 2)) env)
  standAt (q 3).atName
  let (f, first) ← holding [ov] (getMethod ov "__init__" pl)
  callWith (q 5) f first (backTo (q 5) (starEach [.Constant (.str t) 0 (q 4)] env)) [])
structure BadTxt (prog : Program) (K : Frag) (f : Str) (C fI : Addr) : Prop where
  cls : ∃ nm q N bs bm sn sub ab col dd k0 k1 k2 k3 k5, K.lookup C = some (excClassObj nm q C N bs bm true sn sub ab col dd k0 k1 k2 k3 k5 "ValueError.__new__") ∧ refsVE bm = true
  sa : findIn K (.ref C) "__setattr__" = some (some (.builtin "object.__setattr__"))
  noN : findIn K (.ref C) f = some none
  iC : findIn K (.ref C) "__init__" = some (some (.ref fI))
  tC : typeIn K (.ref fI) = some (.type "function")
  sup : ks_superIn K C C "__init__" = some (some (.builtin "ValueError.__init__"))
  sub : subIn K (.ref C) (.type "ValueError") = some true
  self : mroIn K C (.ref C) = some true
  st : nsIn K cStatics "thirdparty.any" = some none
  fn : ∃ (oc ccl cl : Value) (od cdd cld : Option Addr) (doc pm ct : Value) (an : Option Addr) (osl ccs csl : Array (Option Value)) (qual t : Str) (p1 p2 : Pos) (q : Nat → Pos) (cc cda : Addr) (vs : Array Value) (file : Str) (tf : Tok),
    K.lookup fI = some ⟨oc, od, .func (fnX "__init__" qual (xA f p1 p2) (xB f t q) (xS f) [("__class__", cc)] .none .none doc pm an (.ref cda) ct), osl⟩ ∧ codeIn K (.ref cda) qual = true ∧ K.lookup cc = some ⟨cl, cld, .cell (some (.ref C)), csl⟩ ∧
    K.lookup cda = some ⟨ccl, cdd, .fields vs, ccs⟩ ∧ vs[2]? = some (.str file tf) ∧ ((prog.main.file : Str) == file) = true ∧ xCall t q ∧
    ∀ (s : Shared) (a b : Value), BindsTo s (fnX "__init__" qual (xA f p1 p2) (xB f t q) (xS f) [("__class__", cc)] .none .none doc pm an (.ref cda) ct) ⟨[a, b], []⟩ [(("self" : Str), a), (f, b)]
structure BadEnd (h h' : Heap) (f : Str) (x C dx t1 : Addr) (v : Value) : Prop where
  keep : ∀ b o, b ≠ x → h.get? b = some o → h'.get? b = some o
  obj : h'.get? x = some { cls := .ref C, dict := some dx, data := .fields #[.ref t1, .none, .none, .none, .bool false, .none] }
  dbig : h.objs.size ≤ dx
  dne : dx ≠ x
  ns : h'.Ns1 dx (fun y => if y = f then some v else none)
section
variable {prog : Program} {w : World} {A : Around} {E : Value → Shared → Prop} {R : Result → Shared → Prop} {s : Shared} {K : Frag} {mg mb : Str → Option Value} {C fI : Addr} {f : Str}
theorem bad_init (T : BadTxt prog K f C fI) {x t0 : Addr} {v : Value} (X : K.In s.heap) (hlim : s.heap.NoLimit) (hg : s.heap.Ns mainGlobals mg) (hb : s.heap.Ns builtinsNs mb) (hms : mg "super" = none) (hbs : mb "super" = some (.type "super"))
    (htop : (prog.main.scope.names.lookup ("super" : Str)).isSome = false) (hfn : f ≠ "self" ∧ f ≠ "super" ∧ f ≠ "__class__" ∧ f ≠ "__debug__") (hx : s.heap.get? x = some (excO C t0)) (hnx : K.lookup x = none) (hroom : A.depth < recursionLimit)
    (hq : ∀ h' tk dx t1, BadEnd s.heap h' f x C dx t1 v → R (.ok (.ret .none)) { s with heap := h', toks := tk }) :
    codeAny (model prog w) A (.call (.ref fI) ⟨[.ref x, v], []⟩) R s := by
  obtain ⟨oc, ccl, cl, od, cdd, cld, doc, pm, ct, an, osl, ccs, csl, qual, t, p1, p2, q, cc, cda, vs, file, tf, ho, hcd, hcell, hcode, hvs, hfile, hcall, hbind⟩ := T.fn
  obtain ⟨nm, qn, N, bs, bm, sn, sub, ab, col, dd, k0, k1, k2, k3, k5, hC, hbm⟩ := T.cls
  have hcl : clsIn K C = some { name := nm, bases := bs, mro := .ref C :: bm, ns := N, qualname := qn, hasDict := true, slotNames := sn, subclasses := sub, abstract := ab, collection := col, hasDel := false } := by unfold clsIn; rw [hC] <;> rfl
  obtain ⟨n1, n2, n3, n4⟩ := hfn
  have l1 : (xS f).names.lookup ("self" : Str) = some .local := by simp [xS, List.lookup]
  have l2 : (xS f).names.lookup f = some .local := by
    have : (f == ("self" : Str)) = false := by simpa using n1
    simp [xS, List.lookup, this]
  have l3 : (xS f).names.lookup ("__class__" : Str) = some .free := by
    have e1 : (("__class__" : Str) == f) = false := by simpa using n3.symm
    have e2 : (("__class__" : Str) == "self") = false := by decide
    simp [xS, List.lookup, e1, e2]
  have l4 : (xS f).names.lookup ("super" : Str) = some .globalImplicit := by
    have e1 : (("super" : Str) == f) = false := by simpa using n2.symm
    have e2 : (("super" : Str) == "self") = false := by decide
    have e3 : (("super" : Str) == "__class__") = false := by decide
    simp [xS, List.lookup, e1, e2, e3]
  refine ks_codeAny_call_defAt (fd := fnX "__init__" qual (xA f p1 p2) (xB f t q) (xS f) [("__class__", cc)] .none .none doc pm an (.ref cda) ct) (body := xB f t q) (binds := [(("self" : Str), .ref x), (f, v)]) hroom (X _ _ ho) rfl hlim (codeRec_of X hcd) rfl (hbind _ _ _) (by simp [xS]) (by simp [l1, l2]) (fun h₁ hns k => ?_) rfl rfl rfl
  have X₁ : K.In h₁ := X.keeps k
  have hx₁ := k _ _ hx
  have hC₁ := X₁ _ _ hC
  have m1 : (fun y => List.lookup y [(("self" : Str), Value.ref x), (f, v)].reverse) "self" = some (.ref x) := by
    have : (("self" : Str) == f) = false := by simpa using n1.symm
    simp [List.lookup, this]
  have m2 : (fun y => List.lookup y [(("self" : Str), Value.ref x), (f, v)].reverse) f = some v := by simp [List.lookup]
  have hxL : s.heap.objs.size ≠ x := Nat.ne_of_gt (Heap.lt_size hx)
  -- super()
  obtain ⟨pl, he⟩ := hcall (callEnv (fnX "__init__" qual (xA f p1 p2) (xB f t q) (xS f) [("__class__", cc)] .none .none doc pm an (.ref cda) ct) s.heap.objs.size fI)
  refine ks_wpAt_execs_cons (ks_wpAt_Expr_any (ks_wpAt_MethodCall ?_ he))
  refine ks_wpAt_super_base (f := fI) (cc := cda) (ar := { arg := "self", annotation := none, pos := p1 }) l4 l3 (by decide) rfl (X₁ _ _ ho) rfl rfl rfl (X₁ _ _ hcode) rfl hvs hfile htop ?_
  refine ks_loadName_global rfl l4 (loadGlobal_builtin (hg.keeps k) hms (hb.keeps k) hbs ⟨rfl, ?_⟩)
  refine wpAny_loadName_free rfl l3 rfl ⟨_, X₁ _ _ hcell, rfl⟩ ?_
  refine wpAny_loadName_local rfl l1 hns m1 ?_
  refine ks_wpAny_isType_cls hC₁ rfl ⟨rfl, ?_⟩
  refine ks_wpAny_call_super hC₁ rfl hx₁ rfl (fun c e => nomatch e) (looks_mroIn X₁ T.self) (fun h₂ e k2 => ?_)
  have X₂ : K.In h₂ := X₁.keeps k2
  -- .__init__
  have hne : x ≠ C := fun z => by rw [z, hC] at hnx; cases hnx
  have hsup : alongIn K "__init__" (((Value.ref C :: bm).dropWhile (· != .ref C)).drop 1) = some (some (.builtin "ValueError.__init__")) := by
    have := T.sup
    unfold ks_superIn at this
    rw [hcl] at this
    exact this
  have I2 : InstAt h₂ x (excO C t0) C none := ⟨k2 _ _ hx₁, rfl, rfl, trivial⟩
  refine kxs_getMethod kxs_ValueError e (looks_opaque X₂ T.st) (l₀ := Value.ref C :: bm) (fun A Q E s k q => wpAny_bind ((looks_clsIn X₂ hcl) A _ E s k (wpAny_pure q))) rfl X₂ hsup (I2.type.andThen (looks_subIn X₂ T.sub)) hne (by decide) ?_
  have k3 : ∀ b o, h₂.get? b = some o → (h₂.push (kxs_mw "ValueError.__init__" x)).get? b = some o := fun b o e => Heap.get?_push_of_some _ e
  have hu : (h₂.push (kxs_mw "ValueError.__init__" x)).get? h₂.objs.size = some (kxs_mw "ValueError.__init__" x) := Heap.get?_push_at rfl rfl
  refine kxs_callWith (i := "ValueError.__init__") (x := x) rfl ?_
  refine evalArgs_plain ?_
  refine spliced_more (Calls.Constant_str (spliced_none ⟨hu, ?_⟩)) rfl
  have hx₃ : (h₂.push (kxs_mw "ValueError.__init__" x)).get? x = some (excObj C t0 none .none) := k3 _ _ (k2 _ _ hx₁)
  have hC₃ := X₂.keeps k3 _ _ hC
  refine wpAny_call (codeAny_of_tree ?_)
  show wpAny _ _ (callAny (.ref h₂.objs.size) ⟨[.str t _], []⟩) _ _ _
  simp only [callAny]
  refine wpAny_bind (wpAny_load hu ?_)
  simp only [kxs_mw, show (Value.type "method-wrapper" == Value.type "method" || Value.type "method-wrapper" == Value.type "builtin_function_or_method" || Value.type "method-wrapper" == Value.type "method-wrapper") = true by decide, if_true]
  refine KFB.if_so (by decide) ?_
  refine wpAny_bind (check_bound_init PySem.F.excBase_ValueError.toExcCallFacts hC₃ hx₃ rfl ?_)
  refine wpAny_bind (wpAny_pure (wpAny_pure ?_))
  refine ⟨plainId_quiet PySem.F.excBase_ValueError.init.plain _, codeAny_builtin PySem.F.excBase_ValueError.initEntry ?_⟩
  refine exc_init_tree (cls := .ref C) (t0 := t0) (dv := none) (c2 := .none) (c3 := .none) (b4 := .bool false) hx₃ (by rw [sizeLine_eq]; show 1 ≤ 16777216; decide) fun h₄ k4 e4 t4 => ?_
  have up : ∀ b o, b ≠ x → h₁.get? b = some o → h₄.get? b = some o := fun b o hb e => k4 _ _ hb (k3 _ _ (k2 _ _ e))
  have X₄ : K.In h₄ := fun a o e => up a o (fun z => by rw [z, hnx] at e; cases e) (X₁ a o e)
  have hns₄ := hns.at (h' := h₄) fun o e => up _ _ hxL e
  -- self.f = v
  show _root_.PySem.wpAt _ _ _ (execs _ _) _ _ _
  refine ks_wpAt_execs_cons (ks_wpAt_Assign_Attr (wpAt_of_wpAny ?_))
  refine wpAny_Name (wpAny_loadName_local rfl l2 hns₄ m2 ?_) (by simpa using n4)
  refine wpAny_Name (wpAny_loadName_local rfl l1 hns₄ m1 ?_) (by decide)
  refine set_plain X₄ (ox := excO C (h₂.push (kxs_mw "ValueError.__init__" x)).objs.size) (od := none) ⟨e4, rfl, rfl, trivial⟩ T.sa ?_
  refine exc_osa X₄ e4 hcl (show refsVE (.ref C :: bm) = true from hbm) rfl T.noN (fun h₅ tk₅ dx k₅ dn dne hx₅ hn₅ => ?_)
  show _root_.PySem.wpAt _ _ _ (execs [] _) _ _ _
  refine wpAt_of_wpAny (wpAny_execs_nil (hq h₅ tk₅ dx (h₂.push (kxs_mw "ValueError.__init__" x)).objs.size ⟨fun b o hb e => k₅ b o hb (up b o hb (k b o e)), hx₅, Nat.le_of_lt (Nat.lt_of_lt_of_le hns₄.lt dn), dne, hn₅⟩))
end
end Bf
namespace Bf
open PySem PySem.Spec PySem.W PySem.Calls PyProof.Rows PySem.HandSPX
/-- a made error: new, its dict holds its field -/
structure BadMade (h h' : Heap) (f : Str) (e C d : Addr) (v : Value) : Prop where
  keep : ∀ b o, h.get? b = some o → h'.get? b = some o
  new : h.objs.size ≤ e
  obj : ∃ t1 : Addr, h'.get? e = some { cls := .ref C, dict := some d, data := .fields #[.ref t1, .none, .none, .none, .bool false, .none] }
  dbig : h.objs.size ≤ d
  dne : d ≠ e
  ns : h'.Ns1 d (fun y => if y = f then some v else none)
section
variable {prog : Program} {w : World} {A : Around} {R : Result → Shared → Prop} {s : Shared} {K : Frag} {mg mb : Str → Option Value} {C fI : Addr} {f : Str}
theorem bad_made (T : BadTxt prog K f C fI) {v : Value} (X : K.In s.heap) (hlim : s.heap.NoLimit) (hg : s.heap.Ns mainGlobals mg) (hb : s.heap.Ns builtinsNs mb) (hms : mg "super" = none) (hbs : mb "super" = some (.type "super"))
    (htop : (prog.main.scope.names.lookup ("super" : Str)).isSome = false) (hfn : f ≠ "self" ∧ f ≠ "super" ∧ f ≠ "__class__" ∧ f ≠ "__debug__") (hroom : A.depth + 1 < recursionLimit)
    (hq : ∀ h' tk e d, BadMade s.heap h' f e C d v → R (.ok (.ret (.ref e))) { s with heap := h', toks := tk }) : codeAny (model prog w) A (.call (.ref C) ⟨[v], []⟩) R s := by
  obtain ⟨nm, qn, N, bs, bm, sn, sub, ab, col, dd, k0, k1, k2, k3, k5, hC, hbm⟩ := T.cls
  obtain ⟨hp, g, dr, tk, os⟩ := s
  have k : ∀ b o, hp.get? b = some o → ((hp.push (kdv_tup [v])).push (excO C hp.objs.size)).get? b = some o := fun b o e => Heap.get?_push_of_some _ (Heap.get?_push_of_some _ e)
  have hget : ((hp.push (kdv_tup [v])).push (excO C hp.objs.size)).get? (hp.objs.size + 1) = some (excO C hp.objs.size) := by heap_get
  have hnx : K.lookup (hp.objs.size + 1) = none := by
    cases e : K.lookup (hp.objs.size + 1) with
    | none => rfl
    | some o => exact absurd (Nat.lt_of_succ_lt (Heap.lt_size (show hp.get? (hp.objs.size + 1) = some o from X _ _ e))) (Nat.lt_irrefl _)
  refine call_own PySem.F.excBase_ValueError (fun Y => refsVE_contains Y bm hbm) (X _ _ hC) (looks_findIn X T.iC) (fun self => bind_fn X self T.tC) (by rw [sizeLine_eq]; show 1 ≤ 16777216; decide) ?_
  refine bad_init (s := ⟨(hp.push (kdv_tup [v])).push (excO C hp.objs.size), g, dr, tk, os⟩) T (X.keeps k) (hlim.keeps k) (hg.keeps k) (hb.keeps k) hms hbs htop hfn hget hnx hroom fun h' tk' dx t1 M => ?_
  have old : ∀ b o, hp.get? b = some o → h'.get? b = some o := fun b o e => M.keep b o (Nat.ne_of_lt (Nat.lt_succ_of_lt (Heap.lt_size e))) (k b o e)
  have z : hp.objs.size ≤ dx := by
    have q := M.dbig
    first
      | (rw [show (Shared.heap ⟨(hp.push (kdv_tup [v])).push (excO C hp.objs.size), g, dr, tk, os⟩) = (hp.push (kdv_tup [v])).push (excO C hp.objs.size) from rfl, Heap.size_push, Heap.size_push] at q; omega)
      | (simp only [Heap.size_push] at q; omega)
  exact ⟨rfl, hq h' tk' (hp.objs.size + 1) dx ⟨old, Nat.le_succ _, ⟨t1, M.obj⟩, z, M.dne, M.ns⟩⟩
end
end Bf
/-! Data over the hand layer: a def's body read over plain data, the heap out of sight. -/
namespace Bf
open PySem PySem.Spec PyProof.Rows L2

/-! ### A. defs that are called where no guard runs (for repr) -/
structure GOk (P : Program) (w : World) (K : PySem.W.Frag) (mg : Str → Option Value) (base : Heap) (k : Nat) (f : Addr) (fd : FuncData) (ps : List Str) (sp : Sp) : Prop where
  len : ∀ vs H Q E, sp vs H Q E → vs.length = ps.length
  go : ∀ (A : Around) (out : List Env) (s : Shared) (H : Hp) (args : Args) (us : List Value) (vs : List V) (Q : VK) (E : XK),
    Room k A → A.guards = some [] → Env0 P w K mg base A out s H → BindsTo s fd args (ps.zip us) → Vals vs us → sp vs H Q E →
    codeAny (model P w) A (.call (.ref f) args) (CR (L2.CX P w) out P w H s Q E) s
section
variable {P : Program} {w : World} {K : PySem.W.Frag} {mg : Str → Option Value} {base : Heap}
theorem GOk.up {j k : Nat} {f : Addr} {fd : FuncData} {ps : List Str} {sp : Sp} (G : GOk P w K mg base j f fd ps sp) (h : j ≤ k) : GOk P w K mg base k f fd ps sp :=
  ⟨G.len, fun A out s H args us vs Q E r => G.go A out s H args us vs Q E (r.mono h)⟩
/-- a def by its body -/
theorem okG {x qual : Str} {st : Stmt} {f : Addr} {fd : FuncData} {N ps : List Str} {k : Nat} {sp : Sp} (F : Fun K x qual st f fd) (S : FnScope N ps (defScope st)) (len : ∀ vs H Q E, sp vs H Q E → vs.length = ps.length)
    (hb : ∀ (cdv : Value) (A : Around) (out : List Env) (s : Shared) (H : Hp) (vs : List V) (Q : VK) (E : XK), Room k (A.deeper (envOfC qual (defScope st) s.heap.objs.size f cdv)) → A.guards = some [] → sp vs H Q E →
      ∃ t, PSs (cxOf (L2.CX P w) P w K mg base N qual (defScope st) f cdv A out s H E) (defBody st) t ∧ t { nx := fun _ H' => Q .non H', rt := Q } (start N vs) H) :
    GOk P w K mg base (k + 1) f fd ps sp := by
  obtain ⟨oc, od, kV, doc, pm, an, cdv, ct, osl, rfl, lk, hcd⟩ := F.ex
  refine ⟨len, fun A out s H args us vs Q E hr hgd e0 hbi r hsp => ?_⟩
  refine StX.run_bnd lk hcd S hr e0 (G := fun xs H2 => xs = vs ∧ H2 = H) (fun A' Ex Q' h => ?_) fun s2 H2 xs ⟨ex, eH⟩ hr' => ?_
  · exact hbi _ _ _ _ (h s H vs us e0 Un.refl rfl (fun _ _ z => z) r (len _ _ _ _ hsp) ⟨rfl, rfl⟩)
  · subst ex eH
    exact hb cdv A out s2 _ _ Q E hr' hgd hsp
end
/-- how a def's arguments bind: all by place -/
def BPos (fd : FuncData) (ps : List Str) : Prop := ∀ (s : Shared) (us : List Value), us.length = ps.length → BindsTo s fd ⟨us, []⟩ (ps.zip us)
section
variable {X : Cx} {k : Nat} {f : Addr} {fd : FuncData} {ps ks : List Str} {sp : Sp} {E : XK} {x : Str} {p pos : Pos} {e : Expr} {es : List Expr} {kws : List Keyword} {t : TA}
theorem run_g {pins : List (Addr × Obj)} {σ : L2.St} {H : Hp} {s : Shared} {Q : VK} {args : Args} {us : List Value} {vs : List V} (G : GOk X.prog X.w X.K X.mg X.base k f fd ps sp) (hr : Room k X.A) (hgd : X.A.guards = some []) (hx : Passes (L2.CX X.prog X.w) X E)
    (I : Inv X pins σ H s) (hb : BindsTo s fd args (ps.zip us)) (r : Vals vs us) (h : sp vs H Q E) : wpAny (model X.prog X.w) X.A (call (.ref f) args.pos args.kw) (EP X pins σ Q) X.xe s := by
  refine wpAny_call (codeAny_mono (G.go X.A X.stack s H args us vs Q E hr hgd I.env0 hb r h) fun r' s' hq => ?_)
  match r', hq with
  | .error er, hq => exact hx pins σ H s er s' I hq
  | .ok (.ret u), hq => exact I.after hq
  | .ok .next, hq => exact hq.elim
  | .ok .brk, hq => exact hq.elim
  | .ok .cont, hq => exact hq.elim
/-- f(e, ..) -/
theorem pe_g (G : GOk X.prog X.w X.K X.mg X.base k f fd ps sp) (hb : BPos fd ps) (hm : X.mg x = some (.ref f)) (hk : PySem.W.keepIn X.K (.ref f) = true) (hr : Room k X.A) (hgd : X.A.guards = some []) (hx : Passes (L2.CX X.prog X.w) X E) (ha : PA X (e :: es) t)
    (hg : Gl X x := by rfl) (hdb : (x == ("__debug__" : Str)) = false := by decide) (he : starEach (e :: es) X.env = (false, eval e X.env) :: starEach es X.env := by rfl) (hpl : (backTo pos (starEach es X.env)).any (·.1) = false := by rfl) :
    PE X (.Call (.Name x p) (e :: es) [] pos) (tCall sp [] E t) := by
  refine ⟨fun pins s σ H Q I h => wpAny_Call_Name_kw (ld_glob I hg hm ?_ hdb)⟩
  refine PySem.W.callWith_K (h₀ := X.base) I.ok.mod.kin hk (thn (ha.run pos pins s σ H _ I h) fun us s1 ⟨vs, H1, I1, r, q⟩ => ⟨I1.kIn, ?_⟩) he hpl
  have q : sp (vs ++ []) H1 Q E := q
  rw [List.append_nil] at q
  exact run_g (args := ⟨us, []⟩) G hr hgd hx I1 (hb s1 us (r.length.symm.trans (G.len _ _ _ _ q))) r q
end

/-! ### B. plain data -/
inductive Dt where
  | non | bl (b : Bool) | int (i : Int) | str (x : Str) | lst (xs : List Dt) | tup (xs : List Dt)
  /-- an empty dict -/
  | dic
  /-- an instance: its class, its fields -/
  | ins (C : Addr) (ns : List Str) (xs : List Dt)
  /-- any value, by itself -/
  | raw (v : V)
  /-- the list at p -/
  | lat (p : Addr) (xs : List Dt)
  /-- an error that was caught or made: its class, its field -/
  | err (C : Addr) (f : Str) (d : Dt)
  /-- a dict by its keys (tuples) and its values -/
  | dct (ks xs : List Dt)
  /-- the dict at p whose keys are ints -/
  | dti (p : Addr) (ks : List Int) (xs : List Dt)
  /-- the dict at p whose keys are tuples -/
  | dat (p : Addr) (w : World) (ks xs : List Dt)
  /-- what is at p, whatever it holds -/
  | cel (p : Addr) (w : World)
/-- an error as an object: its class, its dict -/
def ErrO (cls : Value) (d : Option Addr) (a : Addr) : HO := .ext fun h => ∃ oe : Obj, h.get? a = some oe ∧ Zc cls d oe ∧ ∃ vs, oe.data = .fields vs

mutual
/-- hash(d), d without texts -/
def hKey : Dt → Int
  | .non => reduceHash 0xFCA86420
  | .bl b => hashInt (if b = true then 1 else 0)
  | .int i => hashInt i
  | .tup xs => reduceHash (Builtin.Tuple.tupleHashOf (hKeys xs))
  | _ => 0
def hKeys : List Dt → List Int
  | [] => []
  | x :: xs => hKey x :: hKeys xs
end
def ents : List Dt → List Addr → List Value → List DictEntry
  | k :: ks, a :: as, u :: us => ⟨hKey k, .ref a, u⟩ :: ents ks as us
  | _, _, _ => []
/-- a dict as an object: its keys (as data, and where they stand), its values -/
def DicO (ks : List Dt) (as : List Addr) (vs : List V) (d : Addr) : HO := .ext fun h => (d == sysModules) = false ∧ ∃ (o : Obj) (es : Array DictEntry) (ep : Nat) (us : List Value), h.get? d = some o ∧ o.ExactDict ∧ o.data = .dict es ep ∧ Vals vs us ∧ es.toList = ents ks as us
mutual
def nk : Dt → NestedKey
  | .bl b => .num (if b = true then 1 else 0)
  | .int i => .num i
  | .str x => .text x
  | .tup xs => .tup (nkA xs)
  | _ => .none
def nkA : List Dt → List NestedKey
  | [] => []
  | x :: xs => nk x :: nkA xs
end
/-- a dict's entries, by the keys' data -/
def entsW (w : World) : List Dt → List Addr → List Value → List DictEntry
  | k :: ks, a :: as, u :: us => ⟨(nk k).hash w, .ref a, u⟩ :: entsW w ks as us
  | _, _, _ => []
/-- a dict that may grow, as an object: its keys (as data, and where they stand), its values -/
def DatO (w : World) (ks : List Dt) (as : List Addr) (vs : List V) (d : Addr) : HO := .ext fun h => (d == sysModules) = false ∧ ∃ (o : Obj) (es : Array DictEntry) (ep : Nat) (us : List Value), h.get? d = some o ∧ o.ExactDict ∧ o.data = .dict es ep ∧ Vals vs us ∧ es.toList = entsW w ks as us
/-- a dict with ints as keys -/
def iK (ks : List Int) (vs : List V) : List (Key × V) := (ks.map Sum.inl).zip vs
/-- dicts whose first key is a text, and tables of code objects, are no data -/
def dob : HO → Bool
  | .dK ((.inr _, _) :: _) => false
  | .tbl _ => false
  | _ => true
theorem dob_iK : ∀ (ks : List Int) (vs : List V), dob (.dK (iK ks vs)) = true
  | [], _ => by simp [iK, dob]
  | _ :: _, [] => by simp [iK, dob]
  | _ :: _, _ :: _ => rfl
/-- data stay -/
def Gr (H H' : Hp) : Prop := ∀ a o, H a = some o → dob o = true → H' a = some o
theorem Gr.refl (H : Hp) : Gr H H := fun _ _ h _ => h
theorem Gr.trans {H H1 H2 : Hp} (a : Gr H H1) (b : Gr H1 H2) : Gr H H2 := fun c o h d => b c o (a c o h d) d
theorem _root_.L2.Same.gr {H H' : Hp} (s : Same H H') : Gr H H' := fun c o h _ => s c o h
theorem same_new {H : Hp} {p : Addr} {o : HO} (h : H p = none) : Same H (upd H p o) := fun b x e => by
  rw [upd_ne (ne_of_none e h)]
  exact e
theorem Gr.sqL {K : PySem.W.Frag} {H H' : Hp} {a : Addr} {xs : List V} (g : Gr H H') (h : SqL K H a xs) : SqL K H' a xs := by
  rcases h with (h | ⟨o, h⟩) | h
  · exact .inl (.inl (g _ _ h rfl))
  · exact .inl (.inr ⟨o, g _ _ h rfl⟩)
  · exact .inr h
theorem Gr.sqT {K : PySem.W.Frag} {H H' : Hp} {a : Addr} {xs : List V} (g : Gr H H') (h : SqT K H a xs) : SqT K H' a xs := by
  rcases h with (h | ⟨o, h⟩) | h
  · exact .inl (.inl (g _ _ h rfl))
  · exact .inl (.inr ⟨o, g _ _ h rfl⟩)
  · exact .inr h

mutual
inductive Rep (K : PySem.W.Frag) (H : Hp) : V → Dt → Prop
  | non : Rep K H .non .non
  | bl (b : Bool) : Rep K H (.bl b) (.bl b)
  | int (i : Int) : Rep K H (.int i) (.int i)
  | str (x : Str) : Rep K H (.str x) (.str x)
  | lst {a : Addr} {vs : List V} {ds : List Dt} : SqL K H a vs → RepA K H vs ds → Rep K H (.ref a) (.lst ds)
  | tup {a : Addr} {vs : List V} {ds : List Dt} : SqT K H a vs → RepA K H vs ds → Rep K H (.ref a) (.tup ds)
  | dic {a : Addr} : H a = some (.dK []) → Rep K H (.ref a) .dic
  | ins {a C dx : Addr} {ns : List Str} {vs : List V} {ds : List Dt} : H a = some (.ins C dx (ns.zip vs)) → RepA K H vs ds → Rep K H (.ref a) (.ins C ns ds)
  | raw (v : V) : Rep K H v (.raw v)
  | lat {p : Addr} {vs : List V} {ds : List Dt} : H p = some (.lst vs) → RepA K H vs ds → Rep K H (.ref p) (.lat p ds)
  | err {a C dd : Addr} {f : Str} {v : V} {d : Dt} : H a = some (ErrO (.ref C) (some dd) a) → H dd = some (.xd [(f, v)]) → Rep K H v d → Rep K H (.ref a) (.err C f d)
  | dti {p : Addr} {vs : List V} {ks : List Int} {ds : List Dt} : H p = some (.dK (iK ks vs)) → ks.length = ds.length → RepA K H vs ds → Rep K H (.ref p) (.dti p ks ds)
  | dat {p : Addr} {w : World} {as : List Addr} {vs : List V} {ks ds : List Dt} : H p = some (DatO w ks as vs p) → ks.length = ds.length → RepA K H (as.map V.ref) ks → RepA K H vs ds → Rep K H (.ref p) (.dat p w ks ds)
  | cel {p : Addr} {w : World} {o : HO} : H p = some o → dob o = true → Rep K H (.ref p) (.cel p w)
  | dct {a : Addr} {as : List Addr} {vs : List V} {ks ds : List Dt} : H a = some (DicO ks as vs a) → RepA K H (as.map V.ref) ks → RepA K H vs ds → Rep K H (.ref a) (.dct ks ds)
inductive RepA (K : PySem.W.Frag) (H : Hp) : List V → List Dt → Prop
  | nil : RepA K H [] []
  | cons {v : V} {vs : List V} {d : Dt} {ds : List Dt} : Rep K H v d → RepA K H vs ds → RepA K H (v :: vs) (d :: ds)
end
section
variable {K : PySem.W.Frag} {H H' : Hp}
mutual
theorem Rep.mono (g : Gr H H') : ∀ {v : V} {d : Dt}, Rep K H v d → Rep K H' v d
  | _, _, .non => .non
  | _, _, .bl b => .bl b
  | _, _, .int i => .int i
  | _, _, .str x => .str x
  | _, _, .lst h r => .lst (g.sqL h) (r.mono g)
  | _, _, .tup h r => .tup (g.sqT h) (r.mono g)
  | _, _, .dic h => .dic (g _ _ h rfl)
  | _, _, .ins h r => .ins (g _ _ h rfl) (r.mono g)
  | _, _, .raw v => .raw v
  | _, _, .lat h r => .lat (g _ _ h rfl) (r.mono g)
  | _, _, .err h1 h2 r => .err (g _ _ h1 rfl) (g _ _ h2 rfl) (r.mono g)
  | _, _, .dct h r1 r2 => .dct (g _ _ h rfl) (r1.mono g) (r2.mono g)
  | _, _, .dti h l r => .dti (g _ _ h (dob_iK _ _)) l (r.mono g)
  | _, _, .dat h l r1 r2 => .dat (g _ _ h rfl) l (r1.mono g) (r2.mono g)
  | _, _, .cel h e => .cel (g _ _ h e) e
theorem RepA.mono (g : Gr H H') : ∀ {vs : List V} {ds : List Dt}, RepA K H vs ds → RepA K H' vs ds
  | _, _, .nil => .nil
  | _, _, .cons h r => .cons (h.mono g) (r.mono g)
end
theorem RepA.len : ∀ {vs : List V} {ds : List Dt}, RepA K H vs ds → vs.length = ds.length
  | _, _, .nil => rfl
  | _, _, .cons _ r => congrArg (· + 1) r.len
theorem RepA.at_ : ∀ {vs : List V} {ds : List Dt} {i : Nat} {d : Dt}, RepA K H vs ds → ds[i]? = some d → ∃ v, vs[i]? = some v ∧ Rep K H v d
  | _, _, _, _, .nil, h => by simp at h
  | _, _, 0, _, .cons r _, h => ⟨_, rfl, by simp at h; exact h ▸ r⟩
  | _, _, i + 1, d, .cons _ r, h => by
    obtain ⟨v, e, q⟩ := RepA.at_ (i := i) (d := d) r (by simpa using h)
    exact ⟨v, by simpa using e, q⟩
theorem RepA.ta : ∀ {vs : List V} {ds : List Dt} {i : Nat} {v : V}, RepA K H vs ds → vs[i]? = some v → ∃ d, ds[i]? = some d ∧ Rep K H v d
  | _, _, _, _, .nil, h => by simp at h
  | _, _, 0, _, .cons r _, h => ⟨_, rfl, by simp at h; exact h ▸ r⟩
  | _, _, i + 1, v, .cons _ r, h => by
    obtain ⟨d, e, q⟩ := RepA.ta (i := i) (v := v) r (by simpa using h)
    exact ⟨d, by simpa using e, q⟩
theorem RepA.app : ∀ {vs ws : List V} {ds es : List Dt}, RepA K H vs ds → RepA K H ws es → RepA K H (vs ++ ws) (ds ++ es)
  | _, _, _, _, .nil, s => s
  | _, _, _, _, .cons h r, s => .cons h (r.app s)
theorem RepA.take : ∀ {vs : List V} {ds : List Dt} (n : Nat), RepA K H vs ds → RepA K H (vs.take n) (ds.take n)
  | _, _, 0, _ => .nil
  | _, _, _ + 1, .nil => .nil
  | _, _, n + 1, .cons h r => .cons h (r.take n)
theorem RepA.drop : ∀ {vs : List V} {ds : List Dt} (n : Nat), RepA K H vs ds → RepA K H (vs.drop n) (ds.drop n)
  | _, _, 0, r => r
  | _, _, _ + 1, .nil => .nil
  | _, _, n + 1, .cons _ r => r.drop n
theorem RepA.bls : ∀ {vs : List V} {bs : List Bool}, RepA K H vs (bs.map Dt.bl) → vs = bs.map V.bl
  | _, [], .nil => rfl
  | _, _ :: _, .cons (.bl _) r => congrArg _ r.bls
theorem RepA.ints : ∀ {vs : List V} {ns : List Int}, RepA K H vs (ns.map Dt.int) → vs = ns.map V.int
  | _, [], .nil => rfl
  | _, _ :: _, .cons (.int _) r => congrArg _ r.ints
theorem Rep.tupI {v : V} {ds : List Dt} (h : Rep K H v (.tup ds)) : ∃ a vs, v = .ref a ∧ SqT K H a vs ∧ RepA K H vs ds := by
  cases h with
  | tup h r => exact ⟨_, _, rfl, h, r⟩
theorem Rep.latI {v : V} {p : Addr} {ds : List Dt} (h : Rep K H v (.lat p ds)) : v = .ref p ∧ ∃ vs, H p = some (.lst vs) ∧ RepA K H vs ds := by
  cases h with
  | lat h r => exact ⟨rfl, _, h, r⟩
theorem Rep.latL {v : V} {p : Addr} {ds : List Dt} (h : Rep K H v (.lat p ds)) : Rep K H v (.lst ds) := by
  obtain ⟨rfl, vs, h, r⟩ := h.latI
  exact .lst (SqL.of h) r
theorem Rep.lstI {v : V} {ds : List Dt} (h : Rep K H v (.lst ds)) : ∃ a vs, v = .ref a ∧ SqL K H a vs ∧ RepA K H vs ds := by
  cases h with
  | lst h r => exact ⟨_, _, rfl, h, r⟩
theorem Rep.intI {v : V} {i : Int} (h : Rep K H v (.int i)) : v = .int i := by cases h <;> rfl
theorem Rep.blI {v : V} {b : Bool} (h : Rep K H v (.bl b)) : v = .bl b := by cases h <;> rfl
theorem Rep.strI {v : V} {x : Str} (h : Rep K H v (.str x)) : v = .str x := by cases h <;> rfl
theorem Rep.rawI {v u : V} (h : Rep K H v (.raw u)) : v = u := by cases h <;> rfl
end

/-- what holds of the heap all along -/
structure Sta where
  I : Hp → Prop
  st : ∀ {H H' : Hp}, I H → Same H H' → I H'
/-- the slots' data -/
structure Slots (K : PySem.W.Frag) (H : Hp) (σ : L2.St) (ρ : List (Option Dt)) : Prop where
  len : σ.length = ρ.length
  val : ∀ (i : Nat) (d : Dt), ρ[i]? = some (some d) → ∃ v, σ[i]? = some (some v) ∧ Rep K H v d
section
variable {K : PySem.W.Frag} {H H' : Hp} {σ : L2.St} {ρ : List (Option Dt)}
theorem Slots.mono (s : Slots K H σ ρ) (g : Gr H H') : Slots K H' σ ρ := ⟨s.len, fun i d h => let ⟨v, e, r⟩ := s.val i d h; ⟨v, e, r.mono g⟩⟩
theorem Slots.set (s : Slots K H σ ρ) {v : V} {d : Dt} (r : Rep K H v d) (j : Nat) : Slots K H (σ.set j (some v)) (ρ.set j (some d)) := by
  refine ⟨by rw [List.length_set, List.length_set, s.len], fun i e h => ?_⟩
  by_cases hj : j = i
  · subst hj
    by_cases hl : j < ρ.length
    · rw [List.getElem?_set_self hl] at h
      cases h
      exact ⟨v, List.getElem?_set_self (by rw [s.len]; exact hl), r⟩
    · rw [List.getElem?_eq_none (by rw [List.length_set]; omega)] at h
      cases h
  · rw [List.getElem?_set_ne hj] at h
    obtain ⟨u, hu, q⟩ := s.val i e h
    exact ⟨u, by rw [List.getElem?_set_ne hj]; exact hu, q⟩
/-- a slot whose data are forgotten -/
theorem Slots.lose (s : Slots K H σ ρ) {ν : Option V} (j : Nat) : Slots K H (σ.set j ν) (ρ.set j none) := by
  refine ⟨by rw [List.length_set, List.length_set, s.len], fun i e h => ?_⟩
  by_cases hj : j = i
  · subst hj
    by_cases hl : j < ρ.length
    · rw [List.getElem?_set_self hl] at h
      cases h
    · rw [List.getElem?_eq_none (by rw [List.length_set]; omega)] at h
      cases h
  · rw [List.getElem?_set_ne hj] at h
    obtain ⟨u, hu, q⟩ := s.val i e h
    exact ⟨u, by rw [List.getElem?_set_ne hj]; exact hu, q⟩
def wipeD (ρ : List (Option Dt)) : List Nat → List (Option Dt)
  | [] => ρ
  | v :: vs => (wipeD ρ vs).set v none
theorem Slots.wipe (s : Slots K H σ ρ) : ∀ vs : List Nat, Slots K H (L2.wipe σ vs) (wipeD ρ vs)
  | [] => s
  | v :: vs => (s.wipe vs).lose v
end

/-! ### C. what an expression comes to -/
section
variable (K : PySem.W.Frag) (S S' : Sta)
def Ev (ρ : List (Option Dt)) (te : TE) (Φ : Dt → Prop) : Prop := ∀ (σ : L2.St) (H : Hp), S.I H → Slots K H σ ρ → ∀ Q : VK, (∀ v d H', Gr H H' → S'.I H' → Rep K H' v d → Φ d → Q v H') → te σ H Q
def EvT (ρ : List (Option Dt)) (tt : TT) (Φ : Bool → Prop) : Prop := ∀ (σ : L2.St) (H : Hp), S.I H → Slots K H σ ρ → ∀ Q : Bool → Hp → Prop, (∀ b H', Gr H H' → S'.I H' → Φ b → Q b H') → tt σ H Q
def EvA (ρ : List (Option Dt)) (ta : TA) (Φ : List Dt → Prop) : Prop := ∀ (σ : L2.St) (H : Hp), S.I H → Slots K H σ ρ → ∀ Q : List V → Hp → Prop, (∀ vs ds H', Gr H H' → S'.I H' → RepA K H' vs ds → Φ ds → Q vs H') → ta σ H Q
def EvO (ρ : List (Option Dt)) (to : TO) (Φ : Option Int → Prop) : Prop := ∀ (σ : L2.St) (H : Hp), S.I H → Slots K H σ ρ → ∀ Q : Option Int → Hp → Prop, (∀ o H', Gr H H' → S'.I H' → Φ o → Q o H') → to σ H Q
end
section
variable (K : PySem.W.Frag) (S : Sta)
/-- a two-place operation over data -/
def Rv2 (r : R2) (x y : Dt) (Φ : Dt → Prop) : Prop := ∀ (H : Hp) (v u : V), S.I H → Rep K H v x → Rep K H u y → ∀ Q : VK, (∀ v' d H', Gr H H' → S.I H' → Rep K H' v' d → Φ d → Q v' H') → r v u H Q
def RvC (r : List V → Hp → VK → Prop) (xs : List Dt) (Φ : Dt → Prop) : Prop := ∀ (H : Hp) (vs : List V), S.I H → RepA K H vs xs → ∀ Q : VK, (∀ v' d H', Gr H H' → S.I H' → Rep K H' v' d → Φ d → Q v' H') → r vs H Q
end
section
variable {K : PySem.W.Frag} {S S1 S2 S3 : Sta} {ρ : List (Option Dt)} {ta tb te : TE} {t u : TT} {Φ Ψ Θ : Dt → Prop} {x y z d : Dt}
theorem Ev.weak (h : Ev K S S1 ρ te Φ) (w : ∀ d, Φ d → Ψ d) : Ev K S S1 ρ te Ψ := fun σ H i s Q q => h σ H i s Q fun v d H' g i' r p => q v d H' g i' r (w d p)
theorem EvT.weak {Φ Ψ : Bool → Prop} (h : EvT K S S1 ρ t Φ) (w : ∀ d, Φ d → Ψ d) : EvT K S S1 ρ t Ψ := fun σ H i s Q q => h σ H i s Q fun v H' g i' p => q v H' g i' (w v p)
theorem Ev.to (h : Ev K S S1 ρ te (Eq x)) (e : x = y) : Ev K S S1 ρ te (Eq y) := e ▸ h
theorem EvT.to {a b : Bool} (h : EvT K S S1 ρ t (Eq a)) (e : a = b) : EvT K S S1 ρ t (Eq b) := e ▸ h
theorem ev_var {i : Nat} (h : ρ[i]? = some (some d)) : Ev K S S ρ (tVar i) (Eq d) := fun σ H hi s Q q => by
  obtain ⟨v, e, r⟩ := s.val i d h
  exact ⟨v, e, q v d H (Gr.refl H) hi r rfl⟩
theorem ev_lat {p : Addr} {xs : List Dt} (h : Ev K S S1 ρ te (Eq (.lat p xs))) : Ev K S S1 ρ te (Eq (.lst xs)) := fun σ H i s Q q => h σ H i s Q fun v d H' g i' r e => q v _ H' g i' ((show Dt.lat p xs = d from e) ▸ r).latL rfl
theorem ev_int {i : Int} : Ev K S S ρ (tC (.int i)) (Eq (.int i)) := fun σ H hi s Q q => q _ _ H (Gr.refl H) hi (.int i) rfl
theorem ev_bl {b : Bool} : Ev K S S ρ (tC (.bl b)) (Eq (.bl b)) := fun σ H hi s Q q => q _ _ H (Gr.refl H) hi (.bl b) rfl
theorem ev_non : Ev K S S ρ (tC .non) (Eq .non) := fun σ H hi s Q q => q _ _ H (Gr.refl H) hi .non rfl
theorem ev_str {x : Str} : Ev K S S ρ (tC (.str x)) (Eq (.str x)) := fun σ H hi s Q q => q _ _ H (Gr.refl H) hi (.str x) rfl
theorem ev_raw {v : V} : Ev K S S ρ (tC v) (Eq (.raw v)) := fun σ H hi s Q q => q _ _ H (Gr.refl H) hi (.raw v) rfl
theorem ev_opP {r : R2} (ha : Ev K S S1 ρ ta Φ) (hb : Ev K S1 S2 ρ tb Ψ) (hr : ∀ x y, Φ x → Ψ y → Rv2 K S2 r x y Θ) : Ev K S S2 ρ (tOp r ta tb) Θ := fun σ H i s Q q =>
  ha σ H i s _ fun v x H1 g1 i1 r1 p1 => hb σ H1 i1 (s.mono g1) _ fun u y H2 g2 i2 r2 p2 => hr x y p1 p2 H2 v u i2 (r1.mono g2) r2 Q fun v' d H3 g3 i3 r3 p3 => q v' d H3 ((g1.trans g2).trans g3) i3 r3 p3
theorem ev_op {r : R2} (ha : Ev K S S1 ρ ta (Eq x)) (hb : Ev K S1 S2 ρ tb (Eq y)) (hr : Rv2 K S2 r x y Θ) : Ev K S S2 ρ (tOp r ta tb) Θ := ev_opP ha hb fun _ _ e1 e2 => e1 ▸ e2 ▸ hr
theorem ev_un {r : V → Hp → VK → Prop} (ha : Ev K S S1 ρ ta (Eq x)) (hr : ∀ (H : Hp) (v : V), S1.I H → Rep K H v x → ∀ Q : VK, (∀ v' d H', Gr H H' → S1.I H' → Rep K H' v' d → Θ d → Q v' H') → r v H Q) : Ev K S S1 ρ (tUn r ta) Θ := fun σ H i s Q q =>
  ha σ H i s _ fun v x' H1 g1 i1 r1 p1 => hr H1 v i1 (p1 ▸ r1) Q fun v' d H3 g3 i3 r3 p3 => q v' d H3 (g1.trans g3) i3 r3 p3
/-! operations that hand back a plain value and leave the heap -/
theorem rv_at {r : R2} (h : ∀ H v u, S.I H → Rep K H v x → Rep K H u y → ∀ Q : VK, (∀ v', Rep K H v' z → Q v' H) → r v u H Q) : Rv2 K S r x y (Eq z) := fun H v u i r1 r2 Q q =>
  h H v u i r1 r2 Q fun v' r' => q v' z H (Gr.refl H) i r' rfl
theorem rv_I0 {g : Int → Int → V} {i j : Int} (hz : ∀ H, Rep K H (g i j) z) : Rv2 K S (rI0 g) (.int i) (.int j) (Eq z) := rv_at fun H v u _ r1 r2 Q q => ⟨i, j, r1.intI, r2.intI, q _ (hz H)⟩
theorem rv_I {C : Int → Int → Prop} {g : Int → Int → V} {i j : Int} (hc : C i j) (hz : ∀ H, Rep K H (g i j) z) : Rv2 K S (rI C g) (.int i) (.int j) (Eq z) := rv_at fun H v u _ r1 r2 Q q => ⟨i, j, r1.intI, r2.intI, hc, q _ (hz H)⟩
theorem rv_ii {g : Int → Int → Int} {i j : Int} : Rv2 K S (rI0 fun a b => .int (g a b)) (.int i) (.int j) (Eq (.int (g i j))) := rv_I0 fun _ => .int _
theorem rv_iic {C : Int → Int → Prop} {g : Int → Int → Int} {i j : Int} (hc : C i j) : Rv2 K S (rI C fun a b => .int (g a b)) (.int i) (.int j) (Eq (.int (g i j))) := rv_I hc fun _ => .int _
theorem rv_ib {g : Int → Int → Bool} {i j : Int} : Rv2 K S (rI0 fun a b => .bl (g a b)) (.int i) (.int j) (Eq (.bl (g i j))) := rv_I0 fun _ => .bl _
theorem rv_eqI {i j : Int} : Rv2 K S rEq (.int i) (.int j) (Eq (.bl (decide (i = j)))) := rv_at fun H v u _ r1 r2 Q q => by
  obtain rfl := r1.intI; obtain rfl := r2.intI
  exact ⟨rfl, by rw [show decide (V.int i = V.int j) = decide (i = j) by by_cases e : i = j <;> simp [e]]; exact q _ (.bl _)⟩
theorem rv_neI {i j : Int} : Rv2 K S rNe (.int i) (.int j) (Eq (.bl (!decide (i = j)))) := rv_at fun H v u _ r1 r2 Q q => by
  obtain rfl := r1.intI; obtain rfl := r2.intI
  exact ⟨rfl, by rw [show decide (V.int i = V.int j) = decide (i = j) by by_cases e : i = j <;> simp [e]]; exact q _ (.bl _)⟩
theorem rv_eqS {i j : Str} : Rv2 K S rEq (.str i) (.str j) (Eq (.bl (decide (i = j)))) := rv_at fun H v u _ r1 r2 Q q => by
  obtain rfl := r1.strI; obtain rfl := r2.strI
  exact ⟨rfl, by rw [show decide (V.str i = V.str j) = decide (i = j) by by_cases e : i = j <;> simp [e]]; exact q _ (.bl _)⟩
/-- is None -/
def Dt.isNon : Dt → Bool
  | .non => true
  | .raw .non => true
  | _ => false
theorem Rep.isNon {H : Hp} {v : V} (r : Rep K H v d) : decide (v = .non) = d.isNon := by
  cases r with
  | raw v => cases v <;> rfl
  | _ => rfl
theorem rv_isN : Rv2 K S (fun x y H Q => y = .non ∧ Q (.bl (decide (x = .non))) H) d .non (Eq (.bl d.isNon)) := rv_at fun H v u _ r1 r2 Q q => by
  refine ⟨by cases r2; rfl, ?_⟩
  rw [r1.isNon]
  exact q _ (.bl _)
theorem rv_notN : Rv2 K S (fun x y H Q => y = .non ∧ Q (.bl (!decide (x = .non))) H) d .non (Eq (.bl (!d.isNon))) := rv_at fun H v u _ r1 r2 Q q => by
  refine ⟨by cases r2; rfl, ?_⟩
  rw [r1.isNon]
  exact q _ (.bl _)
/-! argument lists, displays -/
theorem ea_nil : EvA K S S ρ tNil (Eq []) := fun σ H i s Q q => q _ _ H (Gr.refl H) i .nil rfl
theorem ea_consP {tr : TA} {Φl : List Dt → Prop} (ha : Ev K S S1 ρ ta Φ) (hr : EvA K S1 S2 ρ tr Φl) : EvA K S S2 ρ (tCons ta tr) (fun l => ∃ d ds, l = d :: ds ∧ Φ d ∧ Φl ds) := fun σ H i s Q q =>
  ha σ H i s _ fun v d H1 g1 i1 r1 p1 => hr σ H1 i1 (s.mono g1) _ fun vs ds H2 g2 i2 r2 p2 => q _ _ H2 (g1.trans g2) i2 (.cons (r1.mono g2) r2) ⟨d, ds, rfl, p1, p2⟩
theorem ea_cons {tr : TA} {ds : List Dt} (ha : Ev K S S1 ρ ta (Eq d)) (hr : EvA K S1 S2 ρ tr (Eq ds)) : EvA K S S2 ρ (tCons ta tr) (Eq (d :: ds)) := fun σ H i s Q q =>
  ha σ H i s _ fun v d' H1 g1 i1 r1 p1 => hr σ H1 i1 (s.mono g1) _ fun vs ds' H2 g2 i2 r2 p2 => q _ _ H2 (g1.trans g2) i2 (.cons (p1 ▸ r1.mono g2) (p2 ▸ r2)) rfl
theorem ev_tupP {t : TA} {Φl : List Dt → Prop} (h : EvA K S S1 ρ t Φl) (hz : ∀ ds, Φl ds → ds.length ≤ sizeLine) : Ev K S S1 ρ (tTup t) (fun d => ∃ ds, d = .tup ds ∧ Φl ds) := fun σ H i s Q q =>
  h σ H i s _ fun vs ds H1 g1 i1 r1 p1 => ⟨by rw [r1.len]; exact hz ds p1, fun p hp => q _ _ _ (g1.trans (same_new hp).gr) (S1.st i1 (same_new hp)) (.tup (SqT.of upd_same) (r1.mono (same_new hp).gr)) ⟨ds, rfl, p1⟩⟩
theorem ev_lstP {t : TA} {Φl : List Dt → Prop} (h : EvA K S S1 ρ t Φl) (hz : ∀ ds, Φl ds → ds.length ≤ sizeLine) : Ev K S S1 ρ (tLst t) (fun d => ∃ ds, d = .lst ds ∧ Φl ds) := fun σ H i s Q q =>
  h σ H i s _ fun vs ds H1 g1 i1 r1 p1 => ⟨by rw [r1.len]; exact hz ds p1, fun p hp => q _ _ _ (g1.trans (same_new hp).gr) (S1.st i1 (same_new hp)) (.lst (SqL.of upd_same) (r1.mono (same_new hp).gr)) ⟨ds, rfl, p1⟩⟩
theorem ev_tup {t : TA} {ds : List Dt} (h : EvA K S S1 ρ t (Eq ds)) (hz : ds.length ≤ sizeLine) : Ev K S S1 ρ (tTup t) (Eq (.tup ds)) := (ev_tupP h fun _ e => e ▸ hz).weak fun _ ⟨_, e, e'⟩ => e ▸ e' ▸ rfl
theorem ev_lst {t : TA} {ds : List Dt} (h : EvA K S S1 ρ t (Eq ds)) (hz : ds.length ≤ sizeLine) : Ev K S S1 ρ (tLst t) (Eq (.lst ds)) := (ev_lstP h fun _ e => e ▸ hz).weak fun _ ⟨_, e, e'⟩ => e ▸ e' ▸ rfl
/-! calls -/
/-- a def over data: from ds (n of them, such that pre) it hands back f ds and leaves all else -/
def spF (K : PySem.W.Frag) (n : Nat) (pre : List Dt → Prop) (f : List Dt → Dt) : Sp := fun vs H Q _ => ∃ ds, RepA K H vs ds ∧ ds.length = n ∧ pre ds ∧ ∀ v H', Same H H' → Rep K H' v (f ds) → Q v H'
theorem ev_callF {t : TA} {ds : List Dt} {n : Nat} {pre : List Dt → Prop} {f : List Dt → Dt} {E : XK} (ha : EvA K S S1 ρ t (Eq ds)) (hn : ds.length = n) (hp : pre ds) : Ev K S S1 ρ (tCall (spF K n pre f) [] E t) (Eq (f ds)) := fun σ H i s Q q =>
  ha σ H i s _ fun vs ds' H1 g1 i1 r1 p1 => by
    subst p1
    rw [List.append_nil]
    exact ⟨ds, r1, hn, hp, fun v H2 sm r => q v _ H2 (g1.trans sm.gr) (S1.st i1 sm) r rfl⟩
theorem ev_cbP {r : List V → Hp → VK → Prop} {t : TA} {Φl : List Dt → Prop} (ha : EvA K S S1 ρ t Φl) (hr : ∀ ds, Φl ds → RvC K S1 r ds Θ) : Ev K S S1 ρ (tCB r t) Θ := fun σ H i s Q q =>
  ha σ H i s _ fun vs ds' H1 g1 i1 r1 p1 => hr ds' p1 H1 vs i1 r1 Q fun v' d H3 g3 i3 r3 p3 => q v' d H3 (g1.trans g3) i3 r3 p3
theorem ev_cb {r : List V → Hp → VK → Prop} {t : TA} {ds : List Dt} (ha : EvA K S S1 ρ t (Eq ds)) (hr : RvC K S1 r ds Θ) : Ev K S S1 ρ (tCB r t) Θ := ev_cbP ha fun _ e => e ▸ hr
theorem rc_at {r : List V → Hp → VK → Prop} {xs : List Dt} (h : ∀ H vs, S.I H → RepA K H vs xs → ∀ Q : VK, (∀ v', Rep K H v' z → Q v' H) → r vs H Q) : RvC K S r xs (Eq z) := fun H vs i r1 Q q => h H vs i r1 Q fun v' r' => q v' z H (Gr.refl H) i r' rfl
theorem RepA.oneI {H : Hp} {vs : List V} (r : RepA K H vs [d]) : ∃ v, vs = [v] ∧ Rep K H v d := by
  cases r with
  | cons h r => cases r; exact ⟨_, rfl, h⟩
theorem RepA.twoI {H : Hp} {vs : List V} (r : RepA K H vs [x, y]) : ∃ v u, vs = [v, u] ∧ Rep K H v x ∧ Rep K H u y := by
  cases r with
  | cons h r => obtain ⟨u, rfl, q⟩ := r.oneI; exact ⟨_, _, rfl, h, q⟩
def rLen (K : PySem.W.Frag) : List V → Hp → VK → Prop := fun xs H Q => ∃ p ys, xs = [.ref p] ∧ (SqL K H p ys ∨ SqT K H p ys) ∧ Q (.int ys.length) H
theorem rc_lenT {xs : List Dt} : RvC K S (rLen K) [.tup xs] (Eq (.int xs.length)) := rc_at fun H vs i r Q q => by
  obtain ⟨v, rfl, r1⟩ := r.oneI
  obtain ⟨a, us, rfl, h, ra⟩ := r1.tupI
  exact ⟨a, us, rfl, .inr h, by rw [ra.len]; exact q _ (.int _)⟩
theorem rc_lenL {xs : List Dt} : RvC K S (rLen K) [.lst xs] (Eq (.int xs.length)) := rc_at fun H vs i r Q q => by
  obtain ⟨v, rfl, r1⟩ := r.oneI
  obtain ⟨a, us, rfl, h, ra⟩ := r1.lstI
  exact ⟨a, us, rfl, .inl h, by rw [ra.len]; exact q _ (.int _)⟩
theorem rc_all {bs : List Bool} : RvC K S (rAll K) [.lst (bs.map Dt.bl)] (Eq (.bl (bs.all id))) := rc_at fun H vs i r Q q => by
  obtain ⟨v, rfl, r1⟩ := r.oneI
  obtain ⟨a, us, rfl, h, ra⟩ := r1.lstI
  exact ⟨a, bs, rfl, by rw [← ra.bls]; exact h, q _ (.bl _)⟩

/-! subscripts, slices, joined tuples -/
theorem atI_rep {H : Hp} {vs : List V} {ds : List Dt} {i : Int} (r : RepA K H vs ds) (h : atI ds i = some d) : ∃ v, atI vs i = some v ∧ Rep K H v d := by
  unfold atI at h ⊢
  rw [r.len]
  cases e : ixN ds.length i with
  | none => rw [e] at h; cases h
  | some j =>
    rw [e] at h
    exact r.at_ h
theorem rv_ixT {xs : List Dt} {i : Int} (h : atI xs i = some d) : Rv2 K S (rIxT K) (.tup xs) (.int i) (Eq d) := rv_at fun H v u _ r1 r2 Q q => by
  obtain ⟨a, us, rfl, ht, ra⟩ := r1.tupI
  obtain rfl := r2.intI
  obtain ⟨v, e, rv⟩ := atI_rep ra h
  exact ⟨a, us, i, v, rfl, rfl, ht, e, q v rv⟩
theorem rv_ixL {xs : List Dt} {i : Int} (h : atI xs i = some d) : Rv2 K S (rIxL K) (.lst xs) (.int i) (Eq d) := rv_at fun H v u _ r1 r2 Q q => by
  obtain ⟨a, us, rfl, ht, ra⟩ := r1.lstI
  obtain rfl := r2.intI
  obtain ⟨v, e, rv⟩ := atI_rep ra h
  exact ⟨a, us, i, v, rfl, rfl, ht, e, q v rv⟩
theorem rv_ixSL {xs : List Dt} {i : Int} (h : atI xs i = some d) : Rv2 K S (rIx K) (.lst xs) (.int i) (Eq d) := fun H v u hi r1 r2 Q q => .inl (rv_ixL h H v u hi r1 r2 Q q)
theorem rv_ixST {xs : List Dt} {i : Int} (h : atI xs i = some d) : Rv2 K S (rIx K) (.tup xs) (.int i) (Eq d) := fun H v u hi r1 r2 Q q => .inr (.inl (rv_ixT h H v u hi r1 r2 Q q))
/-- a part of a sequence -/
def cutD (xs : List Dt) (lo hi : Option Int) : List Dt := (xs.drop (HT.sIx xs.length 0 lo)).take (HT.sIx xs.length xs.length hi - HT.sIx xs.length 0 lo)
theorem cut_rep {H : Hp} {vs : List V} {ds : List Dt} (r : RepA K H vs ds) (lo hi : Option Int) : RepA K H (cutV vs lo hi) (cutD ds lo hi) := by
  unfold cutV cutD
  rw [r.len]
  exact (r.drop _).take _
theorem eo_none : EvO K S S ρ tNoPart (Eq none) := fun σ H i s Q q => q _ H (Gr.refl H) i rfl
theorem eo_some {i : Int} (h : Ev K S S1 ρ te (Eq (.int i))) : EvO K S S1 ρ (tPart te) (Eq (some i)) := fun σ H hi s Q q => h σ H hi s _ fun v d H1 g1 i1 r1 p1 => by
  subst p1
  exact ⟨i, r1.intI, q _ H1 g1 i1 rfl⟩
theorem cutD_whole {xs : List Dt} {lo hi : Option Int} (h : HT.sIx xs.length 0 lo = 0 ∧ HT.sIx xs.length xs.length hi = xs.length) : cutD xs lo hi = xs := by
  unfold cutD
  rw [h.1, h.2, Nat.sub_zero, List.drop_zero, List.take_length]
theorem ev_slT {tl th : TO} {xs : List Dt} {lo hi : Option Int} (ha : Ev K S S1 ρ te (Eq (.tup xs))) (hl : EvO K S1 S2 ρ tl (Eq lo)) (hh : EvO K S2 S3 ρ th (Eq hi)) : Ev K S S3 ρ (tSl (rSlA K) te tl th) (Eq (.tup (cutD xs lo hi))) := fun σ H i s Q q =>
  ha σ H i s _ fun v d' H1 g1 i1 r1 p1 => hl σ H1 i1 (s.mono g1) _ fun l H2 g2 i2 p2 => hh σ H2 i2 (s.mono (g1.trans g2)) _ fun u H3 g3 i3 p3 => by
    subst p1 p2 p3
    obtain ⟨a, vs, rfl, h, ra⟩ := r1.tupI
    have g23 := g2.trans g3
    refine ⟨a, vs, rfl, g23.sqT h, fun hw => ?_, fun hw p hp => ?_⟩
    · rw [ra.len] at hw
      refine q _ _ H3 (g1.trans g23) i3 (.tup (g23.sqT h) ?_) rfl
      rw [cutD_whole hw]
      exact ra.mono g23
    · exact q _ _ _ ((g1.trans g23).trans (same_new hp).gr) (S3.st i3 (same_new hp)) (.tup (SqT.of upd_same) ((cut_rep (ra.mono g23) lo hi).mono (same_new hp).gr)) rfl
theorem rv_catT {xs ys : List Dt} (hz : xs.length + ys.length ≤ sizeLine) : Rv2 K S (rCatA K) (.tup xs) (.tup ys) (Eq (.tup (xs ++ ys))) := fun H v u i r1 r2 Q q => by
  obtain ⟨a, vs, rfl, h1, ra⟩ := r1.tupI
  obtain ⟨b, us, rfl, h2, rb⟩ := r2.tupI
  refine ⟨a, b, vs, us, rfl, rfl, h1, h2, by rw [ra.len, rb.len]; exact hz, fun e => ?_, fun _ e => ?_, fun _ _ p hp => ?_⟩
  · subst e
    cases ra
    exact q _ _ H (Gr.refl H) i (.tup h2 rb) rfl
  · subst e
    cases rb
    exact q _ _ H (Gr.refl H) i (.tup h1 ra) (by rw [List.append_nil])
  · exact q _ _ _ (same_new hp).gr (S.st i (same_new hp)) (.tup (SqT.of upd_same) ((ra.app rb).mono (same_new hp).gr)) rfl

/-! choices -/
theorem ev_if {b : Bool} (ht : EvT K S S1 ρ t (Eq b)) (ha : b = true → Ev K S1 S2 ρ ta Φ) (hb : b = false → Ev K S1 S2 ρ tb Φ) : Ev K S S2 ρ (tIf t ta tb) Φ := fun σ H i s Q q =>
  ht σ H i s _ fun c H1 g1 i1 p1 => by
    subst p1
    cases b with
    | true => rw [if_pos rfl]; exact ha rfl σ H1 i1 (s.mono g1) Q fun v d H2 g2 => q v d H2 (g1.trans g2)
    | false => rw [if_neg Bool.false_ne_true]; exact hb rfl σ H1 i1 (s.mono g1) Q fun v d H2 g2 => q v d H2 (g1.trans g2)
theorem ev_and {a b : Bool} (ha : Ev K S S1 ρ ta (Eq (.bl a))) (hb : a = true → Ev K S1 S1 ρ tb (Eq (.bl b))) : Ev K S S1 ρ (tAndV ta tb) (Eq (.bl (a && b))) := fun σ H i s Q q =>
  ha σ H i s _ fun v d H1 g1 i1 r1 p1 => by
    subst p1
    refine ⟨a, r1.blI, ?_⟩
    cases a with
    | true => rw [if_pos rfl]; exact hb rfl σ H1 i1 (s.mono g1) Q fun v d H2 g2 => q v d H2 (g1.trans g2)
    | false => rw [if_neg Bool.false_ne_true]; exact q _ _ H1 g1 i1 (.bl _) rfl
theorem ev_not {a : Bool} (ha : Ev K S S1 ρ ta (Eq (.bl a))) : Ev K S S1 ρ (tNotV ta) (Eq (.bl (!a))) := fun σ H i s Q q =>
  ha σ H i s _ fun v d H1 g1 i1 r1 p1 => by
    subst p1
    exact ⟨a, r1.blI, q _ _ H1 g1 i1 (.bl _) rfl⟩
theorem et_B {a : Bool} (ha : Ev K S S1 ρ ta (Eq (.bl a))) : EvT K S S1 ρ (tB ta) (Eq a) := fun σ H i s Q q => ha σ H i s _ fun v d H1 g1 i1 r1 p1 => by
  subst p1
  exact ⟨a, r1.blI, q _ H1 g1 i1 rfl⟩
theorem et_test {a : Bool} (ha : Ev K S S1 ρ ta (Eq (.bl a))) : EvT K S S1 ρ (tTest ta) (Eq a) := fun σ H i s Q q => ha σ H i s _ fun v d H1 g1 i1 r1 p1 => by
  subst p1
  exact ⟨a, r1.blI, q _ H1 g1 i1 rfl⟩
theorem et_testP {Φb : Bool → Prop} (ha : Ev K S S1 ρ ta (fun d => ∃ b, d = .bl b ∧ Φb b)) : EvT K S S1 ρ (tTest ta) Φb := fun σ H i s Q q => ha σ H i s _ fun v d H1 g1 i1 r1 p1 => by
  obtain ⟨b, rfl, p⟩ := p1
  exact ⟨b, r1.blI, q _ H1 g1 i1 p⟩
theorem et_and {a b : Bool} (ha : EvT K S S1 ρ t (Eq a)) (hb : a = true → EvT K S1 S1 ρ u (Eq b)) : EvT K S S1 ρ (tAnd t u) (Eq (a && b)) := fun σ H i s Q q => ha σ H i s _ fun c H1 g1 i1 p1 => by
  subst p1
  cases a with
  | true => rw [if_pos rfl]; exact hb rfl σ H1 i1 (s.mono g1) Q fun v H2 g2 => q v H2 (g1.trans g2)
  | false => rw [if_neg Bool.false_ne_true]; exact q _ H1 g1 i1 rfl
theorem et_or {a b : Bool} (ha : EvT K S S1 ρ t (Eq a)) (hb : a = false → EvT K S1 S1 ρ u (Eq b)) : EvT K S S1 ρ (tOr t u) (Eq (a || b)) := fun σ H i s Q q => ha σ H i s _ fun c H1 g1 i1 p1 => by
  subst p1
  cases a with
  | false => rw [if_neg Bool.false_ne_true]; exact hb rfl σ H1 i1 (s.mono g1) Q fun v H2 g2 => q v H2 (g1.trans g2)
  | true => rw [if_pos rfl]; exact q _ H1 g1 i1 rfl
theorem et_not {a : Bool} (ha : EvT K S S1 ρ t (Eq a)) : EvT K S S1 ρ (tNot t) (Eq (!a)) := fun σ H i s Q q => ha σ H i s _ fun c H1 g1 i1 p1 => by
  subst p1
  exact q _ H1 g1 i1 rfl
theorem et_yes : EvT K S S ρ tYes (Eq true) := fun σ H i s Q q => q _ H (Gr.refl H) i rfl
/-- a < b < c over ints -/
theorem ev_chain {g g' : Int → Int → Bool} {tc : TE} {i j l : Int} (ha : Ev K S S1 ρ ta (Eq (.int i))) (hb : Ev K S1 S2 ρ tb (Eq (.int j))) (hc : Ev K S2 S2 ρ tc (Eq (.int l))) :
    Ev K S S2 ρ (tChain (rI0 fun a b => .bl (g a b)) (rI0 fun a b => .bl (g' a b)) ta tb tc) (Eq (.bl (g i j && g' j l))) := fun σ H hi s Q q =>
  ha σ H hi s _ fun v d H1 g1 i1 r1 p1 => hb σ H1 i1 (s.mono g1) _ fun u d2 H2 g2 i2 r2 p2 => by
    subst p1 p2
    refine ⟨i, j, (r1.mono g2).intI, r2.intI, g i j, rfl, ?_⟩
    cases e : g i j with
    | true =>
      rw [if_pos rfl]
      exact hc σ H2 i2 (s.mono (g1.trans g2)) _ fun w d3 H3 g3 i3 r3 p3 => by
        subst p3
        exact ⟨j, l, (r2.mono g3).intI, r3.intI, q _ _ H3 ((g1.trans g2).trans g3) i3 (.bl _) (by rw [e, Bool.true_and])⟩
    | false =>
      rw [if_neg Bool.false_ne_true]
      exact q _ _ H2 (g1.trans g2) i2 (.bl _) (by rw [e, Bool.false_and])
end
end Bf
namespace Bf
open PySem PySem.Spec PyProof.Rows L2

/-! ### D. statements over data -/
structure Po where
  nx : List (Option Dt) → Prop := fun _ => False
  rt : Dt → Prop := fun _ => False
  bk : List (Option Dt) → Prop := fun _ => False
  ct : List (Option Dt) → Prop := fun _ => False
structure Ft (K : PySem.W.Frag) (S : Sta) (P : Po) (D : Ends) (H : Hp) : Prop where
  nx : ∀ (σ : L2.St) ρ H', Gr H H' → S.I H' → Slots K H' σ ρ → P.nx ρ → D.nx σ H'
  rt : ∀ v d H', Gr H H' → S.I H' → Rep K H' v d → P.rt d → D.rt v H'
  bk : ∀ (σ : L2.St) ρ H', Gr H H' → S.I H' → Slots K H' σ ρ → P.bk ρ → D.bk σ H'
  ct : ∀ (σ : L2.St) ρ H', Gr H H' → S.I H' → Slots K H' σ ρ → P.ct ρ → D.ct σ H'
/-- what holds at first holds at last -/
def Sta.Le (S SF : Sta) : Prop := ∀ H, S.I H → SF.I H
theorem Sta.Le.refl (S : Sta) : S.Le S := fun _ h => h
theorem Sta.Le.trans {S S1 S2 : Sta} (a : S.Le S1) (b : S1.Le S2) : S.Le S2 := fun H h => b H (a H h)
/-- from what holds at the base B on: the lists in L are newer than B and may be changed -/
structure Bs (SB : Sta) (L : List Addr) (B H : Hp) : Prop where
  gr : Gr B H
  i : SB.I B
  new : ∀ p ∈ L, B p = none
theorem Bs.up {SB : Sta} {L : List Addr} {B H H' : Hp} (b : Bs SB L B H) (g : Gr H H') : Bs SB L B H' := ⟨b.gr.trans g, b.i, b.new⟩
/-- S holds at first, SB at the base, SF at last -/
def Sg (K : PySem.W.Frag) (S SB SF : Sta) (L : List Addr) (ts : TS) (ρ : List (Option Dt)) (P : Po) : Prop := ∀ (D : Ends) (σ : L2.St) (B H : Hp), Bs SB L B H → S.I H → Slots K H σ ρ → Ft K SF P D B → ts D σ H
abbrev So (K : PySem.W.Frag) (S SF : Sta) (L : List Addr) (ts : TS) (ρ : List (Option Dt)) (P : Po) : Prop := Sg K S SF SF L ts ρ P
section
variable {K : PySem.W.Frag} {S S1 S2 SB SF : Sta} {L : List Addr} {ρ : List (Option Dt)} {P : Po} {ta tb te tl : TE} {c : TT} {t u w : TS} {Φ Ψ Θ : Dt → Prop} {x y z d : Dt} {D : Ends} {H H' : Hp}
theorem Ft.mono (f : Ft K SF P D H) (g : Gr H H') : Ft K SF P D H' := ⟨fun σ ρ H2 g2 => f.nx σ ρ H2 (g.trans g2), fun v d H2 g2 => f.rt v d H2 (g.trans g2), fun σ ρ H2 g2 => f.bk σ ρ H2 (g.trans g2), fun σ ρ H2 g2 => f.ct σ ρ H2 (g.trans g2)⟩
theorem Ft.le (f : Ft K SF P D H) (l : S.Le SF) : Ft K S P D H := ⟨fun σ ρ H2 g2 i2 => f.nx σ ρ H2 g2 (l _ i2), fun v d H2 g2 i2 => f.rt v d H2 g2 (l _ i2), fun σ ρ H2 g2 i2 => f.bk σ ρ H2 g2 (l _ i2), fun σ ρ H2 g2 i2 => f.ct σ ρ H2 g2 (l _ i2)⟩
theorem so_next (l : S.Le SF) (h : P.nx ρ) : Sg K S SB SF L tNext ρ P := fun D σ B H b i s f => f.nx σ ρ H b.gr (l _ i) s h
/-- a statement, then the rest -/
theorem so_seq {M : List (Option Dt) → Prop} (h1 : Sg K S SB SF L t ρ { P with nx := M }) (h2 : ∀ ρ', M ρ' → So K SF SF [] u ρ' P) : Sg K S SB SF L (tSeq t u) ρ P := fun D σ B H b i s f =>
  h1 { D with nx := u D } σ B H b i s ⟨fun σ' ρ' H' g i' s' m => h2 ρ' m D σ' H' H' ⟨Gr.refl H', i', fun _ z => nomatch z⟩ i' s' (f.mono g), f.rt, f.bk, f.ct⟩
/-- a statement that leaves what holds and the loose lists, in the middle -/
theorem so_mid {M : List (Option Dt) → Prop} (l : S.Le SF) (h1 : So K S S [] t ρ { P with nx := M }) (h2 : ∀ ρ', M ρ' → Sg K S SB SF L u ρ' P) : Sg K S SB SF L (tSeq t u) ρ P := fun D σ B H b i s f =>
  h1 { D with nx := u D } σ H H ⟨Gr.refl H, i, fun _ z => nomatch z⟩ i s ⟨fun σ' ρ' H' g i' s' m => h2 ρ' m D σ' B H' (b.up g) i' s' f, ((f.mono b.gr).le l).rt, ((f.mono b.gr).le l).bk, ((f.mono b.gr).le l).ct⟩
/-- a statement, then the rest, the loose lists kept -/
theorem so_seqG {M : List (Option Dt) → Prop} (l : S1.Le SF) (h1 : Sg K S SB S1 L t ρ { P with nx := M }) (h2 : ∀ ρ', M ρ' → Sg K S1 SB SF L u ρ' P) : Sg K S SB SF L (tSeq t u) ρ P := fun D σ B H b i s f =>
  h1 { D with nx := u D } σ B H b i s ⟨fun σ' ρ' H' g i' s' m => h2 ρ' m D σ' B H' ⟨g, b.i, b.new⟩ i' s' f, (f.le l).rt, (f.le l).bk, (f.le l).ct⟩
/-- nothing is loose any more -/
theorem so_fast (h : Sg K S SB SF [] t ρ P) : Sg K S SB SF L t ρ P := fun D σ B H b i s f => h D σ B H ⟨b.gr, b.i, fun _ z => nomatch z⟩ i s f
theorem so_skip (h : Sg K S SB SF L w ρ P) : Sg K S SB SF L (tSeq tNext w) ρ P := fun D σ B H b i s f => h D σ B H b i s f
theorem so_assoc (h : Sg K S SB SF L (tSeq t (tSeq u w)) ρ P) : Sg K S SB SF L (tSeq (tSeq t u) w) ρ P := fun D σ B H b i s f => h D σ B H b i s f
theorem so_ret (h : Ev K S S1 ρ te Φ) (l : S1.Le SF) (q : ∀ d, Φ d → P.rt d) : Sg K S SB SF L (tRet te) ρ P := fun D σ B H b i s f => h σ H i s _ fun v d H1 g1 i1 r1 p1 => f.rt v d H1 (b.gr.trans g1) (l _ i1) r1 (q d p1)
theorem so_retD (h : Ev K S S1 ρ te (Eq d)) (l : S1.Le SF) (q : P.rt d) : Sg K S SB SF L (tRet te) ρ P := so_ret h l fun _ e => e ▸ q
theorem so_ret1 (h : Ev K S S1 ρ te Φ) (l : S1.Le SF) (q : ∀ d, Φ d → P.rt d) : Sg K S SB SF L (tSeq (tRet te) w) ρ P := fun D σ B H b i s f => h σ H i s _ fun v d H1 g1 i1 r1 p1 => f.rt v d H1 (b.gr.trans g1) (l _ i1) r1 (q d p1)
theorem so_ret1D (h : Ev K S S1 ρ te (Eq d)) (l : S1.Le SF) (q : P.rt d) : Sg K S SB SF L (tSeq (tRet te) w) ρ P := so_ret1 h l fun _ e => e ▸ q
/-- x = e -/
theorem so_set {j : Nat} (h : Ev K S S1 ρ te Φ) (q : ∀ d, Φ d → Sg K S1 SB SF L w (ρ.set j (some d)) P) : Sg K S SB SF L (tSeq (tAsg te (gName j)) w) ρ P := fun D σ B H b i s f =>
  h σ H i s _ fun v d H1 g1 i1 r1 p1 => q d p1 D _ B H1 (b.up g1) i1 ((s.mono g1).set r1 j) f
theorem so_setD {j : Nat} (h : Ev K S S1 ρ te (Eq d)) (q : Sg K S1 SB SF L w (ρ.set j (some d)) P) : Sg K S SB SF L (tSeq (tAsg te (gName j)) w) ρ P := so_set h fun _ e => e ▸ q
theorem so_set0 {j : Nat} (h : Ev K S S1 ρ te Φ) (l : S1.Le SF) (q : ∀ d, Φ d → P.nx (ρ.set j (some d))) : Sg K S SB SF L (tAsg te (gName j)) ρ P := fun D σ B H b i s f =>
  h σ H i s _ fun v d H1 g1 i1 r1 p1 => f.nx _ _ H1 (b.gr.trans g1) (l _ i1) ((s.mono g1).set r1 j) (q d p1)
theorem so_set0D {j : Nat} (h : Ev K S S1 ρ te (Eq d)) (l : S1.Le SF) (q : P.nx (ρ.set j (some d))) : Sg K S SB SF L (tAsg te (gName j)) ρ P := so_set0 h l fun _ e => e ▸ q
theorem so_drop (h : Ev K S S1 ρ te Φ) (q : Sg K S1 SB SF L w ρ P) : Sg K S SB SF L (tSeq (tDrop te) w) ρ P := fun D σ B H b i s f => h σ H i s _ fun v d H1 g1 i1 r1 p1 => q D σ B H1 (b.up g1) i1 (s.mono g1) f
theorem so_if {Φb : Bool → Prop} (h : EvT K S S1 ρ c Φb) (h1 : Φb true → Sg K S1 SB SF L (tSeq t w) ρ P) (h2 : Φb false → Sg K S1 SB SF L (tSeq u w) ρ P) : Sg K S SB SF L (tSeq (tIfS c t u) w) ρ P := fun D σ B H b i s f => h σ H i s _ fun k H1 g1 i1 p1 => by
  cases k with
  | true => rw [if_pos rfl]; exact h1 p1 D σ B H1 (b.up g1) i1 (s.mono g1) f
  | false => rw [if_neg Bool.false_ne_true]; exact h2 p1 D σ B H1 (b.up g1) i1 (s.mono g1) f
theorem so_if0 {Φb : Bool → Prop} (h : EvT K S S1 ρ c Φb) (h1 : Φb true → Sg K S1 SB SF L t ρ P) (h2 : Φb false → Sg K S1 SB SF L u ρ P) : Sg K S SB SF L (tIfS c t u) ρ P := fun D σ B H b i s f => h σ H i s _ fun k H1 g1 i1 p1 => by
  cases k with
  | true => rw [if_pos rfl]; exact h1 p1 D σ B H1 (b.up g1) i1 (s.mono g1) f
  | false => rw [if_neg Bool.false_ne_true]; exact h2 p1 D σ B H1 (b.up g1) i1 (s.mono g1) f
theorem so_ifD {k : Bool} (h : EvT K S S1 ρ c (Eq k)) (h1 : k = true → Sg K S1 SB SF L (tSeq t w) ρ P) (h2 : k = false → Sg K S1 SB SF L (tSeq u w) ρ P) : Sg K S SB SF L (tSeq (tIfS c t u) w) ρ P := so_if h h1 h2
theorem so_ifT (h : EvT K S S1 ρ c (Eq true)) (h1 : Sg K S1 SB SF L (tSeq t w) ρ P) : Sg K S SB SF L (tSeq (tIfS c t u) w) ρ P := so_if h (fun _ => h1) fun e => nomatch e
theorem so_ifF (h : EvT K S S1 ρ c (Eq false)) (h1 : Sg K S1 SB SF L (tSeq u w) ρ P) : Sg K S SB SF L (tSeq (tIfS c t u) w) ρ P := so_if h (fun e => nomatch e) fun _ => h1
theorem so_if0T (h : EvT K S S1 ρ c (Eq true)) (h1 : Sg K S1 SB SF L t ρ P) : Sg K S SB SF L (tIfS c t u) ρ P := so_if0 h (fun _ => h1) fun e => nomatch e
theorem so_if0F (h : EvT K S S1 ρ c (Eq false)) (h1 : Sg K S1 SB SF L u ρ P) : Sg K S SB SF L (tIfS c t u) ρ P := so_if0 h (fun e => nomatch e) fun _ => h1
theorem so_par {i j : Nat} {ta : TA} {Φl : List Dt → Prop} (h : EvA K S S1 ρ ta Φl) (hl : ∀ l, Φl l → l.length = 2) (q : ∀ a b, Φl [a, b] → Sg K S1 SB SF L w ((ρ.set i (some a)).set j (some b)) P) : Sg K S SB SF L (tSeq (tPar i j ta) w) ρ P := fun D σ B H b hi s f =>
  h σ H hi s _ fun vs ds H1 g1 i1 r1 p1 => by
    match ds, hl ds p1, r1, p1 with
    | [x, y], _, r1, p1 =>
      obtain ⟨v, u, rfl, ra, rb⟩ := r1.twoI
      exact ⟨v, u, rfl, q x y p1 D _ B H1 (b.up g1) i1 (((s.mono g1).set ra i).set rb j) f⟩
/-- a, b, .. = e -/
def gNames : List Nat → TGs
  | [] => gNil
  | i :: is => gCons (gName i) (gNames is)
def setAll (ρ : List (Option Dt)) : List Nat → List Dt → List (Option Dt)
  | i :: is, d :: ds => setAll (ρ.set i (some d)) is ds
  | _, _ => ρ
theorem names_run {Q : L2.St → Hp → Prop} : ∀ {is : List Nat} {vs : List V} {ds : List Dt} {σ : L2.St} {ρ : List (Option Dt)}, Slots K H σ ρ → RepA K H vs ds → ds.length = is.length → (∀ σ', Slots K H σ' (setAll ρ is ds) → Q σ' H) → gNames is vs σ H Q
  | [], _, _, σ, ρ, s, .nil, _, q => ⟨rfl, q σ s⟩
  | i :: is, _, _, σ, ρ, s, .cons (v := v) (vs := vs) (d := d) (ds := ds) r ra, hl, q => ⟨v, vs, rfl, names_run (is := is) (s.set r i) ra (by simpa using hl) q⟩
  | [], _, _, _, _, _, .cons _ _, hl, _ => by simp at hl
  | _ :: _, _, _, _, _, _, .nil, hl, _ => by simp at hl
theorem so_unp {n : Nat} {g : TGs} {is : List Nat} {xs : List Dt} (h : Ev K S S1 ρ te (Eq (.tup xs))) (hg : g = gNames is) (hn : xs.length = n) (hi : xs.length = is.length) (q : Sg K S1 SB SF L w (setAll ρ is xs) P) : Sg K S SB SF L (tSeq (tAsg te (gTup K n g)) w) ρ P := fun D σ B H b i s f =>
  h σ H i s _ fun v d H1 g1 i1 r1 p1 => by
    subst p1 hg
    obtain ⟨a, vs, rfl, ht, ra⟩ := r1.tupI
    exact ⟨a, vs, rfl, ht, ra.len.trans hn, names_run (s.mono g1) ra hi fun σ' s' => q D σ' B H1 (b.up g1) i1 s' f⟩

/-! loops -/
theorem so_forT {j : Nat} {xs : List Dt} (h : Ev K S S ρ tl (Eq (.tup xs))) (J : Nat → List (Option Dt) → Prop) (h0 : J 0 ρ)
    (hs : ∀ i x ρ', xs[i]? = some x → J i ρ' → So K S S [] t (ρ'.set j (some x)) { P with nx := J (i + 1), ct := J (i + 1), bk := P.nx }) (hd : ∀ ρ', J xs.length ρ' → P.nx ρ') : Sg K S SB S L (tFor (iTup K tl) (gName j) t) ρ P := fun D σ B H b i s f0 =>
  have f := f0.mono b.gr
  h σ H i s _ fun v d H1 g1 i1 r1 p1 => by
    subst p1
    obtain ⟨a, vs, rfl, ht, ra⟩ := r1.tupI
    refine ⟨a, rfl, ⟨vs, ht⟩, for_tup (K := K) (a := a) (xs := vs) (fun n σ' H' => Gr H1 H' ∧ S.I H' ∧ ∃ ρ', Slots K H' σ' ρ' ∧ J n ρ') ⟨Gr.refl H1, i1, ρ, s.mono g1, h0⟩ (fun n σ' H' _ p => p.1.sqT ht) (fun n x σ' H' hx p => ?_) fun σ' H' p => ?_⟩
    · obtain ⟨g2, i2, ρ', s2, jn⟩ := p
      obtain ⟨d, hd', rd⟩ := ra.ta hx
      refine hs n d ρ' hd' jn _ _ H' H' ⟨Gr.refl H', i2, fun _ z => nomatch z⟩ i2 (s2.set (rd.mono g2) j) ⟨fun σ3 ρ3 H3 g3 i3 s3 q => ⟨g2.trans g3, i3, ρ3, s3, q⟩, fun v3 d3 H3 g3 => f.rt v3 d3 H3 ((g1.trans g2).trans g3), fun σ3 ρ3 H3 g3 i3 s3 q => f.nx σ3 ρ3 H3 ((g1.trans g2).trans g3) i3 s3 q, fun σ3 ρ3 H3 g3 i3 s3 q => ⟨g2.trans g3, i3, ρ3, s3, q⟩⟩
    · obtain ⟨g2, i2, ρ', s2, jn⟩ := p
      rw [ra.len] at jn
      exact f.nx σ' ρ' H' (g1.trans g2) i2 s2 (hd ρ' jn)
/-- for i in range(n): what holds may turn with each round (Z) -/
theorem so_forR {j n : Nat} {ta : TA} {Z : Nat → Sta} (h : EvA K S (Z 0) ρ ta (Eq [.int n])) (hn : n < 2 ^ 62) (hz : ∀ i, i ≤ n → (Z i).Le SF) (hup : ∀ i, i < n → (Z i).Le (Z (i + 1))) (J : Nat → List (Option Dt) → Prop) (h0 : J 0 ρ)
    (hs : ∀ (i : Nat) ρ', i < n → J i ρ' → So K (Z i) (Z (i + 1)) [] t (ρ'.set j (some (.int i))) { P with nx := J (i + 1), ct := J (i + 1), bk := P.nx }) (hd : ∀ ρ', J n ρ' → P.nx ρ') : Sg K S SB SF L (tFor (iRng1 ta) (gName j) t) ρ P := fun D σ B H b i s f0 =>
  have f := f0.mono b.gr
  h σ H i s _ fun vs ds H1 g1 i1 r1 p1 => by
    subst p1
    obtain ⟨v, rfl, rv⟩ := r1.oneI
    obtain rfl := rv.intI
    refine ⟨n, rfl, by omega, by omega, ?_⟩
    rw [Int.toNat_natCast]
    refine for_range (lo := 0) (n := n) (fun m σ' H' => Gr H1 H' ∧ (Z m).I H' ∧ ∃ ρ', Slots K H' σ' ρ' ∧ J m ρ') ⟨Gr.refl H1, i1, ρ, s.mono g1, h0⟩ (fun m σ' H' hm p => ?_) fun σ' H' p => ?_
    · obtain ⟨g2, i2, ρ', s2, jn⟩ := p
      rw [Int.zero_add]
      have l := hz (m + 1) hm
      exact hs m ρ' hm jn _ _ H' H' ⟨Gr.refl H', hup m hm _ i2, fun _ z => nomatch z⟩ i2 (s2.set (.int _) j) ⟨fun σ3 ρ3 H3 g3 i3 s3 q => ⟨g2.trans g3, i3, ρ3, s3, q⟩, fun v3 d3 H3 g3 i3 => f.rt v3 d3 H3 ((g1.trans g2).trans g3) (l _ i3), fun σ3 ρ3 H3 g3 i3 s3 q => f.nx σ3 ρ3 H3 ((g1.trans g2).trans g3) (l _ i3) s3 q, fun σ3 ρ3 H3 g3 i3 s3 q => ⟨g2.trans g3, i3, ρ3, s3, q⟩⟩
    · obtain ⟨g2, i2, ρ', s2, jn⟩ := p
      exact f.nx σ' ρ' H' (g1.trans g2) (hz n (Nat.le_refl n) _ i2) s2 (hd ρ' jn)
end

/-! ### E. comprehensions: the list that grows is none of the items' -/
mutual
def nol : Dt → Bool
  | .lst _ => false
  | .lat _ _ => false
  | .tup xs => nolA xs
  | .ins _ _ xs => nolA xs
  | .err _ _ d => nol d
  | .dct ks xs => nolA ks && nolA xs
  | .dti _ _ xs => nolA xs
  | .dat _ _ ks xs => nolA ks && nolA xs
  | .cel _ _ => false
  | _ => true
def nolA : List Dt → Bool
  | [] => true
  | x :: xs => nol x && nolA xs
end
section
variable {K : PySem.W.Frag} {H : Hp} {D : Addr} {acc : List V} {o : HO}
theorem upd_other {a : Addr} {u : HO} (hD : H D = some (.lst acc)) (ha : H a = some u) (hu : ∀ xs, u ≠ .lst xs) : upd H D o a = some u := by
  rw [upd_ne (fun e => by rw [e, hD] at ha; exact hu acc (Option.some.inj ha).symm)]
  exact ha
mutual
theorem Rep.off (hD : H D = some (.lst acc)) : ∀ {v : V} {d : Dt}, nol d = true → Rep K H v d → Rep K (upd H D o) v d
  | _, _, _, .non => .non
  | _, _, _, .bl b => .bl b
  | _, _, _, .int i => .int i
  | _, _, _, .str x => .str x
  | _, _, h, .lst _ _ => by simp [nol] at h
  | _, _, h, .tup q r => .tup (by
      rcases q with (q | ⟨o', q⟩) | q
      · exact .inl (.inl (upd_other hD q fun _ z => nomatch z))
      · exact .inl (.inr ⟨o', upd_other hD q fun _ z => nomatch z⟩)
      · exact .inr q) (r.off hD (by simpa [nol] using h))
  | _, _, _, .dic h => .dic (upd_other hD h fun _ z => nomatch z)
  | _, _, h, .ins q r => .ins (upd_other hD q fun _ z => nomatch z) (r.off hD (by simpa [nol] using h))
  | _, _, _, .raw v => .raw v
  | _, _, h, .lat _ _ => by simp [nol] at h
  | _, _, h, .err q1 q2 r => .err (upd_other hD q1 fun _ z => nomatch (show HO.ext _ = HO.lst _ from z)) (upd_other hD q2 fun _ z => nomatch z) (r.off hD (by simpa [nol] using h))
  | _, _, h, .dct q r1 r2 => .dct (upd_other hD q fun _ z => nomatch (show HO.ext _ = HO.lst _ from z)) (r1.off hD (Bool.and_eq_true_iff.mp (by simpa only [nol] using h)).1) (r2.off hD (Bool.and_eq_true_iff.mp (by simpa only [nol] using h)).2)
  | _, _, h, .dti q l r => .dti (upd_other hD q fun _ z => nomatch (show HO.dK _ = HO.lst _ from z)) l (r.off hD (by simpa only [nol] using h))
  | _, _, h, .cel _ _ => by simp [nol] at h
  | _, _, h, .dat q l r1 r2 => .dat (upd_other hD q fun _ z => nomatch (show HO.ext _ = HO.lst _ from z)) l (r1.off hD (Bool.and_eq_true_iff.mp (by simpa only [nol] using h)).1) (r2.off hD (Bool.and_eq_true_iff.mp (by simpa only [nol] using h)).2)
theorem RepA.off (hD : H D = some (.lst acc)) : ∀ {vs : List V} {ds : List Dt}, nolA ds = true → RepA K H vs ds → RepA K (upd H D o) vs ds
  | _, _, _, .nil => .nil
  | _, _, h, .cons q r => by
    simp only [nolA, Bool.and_eq_true] at h
    exact .cons (q.off hD h.1) (r.off hD h.2)
end
end
theorem nolA_app : ∀ {xs ys : List Dt}, nolA (xs ++ ys) = (nolA xs && nolA ys)
  | [], _ => by simp [nolA]
  | x :: xs, ys => by simp only [List.cons_append, nolA, nolA_app, Bool.and_assoc]
theorem nolA_all : ∀ {xs : List Dt}, nolA xs = true ↔ ∀ x ∈ xs, nol x = true
  | [] => by simp [nolA]
  | x :: xs => by simp [nolA, nolA_all]
theorem wipe_set (ν : Option V) (j : Nat) : ∀ (vs : List Nat) (σ : L2.St), (L2.wipe (σ.set j ν) vs).set j none = (L2.wipe σ vs).set j none
  | [], σ => by simp [L2.wipe, List.set_set]
  | v :: vs, σ => by
    show ((L2.wipe (σ.set j ν) vs).set v none).set j none = ((L2.wipe σ vs).set v none).set j none
    by_cases h : v = j
    · subst h
      rw [wipe_set ν v vs σ]
    · rw [List.set_comm _ _ h, wipe_set ν j vs σ, List.set_comm _ _ h]
theorem wipe_in (ν : Option V) (j : Nat) : ∀ (vs : List Nat) (σ : L2.St), j ∈ vs → L2.wipe (σ.set j ν) vs = L2.wipe σ vs
  | v :: vs, σ, h => by
    show (L2.wipe (σ.set j ν) vs).set v none = (L2.wipe σ vs).set v none
    by_cases e : v = j
    · subst e
      exact wipe_set ν v vs σ
    · rw [wipe_in ν j vs σ ((List.mem_cons.mp h).resolve_left (Ne.symm e))]
theorem wipe_twice : ∀ (vs : List Nat) (σ : L2.St), L2.wipe (L2.wipe σ vs) vs = L2.wipe σ vs
  | [], σ => rfl
  | v :: vs, σ => by
    show (L2.wipe ((L2.wipe σ vs).set v none) vs).set v none = (L2.wipe σ vs).set v none
    rw [wipe_set none v vs, wipe_twice vs σ]
theorem wipe_put (ν : Option V) {j : Nat} {vs : List Nat} (σ : L2.St) (h : j ∈ vs) : L2.wipe ((L2.wipe σ vs).set j ν) vs = L2.wipe σ vs := by
  rw [wipe_in ν j vs _ h, wipe_twice]
/-- a list may turn under what holds all along -/
def Sta.Mu (S : Sta) : Prop := ∀ {H1 H : Hp} {D : Addr} {o : HO} {ws : List V}, S.I H1 → Gr H1 H → H1 D = none → H D = some (.lst ws) → S.I H → S.I (upd H D o)
theorem gr_off {H1 H : Hp} {D : Addr} {o : HO} (g : Gr H1 H) (h : H1 D = none) : Gr H1 (upd H D o) := fun a u e d => by
  rw [upd_ne (ne_of_none e h)]
  exact g a u e d
section
variable {K : PySem.W.Frag} {S S1 : Sta} {ρ : List (Option Dt)} {te tl : TE} {tt : TT} {vs : List Nat} {j : Nat}
/-- a comprehension over a source whose items are told; every item's data such that Φ i, or left out -/
theorem lc_turns {g : L2.St} {H1 : Hp} {D : Addr} {σ : L2.St} (hmu : ∀ {H2 : Hp} {o : HO} {ws : List V}, Gr H1 H2 → H2 D = some (.lst ws) → S1.I H2 → S1.I (upd H2 D o)) (le : S.Le S1) (hD : H1 D = none) {Z : Nat → List Dt → Prop} {i : Nat} {acc : List V} {ds : List Dt} {x : V} {dx : Dt} {H : Hp} (hj : j ∈ vs)
    {p : Bool} {Φ : Dt → Prop} (s : Slots K H1 σ ρ) (gH : Gr H1 H) (iH : S.I H) (hH : H D = some (.lst acc)) (ra : RepA K H acc ds) (hnol : nolA ds = true) (rx : Rep K H x dx)
    (hz : ds.length < sizeLine) (ht : EvT K S S ((wipeD ρ vs).set j (some dx)) tt (Eq p)) (he : p = true → Ev K S S1 ((wipeD ρ vs).set j (some dx)) te (fun d => Φ d ∧ nol d = true))
    {Pv : Hp → Prop} (hy : p = true → ∀ H' acc' d, Φ d → nol d = true → Gr H1 H' → S1.I H' → H' D = some (.lst acc') → RepA K H' acc' (ds ++ [d]) → Pv H') (hn : p = false → ∀ H', Gr H1 H' → S1.I H' → H' D = some (.lst acc) → RepA K H' acc ds → Pv H') :
    gName j x (L2.wipe σ vs) H fun σ2 H2 => L2.wipe σ2 vs = L2.wipe σ vs ∧ tt σ2 H2 fun b H3 => if b = true then te σ2 H3 fun y H4 => ∃ acc, H4 D = some (.lst acc) ∧ acc.length < sizeLine ∧ Pv (upd H4 D (.lst (acc ++ [y]))) else Pv H3 := by
  refine ⟨wipe_put _ σ hj, ht _ H iH (((s.mono gH).wipe vs).set rx j) _ fun b H3 g3 i3 p3 => ?_⟩
  subst p3
  have hH3 : H3 D = some (.lst acc) := g3 _ _ hH rfl
  cases p with
  | false =>
    rw [if_neg Bool.false_ne_true]
    exact hn rfl H3 (gH.trans g3) (le _ i3) hH3 (ra.mono g3)
  | true =>
    rw [if_pos rfl]
    refine he rfl _ H3 i3 (((s.mono (gH.trans g3)).wipe vs).set (rx.mono g3) j) _ fun y d H4 g4 i4 r4 p4 => ?_
    have hH4 : H4 D = some (.lst acc) := g4 _ _ hH3 rfl
    have ra4 := ra.mono (g3.trans g4)
    refine ⟨acc, hH4, by rw [ra4.len]; exact hz, hy rfl _ (acc ++ [y]) d p4.1 p4.2 (gr_off ((gH.trans g3).trans g4) hD) (hmu ((gH.trans g3).trans g4) hH4 i4) upd_same ?_⟩
    exact (ra4.off hH4 hnol).app (.cons (r4.off hH4 p4.2) .nil)
/-- [te for x in a tuple if tt], the element a function of the item -/
theorem ev_lcT {xs : List Dt} {f : Dt → Dt} {p : Dt → Bool} (hmu : S.Mu) (h : Ev K S S ρ tl (Eq (.tup xs))) (hj : j ∈ vs) (hz : xs.length ≤ 100000) (ht : ∀ x ∈ xs, EvT K S S ((wipeD ρ vs).set j (some x)) tt (Eq (p x)))
    (he : ∀ x ∈ xs, p x = true → Ev K S S ((wipeD ρ vs).set j (some x)) te (Eq (f x))) (hf : ∀ x ∈ xs, p x = true → nol (f x) = true) : Ev K S S ρ (tLc (iTup K tl) (gName j) tt te vs) (Eq (.lst ((xs.filter p).map f))) := fun σ H i s Q q =>
  h σ H i s _ fun v d H1 g1 i1 r1 p1 => by
    subst p1
    obtain ⟨a, us, rfl, hT, ra⟩ := r1.tupI
    refine ⟨a, rfl, ⟨us, hT⟩, fun D hD => lc_tup (K := K) (a := a) (xs := us) (fun n H' => Gr H1 H' ∧ S.I H' ∧ ∃ acc, H' D = some (.lst acc) ∧ RepA K H' acc (((xs.take n).filter p).map f)) ⟨(same_new hD).gr, S.st i1 (same_new hD), [], upd_same, .nil⟩
      (fun n H' _ q' => q'.1.sqT hT) (fun n x H' hx q' => ?_) fun H' q' => ?_⟩
    · obtain ⟨g2, i2, acc, ha, rac⟩ := q'
      obtain ⟨dx, hdx, rdx⟩ := ra.ta hx
      have hmem : dx ∈ xs := List.mem_of_getElem? hdx
      have htake : xs.take (n + 1) = xs.take n ++ [dx] := by rw [List.take_add_one, hdx]; rfl
      have hnol : nolA (((xs.take n).filter p).map f) = true := nolA_all.mpr fun y hy => by
        obtain ⟨z, hz1, rfl⟩ := List.mem_map.mp hy
        obtain ⟨hz2, hz3⟩ := List.mem_filter.mp hz1
        exact hf z (List.mem_of_mem_take hz2) hz3
      refine lc_turns (g := σ) (Z := fun _ _ => True) (i := n) (acc := acc) (ds := ((xs.take n).filter p).map f) (dx := dx) (p := p dx) (Φ := Eq (f dx)) (S := S) (S1 := S) (fun g e i => hmu i1 g hD e i) (Sta.Le.refl S) hD hj (s.mono g1) g2 i2 ha rac hnol (rdx.mono g2) ?_ (ht dx hmem) (fun e => (he dx hmem e).weak fun d e2 => ⟨e2, e2 ▸ hf dx hmem e⟩) (fun e H2 acc' d e1 _ g3 i3 h3 r3 => ?_) fun e H2 g3 i3 h3 r3 => ?_
      · rw [List.length_map]
        refine Nat.lt_of_le_of_lt (List.length_filter_le _ _) ?_
        refine Nat.lt_of_le_of_lt (List.length_take_le _ _) (Nat.lt_of_le_of_lt (Nat.le_trans (Nat.le_of_lt ?_) hz) (by decide))
        have := (List.getElem?_eq_some_iff.mp hdx).1
        exact this
      · subst e1
        refine ⟨g3, i3, acc', h3, ?_⟩
        rw [htake, List.filter_append, List.map_append]
        simpa [List.filter_cons, e] using r3
      · refine ⟨g3, i3, acc, h3, ?_⟩
        rw [htake, List.filter_append, List.map_append]
        simpa [List.filter_cons, e] using r3
    · obtain ⟨g2, i2, acc, ha, rac⟩ := q'
      rw [ra.len, List.take_length] at rac
      exact q _ _ H' (g1.trans g2) i2 (.lst (SqL.of ha) rac) rfl
/-- [te for x in range(n)], every element such that Φ; what holds may turn with each -/
theorem ev_lcRP {ta : TA} {n : Nat} {Φ : Dt → Prop} {Z : Nat → Sta} (hmu : ∀ {m m' : Nat} {H1 H : Hp} {D : Addr} {o : HO} {ws : List V}, (Z m).I H1 → Gr H1 H → H1 D = none → H D = some (.lst ws) → (Z m').I H → (Z m').I (upd H D o)) (hle : ∀ m, (Z m).Le (Z (m + 1))) (h : EvA K S (Z 0) ρ ta (Eq [.int n])) (hn : n ≤ 100000) (hj : j ∈ vs)
    (he : ∀ i : Nat, i < n → Ev K (Z i) (Z (i + 1)) ((wipeD ρ vs).set j (some (.int i))) te (fun d => Φ d ∧ nol d = true)) :
    Ev K S (Z n) ρ (tLc (iRng1 ta) (gName j) tYes te vs) (fun d => ∃ ds, d = .lst ds ∧ ds.length = n ∧ nolA ds = true ∧ ∀ x ∈ ds, Φ x) := fun σ H i s Q q =>
  h σ H i s _ fun ws es H1 g1 i1 r1 p1 => by
    subst p1
    obtain ⟨v, rfl, rv⟩ := r1.oneI
    obtain rfl := rv.intI
    refine ⟨n, rfl, by omega, by omega, fun D hD => ?_⟩
    rw [Int.toNat_natCast]
    refine lc_range (lo := 0) (n := n) (fun m H' => Gr H1 H' ∧ (Z m).I H' ∧ ∃ acc ds, H' D = some (.lst acc) ∧ RepA K H' acc ds ∧ ds.length = m ∧ nolA ds = true ∧ ∀ x ∈ ds, Φ x) ⟨(same_new hD).gr, (Z 0).st i1 (same_new hD), [], [], upd_same, .nil, rfl, rfl, fun _ z => nomatch z⟩
      (fun m H' hm q' => ?_) fun H' q' => ?_
    · obtain ⟨g2, i2, acc, ds, ha, rac, hl, hno, hph⟩ := q'
      rw [Int.zero_add]
      refine lc_turns (g := σ) (Z := fun _ _ => True) (i := m) (acc := acc) (ds := ds) (dx := .int m) (p := true) (Φ := Φ) (S := Z m) (S1 := Z (m + 1)) (fun g e i => hmu i1 g hD e i) (hle m) hD hj (s.mono g1) g2 i2 ha rac hno (.int _) (Nat.lt_of_lt_of_le (by rw [hl]; exact Nat.lt_of_lt_of_le hm hn) (by decide)) et_yes (fun _ => he m hm) (fun e H2 acc' d e1 e2 g3 i3 h3 r3 => ?_) fun e => nomatch e
      refine ⟨g3, i3, acc', ds ++ [d], h3, r3, by rw [List.length_append, hl]; rfl, by rw [nolA_app, hno]; simp [nolA, e2], fun x hx => ?_⟩
      rcases List.mem_append.mp hx with hx | hx
      · exact hph x hx
      · rw [List.mem_singleton.mp hx]
        exact e1
    · obtain ⟨g2, i2, acc, ds, ha, rac, hl, hno, hph⟩ := q'
      exact q _ _ H' (g1.trans g2) i2 (.lst (SqL.of ha) rac) ⟨ds, rfl, hl, hno, hph⟩
end

/-- all that was is as it was -/
def staSameQ (H : Hp) : Sta := ⟨fun H' => Same H H', fun a b => a.trans b⟩
/-! lists that may be changed -/
section
variable {K : PySem.W.Frag} {S SB SF : Sta} {L : List Addr} {ρ : List (Option Dt)} {P : Po} {te : TE} {w : TS} {x d : Dt} {D : Ends} {H H' : Hp}
/-- a list that is made on the way: it is new at some H1 in between, nothing else knows it -/
def EvN (K : PySem.W.Frag) (S S' : Sta) (ρ : List (Option Dt)) (te : TE) (xs : List Dt) : Prop := ∀ (σ : L2.St) (H : Hp), S.I H → Slots K H σ ρ → ∀ Q : VK,
  (∀ p vs H1 H', Gr H H1 → S'.I H1 → H1 p = none → Gr H1 H' → S'.I H' → H' p = some (.lst vs) → RepA K H' vs xs → Q (.ref p) H') → te σ H Q
theorem EvN.ev {S1 : Sta} {xs : List Dt} (h : EvN K S S1 ρ te xs) : Ev K S S1 ρ te (Eq (.lst xs)) := fun σ H i s Q q => h σ H i s Q fun p vs H1 H' g _ _ g2 i' e r => q _ _ H' (g.trans g2) i' (.lst (SqL.of e) r) rfl
theorem EvN.to {S1 : Sta} {xs ys : List Dt} (h : EvN K S S1 ρ te xs) (e : xs = ys) : EvN K S S1 ρ te ys := e ▸ h
theorem en_lst {S1 : Sta} {t : TA} {ds : List Dt} (h : EvA K S S1 ρ t (Eq ds)) (hz : ds.length ≤ sizeLine) : EvN K S S1 ρ (tLst t) ds := fun σ H i s Q q =>
  h σ H i s _ fun vs ds' H1 g1 i1 r1 e => by
    subst e
    exact ⟨by rw [r1.len]; exact hz, fun p hp => q p vs H1 _ g1 i1 hp (same_new hp).gr (S1.st i1 (same_new hp)) upd_same (r1.mono (same_new hp).gr)⟩
/-- what holds bears that a loose list is changed -/
def Loose (S SF : Sta) : Prop := ∀ {B H : Hp} {p : Addr} {vs : List V} {o : HO}, SF.I B → Gr B H → B p = none → H p = some (.lst vs) → S.I H → S.I (upd H p o)
end
end Bf
namespace Bf
open PySem PySem.Spec PyProof.Rows L2

/-! ### F. what kind a thing is -/
/-- the name of a thing's class (not of an instance, not of a value by itself) -/
def tyN : Dt → Option String
  | .non => some "NoneType"
  | .bl _ => some "bool"
  | .int _ => some "int"
  | .str _ => some "str"
  | .lst _ => some "list"
  | .tup _ => some "tuple"
  | .dic => some "dict"
  | .raw (.ty _) => none
  | _ => none
section
variable {K : PySem.W.Frag} {S : Sta} {ρ : List (Option Dt)} {H : Hp} {d : Dt} {v : V} {n T : String}
theorem Rep.ty (r : Rep K H v d) (h : tyN d = some n) : TyX K H v (.type n) := by
  cases r with
  | non => cases h; exact .base .non
  | bl b => cases h; exact .base (.bl b)
  | int i => cases h; exact .base (.int i)
  | str x => cases h; exact .base (.str x)
  | lst q r =>
    cases h
    rcases q with (q | ⟨o, q⟩) | ⟨o, its, n, hk, hc, _⟩
    · exact .base (.lst q)
    · exact .base (.frz q)
    · exact .kList hk hc
  | tup q r =>
    cases h
    rcases q with (q | ⟨o, q⟩) | ⟨o, its, n, hk, hc, _⟩
    · exact .base (.tup q)
    · exact .fTuple q
    · exact .kTuple hk hc
  | dic q => cases h; exact .base (.dK q)
  | ins q r => cases h
  | raw v => cases v <;> cases h
  | lat q r => cases h
  | err q1 q2 r => cases h
  | dct q r1 r2 => cases h
  | dti q l r => cases h
  | dat q l r1 r2 => cases h
  | cel q e => cases h
theorem rc_isi {b : Bool} (h : tyN d = some n) (hk : kitB n T = some b) : RvC K S (rIsi K) [d, .raw (.ty T)] (Eq (.bl b)) := rc_at fun H vs i r Q q => by
  obtain ⟨v, u, rfl, r1, r2⟩ := r.twoI
  obtain rfl := r2.rawI
  exact ⟨v, .ty T, _, _, b, rfl, .ty T, r1.ty h, kit_ty hk, q _ (.bl b)⟩
end

/-! ### G. == and repr of data without dicts, instances -/
mutual
def py : Dt → PyData
  | .non => .none
  | .bl b => .bool b
  | .int i => .int i
  | .str x => .str x
  | .lst xs => .list (pyA xs)
  | .tup xs => .tuple (pyA xs)
  | .dic => .dict []
  | .ins _ _ _ => .none
  | .raw _ => .none
  | .lat _ _ => .none
  | .err _ _ _ => .none
  | .dct _ _ => .none
  | .dti _ _ _ => .none
  | .dat _ _ _ _ => .none
  | .cel _ _ => .none
def pyA : List Dt → List PyData
  | [] => []
  | x :: xs => py x :: pyA xs
end
mutual
/-- no dict, no instance, no value by itself -/
def pur : Dt → Bool
  | .lst xs => purA xs
  | .tup xs => purA xs
  | .dic => false
  | .ins _ _ _ => false
  | .raw _ => false
  | .lat _ _ => false
  | .err _ _ _ => false
  | .dct _ _ => false
  | .dti _ _ _ => false
  | .dat _ _ _ _ => false
  | .cel _ _ => false
  | _ => true
def purA : List Dt → Bool
  | [] => true
  | x :: xs => pur x && purA xs
end
section
variable {K : PySem.W.Frag} {H : Hp}
mutual
theorem Rep.dp : ∀ {v : V} {d : Dt}, pur d = true → Rep K H v d → Dp K H v (py d)
  | _, _, _, .non => by unfold py; exact .non
  | _, _, _, .bl b => by unfold py; exact .bl b
  | _, _, _, .int i => by unfold py; exact .int i
  | _, _, _, .str x => by unfold py; exact .str x
  | _, _, h, .lst q r => by unfold py; exact .lst q (r.dp (by simpa [pur] using h))
  | _, _, h, .tup q r => by unfold py; exact .tup q (r.dp (by simpa [pur] using h))
  | _, _, h, .dic _ => by simp [pur] at h
  | _, _, h, .ins _ _ => by simp [pur] at h
  | _, _, h, .raw _ => by simp [pur] at h
  | _, _, h, .lat _ _ => by simp [pur] at h
  | _, _, h, .err _ _ _ => by simp [pur] at h
  | _, _, h, .dct _ _ _ => by simp [pur] at h
  | _, _, h, .dti _ _ _ => by simp [pur] at h
  | _, _, h, .dat _ _ _ _ => by simp [pur] at h
  | _, _, h, .cel _ _ => by simp [pur] at h
theorem RepA.dp : ∀ {vs : List V} {ds : List Dt}, purA ds = true → RepA K H vs ds → DpAll K H vs (pyA ds)
  | _, _, _, .nil => by unfold pyA; exact .nil
  | _, _, h, .cons q r => by
    simp only [purA, Bool.and_eq_true] at h
    unfold pyA
    exact .cons (q.dp h.1) (r.dp h.2)
end
end
/-- fit to be compared -/
def cmpOk (d : Dt) : Bool := pur d && SeqAt.shaped (py d)
section
variable {K : PySem.W.Frag} {S : Sta} {x y : Dt}
theorem rv_eqD (hx : cmpOk x = true) (hy : cmpOk y = true) : Rv2 K S (rEqD K) x y (Eq (.bl (PyData.eqv (py x) (py y)))) := rv_at fun H v u _ r1 r2 Q q => by
  simp only [cmpOk, Bool.and_eq_true] at hx hy
  exact ⟨_, _, r1.dp hx.1, r2.dp hy.1, hx.2, hy.2, q _ (.bl _)⟩
theorem rv_neD (hx : cmpOk x = true) (hy : cmpOk y = true) : Rv2 K S (rNeD K) x y (Eq (.bl (!PyData.eqv (py x) (py y)))) := rv_at fun H v u _ r1 r2 Q q => by
  simp only [cmpOk, Bool.and_eq_true] at hx hy
  exact ⟨_, _, r1.dp hx.1, r2.dp hy.1, hx.2, hy.2, q _ (.bl _)⟩
end
/-! ### H. lists joined, whatever their lists are -/
def rCatS (K : PySem.W.Frag) : R2 := fun x y H Q => ∃ l b xs zs, x = .ref l ∧ y = .ref b ∧ SqL K H l xs ∧ SqL K H b zs ∧ xs.length + zs.length ≤ sizeLine ∧ ∀ p, H p = none → Q (.ref p) (upd H p (.lst (xs ++ zs)))
theorem op_catS {X : Cx} : OpR X (binaryOp .Add) (rCatS X.K) := by
  intro pins s σ H x y v u Q I rx ry h
  obtain ⟨l, b, xs, zs, rfl, rfl, h1, h2, hz, q⟩ := h
  cases rx
  cases ry
  obtain ⟨its, r1, ⟨⟨c1, d1, dt1, sl1⟩, n1, o1, e1, _, f1⟩, _⟩ := I.list h1
  obtain ⟨jts, r2, ⟨⟨c2, d2, dt2, sl2⟩, n2, o2, e2, _, f2⟩, _⟩ := I.list h2
  simp only at e1 e2 f1 f2
  subst e1 e2 f1 f2
  have l1 := r1.length
  have l2 := r2.length
  refine concat_meets ⟨_, o1, rfl⟩ ⟨_, o2, rfl⟩ noFill_list_add seq_list_add PySem.F.slot_list_add PySem.F.entry_list_add (PySem.F.args_list_add_2 _ _)
    (list_addW l b its.toArray jts.toArray n1 n2 d1 d2 sl1 sl2 (by rw [List.size_toArray, List.size_toArray]; omega)) ⟨o1, o2, ?_⟩
  rw [show its.toArray ++ jts.toArray = (its ++ jts).toArray by simp]
  exact ⟨.ref _, _, I.lnew (t' := s.toks) (r1.append r2) (by rw [List.length_append]; omega), rfl, q _ I.fresh⟩
section
variable {K : PySem.W.Frag} {S : Sta} {ρ : List (Option Dt)} {x y d : Dt}
theorem rv_catL {xs ys : List Dt} (hz : xs.length + ys.length ≤ sizeLine) : Rv2 K S (rCatS K) (.lst xs) (.lst ys) (Eq (.lst (xs ++ ys))) := fun H v u i r1 r2 Q q => by
  obtain ⟨a, vs, rfl, h1, ra⟩ := r1.lstI
  obtain ⟨b, us, rfl, h2, rb⟩ := r2.lstI
  exact ⟨a, b, vs, us, rfl, rfl, h1, h2, by rw [ra.len, rb.len]; exact hz, fun p hp => q _ _ _ (same_new hp).gr (S.st i (same_new hp)) (.lst (SqL.of upd_same) ((ra.app rb).mono (same_new hp).gr)) rfl⟩
/-! tuple(..), list(..) -/
def rTupO (K : PySem.W.Frag) : List V → Hp → VK → Prop := fun xs H Q => ∃ p ys, xs = [.ref p] ∧ ((SqL K H p ys ∧ ∀ l, H l = none → Q (.ref l) (upd H l (.tup ys))) ∨ (SqT K H p ys ∧ Q (.ref p) H))
def rLstO (K : PySem.W.Frag) : List V → Hp → VK → Prop := fun xs H Q => ∃ p ys, xs = [.ref p] ∧ (SqL K H p ys ∨ SqT K H p ys) ∧ ∀ l, H l = none → Q (.ref l) (upd H l (.lst ys))
theorem rc_tupL {xs : List Dt} : RvC K S (rTupO K) [.lst xs] (Eq (.tup xs)) := fun H vs i r Q q => by
  obtain ⟨v, rfl, r1⟩ := r.oneI
  obtain ⟨a, us, rfl, h, ra⟩ := r1.lstI
  exact ⟨a, us, rfl, .inl ⟨h, fun p hp => q _ _ _ (same_new hp).gr (S.st i (same_new hp)) (.tup (SqT.of upd_same) (ra.mono (same_new hp).gr)) rfl⟩⟩
theorem rc_lstT {xs : List Dt} : RvC K S (rLstO K) [.tup xs] (Eq (.lst xs)) := fun H vs i r Q q => by
  obtain ⟨v, rfl, r1⟩ := r.oneI
  obtain ⟨a, us, rfl, h, ra⟩ := r1.tupI
  exact ⟨a, us, rfl, .inr h, fun p hp => q _ _ _ (same_new hp).gr (S.st i (same_new hp)) (.lst (SqL.of upd_same) (ra.mono (same_new hp).gr)) rfl⟩
/-! int(True) -/
def rInt1 : List V → Hp → VK → Prop := fun xs H Q => (∃ i, xs = [.int i] ∧ Q (.int i) H) ∨ ∃ k, xs = [.bl k] ∧ Q (.int (if k then 1 else 0)) H
theorem rc_intB {b : Bool} : RvC K S rInt1 [.bl b] (Eq (.int (if b then 1 else 0))) := rc_at fun H vs _ r Q q => by
  obtain ⟨v, rfl, r1⟩ := r.oneI
  obtain rfl := r1.blI
  exact .inr ⟨b, rfl, q _ (.int _)⟩
/-! in a written tuple of ints -/
theorem any_ints {H : Hp} (i : Int) : ∀ (ns : List Int), inV (.int i) (ns.map V.int) = decide (i ∈ ns)
  | [] => by simp [inV]
  | n :: ns => by
    have ih := any_ints (H := H) i ns
    unfold inV at ih ⊢
    rw [List.map_cons, List.any_cons, ih]
    have e : eqV (.int n) (.int i) = decide (n = i) := by
      unfold eqV
      by_cases h : n = i
      · simp [h]
      · simp [h]
    rw [e]
    by_cases h : n = i
    · simp [h]
    · by_cases h2 : i ∈ ns
      · simp [h, h2]
      · simp [h, h2, Ne.symm h]
theorem rv_inT {i : Int} {ns : List Int} : Rv2 K S (rIn K false) (.int i) (.tup (ns.map Dt.int)) (Eq (.bl (decide (i ∈ ns)))) := rv_at fun H v u _ r1 r2 Q q => by
  obtain rfl := r1.intI
  obtain ⟨a, vs, rfl, ht, ra⟩ := r2.tupI
  refine ⟨a, vs, rfl, .inr ht, rfl, ?_, ?_⟩
  · rw [ra.ints, List.all_eq_true]
    intro y hy
    obtain ⟨n, _, rfl⟩ := List.mem_map.mp hy
    rfl
  · rw [if_neg Bool.false_ne_true, ra.ints, any_ints (H := H)]
    exact q _ (.bl _)
end

/-! ### I. a def over data, by its body -/
def startD (n : Nat) (ds : List Dt) : List (Option Dt) := ds.map some ++ List.replicate (n - ds.length) none
theorem slots_start {K : PySem.W.Frag} {H : Hp} {N : List Str} {vs : List V} {ds : List Dt} (r : RepA K H vs ds) : Slots K H (L2.start N vs) (startD N.length ds) := by
  refine ⟨by simp [L2.start, startD, r.len], fun i d h => ?_⟩
  unfold startD at h
  unfold L2.start
  by_cases hi : i < ds.length
  · rw [List.getElem?_append_left (by simpa using hi), List.getElem?_map] at h
    cases e : ds[i]? with
    | none => rw [e] at h; cases h
    | some d' =>
      rw [e] at h
      cases h
      obtain ⟨v, hv, rv⟩ := r.at_ e
      exact ⟨v, by rw [List.getElem?_append_left (by rw [List.length_map, r.len]; exact hi), List.getElem?_map, hv]; rfl, rv⟩
  · rw [List.getElem?_append_right (by simpa using hi), List.getElem?_replicate] at h
    split at h <;> cases h
/-- all that was is as it was -/
abbrev staSame (H : Hp) : Sta := staSameQ H
theorem staSame_mu {H : Hp} : (staSame H).Mu := fun {H1 H2 D o ws} i1 _ hD _ i2 b u e => by
  have hb : b ≠ D := fun z => by
    have y := i1 b u e
    rw [z, hD] at y
    cases y
  rw [upd_ne hb]
  exact i2 b u e
theorem okF {P : Program} {w : World} {K : PySem.W.Frag} {mg : Str → Option Value} {base : Heap} {x qual : Str} {st : Stmt} {f : Addr} {fd : FuncData} {N ps : List Str} {k : Nat} {pre : List Dt → Prop} {F : List Dt → Dt} (Fu : Fun K x qual st f fd) (Sc : FnScope N ps (defScope st))
    (hb : ∀ (cdv : Value) (A : Around) (out : List Env) (s : Shared) (H : Hp) (E : XK), Room k (A.deeper (envOfC qual (defScope st) s.heap.objs.size f cdv)) → A.guards = some [] →
      ∃ t, PSs (cxOf (L2.CX P w) P w K mg base N qual (defScope st) f cdv A out s H E).nox (defBody st) t ∧ ∀ (S : Sta), S.Mu → ∀ ds : List Dt, ds.length = ps.length → pre ds → So K S S [] t (startD N.length ds) { nx := fun _ => F ds = .non, rt := Eq (F ds) }) :
    GOk P w K mg base (k + 1) f fd ps (spF K ps.length pre F) := by
  refine okG Fu Sc (fun vs H Q E h => ?_) fun cdv A out s H vs Q E hr hg h => ?_
  · obtain ⟨ds, r, hl, _⟩ := h
    exact r.len.trans hl
  · obtain ⟨ds, r, hl, hp, q⟩ := h
    obtain ⟨t, ht, so⟩ := hb cdv A out s H E hr hg
    refine ⟨t, ht.nox, so (staSame H) staSame_mu ds hl hp _ _ H H ⟨Gr.refl H, Same.refl H, fun _ z => nomatch z⟩ (Same.refl H) (slots_start r) ⟨fun σ ρ H' g i s' e => ?_, fun v d H' g i r' e => ?_, fun _ _ _ _ _ _ z => z.elim, fun _ _ _ _ _ _ z => z.elim⟩⟩
    · exact q _ H' i ((show F ds = .non from e) ▸ .non)
    · exact q v H' i ((show F ds = d from e) ▸ r')

end Bf
namespace Bf
open PySem PySem.Spec PyProof.Rows L2
/-! ### J. the readings' names -/
abbrev rAddI : R2 := rI0 fun i j => .int (i + j)
abbrev rSubI : R2 := rI0 fun i j => .int (i - j)
abbrev rMulW : R2 := rI CMulW fun i j => .int (i * j)
abbrev rDivW : R2 := rI CDivW fun i j => .int (i / j)
abbrev rModI : R2 := rI (fun _ j => 0 < j) fun i j => .int (i % j)
abbrev rPowI : R2 := rI CPow fun i j => .int (i ^ j.toNat)
abbrev rLtI : R2 := rI0 fun i j => .bl (decide (i < j))
abbrev rLeI : R2 := rI0 fun i j => .bl (decide (i ≤ j))
abbrev rGtI : R2 := rI0 fun i j => .bl (decide (j < i))
abbrev rGeI : R2 := rI0 fun i j => .bl (decide (j ≤ i))
abbrev rIsNo : R2 := fun x y H Q => y = .non ∧ Q (.bl (decide (x = .non))) H
abbrev rNoNo : R2 := fun x y H Q => y = .non ∧ Q (.bl (!decide (x = .non))) H
abbrev rNegI : V → Hp → VK → Prop := rU fun i => .int (-i)
section
variable {K : PySem.W.Frag} {S S1 S2 : Sta} {ρ : List (Option Dt)} {te tl ta : TE} {vs : List Nat} {j : Nat} {x y d : Dt} {t u : TT}
theorem ev_neg {i : Int} (h : Ev K S S1 ρ ta (Eq (.int i))) : Ev K S S1 ρ (tUn rNegI ta) (Eq (.int (-i))) := ev_un h fun H v _ r Q q => ⟨i, r.intI, q _ _ H (Gr.refl H) (by assumption) (.int _) rfl⟩
/-! and, or where the first answer decides -/
theorem ev_andT {b : Bool} {tb : TE} (ha : Ev K S S1 ρ ta (Eq (.bl true))) (hb : Ev K S1 S1 ρ tb (Eq (.bl b))) : Ev K S S1 ρ (tAndV ta tb) (Eq (.bl b)) := (ev_and ha fun _ => hb).to (by rw [Bool.true_and])
theorem ev_andF {tb : TE} (ha : Ev K S S1 ρ ta (Eq (.bl false))) : Ev K S S1 ρ (tAndV ta tb) (Eq (.bl false)) := (ev_and (b := false) ha fun e => nomatch e).to (by rw [Bool.false_and])
theorem et_andT {b : Bool} (ha : EvT K S S1 ρ t (Eq true)) (hb : EvT K S1 S1 ρ u (Eq b)) : EvT K S S1 ρ (tAnd t u) (Eq b) := (et_and ha fun _ => hb).to (by rw [Bool.true_and])
theorem et_andF (ha : EvT K S S1 ρ t (Eq false)) : EvT K S S1 ρ (tAnd t u) (Eq false) := (et_and (b := false) ha fun e => nomatch e).to (by rw [Bool.false_and])
theorem et_orT (ha : EvT K S S1 ρ t (Eq true)) : EvT K S S1 ρ (tOr t u) (Eq true) := (et_or (b := true) ha fun e => nomatch e).to (by rw [Bool.true_or])
theorem et_orF {b : Bool} (ha : EvT K S S1 ρ t (Eq false)) (hb : EvT K S1 S1 ρ u (Eq b)) : EvT K S S1 ρ (tOr t u) (Eq b) := (et_or ha fun _ => hb).to (by rw [Bool.false_or])
theorem et_notT (ha : EvT K S S1 ρ t (Eq true)) : EvT K S S1 ρ (tNot t) (Eq false) := (et_not ha).to rfl
theorem et_notF (ha : EvT K S S1 ρ t (Eq false)) : EvT K S S1 ρ (tNot t) (Eq true) := (et_not ha).to rfl
theorem ev_ifT {Φ : Dt → Prop} {tb : TE} (ht : EvT K S S1 ρ t (Eq true)) (ha : Ev K S1 S2 ρ ta Φ) : Ev K S S2 ρ (tIf t ta tb) Φ := ev_if ht (fun _ => ha) fun e => nomatch e
theorem ev_ifF {Φ : Dt → Prop} {tb : TE} (ht : EvT K S S1 ρ t (Eq false)) (hb : Ev K S1 S2 ρ tb Φ) : Ev K S S2 ρ (tIf t ta tb) Φ := ev_if ht (fun e => nomatch e) fun _ => hb
/-! a < b < c where the first already fails, or not -/

/-! isinstance -/
def okN (d : Dt) : Bool := (tyN d).isSome
def isIntD : Dt → Bool
  | .int _ => true
  | .bl _ => true
  | _ => false
def isBlD : Dt → Bool
  | .bl _ => true
  | _ => false
def isTupD : Dt → Bool
  | .tup _ => true
  | _ => false
def isStrD : Dt → Bool
  | .str _ => true
  | _ => false
theorem rc_isInt (h : okN d = true) : RvC K S (rIsi K) [d, .raw (.ty "int")] (Eq (.bl (isIntD d))) := by
  cases d with
  | non => exact rc_isi (b := false) rfl (by decide +kernel)
  | bl => exact rc_isi (b := true) rfl (by decide +kernel)
  | int => exact rc_isi (b := true) rfl (by decide +kernel)
  | str => exact rc_isi (b := false) rfl (by decide +kernel)
  | lst => exact rc_isi (b := false) rfl (by decide +kernel)
  | tup => exact rc_isi (b := false) rfl (by decide +kernel)
  | dic => exact rc_isi (b := false) rfl (by decide +kernel)
  | ins => cases h
  | raw v => cases v <;> cases h
  | lat => cases h
  | err => cases h
  | dct => cases h
  | dti => cases h
  | dat => cases h
  | cel => cases h
theorem rc_isBl (h : okN d = true) : RvC K S (rIsi K) [d, .raw (.ty "bool")] (Eq (.bl (isBlD d))) := by
  cases d with
  | non => exact rc_isi (b := false) rfl (by decide +kernel)
  | bl => exact rc_isi (b := true) rfl (by decide +kernel)
  | int => exact rc_isi (b := false) rfl (by decide +kernel)
  | str => exact rc_isi (b := false) rfl (by decide +kernel)
  | lst => exact rc_isi (b := false) rfl (by decide +kernel)
  | tup => exact rc_isi (b := false) rfl (by decide +kernel)
  | dic => exact rc_isi (b := false) rfl (by decide +kernel)
  | ins => cases h
  | raw v => cases v <;> cases h
  | lat => cases h
  | err => cases h
  | dct => cases h
  | dti => cases h
  | dat => cases h
  | cel => cases h
theorem rc_isTup (h : okN d = true) : RvC K S (rIsi K) [d, .raw (.ty "tuple")] (Eq (.bl (isTupD d))) := by
  cases d with
  | non => exact rc_isi (b := false) rfl (by decide +kernel)
  | bl => exact rc_isi (b := false) rfl (by decide +kernel)
  | int => exact rc_isi (b := false) rfl (by decide +kernel)
  | str => exact rc_isi (b := false) rfl (by decide +kernel)
  | lst => exact rc_isi (b := false) rfl (by decide +kernel)
  | tup => exact rc_isi (b := true) rfl (by decide +kernel)
  | dic => exact rc_isi (b := false) rfl (by decide +kernel)
  | ins => cases h
  | raw v => cases v <;> cases h
  | lat => cases h
  | err => cases h
  | dct => cases h
  | dti => cases h
  | dat => cases h
  | cel => cases h
theorem rc_isStr (h : okN d = true) : RvC K S (rIsi K) [d, .raw (.ty "str")] (Eq (.bl (isStrD d))) := by
  cases d with
  | non => exact rc_isi (b := false) rfl (by decide +kernel)
  | bl => exact rc_isi (b := false) rfl (by decide +kernel)
  | int => exact rc_isi (b := false) rfl (by decide +kernel)
  | str => exact rc_isi (b := true) rfl (by decide +kernel)
  | lst => exact rc_isi (b := false) rfl (by decide +kernel)
  | tup => exact rc_isi (b := false) rfl (by decide +kernel)
  | dic => exact rc_isi (b := false) rfl (by decide +kernel)
  | ins => cases h
  | raw v => cases v <;> cases h
  | lat => cases h
  | err => cases h
  | dct => cases h
  | dti => cases h
  | dat => cases h
  | cel => cases h
/-! [te for x in a list for y in (a tuple)] -/
end
end Bf
namespace Bf
open PySem PySem.Spec PyProof.Rows L2

/-! ### K. a def of the text -/
structure Cal (K : PySem.W.Frag) (mg : Str → Option Value) (x : Str) (st : Stmt) (ps : List Str) (f : Addr) (fd : FuncData) : Prop where
  fn : Fun K x x st f fd
  gl : mg x = some (.ref f)
  bp : BPos fd ps
def swpL : List Value → List Value
  | [a, b] => [b, a]
  | ws => ws
def swpV : List V → List V
  | [a, b] => [b, a]
  | ws => ws
theorem kws {n : Nat} : ∀ {vs : List V} {us : List Value}, Vals vs us → vs.length = n → Vals (swpV vs) (swpL us)
  | _, _, .nil, _ => .nil
  | _, _, .cons a .nil, _ => .cons a .nil
  | _, _, .cons a (.cons b .nil), _ => .cons b (.cons a .nil)
  | _, _, .cons a (.cons b (.cons c r)), _ => .cons a (.cons b (.cons c r))
/-! ### L. the draws' dict -/
def rSetD : TSet := fun o i v H Q => ∃ a H', o = .ref a ∧ DPut H a i v H' ∧ Q H'
theorem set_dict {X : Cx} (hu : X.A.units + 1 < cLine) : PSet X rSetD := by
  intro pins s σ H o i v ov iv u Q I ro ri rv h
  obtain ⟨a, H', rfl, g, q⟩ := h
  obtain rfl : ov = Value.ref a := ro
  exact d_setItem hu I g ri rv fun s4 I4 => ⟨H', I4, q⟩
def drK (c : Addr) (i l u : Int) : List (Key × V) := [(.inr "cells", .ref c), (.inr "at", .int i), (.inr "left", .int l), (.inr "used", .int u)]
section
variable {c : Addr} {i l u x : Int}
theorem dr_cells : valV (drK c i l u) (.inr "cells") = some (.ref c) := by with_unfolding_all rfl
theorem dr_at : valV (drK c i l u) (.inr "at") = some (.int i) := by with_unfolding_all rfl
theorem dr_left : valV (drK c i l u) (.inr "left") = some (.int l) := by with_unfolding_all rfl
theorem dr_used : valV (drK c i l u) (.inr "used") = some (.int u) := by with_unfolding_all rfl
theorem dr_pat : putK (drK c i l u) (.inr "at") (.int x) = drK c x l u := by with_unfolding_all rfl
theorem dr_pleft : putK (drK c i l u) (.inr "left") (.int x) = drK c i x u := by with_unfolding_all rfl
theorem dr_pused : putK (drK c i l u) (.inr "used") (.int x) = drK c i l x := by with_unfolding_all rfl
theorem dr_merge : mergeK [] [((.inr "cells" : Key), V.ref c), (.inr "at", .int i), (.inr "left", .int l), (.inr "used", .int u)] = drK c i l u := by with_unfolding_all rfl
end
/-- where the cells stand; the tables of code objects, and the name that each bears -/
structure CT where
  p : Addr
  tb : List (Addr × Str)
/-- an object that is no table and no code object turns: the tables stay -/
theorem tabs_upd {T : List (Addr × Str)} {H : Hp} {D : Addr} {o u : HO} (h : LamX.Tabs T H) (e : H D = some u) (h1 : ∀ ps, u ≠ .tbl ps) (h2 : ∀ f, u ≠ .ext f) : LamX.Tabs T (upd H D o) := fun p hp => by
  obtain ⟨ps, a1, a2, a3⟩ := h p hp
  have keep : ∀ {b : Addr} {x : HO}, H b = some x → x ≠ u → upd H D o b = some x := fun {b x} e' hn => by
    rw [upd_ne (fun z => by rw [z, e] at e'; exact hn (Option.some.inj e').symm)]
    exact e'
  refine ⟨ps, keep a1 (fun z => h1 ps z.symm), a2, fun pos cv hc => ?_⟩
  obtain ⟨c', e1, e2⟩ := a3 pos cv hc
  exact ⟨c', e1, keep e2 (fun z => h2 _ z.symm)⟩
theorem tabs_off {T : List (Addr × Str)} {H : Hp} {D : Addr} {o : HO} {ws : List V} (h : LamX.Tabs T H) (e : H D = some (.lst ws)) : LamX.Tabs T (upd H D o) := tabs_upd h e (fun _ z => nomatch z) fun _ z => nomatch z
/-- the draws' dict at a, its cells cs at c: just so -/
def DS (K : PySem.W.Frag) (a : Addr) (c : CT) (cs : List Int) (i l u : Int) : Sta :=
  ⟨fun H => H a = some (.dK (drK c.p i l u)) ∧ SqL K H c.p (cs.map V.int) ∧ LamX.Tabs c.tb H, fun h s => ⟨s _ _ h.1, s.seq h.2.1, h.2.2.ext fun b o e => s b o e⟩⟩
/-- .. with counts up to n -/
def DW (K : PySem.W.Frag) (a : Addr) (c : CT) (cs : List Int) (n : Nat) : Sta :=
  ⟨fun H => ∃ i l u, (DS K a c cs i l u).I H ∧ 0 ≤ i ∧ i ≤ n ∧ 0 ≤ l ∧ 0 ≤ u ∧ u ≤ n, fun ⟨i, l, u, h, r⟩ s => ⟨i, l, u, (DS K a c cs i l u).st h s, r⟩⟩
section
variable {K : PySem.W.Frag} {a : Addr} {c : CT} {cs : List Int} {i l u x : Int} {n m : Nat} {S S1 SF : Sta} {L : List Addr} {ρ : List (Option Dt)} {P : Po} {te : TE} {w : TS} {Φ : Dt → Prop}
theorem dw_le (h : n ≤ m) : (DW K a c cs n).Le (DW K a c cs m) := fun H ⟨i, l, u, h0, h1, h2, h3, h4, h5⟩ => ⟨i, l, u, h0, h1, by omega, h3, h4, by omega⟩
theorem dw_of (h0 : 0 ≤ i) (h1 : i ≤ n) (h2 : 0 ≤ l) (h3 : 0 ≤ u) (h4 : u ≤ n) : (DS K a c cs i l u).Le (DW K a c cs n) := fun H h => ⟨i, l, u, h, h0, h1, h2, h3, h4⟩
theorem ds_off {H1 H : Hp} {D : Addr} {o : HO} {ws : List V} (ha : ∃ o, H1 a = some o) (hc : SqL K H1 c.p (cs.map V.int)) (g : Gr H1 H) (hD : H1 D = none) (hd : H D = some (.lst ws)) (h : (DS K a c cs i l u).I H) : (DS K a c cs i l u).I (upd H D o) := by
  obtain ⟨o1, e⟩ := ha
  refine ⟨?_, (gr_off g hD).sqL hc, tabs_off h.2.2 hd⟩
  rw [upd_ne (ne_of_none e hD)]
  exact h.1
theorem dw_off {H1 H : Hp} {D : Addr} {o : HO} {ws : List V} (h1 : (DW K a c cs m).I H1) (g : Gr H1 H) (hD : H1 D = none) (hd : H D = some (.lst ws)) (h : (DW K a c cs n).I H) : (DW K a c cs n).I (upd H D o) := by
  obtain ⟨i1, l1, u1, hh, _⟩ := h1
  obtain ⟨i, l, u, h, r⟩ := h
  exact ⟨i, l, u, ds_off ⟨_, hh.1⟩ hh.2.1 g hD hd h, r⟩
theorem dw_loose : Loose (DW K a c cs n) (DW K a c cs m) := fun iB g hp e i => dw_off iB g hp e i
/-- what is so by cases -/
theorem so_open (h : ∀ i l u : Int, 0 ≤ i → i ≤ n → 0 ≤ l → 0 ≤ u → u ≤ n → So K (DS K a c cs i l u) SF L w ρ P) : So K (DW K a c cs n) SF L w ρ P := fun D σ B H b ⟨i, l, u, h0, h1, h2, h3, h4, h5⟩ s f => h i l u h1 h2 h3 h4 h5 D σ B H b h0 s f
theorem ev_dget {k : Str} {v : V} {d : Dt} {j : Nat} (hj : ρ[j]? = some (some (.raw (.ref a)))) (hk : valV (drK c.p i l u) (.inr k) = some v) (hd : ∀ H, (DS K a c cs i l u).I H → Rep K H v d) : Ev K (DS K a c cs i l u) (DS K a c cs i l u) ρ (tDGet (tVar j) (tC (.str k))) (Eq d) := fun σ H h s Q q => by
  obtain ⟨v0, hv, rv⟩ := s.val j _ hj
  obtain rfl := rv.rawI
  exact ⟨.ref a, hv, a, v, rfl, hk ▸ DGet.k (k := Sum.inr k) h.1, q _ _ H (Gr.refl H) h (hd H h) rfl⟩
theorem ev_dat {j : Nat} (hj : ρ[j]? = some (some (.raw (.ref a)))) : Ev K (DS K a c cs i l u) (DS K a c cs i l u) ρ (tDGet (tVar j) (tC (.str "at"))) (Eq (.int i)) := ev_dget hj dr_at fun _ _ => .int i
theorem ev_dleft {j : Nat} (hj : ρ[j]? = some (some (.raw (.ref a)))) : Ev K (DS K a c cs i l u) (DS K a c cs i l u) ρ (tDGet (tVar j) (tC (.str "left"))) (Eq (.int l)) := ev_dget hj dr_left fun _ _ => .int l
theorem ev_dused {j : Nat} (hj : ρ[j]? = some (some (.raw (.ref a)))) : Ev K (DS K a c cs i l u) (DS K a c cs i l u) ρ (tDGet (tVar j) (tC (.str "used"))) (Eq (.int u)) := ev_dget hj dr_used fun _ _ => .int u
theorem rep_ints {H : Hp} : ∀ ns : List Int, RepA K H (ns.map V.int) (ns.map Dt.int)
  | [] => .nil
  | n :: ns => .cons (.int n) (rep_ints ns)
theorem ev_dcells {j : Nat} (hj : ρ[j]? = some (some (.raw (.ref a)))) : Ev K (DS K a c cs i l u) (DS K a c cs i l u) ρ (tDGet (tVar j) (tC (.str "cells"))) (Eq (.lst (cs.map Dt.int))) := ev_dget hj dr_cells fun _ h => .lst h.2.1 (rep_ints cs)
/-- draw[k] = e -/
theorem so_dset {k : Str} {j : Nat} {i' l' u' : Int} (h : Ev K S (DS K a c cs i l u) ρ te (Eq (.int x))) (hj : ρ[j]? = some (some (.raw (.ref a)))) (hk : putK (drK c.p i l u) (.inr k) (.int x) = drK c.p i' l' u') (q : So K (DS K a c cs i' l' u') SF L w ρ P) :
    So K S SF L (tSeq (tAsg te (gSub (tVar j) (tC (.str k)) rSetD)) w) ρ P := fun D σ B H b hi s f => h σ H hi s _ fun v d H1 g1 i1 r1 e => by
  subst e
  obtain rfl := r1.intI
  obtain ⟨v0, hv, rv⟩ := (s.mono g1).val j _ hj
  obtain rfl := rv.rawI
  have gg : ∀ {C : Hp}, Gr C H1 → Gr C (upd H1 a (.dK (drK c.p i' l' u'))) := fun {C} g p o e d => by
    by_cases hp : p = a
    · subst hp
      have y := g p o e d
      rw [i1.1] at y
      cases y
      cases d
    · rw [upd_ne hp]
      exact g p o e d
  refine ⟨.ref a, hv, a, _, rfl, DPut.k (k := Sum.inr k) i1.1 (by show 4 < sizeLine; decide), ?_⟩
  rw [hk]
  exact q D σ B _ ⟨gg (b.gr.trans g1), b.i, b.new⟩ ⟨upd_same, (gg (Gr.refl H1)).sqL i1.2.1, tabs_upd i1.2.2 i1.1 (fun _ z => nomatch z) fun _ z => nomatch z⟩ ((s.mono g1).mono (gg (Gr.refl H1))) f
/-- cell, draw["left"] = (x, y) -/
theorem so_dset2 {j m : Nat} {ta : TA} {x y : Int} (h : EvA K S (DS K a c cs i l u) ρ ta (Eq [.int x, .int y])) (hj : ρ[j]? = some (some (.raw (.ref a)))) (hm : m ≠ j) (q : So K (DS K a c cs i y u) SF L w (ρ.set m (some (.int x))) P) :
    So K S SF L (tSeq (tAsg (tTup ta) (gTup K 2 (gCons (gName m) (gCons (gSub (tVar j) (tC (.str "left")) rSetD) gNil)))) w) ρ P := fun D σ B H b hi s f => h σ H hi s _ fun vs ds H1 g1 i1 r1 e => by
  subst e
  obtain ⟨v, u', rfl, ra, rb⟩ := r1.twoI
  obtain rfl := ra.intI
  obtain rfl := rb.intI
  refine ⟨by show 2 ≤ sizeLine; decide, fun p hp => ?_⟩
  have s2 := same_new (o := .tup [.int x, .int y]) hp
  have i2 := (DS K a c cs i l u).st i1 s2
  have g2 := g1.trans s2.gr
  have hs := ((s.mono g2).set (v := .int x) (d := .int x) (.int x) m)
  obtain ⟨v0, hv, rv⟩ := hs.val j (.raw (.ref a)) (by rw [List.getElem?_set_ne hm]; exact hj)
  obtain rfl := rv.rawI
  have gg : ∀ {C : Hp}, Gr C (upd H1 p (.tup [.int x, .int y])) → Gr C (upd (upd H1 p (.tup [.int x, .int y])) a (.dK (drK c.p i y u))) := fun {C} g p' o e d => by
    by_cases hp : p' = a
    · subst hp
      have z := g p' o e d
      rw [i2.1] at z
      cases z
      cases d
    · rw [upd_ne hp]
      exact g p' o e d
  refine ⟨p, _, rfl, SqT.of upd_same, rfl, .int x, [.int y], rfl, .int y, [], rfl, .ref a, hv, a, _, rfl, DPut.k (k := Sum.inr "left") i2.1 (by show 4 < sizeLine; decide), rfl, ?_⟩
  rw [dr_pleft]
  exact q D _ B _ ⟨gg (b.gr.trans g2), b.i, b.new⟩ ⟨upd_same, (gg (Gr.refl _)).sqL i2.2.1, tabs_upd i2.2.2 i2.1 (fun _ z => nomatch z) fun _ z => nomatch z⟩ (hs.mono (gg (Gr.refl _))) f

/-! ### M. defs that draw -/
def spD (K : PySem.W.Frag) (nargs : Nat) (pre : List Dt → Prop) (Φ : List Dt → Dt → Prop) (cost : Nat) : Sp := fun vs H Q _ => ∃ a c cs n ds ws, vs = .ref a :: ws ∧ RepA K H ws ds ∧ ds.length = nargs ∧ pre ds ∧ cs ≠ [] ∧ n + cost ≤ 1000000 ∧ (DW K a c cs n).I H ∧
  ∀ v d H', Gr H H' → (DW K a c cs (n + cost)).I H' → Rep K H' v d → Φ ds d → Q v H'
theorem ev_callD {t : TA} {ds : List Dt} {k cost : Nat} {pre : List Dt → Prop} {Φ : List Dt → Dt → Prop} {E : XK} (ha : EvA K S (DW K a c cs n) ρ t (Eq (.raw (.ref a) :: ds))) (hn : ds.length = k) (hp : pre ds) (hc : cs ≠ []) (hb : n + cost ≤ 1000000) :
    Ev K S (DW K a c cs (n + cost)) ρ (tCall (spD K k pre Φ cost) [] E t) (Φ ds) := fun σ H i s Q q =>
  ha σ H i s _ fun vs ds' H1 g1 i1 r1 p1 => by
    subst p1
    rw [List.append_nil]
    cases r1 with
    | cons r0 r1 =>
      obtain rfl := r0.rawI
      exact ⟨a, c, cs, n, ds, _, rfl, r1, hn, hp, hc, hb, i1, fun v d H' g i' r p => q v d H' (g1.trans g) i' r p⟩
theorem okD {P : Program} {w : World} {mg : Str → Option Value} {base : Heap} {x qual : Str} {st : Stmt} {f : Addr} {fd : FuncData} {N ps : List Str} {k na cost : Nat} {pre : List Dt → Prop} {Φ : List Dt → Dt → Prop} (Fu : Fun K x qual st f fd) (Sc : FnScope N ps (defScope st)) (hps : ps.length = na + 1)
    (hb : ∀ (cdv : Value) (A : Around) (out : List Env) (s : Shared) (H : Hp) (E : XK), Room k (A.deeper (envOfC qual (defScope st) s.heap.objs.size f cdv)) → A.guards = some [] →
      ∃ t, PSs (cxOf (L2.CX P w) P w K mg base N qual (defScope st) f cdv A out s H E).nox (defBody st) t ∧ ∀ (a : Addr) (c : CT) (cs : List Int) (n : Nat) (ds : List Dt), cs ≠ [] → n + cost ≤ 1000000 → ds.length = na → pre ds →
        So K (DW K a c cs n) (DW K a c cs (n + cost)) [] t (startD N.length (.raw (.ref a) :: ds)) { nx := fun _ => Φ ds .non, rt := Φ ds }) :
    GOk P w K mg base (k + 1) f fd ps (spD K na pre Φ cost) := by
  refine okG Fu Sc (fun vs H Q E h => ?_) fun cdv A out s H vs Q E hr hg h => ?_
  · obtain ⟨a, c, cs, n, ds, ws, rfl, r, hl, _⟩ := h
    rw [List.length_cons, r.len, hl, hps]
  · obtain ⟨a, c, cs, n, ds, ws, rfl, r, hl, hp, hc, hn, hi, q⟩ := h
    obtain ⟨t, ht, so⟩ := hb cdv A out s H E hr hg
    refine ⟨t, ht.nox, so a c cs n ds hc hn hl hp _ _ H H ⟨Gr.refl H, dw_le (Nat.le_add_right n cost) H hi, fun _ z => nomatch z⟩ hi (slots_start (.cons (.raw _) r)) ⟨fun σ ρ H' g i s' e => ?_, fun v d H' g i r' e => ?_, fun _ _ _ _ _ _ z => z.elim, fun _ _ _ _ _ _ z => z.elim⟩⟩
    · exact q _ _ H' g i .non e
    · exact q v d H' g i r' e
end
end Bf
namespace Bf
open PySem PySem.Spec PyProof.Rows L2
/-! ### N. the operations by their names -/
section
variable {K : PySem.W.Frag} {S S1 S2 S3 : Sta} {ρ : List (Option Dt)} {i j : Int} {ta tb tc te : TE} {d x y : Dt}
theorem rv_add : Rv2 K S rAddI (.int i) (.int j) (Eq (.int (i + j))) := rv_ii
theorem rv_sub : Rv2 K S rSubI (.int i) (.int j) (Eq (.int (i - j))) := rv_ii
theorem rv_mul (h : CMulW i j) : Rv2 K S rMulW (.int i) (.int j) (Eq (.int (i * j))) := rv_iic h
theorem rv_div (h : CDivW i j) : Rv2 K S rDivW (.int i) (.int j) (Eq (.int (i / j))) := rv_iic h
theorem rv_mod (h : 0 < j) : Rv2 K S rModI (.int i) (.int j) (Eq (.int (i % j))) := rv_iic (C := fun _ j => 0 < j) h
theorem rv_pow (h : CPow i j) : Rv2 K S rPowI (.int i) (.int j) (Eq (.int (i ^ j.toNat))) := rv_iic h
theorem rv_lt : Rv2 K S rLtI (.int i) (.int j) (Eq (.bl (decide (i < j)))) := rv_ib
theorem rv_le : Rv2 K S rLeI (.int i) (.int j) (Eq (.bl (decide (i ≤ j)))) := rv_ib
theorem rv_gt : Rv2 K S rGtI (.int i) (.int j) (Eq (.bl (decide (j < i)))) := rv_ib
theorem rv_ge : Rv2 K S rGeI (.int i) (.int j) (Eq (.bl (decide (j ≤ i)))) := rv_ib
theorem rv_isNo : Rv2 K S rIsNo d .non (Eq (.bl d.isNon)) := rv_isN
theorem rv_noNo : Rv2 K S rNoNo d .non (Eq (.bl (!d.isNon))) := rv_notN
theorem ev_lele {l : Int} (ha : Ev K S S1 ρ ta (Eq (.int i))) (hb : Ev K S1 S2 ρ tb (Eq (.int j))) (hc : Ev K S2 S2 ρ tc (Eq (.int l))) : Ev K S S2 ρ (tChain rLeI rLeI ta tb tc) (Eq (.bl (decide (i ≤ j) && decide (j ≤ l)))) := ev_chain ha hb hc
/-- the class's name as an argument -/
theorem ev_ty {T : String} : Ev K S S ρ (tC (.ty T)) (Eq (.raw (.ty T))) := ev_raw
theorem ev_isInt (h : Ev K S S1 ρ ta (Eq d)) (hd : okN d = true) : Ev K S S1 ρ (tCB (rIsi K) (tCons ta (tCons (tC (.ty "int")) tNil))) (Eq (.bl (isIntD d))) := ev_cb (ea_cons h (ea_cons ev_ty ea_nil)) (rc_isInt hd)
theorem ev_isBl (h : Ev K S S1 ρ ta (Eq d)) (hd : okN d = true) : Ev K S S1 ρ (tCB (rIsi K) (tCons ta (tCons (tC (.ty "bool")) tNil))) (Eq (.bl (isBlD d))) := ev_cb (ea_cons h (ea_cons ev_ty ea_nil)) (rc_isBl hd)
theorem ev_isTup (h : Ev K S S1 ρ ta (Eq d)) (hd : okN d = true) : Ev K S S1 ρ (tCB (rIsi K) (tCons ta (tCons (tC (.ty "tuple")) tNil))) (Eq (.bl (isTupD d))) := ev_cb (ea_cons h (ea_cons ev_ty ea_nil)) (rc_isTup hd)
theorem ev_isStr (h : Ev K S S1 ρ ta (Eq d)) (hd : okN d = true) : Ev K S S1 ρ (tCB (rIsi K) (tCons ta (tCons (tC (.ty "str")) tNil))) (Eq (.bl (isStrD d))) := ev_cb (ea_cons h (ea_cons ev_ty ea_nil)) (rc_isStr hd)
theorem ev_lenT {xs : List Dt} (h : Ev K S S1 ρ ta (Eq (.tup xs))) : Ev K S S1 ρ (tCB (rLen K) (tCons ta tNil)) (Eq (.int xs.length)) := ev_cb (ea_cons h ea_nil) rc_lenT
theorem ev_lenL {xs : List Dt} (h : Ev K S S1 ρ ta (Eq (.lst xs))) : Ev K S S1 ρ (tCB (rLen K) (tCons ta tNil)) (Eq (.int xs.length)) := ev_cb (ea_cons h ea_nil) rc_lenL
theorem ev_allL {bs : List Bool} (h : Ev K S S1 ρ ta (Eq (.lst (bs.map Dt.bl)))) : Ev K S S1 ρ (tCB (rAll K) (tCons ta tNil)) (Eq (.bl (bs.all id))) := ev_cb (ea_cons h ea_nil) rc_all
/-- all([p(x) for x in a tuple]) -/
theorem ev_allT {tl : TE} {m : Nat} {vs : List Nat} {xs : List Dt} {p : Dt → Bool} (hmu : S.Mu) (h : Ev K S S ρ tl (Eq (.tup xs))) (hj : m ∈ vs) (hz : xs.length ≤ 100000) (he : ∀ x ∈ xs, Ev K S S ((wipeD ρ vs).set m (some x)) te (Eq (.bl (p x)))) :
    Ev K S S ρ (tCB (rAll K) (tCons (tLc (iTup K tl) (gName m) tYes te vs) tNil)) (Eq (.bl (xs.all p))) := by
  have h1 := ev_lcT (K := K) (S := S) (ρ := ρ) (te := te) (tl := tl) (tt := tYes) (vs := vs) (j := m) (xs := xs) (f := fun x => .bl (p x)) (p := fun _ => true) hmu h hj hz (fun _ _ => et_yes) (fun x hx _ => he x hx) fun _ _ _ => rfl
  have e : ((xs.filter fun _ => true).map fun x => Dt.bl (p x)) = (xs.map p).map Dt.bl := by
    rw [List.filter_eq_self.mpr fun _ _ => rfl, List.map_map]
    rfl
  rw [e] at h1
  have e2 : xs.all p = (xs.map p).all id := by rw [List.all_map]; rfl
  rw [e2]
  exact ev_allL h1
/-- t[-1], t[k] of a written shape -/
theorem ev_ixT {xs : List Dt} (h : Ev K S S1 ρ ta (Eq (.tup xs))) (hb : Ev K S1 S2 ρ tb (Eq (.int i))) (hi : atI xs i = some d) : Ev K S S2 ρ (tOp (rIx K) ta tb) (Eq d) := ev_op h hb (rv_ixST hi)
theorem ev_ixL {xs : List Dt} (h : Ev K S S1 ρ ta (Eq (.lst xs))) (hb : Ev K S1 S2 ρ tb (Eq (.int i))) (hi : atI xs i = some d) : Ev K S S2 ρ (tOp (rIx K) ta tb) (Eq d) := ev_op h hb (rv_ixSL hi)
theorem ev_ixLP {xs : List Dt} {Φ Θ : Dt → Prop} (h : Ev K S S1 ρ ta (Eq (.lst xs))) (hb : Ev K S1 S2 ρ tb Φ) (hi : ∀ y, Φ y → ∃ k d, y = .int k ∧ atI xs k = some d ∧ Θ d) : Ev K S S2 ρ (tOp (rIx K) ta tb) Θ := ev_opP h hb fun x y e p => by
  obtain ⟨k, d, rfl, hk, hd⟩ := hi y p
  subst e
  exact fun H v u i r1 r2 Q q => rv_ixSL hk H v u i r1 r2 Q fun v' d' H' g i' r e => q v' d' H' g i' r (e ▸ hd)
theorem ev_ixLPL {xs : List Dt} {Φ Θ : Dt → Prop} (h : Ev K S S1 ρ ta (Eq (.lst xs))) (hb : Ev K S1 S2 ρ tb Φ) (hi : ∀ y, Φ y → ∃ k d, y = .int k ∧ atI xs k = some d ∧ Θ d) : Ev K S S2 ρ (tOp (rIxL K) ta tb) Θ := ev_opP h hb fun x y e p => by
  obtain ⟨k, d, rfl, hk, hd⟩ := hi y p
  subst e
  exact fun H v u i r1 r2 Q q => rv_ixL hk H v u i r1 r2 Q fun v' d' H' g i' r e => q v' d' H' g i' r (e ▸ hd)
end
/-! ### O. plain through and through -/
mutual
def pl : Dt → Bool
  | .lst xs => plA xs
  | .tup xs => plA xs
  | .ins _ _ _ => false
  | .raw _ => false
  | .lat _ _ => false
  | .err _ _ _ => false
  | .dct _ _ => false
  | .dti _ _ _ => false
  | .dat _ _ _ _ => false
  | .cel _ _ => false
  | _ => true
def plA : List Dt → Bool
  | [] => true
  | x :: xs => pl x && plA xs
end
theorem pl_okN {d : Dt} (h : pl d = true) : okN d = true := by
  cases d with
  | ins => simp [pl] at h
  | raw => simp [pl] at h
  | lat => simp [pl] at h
  | err => simp [pl] at h
  | dct => simp [pl] at h
  | dti => simp [pl] at h
  | dat => simp [pl] at h
  | cel => simp [pl] at h
  | _ => rfl
theorem plA_all : ∀ {xs : List Dt}, plA xs = true ↔ ∀ x ∈ xs, pl x = true
  | [] => by simp [plA]
  | x :: xs => by simp [plA, plA_all]
theorem pl_tup {xs : List Dt} (h : pl (.tup xs) = true) : ∀ x ∈ xs, pl x = true := plA_all.mp (by simpa [pl] using h)
end Bf
namespace Bf
open PySem PySem.Spec PyProof.Rows L2
/-! ## Lists that are changed within loops -/
section
variable {K : PySem.W.Frag} {S S0 S1 SB SF : Sta} {L : List Addr} {ρ : List (Option Dt)} {P : Po} {te tl t1 t2 : TE} {w t : TS} {d : Dt} {p q : Addr} {j : Nat} {xs ys : List Dt} {H : Hp} {σ : L2.St}
/-- what holds bears that the list at p is changed -/
def LooseP (S S0 : Sta) (p : Addr) : Prop := ∀ {B H : Hp} {vs : List V} {o : HO}, S0.I B → Gr B H → B p = none → H p = some (.lst vs) → S.I H → S.I (upd H p o)
theorem Loose.at_ (h : Loose S S0) (p : Addr) : LooseP S S0 p := fun i g hp e k => h i g hp e k
/-- d is not touched where the list at p is changed -/
def offOk (p : Addr) : Dt → Prop
  | .lat q xs => q ≠ p ∧ nolA xs = true
  | d => nol d = true
theorem Rep.offK {v : V} {acc : List V} {o : HO} (hD : H p = some (.lst acc)) (h : offOk p d) (r : Rep K H v d) : Rep K (upd H p o) v d := by
  cases d with
  | lat q xs =>
    obtain ⟨rfl, vs, e, ra⟩ := r.latI
    exact .lat (by rw [upd_ne h.1]; exact e) (ra.off hD h.2)
  | _ => exact r.off hD h
def Offs (p : Addr) (ρ : List (Option Dt)) (j : Nat) : Prop := ∀ (i : Nat) (d : Dt), i ≠ j → ρ[i]? = some (some d) → offOk p d
/-- slot by slot -/
def offL (p : Addr) (j : Nat) : Nat → List (Option Dt) → Prop
  | _, [] => True
  | n, o :: r => (n ≠ j → ∀ d, o = some d → offOk p d) ∧ offL p j (n + 1) r
theorem offs_of : ∀ {ρ : List (Option Dt)} {n : Nat}, offL p j n ρ → ∀ (i : Nat) (d : Dt), i + n ≠ j → ρ[i]? = some (some d) → offOk p d
  | [], _, _, i, d, _, e => by simp at e
  | o :: r, n, h, 0, d, hi, e => h.1 (by omega) d (by simpa using e)
  | o :: r, n, h, i + 1, d, hi, e => offs_of h.2 i d (by omega) (by simpa using e)
theorem Offs.mk (h : offL p j 0 ρ) : Offs p ρ j := fun i d hi e => offs_of h i d (by omega) e
theorem slots_offK {vs us : List V} (s : Slots K H σ ρ) (hj : ρ[j]? = some (some (.lat p xs))) (hn : Offs p ρ j) (hp : H p = some (.lst vs)) (r : RepA K (upd H p (.lst us)) us ys) : Slots K (upd H p (.lst us)) σ (ρ.set j (some (.lat p ys))) := by
  refine ⟨by rw [List.length_set]; exact s.len, fun i d h => ?_⟩
  by_cases hij : j = i
  · subst hij
    have hl : j < ρ.length := (List.getElem?_eq_some_iff.mp hj).1
    rw [List.getElem?_set_self hl] at h
    cases h
    obtain ⟨v, hv, rv⟩ := s.val j _ hj
    obtain ⟨rfl, _⟩ := rv.latI
    exact ⟨_, hv, .lat upd_same r⟩
  · rw [List.getElem?_set_ne hij] at h
    obtain ⟨v, hv, rv⟩ := s.val i d h
    exact ⟨v, hv, rv.offK hp (hn i d (Ne.symm hij) h)⟩
/-- the list at p is changed -/
theorem sg_put {D : Ends} {B : Hp} {vs us : List V} (hL : p ∈ L) (hlo : LooseP S SB p) (hj : ρ[j]? = some (some (.lat p xs))) (hn : Offs p ρ j) (b : Bs SB L B H) (i : S.I H) (s : Slots K H σ ρ) (f : Ft K SF P D B) (hp : H p = some (.lst vs)) (r : RepA K (upd H p (.lst us)) us ys)
    (k : Sg K S SB SF L w (ρ.set j (some (.lat p ys))) P) : w D σ (upd H p (.lst us)) :=
  k D σ B _ ⟨gr_off b.gr (b.new p hL), b.i, b.new⟩ (hlo b.i b.gr (b.new p hL) hp i) (slots_offK s hj hn hp r) f
/-- xs.append(e) -/
theorem so_appP (hL : p ∈ L) (hlo : LooseP S SB p) (hj : ρ[j]? = some (some (.lat p xs))) (hx : nolA xs = true) (hn : Offs p ρ j) (hz : xs.length < 100000) (h : Ev K S S ρ te (Eq d)) (hd : nol d = true)
    (k : Sg K S SB SF L w (ρ.set j (some (.lat p (xs ++ [d])))) P) : Sg K S SB SF L (tSeq (tDrop (tBM K "list" rAppend (tVar j) (tCons te tNil))) w) ρ P := fun D σ B H b i s f => by
  obtain ⟨v, hv, rv⟩ := s.val j _ hj
  obtain ⟨rfl, vs, hp, ra⟩ := rv.latI
  refine ⟨.ref p, hv, .inl ⟨rfl, _, SqL.of hp⟩, h σ H i s _ fun u d' H1 g1 i1 r1 e => ?_⟩
  subst e
  have hp1 : H1 p = some (.lst vs) := g1 _ _ hp rfl
  have ra1 := ra.mono g1
  refine ⟨p, vs, u, rfl, rfl, hp1, by rw [ra1.len]; exact Nat.lt_of_lt_of_le hz (by decide), ?_⟩
  exact sg_put (w := w) (D := D) hL hlo hj hn (b.up g1) i1 (s.mono g1) f hp1 ((ra1.off hp1 hx).app (.cons (r1.off hp1 hd) .nil)) k
theorem RepA.setI {vs : List V} {ds : List Dt} (r : RepA K H vs ds) {i : Nat} {v : V} {d : Dt} (rv : Rep K H v d) : RepA K H (vs.set i v) (ds.set i d) := by
  induction ds generalizing vs i with
  | nil => cases r; exact .nil
  | cons x xs ih =>
    cases r with
    | cons r0 ra =>
      cases i with
      | zero => exact .cons rv ra
      | succ i => exact .cons r0 (ih ra)
/-! ### loops in which loose lists are changed -/
theorem SqT.offP {a : Addr} {vs ws : List V} {o : HO} (hD : H p = some (.lst ws)) (q : SqT K H a vs) : SqT K (upd H p o) a vs := by
  rcases q with (q | ⟨o', q⟩) | q
  · exact .inl (.inl (upd_other hD q fun _ z => nomatch z))
  · exact .inl (.inr ⟨o', upd_other hD q fun _ z => nomatch z⟩)
  · exact .inr q
end
end Bf
namespace Bf
open PySem PySem.Spec PyProof.Rows L2
/-! ## a tuple times 0 or 1 -/
theorem mul_zero (l : Addr) (items : Array Value) (n : Nat) (dd : Option Addr) (sl : Array (Option Value)) (u : Tok) (hi : items.isEmpty = false) :
    Meets (Builtin.«tuple.__mul__» ⟨[.ref l, .int 0 u], []⟩) (fun _ R s => s.heap.get? l = some { cls := .type "tuple", dict := dd, data := .seq items n, slots := sl } ∧ R (.ok (.ret (Value.ref s.heap.objs.size))) { s with heap := s.heap.push { cls := Value.type "tuple", data := Data.seq #[] }, toks := s.toks }) :=
  .of_wp fun prog w A R s h => by
    obtain ⟨hp, g, d, tk, os⟩ := s
    obtain ⟨hl, h⟩ := h
    have f1 := AutoSeq1.idx_int
    have c0 : (decide ((0 : Int) < -(2 ^ 63)) || decide ((0 : Int) ≥ 2 ^ 63)) = false := by decide
    have c1 : (items.isEmpty || (0 : Int) == 1) = false := by rw [hi]; rfl
    have c2 : (decide ((0 : Int) ≤ 0) || items.isEmpty) = true := by rw [hi]; rfl
    wp_walk using wpAny_loadPart' hl
    repeat (first
      | (refine wpAny_ite_false (decide_eq_false (by rw [c0]; exact Bool.false_ne_true)) ?_; wp_walk using wpAny_loadPart' hl)
      | (refine wpAny_ite_false (decide_eq_false (by rw [c1]; exact Bool.false_ne_true)) ?_; wp_walk using wpAny_loadPart' hl)
      | (refine wpAny_ite_true (decide_eq_true c2) ?_; wp_walk using wpAny_loadPart' hl))
    exact ⟨_, rfl, h⟩
end Bf
namespace Bf
open PySem PySem.Spec PyProof.Rows L2
/-! ## Promises by a relation -/
section
variable {K : PySem.W.Frag} {S S1 S2 SB SF : Sta} {L : List Addr} {ρ : List (Option Dt)} {P : Po} {te tl : TE} {w t : TS} {d : Dt} {j : Nat} {vs : List Nat} {xs : List Dt}
def spR (K : PySem.W.Frag) (n : Nat) (R : List Dt → Dt → Prop) : Sp := fun vs H Q _ => ∃ ds d, RepA K H vs ds ∧ ds.length = n ∧ R ds d ∧ ∀ v H', Same H H' → Rep K H' v d → Q v H'
theorem ev_callR {t : TA} {ds : List Dt} {n : Nat} {R : List Dt → Dt → Prop} {E : XK} (ha : EvA K S S1 ρ t (Eq ds)) (hn : ds.length = n) (hp : R ds d) : Ev K S S1 ρ (tCall (spR K n R) [] E t) (Eq d) := fun σ H i s Q q =>
  ha σ H i s _ fun vs ds' H1 g1 i1 r1 p1 => by
    subst p1
    rw [List.append_nil]
    exact ⟨ds, d, r1, hn, hp, fun v H2 sm r => q v _ H2 (g1.trans sm.gr) (S1.st i1 sm) r rfl⟩
theorem okR {P : Program} {w : World} {mg : Str → Option Value} {base : Heap} {x qual : Str} {st : Stmt} {f : Addr} {fd : FuncData} {N ps : List Str} {k : Nat} {R : List Dt → Dt → Prop} (Fu : Fun K x qual st f fd) (Sc : FnScope N ps (defScope st))
    (hb : ∀ (cdv : Value) (A : Around) (out : List Env) (s : Shared) (H : Hp) (E : XK), Room k (A.deeper (envOfC qual (defScope st) s.heap.objs.size f cdv)) → A.guards = some [] →
      ∃ t, PSs (cxOf (L2.CX P w) P w K mg base N qual (defScope st) f cdv A out s H E).nox (defBody st) t ∧ ∀ (S : Sta), S.Mu → ∀ (ds : List Dt) (d : Dt), ds.length = ps.length → R ds d → So K S S [] t (startD N.length ds) { nx := fun _ => d = .non, rt := Eq d }) :
    GOk P w K mg base (k + 1) f fd ps (spR K ps.length R) := by
  refine okG Fu Sc (fun vs H Q E h => ?_) fun cdv A out s H vs Q E hr hg h => ?_
  · obtain ⟨ds, d, r, hl, _⟩ := h
    exact r.len.trans hl
  · obtain ⟨ds, d, r, hl, hp, q⟩ := h
    obtain ⟨t, ht, so⟩ := hb cdv A out s H E hr hg
    refine ⟨t, ht.nox, so (staSame H) staSame_mu ds d hl hp _ _ H H ⟨Gr.refl H, Same.refl H, fun _ z => nomatch z⟩ (Same.refl H) (slots_start r) ⟨fun σ ρ H' g i s' e => ?_, fun v d' H' g i r' e => ?_, fun _ _ _ _ _ _ z => z.elim, fun _ _ _ _ _ _ z => z.elim⟩⟩
    · exact q _ H' i ((show d = .non from e) ▸ .non)
    · exact q v H' i ((show d = d' from e) ▸ r')
end
end Bf
namespace Bf
open PySem PySem.Spec PyProof.Rows L2
/-! ## raise C(e), C an own error with a field -/
/-- what is known of the class at C, by the name x -/
structure BadCls (prog : Program) (K : PySem.W.Frag) (mg : Str → Option Value) (x f : Str) (C fI : Addr) : Prop where
  T : BadTxt prog K f C fI
  gC : mg x = some (.ref C)
  kC : PySem.W.keepIn K (.ref C) = true
  exC : PySem.W.subIn K (.ref C) (.type "BaseException") = some true
  tyC : PySem.W.typeIn K (.ref C) = some (.type "type")
  ga : PySem.W.findIn K (.ref C) "__getattribute__" = some (some (.builtin "BaseException.__getattribute__"))
  gg : PySem.W.findIn K (.ref C) "__getattr__" = some none
  hdC : PySem.W.hasDictIn K C = true
  te : PySem.W.exmOne K (.ref C) (.ref C) = some true
  ms : mg "super" = none
  top : (prog.main.scope.names.lookup ("super" : Str)).isSome = false
  fn : f ≠ "self" ∧ f ≠ "super" ∧ f ≠ "__class__" ∧ f ≠ "__debug__"
theorem relO_one {f : Str} {v : V} {v' : Value} (r : RelV v v') (g : Str) : RelO (List.lookup g [(f, v)]) (if g = f then some v' else none) := by
  by_cases h : g = f
  · subst h
    rw [if_pos rfl]
    have q : List.lookup g [(g, v)] = some v := by simp [List.lookup]
    rw [q]
    exact r
  · rw [if_neg h]
    have q1 : (g == f) = false := by simpa using h
    have q2 : List.lookup g [(f, v)] = none := by simp [List.lookup, q1]
    rw [q2]
    trivial
section
variable {X : Cx} {C fI : Addr} {x f : Str}
def tMkB (C : Addr) (f : Str) (ta : TA) : L2.St → Hp → XK → Prop := fun σ H Q => ta σ H fun vs H1 => ∃ v, vs = [v] ∧ ∀ d, H1 d = none → Q (.ref C) (some d) (upd H1 d (.xd [(f, v)]))
theorem pmk_bad {a : Expr} {ta : TA} {p pos : Pos} {k : Nat} (T : BadCls X.prog X.K X.mg x f C fI) (hr : Room k X.A) (ha : PA X [a] ta) (hg : Gl X x := by rfl) (hdb : (x == ("__debug__" : Str)) = false := by decide)
    (he : starEach (a :: []) X.env = (false, eval a X.env) :: starEach [] X.env := by rfl) (hpl : (backTo pos (starEach [] X.env)).any (·.1) = false := by rfl) :
    PMk X (.Call (.Name x p) [a] [] pos) (tMkB C f ta) := by
  intro pins s σ H Q I h
  refine wpAny_Call_Name_kw (ld_glob I hg T.gC ?_ hdb)
  refine PySem.W.callWith_K (h₀ := X.base) I.ok.mod.kin T.kC (thn (ha.run pos pins s σ H _ I h) fun us s1 hh => ?_) he hpl
  obtain ⟨vs, H1, I1, r1, v, rfl, q1⟩ := hh
  refine ⟨I1.kIn, ?_⟩
  obtain ⟨u, rfl, ru⟩ := r1.one
  show wpAny _ _ (call (.ref C) [u]) _ _ _
  have hlim := I1.nolimit
  obtain ⟨mb, hb1, hb2⟩ := I1.mod.blt
  have hg1 := I1.mod.glob.keeps I1.bk
  have hb3 := hb1.keeps I1.bk
  obtain ⟨hp, g, dr, tk, os⟩ := s1
  refine wpAny_call (bad_made T.T I1.kIn hlim hg1 hb3 T.ms ((hb2 _ (by decide)).trans (by first | rfl | decide +kernel)) T.top T.fn (by have := hr.dp; omega) fun h' tk' e d M => ?_)
  show MkP X pins σ Q (.ref e) ⟨h', g, dr, tk', os⟩
  obtain ⟨t1, hoe⟩ := M.obj
  obtain ⟨G', g1, g2⟩ := restrict h' fun b => decide (b ≠ e)
  have gk : ∀ b, b ≠ e → G'.get? b = h'.get? b := fun b hb => g1 b (decide_eq_true hb)
  have ge : G'.get? e = none := g2 e (by simp)
  have old : ∀ b o, hp.get? b = some o → G'.get? b = some o := fun b o q => (gk b (Nat.ne_of_lt (Nat.lt_of_lt_of_le (Heap.lt_size q) M.new))).trans (M.keep b o q)
  have ob : ObjOk X.prog X.w (upd H1 d (.xd [(f, v)])) G' d (.xd [(f, v)]) := ⟨_, M.ns.at (fun o q => (gk d M.dne).trans q), fun y => relO_one ru y⟩
  have J : Inv X pins σ (upd H1 d (.xd [(f, v)])) ⟨G', g, dr, tk', os⟩ := I1.laid (t' := tk') old M.dbig ob
  refine ⟨e, _, _, ⟨G', g, dr, tk', os⟩, _, .ref C, some d, rfl, J, fun b o q => ?_, ge, hoe, ⟨rfl, rfl⟩, rfl, rfl, ?_, rfl, I1.bare, raises_own T.exC T.tyC, q1 d (I1.hok.fresh M.dbig)⟩
  · by_cases hb : b = e
    · have q' : G'.get? b = some o := q
      rw [hb, ge] at q'
      cases q'
    · exact (gk b hb).symm.trans q
  · rw [upd_ne (Ne.symm M.dne)]
    exact I1.hok.fresh M.new
/-- raise C(e) -/
def tRaiseB (C : Addr) (f : Str) (W : WX) (ta : TA) : TS := fun _ σ H => tMkB C f ta σ H fun cls d H' => W cls d σ H'
theorem ps_raiseB {a : Expr} {ta : TA} {W : WX} {p pos pos2 : Pos} {k : Nat} (hc : X.calm = true) (T : BadCls X.prog X.K X.mg x f C fI) (hr : Room k X.A) (tk : Takes X W) (ha : PA X [a] ta) (hg : Gl X x := by rfl) (hdb : (x == ("__debug__" : Str)) = false := by decide)
    (he : starEach (a :: []) X.env = (false, eval a X.env) :: starEach [] X.env := by rfl) (hpl : (backTo pos (starEach [] X.env)).any (·.1) = false := by rfl) :
    PS X (.Raise (some (.Call (.Name x p) [a] [] pos)) none pos2) (tRaiseB C f W ta) := ps_raise hc tk (pmk_bad T hr ha hg hdb he hpl)
end
end Bf
namespace Bf
open PySem PySem.Spec PyProof.Rows L2
/-! ## Defs that raise, over data -/
section
variable {X : Cx} {k : Nat} {f : Addr} {fd : FuncData} {ps : List Str} {sp : Sp} {E : L2.St → XK} {x : Str} {p pos : Pos} {e : Expr} {es : List Expr} {t : TA}
/-- f(e, ..) in a try: what f lets out goes by the slots as they stand -/
theorem pe_gS (G : GOk X.prog X.w X.K X.mg X.base k f fd ps sp) (hb : BPos fd ps) (hm : X.mg x = some (.ref f)) (hk : PySem.W.keepIn X.K (.ref f) = true) (hr : Room k X.A) (hgd : X.A.guards = some []) (hx : ∀ σ, PassesAt (L2.CX X.prog X.w) X σ (E σ)) (ha : PA X (e :: es) t)
    (hg : Gl X x := by rfl) (hdb : (x == ("__debug__" : Str)) = false := by decide) (he : starEach (e :: es) X.env = (false, eval e X.env) :: starEach es X.env := by rfl) (hpl : (backTo pos (starEach es X.env)).any (·.1) = false := by rfl) :
    PE X (.Call (.Name x p) (e :: es) [] pos) (tCallS sp E t) := by
  refine ⟨fun pins s σ H Q I h => wpAny_Call_Name_kw (ld_glob I hg hm ?_ hdb)⟩
  refine PySem.W.callWith_K (h₀ := X.base) I.ok.mod.kin hk (thn (ha.run pos pins s σ H _ I h) fun us s1 ⟨vs, H1, I1, r, q⟩ => ⟨I1.kIn, ?_⟩) he hpl
  show wpAny _ _ (call (.ref f) us) _ _ _
  refine wpAny_call (codeAny_mono (G.go X.A X.stack s1 H1 ⟨us, []⟩ us vs Q (E σ) hr hgd I1.env0 (hb s1 us (r.length.symm.trans (G.len _ _ _ _ q))) r q) fun r' s' hq => ?_)
  match r', hq with
  | .error er, hq => exact hx σ pins H1 s1 er s' I1 hq
  | .ok (.ret u), hq => exact I1.after hq
  | .ok .next, hq => exact hq.elim
  | .ok .brk, hq => exact hq.elim
  | .ok .cont, hq => exact hq.elim
end
/-- what a call comes to -/
inductive Out where
  | ok (d : Dt)
  | er (C : Addr) (f : Str) (d : Dt)
def spX (K : PySem.W.Frag) (n : Nat) (R : List Dt → Out → Prop) : Sp := fun vs H Q E => ∃ ds o, RepA K H vs ds ∧ ds.length = n ∧ R ds o ∧ match o with
  | .ok d => ∀ v H', Same H H' → Rep K H' v d → Q v H'
  | .er C f d => ∀ a v H', Same H H' → H' a = some (.xd [(f, v)]) → Rep K H' v d → E (.ref C) (some a) H'
/-- E takes the error -/
def XW (K : PySem.W.Frag) (S : Sta) (C : Addr) (f : Str) (d : Dt) (E : XK) : Prop := ∀ a v H', S.I H' → H' a = some (.xd [(f, v)]) → Rep K H' v d → E (.ref C) (some a) H'
def PO : Out → Po
  | .ok d => { nx := fun _ => d = .non, rt := Eq d }
  | .er _ _ _ => {}
section
variable {K : PySem.W.Frag} {S S1 S2 SB SF : Sta} {L : List Addr} {ρ : List (Option Dt)} {P : Po} {te ta tb : TE} {tt : TT} {w t u : TS} {tl : TA} {d : Dt} {j n : Nat} {ds : List Dt} {R : List Dt → Out → Prop} {E : XK} {C : Addr} {f : Str}
theorem okX {Pg : Program} {w : World} {mg : Str → Option Value} {base : Heap} {x qual : Str} {st : Stmt} {g : Addr} {fd : FuncData} {N ps : List Str} {k : Nat} (Fu : Fun K x qual st g fd) (Sc : FnScope N ps (defScope st))
    (hb : ∀ (cdv : Value) (A : Around) (out : List Env) (s : Shared) (H : Hp) (E : XK), Room k (A.deeper (envOfC qual (defScope st) s.heap.objs.size g cdv)) → A.guards = some [] →
      ∃ t, PSs (cxOf (L2.CX Pg w) Pg w K mg base N qual (defScope st) g cdv A out s H E) (defBody st) t ∧ ∀ (S : Sta), S.Mu → ∀ (ds : List Dt) (o : Out), ds.length = ps.length → R ds o → (∀ C f d, o = .er C f d → XW K S C f d E) → So K S S [] t (startD N.length ds) (PO o)) :
    GOk Pg w K mg base (k + 1) g fd ps (spX K ps.length R) := by
  refine okG Fu Sc (fun vs H Q E h => ?_) fun cdv A out s H vs Q E hr hg h => ?_
  · obtain ⟨ds, o, r, hl, _⟩ := h
    exact r.len.trans hl
  · obtain ⟨ds, o, r, hl, hp, q⟩ := h
    obtain ⟨t, ht, so⟩ := hb cdv A out s H E hr hg
    have hw : ∀ C f d, o = .er C f d → XW K (staSame H) C f d E := fun C f d e a v H' i ha rv => by
      subst e
      exact q a v H' i ha rv
    refine ⟨t, ht, so (staSame H) staSame_mu ds o hl hp hw _ _ H H ⟨Gr.refl H, Same.refl H, fun _ z => nomatch z⟩ (Same.refl H) (slots_start r) ⟨fun σ ρ H' g i s' e => ?_, fun v d' H' g i r' e => ?_, fun σ ρ H' g i s' e => ?_, fun σ ρ H' g i s' e => ?_⟩⟩
    · cases o with
      | ok d => exact q _ H' i ((show d = .non from e) ▸ .non)
      | er => exact (show False from e).elim
    · cases o with
      | ok d => exact q v H' i ((show d = d' from e) ▸ r')
      | er => exact (show False from e).elim
    · cases o <;> exact (show False from e).elim
    · cases o <;> exact (show False from e).elim
/-- f(..) that comes back -/
theorem ev_callX (ha : EvA K S S1 ρ tl (Eq ds)) (hn : ds.length = n) (hp : R ds (.ok d)) : Ev K S S1 ρ (tCall (spX K n R) [] E tl) (Eq d) := fun σ H i s Q q =>
  ha σ H i s _ fun vs ds' H1 g1 i1 r1 p1 => by
    subst p1
    rw [List.append_nil]
    exact ⟨ds, .ok d, r1, hn, hp, fun v H2 sm r => q v _ H2 (g1.trans sm.gr) (S1.st i1 sm) r rfl⟩
theorem ev_callXS {Es : L2.St → XK} (ha : EvA K S S1 ρ tl (Eq ds)) (hn : ds.length = n) (hp : R ds (.ok d)) : Ev K S S1 ρ (tCallS (spX K n R) Es tl) (Eq d) := fun σ H i s Q q =>
  ha σ H i s _ fun vs ds' H1 g1 i1 r1 p1 => by
    subst p1
    exact ⟨ds, .ok d, r1, hn, hp, fun v H2 sm r => q v _ H2 (g1.trans sm.gr) (S1.st i1 sm) r rfl⟩
/-- te raises, whatever is wished of its value -/
def EvR (K : PySem.W.Frag) (S : Sta) (ρ : List (Option Dt)) (te : TE) : Prop := ∀ (σ : L2.St) (H : Hp), S.I H → Slots K H σ ρ → ∀ Q : VK, te σ H Q
def EvRT (K : PySem.W.Frag) (S : Sta) (ρ : List (Option Dt)) (t : TT) : Prop := ∀ (σ : L2.St) (H : Hp), S.I H → Slots K H σ ρ → ∀ Q : Bool → Hp → Prop, t σ H Q
theorem er_callX (ha : EvA K S S1 ρ tl (Eq ds)) (hn : ds.length = n) (hp : R ds (.er C f d)) (hw : XW K S1 C f d E) : EvR K S ρ (tCall (spX K n R) [] E tl) := fun σ H i s Q =>
  ha σ H i s _ fun vs ds' H1 g1 i1 r1 p1 => by
    subst p1
    rw [List.append_nil]
    exact ⟨ds, .er C f d, r1, hn, hp, fun a v H2 sm ea rv => hw a v H2 (S1.st i1 sm) ea rv⟩
theorem er_B (h : EvR K S ρ ta) : EvRT K S ρ (tB ta) := fun σ H i s Q => h σ H i s _
theorem er_not {c : TT} (h : EvRT K S ρ c) : EvRT K S ρ (tNot c) := fun σ H i s Q => h σ H i s _
theorem so_dropR (h : EvR K S ρ te) : Sg K S SB SF L (tSeq (tDrop te) w) ρ P := fun D σ B H b i s ft => h σ H i s _
theorem so_set0R {g : TG} (h : EvR K S ρ te) : Sg K S SB SF L (tAsg te g) ρ P := fun D σ B H b i s ft => h σ H i s _
/-- raise C(e) -/
theorem so_raiseB (h : Ev K S S1 ρ te (Eq d)) (hw : XW K S1 C f d E) : Sg K S SB SF L (tRaiseB C f (fun cls d _ H => E cls d H) (tCons te tNil)) ρ P := fun D σ B H b i s ft =>
  h σ H i s _ fun v d' H1 g1 i1 r1 e => by
    subst e
    exact ⟨v, rfl, fun a ha => hw a v _ (S1.st i1 (same_new ha)) upd_same (r1.mono (same_new ha).gr)⟩
theorem so_raise1B (h : Ev K S S1 ρ te (Eq d)) (hw : XW K S1 C f d E) : Sg K S SB SF L (tSeq (tRaiseB C f (fun cls d _ H => E cls d H) (tCons te tNil)) w) ρ P := fun D σ B H b i s ft =>
  h σ H i s _ fun v d' H1 g1 i1 r1 e => by
    subst e
    exact ⟨v, rfl, fun a ha => hw a v _ (S1.st i1 (same_new ha)) upd_same (r1.mono (same_new ha).gr)⟩
/-! ### try .. except C as n -/
theorem Slots.none_ {H : Hp} {σ : L2.St} (s : Slots K H σ ρ) (j : Nat) : Slots K H (σ.set j none) (ρ.set j none) := by
  refine ⟨by rw [List.length_set, List.length_set]; exact s.len, fun i d h => ?_⟩
  by_cases hij : j = i
  · subst hij
    by_cases hl : j < ρ.length
    · rw [List.getElem?_set_self hl] at h
      cases h
    · rw [List.getElem?_eq_none (by rw [List.length_set]; omega)] at h
      cases h
  · rw [List.getElem?_set_ne hij] at h
    obtain ⟨v, hv, rv⟩ := s.val i d h
    exact ⟨v, by rw [List.getElem?_set_ne hij]; exact hv, rv⟩
variable {c : Value} {i : Nat} {tw : WX → TS} {ts : Addr → Value → Option Addr → TS} {Wout : WX}
/-! at one place: what is wished plays no part -/
section
variable {σ : L2.St} {H : Hp} {D : Ends}
theorem pr_callS {Es : L2.St → XK} (hi : S.I H) (hs : Slots K H σ ρ) (ha : EvA K S S1 ρ tl (Eq ds)) (hn : ds.length = n) (hp : R ds (.er C f d)) (hw : ∀ a v H', Gr H H' → S1.I H' → H' a = some (.xd [(f, v)]) → Rep K H' v d → Es σ (.ref C) (some a) H') (Q : VK) : tCallS (spX K n R) Es tl σ H Q :=
  ha σ H hi hs _ fun vs ds' H1 g1 i1 r1 e => by
    subst e
    exact ⟨ds, .er C f d, r1, hn, hp, fun a v H2 sm ea rv => hw a v H2 (g1.trans sm.gr) (S1.st i1 sm) ea rv⟩
theorem pr_drop (h : ∀ Q, te σ H Q) : (tDrop te) D σ H := h _
end
end
end Bf
namespace Bf
open PySem PySem.Spec PyProof.Rows L2
/-! ## try .. except C as n, and except (C, D, ..) as n: the error that was caught is kept as a value -/
theorem errO_ok {P : Program} {w : World} {H : Hp} {h : Heap} {a : Addr} {cls : Value} {d : Option Addr} {oe : Obj} (e : h.get? a = some oe) (z : Zc cls d oe) (hv : ∃ vs, oe.data = .fields vs) : ObjOk P w H h a (ErrO cls d a) :=
  ⟨⟨oe, e, z, hv⟩, ⟨oe, e⟩, fun _ _ ⟨o, x1, x2, x3⟩ k => ⟨o, k o x1, x2, x3⟩⟩
section
variable {X : Cx} {pins pn' : List (Addr × Obj)} {σ : L2.St} {H : Hp} {s : Shared}
/-- the suite's error is tracked from now on -/
theorem inv_unsuiteK {a : Addr} {oe : Obj} {cls : Value} {d : Option Addr} (I : Inv (X.suite a ((a, oe) :: (X.pn ++ pins))) pn' σ H s) (ok : X.Ok) (z : Zc cls d oe) (hv : ∃ vs, oe.data = .fields vs) (n0 : X.s_0.heap.get? a = none) (np : ∀ p ∈ X.pn ++ pins, p.1 ≠ a) :
    Inv X pins σ (upd H a (ErrO cls d a)) s := by
  obtain ⟨ha, na, nL, nF, nC⟩ := I.pin (a, oe) (List.mem_append_left _ List.mem_cons_self)
  have ne0 : ∀ b o, X.s_0.heap.get? b = some o → b ≠ a := fun b o e q => by rw [q, n0] at e; cases e
  have nn : ∀ {b : Addr} {o : HO}, H b = some o → b ≠ a := fun e => ne_of_none e na
  refine ⟨ok, I.os, I.bare, ⟨I.base.keep, I.base.slot, fun b o e n q => ?_, I.base.there, fun b xs e => ?_, fun b o u e => ?_, fun b ps e => ?_⟩, I.loc, I.cell, ?_, fun x c e => ?_, fun p hp => ?_, fun b u e => ?_, I.len⟩
  · rw [upd_ne (ne0 b o e)]
    exact I.base.free b o e n q
  · have q := I.base.tups b xs e
    rw [upd_ne (nn q)]
    exact q
  · have q := I.base.frzs b o u e
    rw [upd_ne (nn q)]
    exact q
  · obtain ⟨m, q⟩ := I.base.tbls b ps e
    exact ⟨m, by rw [upd_ne (nn q)]; exact q⟩
  · rw [upd_ne (Ne.symm nL)]
    exact I.free
  · have hca : c ≠ a := fun q => by
      obtain ⟨v, o, ho, hd⟩ := I.cell x c e
      rw [q, ha] at ho
      cases ho
      exact nC v hd
    rw [upd_ne hca]
    exact I.freeC x c e
  · obtain ⟨e1, e2, e3⟩ := I.pin p (List.mem_append_left _ (List.mem_cons_of_mem _ hp))
    exact ⟨e1, by rw [upd_ne (np p hp)]; exact e2, e3⟩
  · by_cases hb : b = a
    · subst hb
      rw [upd_same] at e
      cases e
      exact errO_ok ha z hv
    · rw [upd_ne hb] at e
      exact (I.hok b u e).stay (fun _ _ _ q => q) (fun c q => by rw [upd_ne (nn q)]; exact q) fun c xs q => by rw [upd_ne (nn q)]; exact q
end
/-! ### what the clause names -/
section
variable {M : Model} {K : PySem.W.Frag}
theorem exm_tupN {cs : List Value} {cls : Value} {tp e : Addr} {b : Bool} {h : Heap} (X : K.In h) (LT : PySem.W.Looks M h (typeOf (.ref e)) cls) (hp : h.get? tp = some { cls := .type "tuple", data := .seq cs.toArray }) (hx : PySem.W.exmAny K cls cs = some b) :
    PySem.W.Looks M h (excMatches (.ref e) (.ref tp)) b := by
  intro A Q E s k₀ q
  obtain ⟨hh, g, d, tk, os⟩ := s
  have k : ∀ b o, h.get? b = some o → hh.get? b = some o := k₀
  have LT0 : PySem.W.Looks M h (isInstance (.ref tp) (.type "tuple")) true := ((PySem.W.Looks.ld hp).andThen .now).andThen (PySem.W.Looks.of_pure isSubtype_tuple_tuple)
  have one : ∀ (f : Value → PUnit → Sem (ForInStep PUnit)), (∀ c A E (Q : ForInStep PUnit → Shared → Prop), PySem.W.Looks M h (isExcClass c) true → Q (.yield PUnit.unit) ⟨hh, g, d, tk, os⟩ → wpAny M A (f c PUnit.unit) Q E ⟨hh, g, d, tk, os⟩) →
      ∀ (l : List Value) (b : Bool), PySem.W.exmAny K cls l = some b → ∀ {Q : PUnit → Shared → Prop} {E : Value → Shared → Prop} {A : Around}, Q PUnit.unit ⟨hh, g, d, tk, os⟩ → wpAny M A (forIn l PUnit.unit f) Q E ⟨hh, g, d, tk, os⟩ := by
    intro f hf l
    induction l with
    | nil =>
      intro b hb Q E A q
      rw [List.forIn_nil]
      exact wpAny_pure q
    | cons c r ih =>
      intro b hb Q E A q
      obtain ⟨b1, d1, x1, y1, z1⟩ := PySem.W.exmAny_cons hb
      rw [List.forIn_cons]
      exact wpAny_bind (hf c A E _ (PySem.W.exm_cls (M := M) X x1).1 (ih d1 y1 q))
  have two : ∀ (f : Value → Option Bool × Unit → Sem (ForInStep (Option Bool × Unit))), (∀ c v A E (Q : ForInStep (Option Bool × Unit) → Shared → Prop), PySem.W.Looks M h (isSubtype cls c) v → Q (if v = true then .done (some true, ()) else .yield (none, ())) ⟨hh, g, d, tk, os⟩ → wpAny M A (f c (none, ())) Q E ⟨hh, g, d, tk, os⟩) →
      ∀ (l : List Value) (b : Bool), PySem.W.exmAny K cls l = some b → ∀ {A : Around} {E : Value → Shared → Prop} {Q : Option Bool × Unit → Shared → Prop}, (∀ o, o = (if b = true then some true else none) → Q (o, ()) ⟨hh, g, d, tk, os⟩) → wpAny M A (forIn l (none, ()) f) Q E ⟨hh, g, d, tk, os⟩ := by
    intro f hf l
    induction l with
    | nil =>
      intro b hb A E Q q
      cases (show some false = some b from hb)
      rw [List.forIn_nil]
      exact wpAny_pure (q none rfl)
    | cons c r ih =>
      intro b hb A E Q q
      obtain ⟨b1, d1, x1, y1, z1⟩ := PySem.W.exmAny_cons hb
      rw [List.forIn_cons]
      refine wpAny_bind (hf c b1 A E _ (PySem.W.exm_cls (M := M) X x1).2 ?_)
      subst z1
      cases b1 with
      | true => exact wpAny_pure (q _ rfl)
      | false => exact ih d1 y1 q
  have LT0' := LT0.keeps k
  have LTk := LT.keeps k
  unfold excMatches
  refine wpAny_bind (LT0'.at ?_)
  dsimp only
  rw [if_pos rfl]
  have hp' := k _ _ hp
  first
    | refine wpAny_bind (wpAny_seqItems hp' rfl ?_)
    | refine wpAny_bind (wpAny_bind (wpAny_seqItems hp' rfl (wpAny_pure ?_)))
  dsimp only [Option.getD_some, Option.getD]
  refine wpAny_bind (wpAny_pure (wpAny_bind (one _ (fun c A E Q hl q => ?_) cs b hx ?_)))
  · refine wpAny_bind ((hl.keeps k).here ?_)
    simp only [Bool.not_true, Bool.false_eq_true, if_false]
    exact wpAny_pure q
  · refine wpAny_bind (LTk.here (wpAny_bind (two _ (fun c v A E Q hl q => ?_) cs b hx fun o ho => ?_)))
    · refine wpAny_bind ((hl.keeps k).here ?_)
      cases v with
      | true => exact wpAny_pure q
      | false => exact wpAny_pure q
    · subst ho
      cases b with
      | true => exact wpAny_pure q
      | false => exact wpAny_pure q
end
/-- the clause's expression names what m knows -/
def CatchT (X : Cx) (t : Expr) (m : Value → Option Bool) : Prop := ∀ (a : Addr) (oe : Obj) (pn : List (Addr × Obj)) (σ : L2.St) (H : Hp) (s : Shared) (cls : Value) (d : Option Addr) (b : Bool) (Q : Bool → Shared → Prop) (E : Value → Shared → Prop),
  Inv (X.suite a ((a, oe) :: pn)) [] σ H s → Zc cls d oe → m cls = some b → (∀ h', (∀ q o, s.heap.get? q = some o → h'.get? q = some o) → Q b { s with heap := h' }) →
  wpAny (model X.prog X.w) (X.A.mark (some (.ref a))) (eval t X.env) (fun c s1 => wpAny (model X.prog X.w) (X.A.mark (some (.ref a))) (excMatches (.ref a) c) Q E s1) E s
section
variable {X : Cx}
theorem lk_cls {a : Addr} {oe : Obj} {pn : List (Addr × Obj)} {σ : L2.St} {H : Hp} {s : Shared} {cls : Value} {d : Option Addr} (I : Inv (X.suite a ((a, oe) :: pn)) [] σ H s) (z : Zc cls d oe) : PySem.W.Looks (model X.prog X.w) s.heap (typeOf (.ref a)) cls :=
  fun A Q E s' k q => wpAny_typeOf_ref (k _ _ (I.pin (a, oe) (List.mem_append_left _ List.mem_cons_self)).1) (by rw [z.1]; exact q)
theorem names_ev {a : Addr} {oe : Obj} {pn : List (Addr × Obj)} {σ : L2.St} {H : Hp} {s : Shared} {E : Value → Shared → Prop} {pos : Pos} (I : Inv (X.suite a ((a, oe) :: pn)) [] σ H s) : ∀ (ns : List (Str × Value × Pos)), (∀ p ∈ ns, Gl X p.1 ∧ X.mg p.1 = some p.2.1 ∧ (p.1 == ("__debug__" : Str)) = false) →
    ∀ {Q : List Value → Shared → Prop}, Q (ns.map (·.2.1)) s → wpAny (model X.prog X.w) (X.A.mark (some (.ref a))) (spliced (backTo pos (starEach (ns.map fun p => Expr.Name p.1 p.2.2) X.env))) Q E s
  | [], _, Q, q => wpAny_items_nil q
  | (x, c, p) :: r, hn, Q, q => by
    obtain ⟨h1, h2, h3⟩ := hn (x, c, p) List.mem_cons_self
    exact wpAny_items_cons (ld_glob (X := X.suite a ((a, oe) :: pn)) I h1 h2 (names_ev I r (fun p hp => hn p (List.mem_cons_of_mem _ hp)) q) h3)
theorem catch_tup {ns : List (Str × Value × Pos)} {ts : List Expr} {k : Nat} {pos : Pos} (hts : ts = ns.map fun p => Expr.Name p.1 p.2.2) (hl : ns.length ≤ sizeLine) (hn : ∀ p ∈ ns, Gl X p.1 ∧ X.mg p.1 = some p.2.1 ∧ (p.1 == ("__debug__" : Str)) = false) :
    CatchT X (.Tuple ts k pos) fun cls => PySem.W.exmAny X.K cls (ns.map (·.2.1)) := by
  intro a oe pn σ H s cls d b Q E I z hb q
  subst hts
  refine wpAny_Tuple (names_ev I ns hn ⟨by rw [List.length_map]; exact hl, ?_⟩)
  have up : ∀ q o, s.heap.get? q = some o → (s.heap.push { cls := .type "tuple", data := .seq (ns.map (·.2.1)).toArray }).get? q = some o := fun _ _ e => Heap.get?_push_of_some _ e
  exact (exm_tupN (I.kIn.keeps up) ((lk_cls I z).keeps up) (Heap.get?_push_size s.heap rfl) hb).here (q _ up)
end
/-! ### the rule -/
def endsK (D : Ends) (i : Nat) (a : Addr) (cls : Value) (d : Option Addr) : Ends :=
  { nx := fun σ' H' => H' a = none → D.nx (σ'.set i none) (upd H' a (ErrO cls d a)), rt := D.rt, bk := fun σ' H' => D.bk (σ'.set i none) H', ct := fun σ' H' => D.ct (σ'.set i none) H' }
/-- what «except t as n» wishes of an error of the body; the error is kept behind it -/
def wKp (m : Value → Option Bool) (i : Nat) (ts : Addr → Value → Option Addr → TS) (Wout : WX) (D : Ends) : WX := fun cls d σ H =>
  ∃ b, m cls = some b ∧ (b = true → ∀ a, H a = none → ts a cls d (endsK D i a cls d) (σ.set i (some (.ref a))) H) ∧ (b = false → Wout cls d σ H)
theorem fly_keeps {B : Heap} {l : List Env} {e : Addr} {Z : Obj → Prop} {h h' : Heap} (R : HandSPX.FlyingZ B l e Z h) (k : ∀ b o, h.get? b = some o → h'.get? b = some o) : HandSPX.FlyingZ B l e Z h' := by
  obtain ⟨x1, x2, x3, oe, us, T, oT, tt, y1, y2, y3, y4, y5, y6, y7, y8⟩ := R
  exact ⟨fun b o q => k b o (x1 b o q), x2, x3.of_keeps fun b o q _ => ⟨o, k b o q, rfl⟩, oe, us, T, oT, tt, k _ _ y1, y2, y3, y4, y5, y6, k _ _ y7, y8⟩
section
variable {X : Cx} {n : Str} {t : Expr} {m : Value → Option Bool} {i : Nat} {body suite : List Stmt} {b₀ : Stmt} {pos pos' : Pos} {tb : WX → TS} {ts : Addr → Value → Option Addr → TS} {Wout : WX}
theorem ps_try_kp (hs : X.stack = X.env :: X.outer) (hf : X.env.frame = some X.env.locals) (hex : X.ex = []) (hN : X.N.Nodup) (hi : X.N[i]? = some n) (hln : X.env.kindOf n = some .local) (hc : CatchT X t m) (tk : Takes X Wout)
    (hb : ∀ (W : WX) (pn : List (Addr × Obj)) (xe : Value → Shared → Prop), Takes (X.tr pn xe) W → PassesOwn (model X.prog X.w) X.A X.env xe → PSs (X.tr pn xe) body (tb W))
    (hsu : ∀ (a : Addr) (oe : Obj) (cls : Value) (d : Option Addr) (pn : List (Addr × Obj)), Zc cls d oe → (∃ vs, oe.data = .fields vs) → PSs (X.suite a ((a, oe) :: pn)) (b₀ :: suite) (ts a cls d)) :
    PS X (.Try body [.ExceptHandler (some t) (some n) (b₀ :: suite) pos'] [] [] pos) (fun D σ H => tb (wKp m i ts Wout D) D σ H) := by
  refine ⟨fun pins s σ H D I h => ?_⟩
  have kk := I.ok
  have frm : X.A.frames = some (X.env :: X.outer) := by rw [kk.frames, hs]
  have lcl : Loc X.env.scope n := .inl hln
  have run := (hb (wKp m i ts Wout D) (X.pn ++ pins) (fun e u => wpAny (model X.prog X.w) X.A (noteFrame e X.env) (fun _ u => wpAny (model X.prog X.w) X.A (setFlight e none) (fun _ u =>
    wpAny (model X.prog X.w) X.A (handleBy e X.env [.ExceptHandler (some t) (some n) (b₀ :: suite) pos']) (SP X pins D) X.xe u) X.xe u) X.xe u) (fun u s' xx => ?_) PassesOwn.looking).run [] s σ H D (I.toTry _) h
  · refine wpAny_Try_except (wpAny_mono run (fun fl s1 q => ?_) fun _ _ q => q)
    cases fl with
    | next => obtain ⟨σ', H', J, q⟩ := q; exact wpAny_execs_nil ⟨_, _, J.ofTry kk, q⟩
    | ret u => obtain ⟨v, σ', H', J, r, q⟩ := q; exact ⟨_, _, _, J.ofTry kk, r, q⟩
    | brk => obtain ⟨σ', H', J, q⟩ := q; exact ⟨_, _, J.ofTry kk, q⟩
    | cont => obtain ⟨σ', H', J, q⟩ := q; exact ⟨_, _, J.ofTry kk, q⟩
  · obtain ⟨a, B, sI, pns, σ', H', cls, d, rfl, J0, nb, up, sky, na, os, ag, b, hmt, yes, no⟩ := xx
    have J : Inv X pins σ' H' sI := J0.ofTry kk
    have sky1 : Sky B (X.env :: X.outer) a (Zc cls d) X.env.locals s'.heap := hs ▸ sky
    show wpAny (model X.prog X.w) X.A (noteFrame (.ref a) X.env) _ _ _
    refine Sky.land Zc.steady frm hf sky1 fun g fly upg => ?_
    have Jg : Inv X pins σ' H' { s' with heap := g } := J.landed nb fly.1 (up.trans upg) os ag
    obtain ⟨og, vg, hog, zog, dog⟩ := fly.there
    have nfr : a ∉ frs (X.env :: X.outer) := fun hm => by
      obtain ⟨_, o2, e2, hnf⟩ := fly.2.2.1.mem hm
      rw [hog] at e2
      cases e2
      exact hnf _ dog
    have nL : a ≠ X.env.locals := fun q => nfr (List.mem_filterMap.mpr ⟨_, List.mem_cons_self, by rw [hf, q]⟩)
    have nF : a ∉ X.fs := fun q => by
      obtain ⟨v, hv, e⟩ := List.mem_filterMap.mp q
      exact nfr (List.mem_filterMap.mpr ⟨v, List.mem_cons_of_mem _ hv, e⟩)
    have notB : ∀ o, sI.heap.get? a ≠ some o := fun o q => by
      have := nb a o q (by rw [hs]; exact nfr)
      rw [fly.2.1] at this
      cases this
    have n0 : X.s_0.heap.get? a = none := by
      cases e : X.s_0.heap.get? a with
      | none => rfl
      | some o =>
        obtain ⟨o2, q⟩ := J.base.there a o e (by rw [hex]; exact fun z => nomatch z)
        exact absurd q (notB o2)
    have np : ∀ p ∈ X.pn ++ pins, p.1 ≠ a := fun p hp q => notB p.2 (q ▸ (J.pin p hp).1)
    have Sg := Jg.suite hog dog na nL nF
    refine wpAny_handleBy_cons (codeAny_handlers_test ?_) (by intro q; cases q)
    refine hc a og (X.pn ++ pins) _ _ _ cls d b _ _ Sg zog hmt fun g2 kp => ?_
    have fly2 := fly_keeps fly kp
    have upk : g.UpToSlots g2 := Heap.UpToSlots.of_keeps kp
    cases b with
    | false =>
      show wpAny _ X.A (handleBy (.ref a) X.env []) _ _ _
      refine wpAny_handleBy_nil ?_
      obtain ⟨_, _, _, o5, v5, T, oT, t5, w1, _, w2, w3, _⟩ := id fly2
      unfold PySem.passOn
      refine wpAny_bind (wpAny_field w1 w2 w3 ?_)
      rw [if_neg (show ¬ ((Value.ref T == Value.none) = true) from by simp)]
      have out : wpAny (model X.prog X.w) X.A (setFlight (.ref a) X.env.frame) (fun _ u => wpAny (model X.prog X.w) X.A (throw (.ref a) : Sem Flow) (SP X pins D) X.xe u) X.xe { s' with heap := g2 } := by
        rw [hf]
        refine HandSPX.setFlight_upZ fly2 fun g4 held up4 => wpAny_throw (tk _ _ ⟨a, B, sI, pins, σ', H', cls, d, rfl, J, nb, ((up.trans upg).trans upk).trans up4, .inr (.inr (hs ▸ held)), na, os, ag, no rfl⟩)
      first
        | exact wpAny_bind (wpAny_pure (wpAny_bind out))
        | exact wpAny_bind out
    | true =>
      refine codeAny_handlers_suite_as (HandSPX.lands_againZ fly2 fun g4 fly4 up4 => ?_)
      have J4 : Inv X pins σ' H' { s' with heap := g4 } := J.landed nb fly4.1 (((up.trans upg).trans upk).trans up4) os ag
      obtain ⟨o4, v4, ho4, zo4, do4⟩ := fly4.there
      have S4 := J4.suite ho4 do4 na nL nF
      refine store_ok (X := X.suite a ((a, o4) :: (X.pn ++ pins))) (v := .ref a) S4 hN hi lcl rfl (fun s5 S5 => ?_) (.inr hln)
      refine wpAny_mono ((hsu a o4 cls d (X.pn ++ pins) zo4 ⟨_, do4⟩).run [] s5 _ H' _ S5 (yes rfl a na)) (fun fl s6 q => ?_) (fun _ _ q => q.elim)
      have fin : ∀ {σ6 : L2.St} {H6 : Hp} {R : Shared → Prop}, Inv (X.suite a ((a, o4) :: (X.pn ++ pins))) [] σ6 H6 s6 → (∀ s7, Inv X pins (σ6.set i none) H6 s7 → R s7) →
          wpAny (model X.prog X.w) X.A (do bindName X.env n .none; unbindBehindTheSuite X.env n pos') (fun _ s7 => R s7) X.xe s6 := fun S6 q => gone_ok (S6.unsuite kk) hN hi hln q
      cases fl with
      | next =>
        obtain ⟨σ6, H6, S6, q⟩ := q
        have S7 := inv_unsuiteK S6 kk zo4 ⟨_, do4⟩ n0 np
        exact gone_ok S7 hN hi hln fun s7 J7 => ⟨_, _, J7, q (S6.pin (a, o4) (List.mem_append_left _ List.mem_cons_self)).2.1⟩
      | brk => obtain ⟨σ6, H6, S6, q⟩ := q; exact fin S6 fun s7 J7 => ⟨_, _, J7, q⟩
      | cont => obtain ⟨σ6, H6, S6, q⟩ := q; exact fin S6 fun s7 J7 => ⟨_, _, J7, q⟩
      | ret u => obtain ⟨v, σ6, H6, S6, r, q⟩ := q; exact fin S6 fun s7 J7 => ⟨_, _, _, J7, r, q⟩
end
/-! ### what is read of it -/
structure KeepC (K : PySem.W.Frag) (f : Str) (C : Addr) : Prop where
  ga : PySem.W.findIn K (.ref C) "__getattribute__" = some (some (.builtin "BaseException.__getattribute__"))
  gg : PySem.W.findIn K (.ref C) "__getattr__" = some none
  ex : PySem.W.subIn K (.ref C) (.type "BaseException") = some true
  hd : PySem.W.hasDictIn K C = true
  no : PySem.W.findIn K (.ref C) f = some none
theorem BadCls.keepC {prog : Program} {K : PySem.W.Frag} {mg : Str → Option Value} {x f : Str} {C fI : Addr} (T : BadCls prog K mg x f C fI) : KeepC K f C := ⟨T.ga, T.gg, T.exC, T.hdC, T.T.noN⟩
/-- y.f, y an error that was kept -/
def tKFld (Cs : List Addr) (f : Str) (te : TE) : TE := fun σ H Q => te σ H fun y H1 => ∃ (a C dd : Addr) (v : V), y = .ref a ∧ C ∈ Cs ∧ H1 a = some (ErrO (.ref C) (some dd) a) ∧ H1 dd = some (.xd [(f, v)]) ∧ Q v H1
theorem pe_kfld {X : Cx} {Cs : List Addr} {f : Str} {e : Expr} {te : TE} {pos : Pos} (T : ∀ C ∈ Cs, KeepC X.K f C) (he : PE X e te) (hb : attributeBase e f X.env (eval e X.env) = eval e X.env := by rfl) : PE X (.Attribute e f pos) (tKFld Cs f te) := by
  refine ⟨fun pins s σ H Q I h => attr_of hb (thn (he.run pins s σ H _ I h) fun u s1 hq => ?_)⟩
  obtain ⟨y, H1, I1, rx, a, C, dd, v, rfl, hC, hA, hD, q⟩ := hq
  obtain rfl : u = Value.ref a := rx
  have T := T C hC
  obtain ⟨⟨oe, ha, hz, vs, hv⟩, _, _⟩ := show ObjOk X.prog X.w H1 s1.heap a (ErrO (.ref C) (some dd) a) from I1.hok a _ hA
  obtain ⟨mA, hns, hr⟩ := show ObjOk X.prog X.w H1 s1.heap dd (.xd [(f, v)]) from I1.hok dd _ hD
  obtain ⟨od, ho, hl⟩ := lookIn_ns hns
  have l : List.lookup f [(f, v)] = some v := by simp [List.lookup]
  obtain ⟨w, hw, rw⟩ := RelO.some_of (v := v) (o := mA f) (l ▸ hr f)
  have J : PySem.W.InstAt s1.heap a oe C (some od) := ⟨ha, hz.1, by unfold PySem.W.notCls; rw [hv] <;> rfl, by rw [hz.2]; exact ho⟩
  exact HandSPX.exc_get I1.kIn J T.ga T.gg T.ex (PySem.W.findObj_own T.hd T.no rfl (by rw [hl, hw])) (handed_of rw) ⟨v, H1, I1.tok _, rw, q⟩
end Bf
namespace Bf
open PySem PySem.Spec PyProof.Rows L2
/-! ## try .. except as e: x = e, over data -/
section
variable {K : PySem.W.Frag} {S S1 SB SF : Sta} {L : List Addr} {ρ : List (Option Dt)} {P : Po} {te : TE} {d : Dt} {f : Str} {C : Addr} {m : Value → Option Bool} {i j : Nat} {tw : WX → TS} {ts : Addr → Value → Option Addr → TS} {Wout : WX}
/-- the body ends by itself -/
theorem so_keepOk (h : ∀ W, Sg K S SB SF L (tw W) ρ P) : Sg K S SB SF L (fun D σ H => tw (wKp m i ts Wout D) D σ H) ρ P := fun D σ B H b hi s ft => h (wKp m i ts Wout D) D σ B H b hi s ft
/-- the body raises, with the slots as they were; the error goes to slot j -/
theorem so_keepEr (hm : m (.ref C) = some true) (hij : i ≠ j) (hil : i < ρ.length)
    (hb : ∀ (W : WX) (D : Ends) (σ : L2.St) (H : Hp), S.I H → Slots K H σ ρ → (∀ a v H', Gr H H' → S1.I H' → H' a = some (.xd [(f, v)]) → Rep K H' v d → W (.ref C) (some a) σ H') → tw W D σ H)
    (l : S1.Le SF) (q : P.nx ((ρ.set j (some (.err C f d))).set i none)) :
    Sg K S SB SF L (fun D σ H => tw (wKp m i (fun a cls d => tAsg (tVar i) (gName j)) Wout D) D σ H) ρ P := fun D σ B H b hi s ft =>
  hb _ D σ H hi s fun a v H' g i' ha rv => ⟨true, hm, fun _ e he => by
    have hl : i < σ.length := by rw [s.len]; exact hil
    refine ⟨.ref e, List.getElem?_set_self hl, fun hn => ?_⟩
    have sm := same_new (o := ErrO (.ref C) (some a) e) hn
    have s1 := ((s.mono g).mono sm.gr).set (v := .ref e) (d := .raw (.ref e)) (.raw _) i
    have s2 := (s1.set (v := .ref e) (d := .err C f d) (.err upd_same (sm _ _ ha) (rv.mono sm.gr)) j).none_ i
    have ee : ((ρ.set i (some (.raw (.ref e)))).set j (some (.err C f d))).set i none = (ρ.set j (some (.err C f d))).set i none := by
      rw [List.set_comm _ _ hij, List.set_set]
    rw [ee] at s2
    exact ft.nx _ _ _ ((b.gr.trans g).trans sm.gr) (l _ (S1.st i' sm)) s2 q, fun z => nomatch z⟩
/-- y.f -/
theorem ev_kfld {Cs : List Addr} (h : Ev K S S1 ρ te (Eq (.err C f d))) (hC : C ∈ Cs) : Ev K S S1 ρ (tKFld Cs f te) (Eq d) := fun σ H i s Q q =>
  h σ H i s _ fun v d' H1 g1 i1 r1 e => by
    subst e
    cases r1 with
    | err h1 h2 r => exact ⟨_, _, _, _, rfl, hC, h1, h2, q _ _ H1 g1 i1 r rfl⟩
end
end Bf
namespace Bf
open PySem PySem.Spec PyProof.Rows L2
/-! ## isinstance of an error that was kept -/
structure IsiC (K : PySem.W.Frag) (C : Addr) : Prop where
  cl : (PySem.W.clsIn K C).isSome = true
  ga : PySem.W.findIn K (.ref C) "__getattribute__" = some (some (.builtin "BaseException.__getattribute__"))
  gg : PySem.W.findIn K (.ref C) "__getattr__" = some none
  ex : PySem.W.subIn K (.ref C) (.type "BaseException") = some true
  ca : PySem.W.findIn K (.ref C) "__class__" = some (some (.builtin "object.__class__"))
  cg : PySem.W.specialIn K (.builtin "object.__class__") "__get__" = some (some (.builtin "getset_descriptor.__get__"))
  ct : PySem.W.takesIn K (.builtin "object.__class__") = some true
  ob : PySem.W.mroIn K C (.type "object") = some true
def rIsiE (K : PySem.W.Frag) (Cs : List Addr) : List V → Hp → VK → Prop := fun xs H Q => ∃ (a C C' dd : Addr) (f : Str) (v : V) (b : Bool), xs = [.ref a, .ref C'] ∧ C ∈ Cs ∧ H a = some (ErrO (.ref C) (some dd) a) ∧ H dd = some (.xd [(f, v)]) ∧ PySem.W.kitOne K (.ref C) (.ref C') = some b ∧ Q (.bl b) H
theorem call_isiE {X : Cx} {Cs : List Addr} (T : ∀ C ∈ Cs, IsiC X.K C) : CallR X (.builtin "isinstance") (rIsiE X.K Cs) := by
  intro pins s σ H xs us Q I r h
  obtain ⟨a, C, C', dd, f, v, b, rfl, hC, hA, hD, hk, q⟩ := h
  obtain ⟨u1, u2, rfl, r1, r2⟩ := vals2 r
  obtain rfl : u1 = Value.ref a := r1
  obtain rfl : u2 = Value.ref C' := r2
  have T := T C hC
  obtain ⟨⟨oe, ha, hz, vs, hv⟩, _, _⟩ := show ObjOk X.prog X.w H s.heap a (ErrO (.ref C) (some dd) a) from I.hok a _ hA
  obtain ⟨mA, hns, _⟩ := show ObjOk X.prog X.w H s.heap dd (.xd [(f, v)]) from I.hok dd _ hD
  obtain ⟨od, ho, _⟩ := lookIn_ns hns
  have J : PySem.W.InstAt s.heap a oe C (some od) := ⟨ha, hz.1, by unfold PySem.W.notCls; rw [hv] <;> rfl, by rw [hz.2]; exact ho⟩
  exact PySem.W.kia_one (PySem.W.kitx_exc (ox := oe) (od := some od) T.cl T.ga T.gg T.ex T.ca T.cg T.ct T.ob) I.kIn J hk (fun z => nomatch z) fun tk => ⟨.bl b, H, I.tok tk, rfl, q⟩
section
variable {K : PySem.W.Frag} {S S1 : Sta} {ρ : List (Option Dt)} {te : TE} {d : Dt} {C C' : Addr} {f : Str} {b : Bool}
theorem ev_isiE {Cs : List Addr} (h : Ev K S S1 ρ te (Eq (.err C f d))) (hC : C ∈ Cs) (hk : PySem.W.kitOne K (.ref C) (.ref C') = some b) : Ev K S S1 ρ (tCB (rIsiE K Cs) (tCons te (tCons (tC (.ref C')) tNil))) (Eq (.bl b)) := fun σ H i s Q q =>
  h σ H i s _ fun v d' H1 g1 i1 r1 e => by
    subst e
    cases r1 with
    | err h1 h2 r => exact ⟨_, _, _, _, _, _, _, rfl, hC, h1, h2, hk, q _ _ H1 g1 i1 (.bl b) rfl⟩
end
end Bf
namespace Bf
open PySem PySem.Spec PyProof.Rows L2
/-! ## Small data may be compared and shown -/
mutual
/-- n deep, at most ten things each, ints below 10^12, texts of at most 40 signs -/
def gd : Nat → Dt → Bool
  | _, .non => true
  | _, .bl _ => true
  | _, .int i => decide (i.natAbs < 10 ^ 12)
  | _, .str x => x.cps.all (· < 0x110000) && decide (x.cps.size ≤ 40)
  | n + 1, .lst xs => gdA n xs && decide (xs.length ≤ 10)
  | n + 1, .tup xs => gdA n xs && decide (xs.length ≤ 10)
  | _, _ => false
def gdA : Nat → List Dt → Bool
  | _, [] => true
  | n, x :: xs => gd n x && gdA n xs
end
def wB : Nat → Nat
  | 0 => 64
  | n + 1 => 10 * (wB n + 1)
theorem wB_ge : ∀ n, 64 ≤ wB n
  | 0 => Nat.le_refl _
  | n + 1 => by have := wB_ge n; simp only [wB]; omega
structure GdW (n : Nat) (d : Dt) : Prop where
  p : pur d = true
  c : (py d).canLay0 = true
  t : (py d).depth ≤ n
  i : (py d).intsShort 13 = true
  s : (py d).showable = true
  w : (py d).weight ≤ wB n
structure GdWA (n m : Nat) (xs : List Dt) : Prop where
  p : purA xs = true
  c : PyData.canLayAll0 (pyA xs) = true
  t : PyData.depthAll (pyA xs) ≤ n
  i : PyData.intsShortAll 13 (pyA xs) = true
  s : PyData.showableAll (pyA xs) = true
  w : PyData.weightAll (pyA xs) ≤ m * (wB n + 1)
theorem log_lt {i : Int} (h : i.natAbs < 10 ^ 12) : i.natAbs.log2 < 40 := by
  by_cases h0 : i.natAbs = 0
  · rw [h0]; decide
  · exact (Nat.log2_lt h0).mpr (Nat.lt_trans h (by decide))
mutual
theorem gd_w : ∀ (n : Nat) (d : Dt), gd n d = true → GdW n d
  | n, .non, _ => ⟨rfl, rfl, Nat.zero_le _, rfl, rfl, Nat.zero_le _⟩
  | n, .bl b, _ => ⟨rfl, rfl, Nat.zero_le _, rfl, rfl, Nat.zero_le _⟩
  | n, .int i, h => by
    have h : i.natAbs < 10 ^ 12 := by simpa [gd] using h
    have hl := log_lt h
    refine ⟨rfl, rfl, Nat.zero_le _, ?_, ?_, ?_⟩
    · unfold py
      simp only [PyData.intsShort, decide_eq_true_eq]
      exact PyData.shown_int_le h
    · unfold py
      simp only [PyData.showable, decide_eq_true_eq]
      omega
    · unfold py
      simp only [PyData.weight]
      have := wB_ge n
      split <;> omega
  | n, .str x, h => by
    have h : x.cps.all (· < 0x110000) = true ∧ x.cps.size ≤ 40 := by simpa only [gd, Bool.and_eq_true, decide_eq_true_eq] using h
    refine ⟨rfl, ?_, Nat.zero_le _, rfl, rfl, ?_⟩
    · unfold py
      simp only [PyData.canLay0, PyData.strOk]
      exact h.1
    · unfold py
      simp only [PyData.weight]
      have := wB_ge n
      omega
  | n + 1, .lst xs, h => by
    simp only [gd, Bool.and_eq_true, decide_eq_true_eq] at h
    have g := gdA_w n xs h.1
    refine ⟨by unfold pur; exact g.p, by unfold py; simp only [PyData.canLay0]; exact g.c, by unfold py; simp only [PyData.depth]; have := g.t; omega, by unfold py; simp only [PyData.intsShort]; exact g.i, by unfold py; simp only [PyData.showable]; exact g.s, ?_⟩
    unfold py
    simp only [PyData.weight, wB]
    exact Nat.le_trans g.w (Nat.mul_le_mul_right _ h.2)
  | n + 1, .tup xs, h => by
    simp only [gd, Bool.and_eq_true, decide_eq_true_eq] at h
    have g := gdA_w n xs h.1
    refine ⟨by unfold pur; exact g.p, by unfold py; simp only [PyData.canLay0]; exact g.c, by unfold py; simp only [PyData.depth]; have := g.t; omega, by unfold py; simp only [PyData.intsShort]; exact g.i, by unfold py; simp only [PyData.showable]; exact g.s, ?_⟩
    unfold py
    simp only [PyData.weight, wB]
    exact Nat.le_trans g.w (Nat.mul_le_mul_right _ h.2)
  | 0, .lst xs, h => by simp [gd] at h
  | 0, .tup xs, h => by simp [gd] at h
  | n, .dic, h => by simp [gd] at h
  | n, .ins _ _ _, h => by simp [gd] at h
  | n, .raw _, h => by simp [gd] at h
  | n, .lat _ _, h => by simp [gd] at h
theorem gdA_w : ∀ (n : Nat) (xs : List Dt), gdA n xs = true → GdWA n xs.length xs
  | n, [], _ => ⟨rfl, rfl, Nat.zero_le _, rfl, rfl, Nat.zero_le _⟩
  | n, x :: xs, h => by
    simp only [gdA, Bool.and_eq_true] at h
    have g := gd_w n x h.1
    have r := gdA_w n xs h.2
    refine ⟨by unfold purA; rw [g.p, r.p]; rfl, by unfold pyA; simp only [PyData.canLayAll0]; rw [g.c, r.c]; rfl, by unfold pyA; simp only [PyData.depthAll]; exact Nat.max_le.mpr ⟨g.t, r.t⟩, by unfold pyA; simp only [PyData.intsShortAll]; rw [g.i, r.i]; rfl, by unfold pyA; simp only [PyData.showableAll]; rw [g.s, r.s]; rfl, ?_⟩
    unfold pyA
    simp only [PyData.weightAll, List.length_cons]
    have h1 := g.w
    have h2 := r.w
    rw [Nat.add_mul]
    omega
end
theorem gd_cmp {n : Nat} {d : Dt} (h : gd n d = true) (hn : n ≤ 64) : cmpOk d = true := by
  have g := gd_w n d h
  simp only [cmpOk, SeqAt.shaped, Bool.and_eq_true, decide_eq_true_eq]
  exact ⟨g.p, g.c, Nat.le_trans g.t hn⟩
end Bf
namespace Bf
open PySem PySem.Spec PyProof.Rows L2 PySem.SeqAt
/-! ## a list == [], isinstance(x, (T, U, ..)) -/
def rEqNil (K : PySem.W.Frag) : R2 := fun x y H Q => ∃ a b xs, x = .ref a ∧ y = .ref b ∧ SqL K H a xs ∧ SqL K H b [] ∧ Q (.bl xs.isEmpty) H
theorem op_eqNil {X : Cx} (hu : X.A.units + 64 < cLine) : OpR X (compareOp .Eq) (rEqNil X.K) := by
  intro pins s σ H x y v u Q I rx ry h
  obtain ⟨a, b, xs, rfl, rfl, hA, hB, q⟩ := h
  cases (show v = Value.ref a from rx)
  cases (show u = Value.ref b from ry)
  obtain ⟨its, r, p, _⟩ := I.list hA
  obtain ⟨its2, r2, p2, _⟩ := I.list hB
  cases r2
  have hl := r.length
  cases xs with
  | nil =>
    cases r
    have rc := RcAt.lists (e := fun _ => true) p.isList p2.isList (A := X.A) (s := s) rfl (by omega) fun j h1 h2 => absurd h1 (by simp)
    exact rc X.prog X.w _ _ ⟨.bl _, H, I, rfl, q⟩
  | cons x xs =>
    have rc := RcAt.lists_lengths p.isList p2.isList (A := X.A) (s := s) (by
      cases its with
      | nil => simp at hl
      | cons i is => simp) (by omega)
    exact rc X.prog X.w _ _ ⟨.bl _, H, I, rfl, q⟩
section
variable {K : PySem.W.Frag} {S S1 S2 : Sta} {ρ : List (Option Dt)} {te tl : TE} {xs : List Dt} {d : Dt}
theorem rv_eqNil : Rv2 K S (rEqNil K) (.lst xs) (.lst []) (Eq (.bl xs.isEmpty)) := rv_at fun H v u _ r1 r2 Q q => by
  obtain ⟨a, vs, rfl, ha, ra⟩ := r1.lstI
  obtain ⟨b, us, rfl, hb, rb⟩ := r2.lstI
  cases rb
  refine ⟨a, b, vs, rfl, rfl, ha, hb, ?_⟩
  have e : vs.isEmpty = xs.isEmpty := by
    have := ra.len
    cases vs <;> cases xs <;> simp at this ⊢
  rw [e]
  exact q _ (.bl _)
end
end Bf
namespace Bf
open PySem PySem.Spec PyProof.Rows L2
/-! ## Tables: the defs over data, and their readings -/
/-! ### is_whole, is_whole_from, is_duration, is_bit_count -/
def isW (d : Dt) : Bool := isIntD d && !isBlD d
def isWF (d : Dt) (lo hi : Int) : Bool := match d with
  | .int i => decide (lo ≤ i) && decide (i ≤ hi)
  | _ => false
def one1 (g : Dt → Dt) : List Dt → Dt
  | [d] => g d
  | _ => .non
abbrev p_is_whole (K : PySem.W.Frag) : Sp := spF K 1 (fun ds => ∃ d, ds = [d] ∧ okN d = true) (one1 fun d => .bl (isW d))
def f_wf : List Dt → Dt
  | [d, .int lo, .int hi] => .bl (isWF d lo hi)
  | _ => .non
abbrev p_is_whole_from (K : PySem.W.Frag) : Sp := spF K 3 (fun ds => ∃ d lo hi, ds = [d, .int lo, .int hi] ∧ okN d = true) f_wf
abbrev p_is_duration (K : PySem.W.Frag) : Sp := spF K 1 (fun ds => ∃ d, ds = [d] ∧ okN d = true) (one1 fun d => .bl (isWF d 1 99999))
abbrev p_is_bit_count (K : PySem.W.Frag) : Sp := spF K 1 (fun ds => ∃ d, ds = [d] ∧ okN d = true) (one1 fun d => .bl (isWF d 1 8))
/-- what a pure def's body is to come to -/
abbrev Pu (d : Dt) : Po := { nx := fun _ => d = .non, rt := Eq d }
abbrev t_is_whole (K : PySem.W.Frag) : TS := (tRet (tAndV (tCB (rIsi K) (tCons (tVar 0) (tCons (tC (.ty "int")) tNil))) (tNotV (tCB (rIsi K) (tCons (tVar 0) (tCons (tC (.ty "bool")) tNil))))))
abbrev t_is_whole_from (K : PySem.W.Frag) : TS := (tRet (tAndV (tCall (p_is_whole K) [] E0 (tCons (tVar 0) tNil)) (tChain rLeI rLeI (tVar 1) (tVar 0) (tVar 2))))
abbrev t_is_duration (K : PySem.W.Frag) : TS := (tRet (tCall (p_is_whole_from K) [] E0 (tCons (tVar 0) (tCons (tC (.int 1)) (tCons (tC (.int 99999)) tNil)))))
abbrev t_is_bit_count (K : PySem.W.Frag) : TS := (tRet (tCall (p_is_whole_from K) [] E0 (tCons (tVar 0) (tCons (tC (.int 1)) (tCons (tC (.int 8)) tNil)))))
section
variable {K : PySem.W.Frag} {S : Sta} {ds : List Dt}
theorem so_is_whole (hmu : S.Mu) (hp : ∃ d, ds = [d] ∧ okN d = true) : So K S S [] (t_is_whole K) (startD 1 ds) (Pu (one1 (fun d => .bl (isW d)) ds)) := by
  obtain ⟨d, rfl, hd⟩ := hp
  exact so_retD (ev_and (ev_isInt (ev_var rfl) hd) fun _ => ev_not (ev_isBl (ev_var rfl) hd)) (Sta.Le.refl S) rfl
theorem ev_is_whole {S1 : Sta} {ρ : List (Option Dt)} {ta : TE} {d : Dt} (h : Ev K S S1 ρ ta (Eq d)) (hd : okN d = true) : Ev K S S1 ρ (tCall (p_is_whole K) [] E0 (tCons ta tNil)) (Eq (.bl (isW d))) := ev_callF (ea_cons h ea_nil) rfl ⟨d, rfl, hd⟩
theorem so_is_whole_from (hmu : S.Mu) (hp : ∃ d lo hi, ds = [d, .int lo, .int hi] ∧ okN d = true) : So K S S [] (t_is_whole_from K) (startD 3 ds) (Pu (f_wf ds)) := by
  obtain ⟨d, lo, hi, rfl, hd⟩ := hp
  cases d with
  | int i => exact so_retD (ev_andT (ev_is_whole (ev_var rfl) hd) (ev_lele (ev_var rfl) (ev_var rfl) (ev_var rfl))) (Sta.Le.refl S) rfl
  | _ => exact so_retD (ev_andF (ev_is_whole (ev_var rfl) hd)) (Sta.Le.refl S) rfl
theorem ev_is_whole_from {S1 : Sta} {ρ : List (Option Dt)} {ta : TE} {d : Dt} {lo hi : Int} (h : Ev K S S1 ρ ta (Eq d)) (hd : okN d = true) : Ev K S S1 ρ (tCall (p_is_whole_from K) [] E0 (tCons ta (tCons (tC (.int lo)) (tCons (tC (.int hi)) tNil)))) (Eq (.bl (isWF d lo hi))) :=
  ev_callF (ea_cons h (ea_cons ev_int (ea_cons ev_int ea_nil))) rfl ⟨d, lo, hi, rfl, hd⟩
theorem so_is_duration (hmu : S.Mu) (hp : ∃ d, ds = [d] ∧ okN d = true) : So K S S [] (t_is_duration K) (startD 1 ds) (Pu (one1 (fun d => .bl (isWF d 1 99999)) ds)) := by
  obtain ⟨d, rfl, hd⟩ := hp
  exact so_retD (ev_is_whole_from (ev_var rfl) hd) (Sta.Le.refl S) rfl
theorem so_is_bit_count (hmu : S.Mu) (hp : ∃ d, ds = [d] ∧ okN d = true) : So K S S [] (t_is_bit_count K) (startD 1 ds) (Pu (one1 (fun d => .bl (isWF d 1 8)) ds)) := by
  obtain ⟨d, rfl, hd⟩ := hp
  exact so_retD (ev_is_whole_from (ev_var rfl) hd) (Sta.Le.refl S) rfl
theorem ev_is_duration {S1 : Sta} {ρ : List (Option Dt)} {ta : TE} {d : Dt} (h : Ev K S S1 ρ ta (Eq d)) (hd : okN d = true) : Ev K S S1 ρ (tCall (p_is_duration K) [] E0 (tCons ta tNil)) (Eq (.bl (isWF d 1 99999))) := ev_callF (ea_cons h ea_nil) rfl ⟨d, rfl, hd⟩
theorem ev_is_bit_count {S1 : Sta} {ρ : List (Option Dt)} {ta : TE} {d : Dt} (h : Ev K S S1 ρ ta (Eq d)) (hd : okN d = true) : Ev K S S1 ρ (tCall (p_is_bit_count K) [] E0 (tCons ta tNil)) (Eq (.bl (isWF d 1 8))) := ev_callF (ea_cons h ea_nil) rfl ⟨d, rfl, hd⟩
end
/-! ### are_durations, is_pulse_and_gap -/
def areD : Dt → Bool
  | .tup xs => xs.all fun x => isWF x 1 99999
  | _ => false
def isPG (d : Dt) : Bool := areD d && match d with
  | .tup xs => decide ((xs.length : Int) = 2)
  | _ => false
/-- plain, and its tuple not too long -/
def plS (d : Dt) : Bool := pl d && match d with
  | .tup xs => decide (xs.length ≤ 100000)
  | _ => true
theorem plS_pl {d : Dt} (h : plS d = true) : pl d = true := (Bool.and_eq_true_iff.mp h).1
abbrev p_are_durations (K : PySem.W.Frag) : Sp := spF K 1 (fun ds => ∃ d, ds = [d] ∧ plS d = true) (one1 fun d => .bl (areD d))
abbrev p_is_pulse_and_gap (K : PySem.W.Frag) : Sp := spF K 1 (fun ds => ∃ d, ds = [d] ∧ plS d = true) (one1 fun d => .bl (isPG d))
abbrev t_are_durations (K : PySem.W.Frag) : TS := (tRet (tAndV (tCB (rIsi K) (tCons (tVar 0) (tCons (tC (.ty "tuple")) tNil))) (tCB (rAll K) (tCons (tLc (iTup K (tVar 0)) (gName 1) tYes (tCall (p_is_duration K) [] E0 (tCons (tVar 1) tNil)) [1]) tNil))))
abbrev t_is_pulse_and_gap (K : PySem.W.Frag) : TS := (tRet (tAndV (tCall (p_are_durations K) [] E0 (tCons (tVar 0) tNil)) (tOp rEq (tCB (rLen K) (tCons (tVar 0) tNil)) (tC (.int 2)))))
section
variable {K : PySem.W.Frag} {S : Sta} {ds : List Dt}
theorem so_are_durations (hmu : S.Mu) (hp : ∃ d, ds = [d] ∧ plS d = true) : So K S S [] (t_are_durations K) (startD 2 ds) (Pu (one1 (fun d => .bl (areD d)) ds)) := by
  obtain ⟨d, rfl, hd⟩ := hp
  have ho := pl_okN (plS_pl hd)
  cases d with
  | tup xs =>
    have hl : xs.length ≤ 100000 := of_decide_eq_true (Bool.and_eq_true_iff.mp hd).2
    have hx := pl_tup (plS_pl hd)
    exact so_retD (ev_andT (ev_isTup (ev_var rfl) ho) (ev_allT (p := fun x => isWF x 1 99999) hmu (ev_var rfl) (by decide) hl fun x h => ev_is_duration (ev_var rfl) (pl_okN (hx x h)))) (Sta.Le.refl S) rfl
  | _ => exact so_retD (ev_andF (ev_isTup (ev_var rfl) ho)) (Sta.Le.refl S) rfl
theorem ev_are_durations {S1 : Sta} {ρ : List (Option Dt)} {ta : TE} {d : Dt} (h : Ev K S S1 ρ ta (Eq d)) (hd : plS d = true) : Ev K S S1 ρ (tCall (p_are_durations K) [] E0 (tCons ta tNil)) (Eq (.bl (areD d))) := ev_callF (ea_cons h ea_nil) rfl ⟨d, rfl, hd⟩
theorem so_is_pulse_and_gap (hmu : S.Mu) (hp : ∃ d, ds = [d] ∧ plS d = true) : So K S S [] (t_is_pulse_and_gap K) (startD 1 ds) (Pu (one1 (fun d => .bl (isPG d)) ds)) := by
  obtain ⟨d, rfl, hd⟩ := hp
  cases d with
  | tup xs => exact so_retD (ev_and (ev_are_durations (ev_var rfl) hd) fun _ => ev_op (ev_lenT (ev_var rfl)) ev_int rv_eqI) (Sta.Le.refl S) rfl
  | _ => exact so_retD (ev_andF (ev_are_durations (ev_var rfl) hd)) (Sta.Le.refl S) rfl
theorem ev_is_pulse_and_gap {S1 : Sta} {ρ : List (Option Dt)} {ta : TE} {d : Dt} (h : Ev K S S1 ρ ta (Eq d)) (hd : plS d = true) : Ev K S S1 ρ (tCall (p_is_pulse_and_gap K) [] E0 (tCons ta tNil)) (Eq (.bl (isPG d))) := ev_callF (ea_cons h ea_nil) rfl ⟨d, rfl, hd⟩
end
/-! ### begins_with, the first wrong part -/
def bwD (d : Dt) (n : Str) (k : Int) : Bool := match d with
  | .tup (.str s :: xs) => decide (((xs.length + 1 : Nat) : Int) = k) && decide (s = n)
  | _ => false
def f_bw : List Dt → Dt
  | [d, .str n, .int k] => .bl (bwD d n k)
  | _ => .non
def len024 : Dt → Bool
  | .tup xs => decide ((xs.length : Int) ∈ [0, 2, 4])
  | _ => false
/-- of a tuple of six -/
def wrongP : List Dt → Dt
  | [_, h, z, o, s, b] =>
    if !(areD h && len024 h) then .str "header"
    else if !isPG z then .str "zero"
    else if !isPG o || PyData.eqv (py o) (py z) then .str "one"
    else if !isWF s 1 99999 then .str "stop"
    else if !isWF b 1 8 then .str "bits"
    else .non
  | _ => .non
def wrongH : List Dt → Dt
  | [_, u, b] => if !isWF u 1 99999 then .str "unit" else if !isWF b 1 8 then .str "bits" else .non
  | _ => .non
def tupF (g : List Dt → Dt) : List Dt → Dt
  | [.tup xs] => g xs
  | _ => .non
def plSA (xs : List Dt) : Bool := xs.all plS
abbrev p_wrong_part_of_pairs (K : PySem.W.Frag) : Sp := spF K 1 (fun ds => ∃ xs, ds = [.tup xs] ∧ xs.length = 6 ∧ plSA xs = true) (tupF wrongP)
abbrev p_wrong_part_of_halves (K : PySem.W.Frag) : Sp := spF K 1 (fun ds => ∃ xs, ds = [.tup xs] ∧ xs.length = 3 ∧ plSA xs = true) (tupF wrongH)
abbrev t_begins_with (K : PySem.W.Frag) : TS := (tSeq (tIfS (tOr (tNot (tB (tCB (rIsi K) (tCons (tVar 0) (tCons (tC (.ty "tuple")) tNil))))) (tTest (tOp rNe (tCB (rLen K) (tCons (tVar 0) tNil)) (tVar 2)))) (tRet (tC (.bl false))) tNext)
    (tRet (tAndV (tCB (rIsi K) (tCons (tOp (rIx K) (tVar 0) (tC (.int 0))) (tCons (tC (.ty "str")) tNil))) (tOp rEq (tOp (rIx K) (tVar 0) (tC (.int 0))) (tVar 1)))))
abbrev t_wrong_part_of_pairs (K : PySem.W.Frag) : TS := (tSeq (tAsg (tSl (rSlA K) (tVar 0) (tPart (tC (.int 1))) tNoPart) (gTup K 5 (gCons (gName 1) (gCons (gName 2) (gCons (gName 3) (gCons (gName 4) (gCons (gName 5) gNil)))))))
    (tSeq (tIfS (tNot (tAnd (tB (tCall (p_are_durations K) [] E0 (tCons (tVar 1) tNil))) (tTest (tOp (rIn K false) (tCB (rLen K) (tCons (tVar 1) tNil)) (tTup (tCons (tC (.int 0)) (tCons (tC (.int 2)) (tCons (tC (.int 4)) tNil)))))))) (tRet (tC (.str "header"))) tNext)
    (tSeq (tIfS (tNot (tB (tCall (p_is_pulse_and_gap K) [] E0 (tCons (tVar 2) tNil)))) (tRet (tC (.str "zero"))) tNext)
    (tSeq (tIfS (tOr (tNot (tB (tCall (p_is_pulse_and_gap K) [] E0 (tCons (tVar 3) tNil)))) (tTest (tOp (rEqD K) (tVar 3) (tVar 2)))) (tRet (tC (.str "one"))) tNext)
    (tSeq (tIfS (tNot (tB (tCall (p_is_duration K) [] E0 (tCons (tVar 4) tNil)))) (tRet (tC (.str "stop"))) tNext)
    (tSeq (tIfS (tNot (tB (tCall (p_is_bit_count K) [] E0 (tCons (tVar 5) tNil)))) (tRet (tC (.str "bits"))) tNext)
    (tRet (tC .non))))))))
abbrev t_wrong_part_of_halves (K : PySem.W.Frag) : TS := (tSeq (tIfS (tNot (tB (tCall (p_is_duration K) [] E0 (tCons (tOp (rIx K) (tVar 0) (tC (.int 1))) tNil)))) (tRet (tC (.str "unit"))) tNext)
    (tSeq (tIfS (tNot (tB (tCall (p_is_bit_count K) [] E0 (tCons (tOp (rIx K) (tVar 0) (tC (.int 2))) tNil)))) (tRet (tC (.str "bits"))) tNext)
    (tRet (tC .non))))
theorem isPG_shape {d : Dt} (h : isPG d = true) : ∃ a b, d = .tup [.int a, .int b] ∧ 1 ≤ a ∧ a ≤ 99999 ∧ 1 ≤ b ∧ b ≤ 99999 := by
  cases d with
  | tup xs =>
    simp only [isPG, areD, Bool.and_eq_true, decide_eq_true_eq] at h
    obtain ⟨h1, h2⟩ := h
    match xs, h1, h2 with
    | [x, y], h1, _ =>
      simp only [List.all_cons, List.all_nil, Bool.and_true, Bool.and_eq_true] at h1
      obtain ⟨hx, hy⟩ := h1
      cases x <;> simp [isWF] at hx
      cases y <;> simp [isWF] at hy
      exact ⟨_, _, rfl, hx.1, hx.2, hy.1, hy.2⟩
    | [], _, h2 => simp at h2
    | [_], _, h2 => simp at h2
    | _ :: _ :: _ :: _, _, h2 => simp at h2; omega
  | _ => simp [isPG, areD] at h
theorem cmp2 (a b : Int) : cmpOk (.tup [.int a, .int b]) = true := by
  simp [cmpOk, pur, purA, py, pyA, SeqAt.shaped, PyData.canLay0, PyData.canLayAll0, PyData.depth, PyData.depthAll]
section
variable {K : PySem.W.Frag} {S : Sta} {ds : List Dt}
theorem so_begins_with (hmu : S.Mu) (hp : ∃ d n k, ds = [d, .str n, .int k] ∧ pl d = true ∧ 0 < k) : So K S S [] (t_begins_with K) (startD 3 ds) (Pu (f_bw ds)) := by
  obtain ⟨d, n, k, rfl, hd, hk⟩ := hp
  have ho := pl_okN hd
  cases d with
  | tup xs =>
    have hx := pl_tup hd
    refine so_if (et_orF (et_notT (et_B (ev_isTup (ev_var rfl) ho))) (et_test (ev_op (ev_lenT (ev_var rfl)) (ev_var rfl) rv_neI))) (fun e => ?_) fun e => ?_
    · refine so_ret1D ev_bl (Sta.Le.refl S) ?_
      simp only [Bool.not_eq_true', decide_eq_false_iff_not] at e
      show f_bw [.tup xs, .str n, .int k] = .bl false
      cases xs with
      | nil => rfl
      | cons x xs =>
        cases x with
        | str s =>
          have : ¬ (((xs.length + 1 : Nat) : Int) = k) := e
          show Dt.bl (decide (((xs.length + 1 : Nat) : Int) = k) && decide (s = n)) = .bl false
          rw [decide_eq_false this, Bool.false_and]
        | _ => rfl
    · simp only [Bool.not_eq_false', decide_eq_true_eq] at e
      cases xs with
      | nil => simp at e; omega
      | cons x xs =>
        have hox := pl_okN (hx x List.mem_cons_self)
        have e' : decide (((xs.length + 1 : Nat) : Int) = k) = true := decide_eq_true e
        have hat : atI (x :: xs) 0 = some x := atI_nat (j := 0) rfl
        refine so_skip ?_
        cases x with
        | str s =>
          refine so_retD (ev_andT (ev_isStr (ev_ixT (ev_var rfl) ev_int hat) hox) (ev_op (ev_ixT (ev_var rfl) ev_int hat) (ev_var rfl) rv_eqS)) (Sta.Le.refl S) ?_
          show Dt.bl (decide (((xs.length + 1 : Nat) : Int) = k) && decide (s = n)) = .bl (decide (s = n))
          rw [e', Bool.true_and]
        | _ => exact so_retD (ev_andF (ev_isStr (ev_ixT (ev_var rfl) ev_int hat) hox)) (Sta.Le.refl S) rfl
  | _ => exact so_ifT (et_orT (et_notF (et_B (ev_isTup (ev_var rfl) ho)))) (so_ret1D ev_bl (Sta.Le.refl S) rfl)
theorem so_wrong_part_of_halves (hmu : S.Mu) (hp : ∃ xs, ds = [.tup xs] ∧ xs.length = 3 ∧ plSA xs = true) : So K S S [] (t_wrong_part_of_halves K) (startD 1 ds) (Pu (tupF wrongH ds)) := by
  obtain ⟨xs, rfl, hl, hx⟩ := hp
  match xs, hl, hx with
  | [a, u, b], _, hx =>
    have hu : plS u = true := List.all_eq_true.mp hx u (by simp)
    have hb : plS b = true := List.all_eq_true.mp hx b (by simp)
    refine so_ifD (et_not (et_B (ev_is_duration (ev_ixT (ev_var rfl) ev_int (atI_nat (j := 1) rfl)) (pl_okN (plS_pl hu))))) (fun e => so_ret1D ev_str (Sta.Le.refl S) ?_) fun e => so_skip ?_
    · show wrongH [a, u, b] = _
      simp only [wrongH, e, if_true]
    · refine so_ifD (et_not (et_B (ev_is_bit_count (ev_ixT (ev_var rfl) ev_int (atI_nat (j := 2) rfl)) (pl_okN (plS_pl hb))))) (fun e2 => so_ret1D ev_str (Sta.Le.refl S) ?_) fun e2 => so_skip (so_retD ev_non (Sta.Le.refl S) ?_)
      · show wrongH [a, u, b] = _
        simp only [wrongH, e, e2, if_true, Bool.false_eq_true, if_false]
      · show wrongH [a, u, b] = _
        simp only [wrongH, e, e2, Bool.false_eq_true, if_false]
theorem so_wrong_part_of_pairs (hmu : S.Mu) (hp : ∃ xs, ds = [.tup xs] ∧ xs.length = 6 ∧ plSA xs = true) : So K S S [] (t_wrong_part_of_pairs K) (startD 6 ds) (Pu (tupF wrongP ds)) := by
  obtain ⟨xs, rfl, hl, hx⟩ := hp
  match xs, hl, hx with
  | [a, h, z, o, s, b], _, hx =>
    have hh : plS h = true := List.all_eq_true.mp hx h (by simp)
    have hz : plS z = true := List.all_eq_true.mp hx z (by simp)
    have ho : plS o = true := List.all_eq_true.mp hx o (by simp)
    have hs : plS s = true := List.all_eq_true.mp hx s (by simp)
    have hb : plS b = true := List.all_eq_true.mp hx b (by simp)
    refine so_unp (is := [1, 2, 3, 4, 5]) (xs := [h, z, o, s, b]) ((ev_slT (ev_var rfl) (eo_some ev_int) eo_none).to rfl) rfl rfl rfl ?_
    refine so_ifD (et_not (a := (areD h && len024 h)) ?_) (fun e => so_ret1D ev_str (Sta.Le.refl S) ?_) fun e => so_skip ?_
    · cases h with
      | tup ys => exact et_and (et_B (ev_are_durations (ev_var rfl) hh)) fun _ => et_test (ev_op (ev_lenT (ev_var rfl)) (ev_tup (ea_cons ev_int (ea_cons ev_int (ea_cons ev_int ea_nil))) (by show 3 ≤ sizeLine; decide)) (rv_inT (ns := [0, 2, 4])))
      | _ => exact et_andF (et_B (ev_are_durations (ev_var rfl) hh))
    · show wrongP [a, h, z, o, s, b] = _
      simp only [wrongP, e, if_true]
    refine so_ifD (et_not (et_B (ev_is_pulse_and_gap (ev_var rfl) hz))) (fun e1 => so_ret1D ev_str (Sta.Le.refl S) ?_) fun e1 => so_skip ?_
    · show wrongP [a, h, z, o, s, b] = _
      simp only [wrongP, e, e1, if_true, Bool.false_eq_true, if_false]
    have hz2 : isPG z = true := by simpa using e1
    refine so_ifD (et_or (a := !isPG o) (b := PyData.eqv (py o) (py z)) (et_not (et_B (ev_is_pulse_and_gap (ev_var rfl) ho))) fun e2 => ?_) (fun e2 => so_ret1D ev_str (Sta.Le.refl S) ?_) fun e2 => so_skip ?_
    · have ho2 : isPG o = true := by simpa using e2
      obtain ⟨x1, y1, rfl, _⟩ := isPG_shape hz2
      obtain ⟨x2, y2, rfl, _⟩ := isPG_shape ho2
      exact et_test (ev_op (ev_var rfl) (ev_var rfl) (rv_eqD (cmp2 _ _) (cmp2 _ _)))
    · show wrongP [a, h, z, o, s, b] = _
      simp only [wrongP, e, e1, e2, if_true, Bool.false_eq_true, if_false]
    refine so_ifD (et_not (et_B (ev_is_duration (ev_var rfl) (pl_okN (plS_pl hs))))) (fun e3 => so_ret1D ev_str (Sta.Le.refl S) ?_) fun e3 => so_skip ?_
    · show wrongP [a, h, z, o, s, b] = _
      simp only [wrongP, e, e1, e2, e3, if_true, Bool.false_eq_true, if_false]
    refine so_ifD (et_not (et_B (ev_is_bit_count (ev_var rfl) (pl_okN (plS_pl hb))))) (fun e4 => so_ret1D ev_str (Sta.Le.refl S) ?_) fun e4 => so_skip (so_retD ev_non (Sta.Le.refl S) ?_)
    · show wrongP [a, h, z, o, s, b] = _
      simp only [wrongP, e, e1, e2, e3, e4, if_true, Bool.false_eq_true, if_false]
    · show wrongP [a, h, z, o, s, b] = _
      simp only [wrongP, e, e1, e2, e3, e4, Bool.false_eq_true, if_false]
end
end Bf
namespace Bf
open PySem PySem.Spec PyProof.Rows L2
/-! ## Right tables, words -/
/-- a right table's parts -/
inductive Tab where
  | ha (u b : Int)
  | pa (h : List Int) (z1 z2 o1 o2 s b : Int)
def tI (ns : List Int) : Dt := .tup (ns.map Dt.int)
def Tab.d : Tab → Dt
  | .ha u b => .tup [.str "halves", .int u, .int b]
  | .pa h z1 z2 o1 o2 s b => .tup [.str "pairs", tI h, tI [z1, z2], tI [o1, o2], .int s, .int b]
def Tab.b : Tab → Int
  | .ha _ b => b
  | .pa _ _ _ _ _ _ b => b
def dur (i : Int) : Prop := 1 ≤ i ∧ i ≤ 99999
def Tab.ok : Tab → Prop
  | .ha u b => dur u ∧ 1 ≤ b ∧ b ≤ 8
  | .pa h z1 z2 o1 o2 s b => (h.length = 0 ∨ h.length = 2 ∨ h.length = 4) ∧ (∀ x ∈ h, dur x) ∧ dur z1 ∧ dur z2 ∧ dur o1 ∧ dur o2 ∧ ¬ (o1 = z1 ∧ o2 = z2) ∧ dur s ∧ 1 ≤ b ∧ b ≤ 8
theorem Tab.b1 {T : Tab} (h : T.ok) : 1 ≤ T.b ∧ T.b ≤ 8 := by
  cases T with
  | ha u b => exact h.2
  | pa => exact ⟨h.2.2.2.2.2.2.2.2.1, h.2.2.2.2.2.2.2.2.2⟩
def tabPart (d : Dt) : Dt := if bwD d "pairs" 6 = true then tupF wrongP [d] else if bwD d "halves" 3 = true then tupF wrongH [d] else .str "form"
theorem plA_ints : ∀ ns : List Int, plA (ns.map Dt.int) = true
  | [] => rfl
  | n :: ns => by simp [plA, pl, plA_ints ns]
theorem pl_tI (ns : List Int) : pl (tI ns) = true := by simp [tI, pl, plA_ints]
theorem plS_tI {ns : List Int} (h : ns.length ≤ 100000) : plS (tI ns) = true := by
  simp only [plS, Bool.and_eq_true]
  exact ⟨pl_tI ns, decide_eq_true (by rw [List.length_map]; exact h)⟩
theorem isWF_int {i lo hi : Int} (h1 : lo ≤ i) (h2 : i ≤ hi) : isWF (.int i) lo hi = true := by simp [isWF, h1, h2]
theorem areD_tI {ns : List Int} (h : ∀ x ∈ ns, dur x) : areD (tI ns) = true := by
  simp only [areD, tI, List.all_map, List.all_eq_true]
  intro x hx
  exact isWF_int (h x hx).1 (h x hx).2
theorem isPG_two {a b : Int} (h1 : dur a) (h2 : dur b) : isPG (tI [a, b]) = true := by
  have : areD (tI [a, b]) = true := areD_tI (by intro x hx; simp at hx; rcases hx with rfl | rfl <;> assumption)
  simp only [isPG, this, Bool.true_and]
  rfl
theorem eqv2 (a b c d : Int) : PyData.eqv (py (tI [a, b])) (py (tI [c, d])) = (decide (a = c) && decide (b = d)) := by
  simp only [tI, List.map_cons, List.map_nil, py, pyA, PyData.eqv, PyData.eqvAll, Bool.and_true]
  by_cases h1 : a = c <;> by_cases h2 : b = d <;> simp [h1, h2]
theorem wrong_ok {T : Tab} (h : T.ok) : tabPart T.d = .non := by
  cases T with
  | ha u b =>
    obtain ⟨⟨h1, h2⟩, h3, h4⟩ := h
    show (if bwD (Tab.ha u b).d "pairs" 6 = true then _ else if bwD (Tab.ha u b).d "halves" 3 = true then tupF wrongH [(Tab.ha u b).d] else _) = Dt.non
    rw [if_neg (by simp [bwD, Tab.d]), if_pos (by simp [bwD, Tab.d])]
    show wrongH [.str "halves", .int u, .int b] = _
    simp only [wrongH, isWF_int h1 h2, isWF_int h3 h4, Bool.not_true, Bool.false_eq_true, if_false]
  | pa hd z1 z2 o1 o2 s b =>
    obtain ⟨h0, h1, h2, h3, h4, h5, h6, h7, h8, h9⟩ := h
    show (if bwD (Tab.pa hd z1 z2 o1 o2 s b).d "pairs" 6 = true then tupF wrongP [(Tab.pa hd z1 z2 o1 o2 s b).d] else _) = Dt.non
    rw [if_pos (by simp [bwD, Tab.d])]
    show wrongP [.str "pairs", tI hd, tI [z1, z2], tI [o1, o2], .int s, .int b] = _
    have e1 : len024 (tI hd) = true := by
      simp only [len024, tI, List.length_map]
      rcases h0 with h | h | h <;> rw [h] <;> decide
    have e2 : (decide (o1 = z1) && decide (o2 = z2)) = false := by
      by_cases a : o1 = z1
      · by_cases b : o2 = z2
        · exact absurd ⟨a, b⟩ h6
        · simp [b]
      · simp [a]
    simp only [wrongP, areD_tI h1, e1, isPG_two h2 h3, isPG_two h4 h5, eqv2, e2, isWF_int h7.1 h7.2, isWF_int h8 h9, Bool.and_self, Bool.not_true, Bool.or_self, Bool.false_eq_true, if_false]
theorem pl_tab (T : Tab) : pl T.d = true := by
  cases T <;> simp [Tab.d, pl, plA, tI, plA_ints]
theorem plSA_tab {T : Tab} (h : T.ok) : ∀ xs, T.d = .tup xs → plSA xs = true := by
  intro xs e
  cases T with
  | ha u b => cases e; simp [plSA, plS, pl]
  | pa hd z1 z2 o1 o2 s b =>
    cases e
    have : hd.length ≤ 100000 := by have := h.1; omega
    have h1 : plS (tI [z1, z2]) = true := plS_tI (by show 2 ≤ 100000; decide)
    have h2 : plS (tI [o1, o2]) = true := plS_tI (by show 2 ≤ 100000; decide)
    simp only [plSA, List.all_cons, List.all_nil, plS_tI this, h1, h2]
    rfl
section
variable {K : PySem.W.Frag} {S : Sta} {ds : List Dt}
end
/-! ### is_word -/
section
variable {K : PySem.W.Frag} {S : Sta} {ds : List Dt}
end
/-! ### words -/
section
variable {K : PySem.W.Frag} {S : Sta} {ds : List Dt}
end
end Bf
namespace Bf
open PySem PySem.Spec PyProof.Rows L2
/-! ## The law's draws -/
/-- a number below ds' one -/
def nextR : List Dt → Dt → Prop := fun ds d => ∃ m r, ds = [.int m] ∧ d = .int r ∧ 0 ≤ r ∧ r < m
abbrev p__law_next (K : PySem.W.Frag) : Sp := spD K 1 (fun ds => ∃ m, ds = [.int m] ∧ 0 < m ∧ m.natAbs < 2 ^ 8000) nextR 1
abbrev t__law_next (K : PySem.W.Frag) : TS := (tSeq (tIfS (tTest (tOp rGtI (tDGet (tVar 0) (tC (.str "left"))) (tC (.int 0)))) (tSeq (tAsg (tTup (tCons (tDGet (tVar 0) (tC (.str "left"))) (tCons (tOp rDivW (tDGet (tVar 0) (tC (.str "left"))) (tVar 1)) tNil))) (gTup K 2 (gCons (gName 2) (gCons (gSub (tVar 0) (tC (.str "left")) rSetD) gNil))))
    (tRet (tOp rModI (tVar 2) (tVar 1)))) tNext)
    (tSeq (tAsg (tDGet (tVar 0) (tC (.str "cells"))) (gName 3))
    (tSeq (tAsg (tOp (rIx K) (tVar 3) (tOp rModI (tDGet (tVar 0) (tC (.str "at"))) (tCB (rLen K) (tCons (tVar 3) tNil)))) (gName 2))
    (tSeq (tAsg (tOp rAddI (tDGet (tVar 0) (tC (.str "at"))) (tC (.int 1))) (gSub (tVar 0) (tC (.str "at")) rSetD))
    (tSeq (tIfS (tAnd (tTest (tOp rGeI (tVar 2) (tOp rPowI (tC (.int 10)) (tC (.int 18))))) (tTest (tOp rLeI (tDGet (tVar 0) (tC (.str "at"))) (tCB (rLen K) (tCons (tVar 3) tNil))))) (tSeq (tAsg (tOp rDivW (tVar 2) (tVar 1)) (gSub (tVar 0) (tC (.str "left")) rSetD))
    (tRet (tOp rModI (tVar 2) (tVar 1)))) tNext)
    (tSeq (tAsg (tOp rAddI (tDGet (tVar 0) (tC (.str "used"))) (tC (.int 1))) (gSub (tVar 0) (tC (.str "used")) rSetD))
    (tSeq (tAsg (tOp rAddI (tOp rModI (tVar 2) (tC (.int 1000000007))) (tOp rMulW (tOp rMulW (tC (.int 7919)) (tDGet (tVar 0) (tC (.str "used")))) (tDGet (tVar 0) (tC (.str "used"))))) (gName 4))
    (tSeq (tFor (iTup K (tTup (tCons (tDGet (tVar 0) (tC (.str "at"))) (tCons (tDGet (tVar 0) (tC (.str "used"))) tNil)))) (gName 5) (tSeq (tAsg (tOp rModI (tOp rMulW (tOp rAddI (tOp rAddI (tVar 4) (tOp rMulW (tC (.int 31)) (tVar 5))) (tC (.int 7))) (tC (.int 48271))) (tC (.int 2147483647))) (gName 4))
    (tAsg (tOp rModI (tOp rMulW (tVar 4) (tOp rAddI (tC (.int 69621)) (tOp rMulW (tC (.int 2)) (tOp rModI (tVar 5) (tC (.int 1000)))))) (tC (.int 2147483629))) (gName 4))))
    (tRet (tOp rModI (tOp rDivW (tVar 4) (tC (.int 7))) (tVar 1)))))))))))
theorem mul_in {x y B C : Int} (h1 : 0 ≤ x) (h2 : x ≤ B) (h3 : 0 ≤ y) (h4 : y ≤ C) : 0 ≤ x * y ∧ x * y ≤ B * C :=
  ⟨Int.mul_nonneg h1 h3, Int.mul_le_mul h2 h4 h3 (Int.le_trans h1 h2)⟩
theorem cmul {x y : Int} (h1 : 0 ≤ x) (h2 : x < 2 ^ 100) (h3 : 0 ≤ y) (h4 : y < 2 ^ 100) : CMulW x y := wide_mul (a := 100) (b := 100) (by omega) (by omega) (by decide) (by decide) (by decide)
theorem cdivs {x y : Int} (h : 0 < y) (hb : y.natAbs < 2 ^ 8000) : CDivW x y := wide_div (b := 8000) h hb (by decide) (by decide)
section
variable {K : PySem.W.Frag} {a : Addr} {c : CT} {cs : List Int} {n : Nat} {ds : List Dt}
theorem so__law_next (hc : cs ≠ []) (hn : n + 1 ≤ 1000000) (hp : ∃ m, ds = [.int m] ∧ 0 < m ∧ m.natAbs < 2 ^ 8000) :
    So K (DW K a c cs n) (DW K a c cs (n + 1)) [] (t__law_next K) (startD 6 (.raw (.ref a) :: ds)) { nx := fun _ => nextR ds .non, rt := nextR ds } := by
  obtain ⟨m, rfl, hm, hmb⟩ := hp
  refine so_open fun i l u i0 i1 l0 u0 u1 => ?_
  have fin : ∀ x : Int, nextR [.int m] (.int (x % m)) := fun x => ⟨m, _, rfl, rfl, Int.emod_nonneg _ (by omega), Int.emod_lt_of_pos _ hm⟩
  refine so_ifD (et_test (ev_op (ev_dleft rfl) ev_int rv_gt)) (fun e => ?_) fun e => so_skip ?_
  · have hl : 0 < l := of_decide_eq_true e
    refine so_assoc (so_dset2 (ea_cons (ev_dleft rfl) (ea_cons (ev_op (ev_dleft rfl) (ev_var rfl) (rv_div (cdivs hm hmb))) ea_nil)) rfl (by decide) ?_)
    exact so_ret1D (ev_op (ev_var rfl) (ev_var rfl) (rv_mod hm)) (dw_of i0 (by omega) (Int.ediv_nonneg (by omega) (by omega)) u0 (by omega)) (fin _)
  · have hcl : 0 < cs.length := List.length_pos_iff.mpr hc
    have hcm : (0 : Int) < ((cs.map Dt.int).length : Nat) := by rw [List.length_map]; omega
    have hix : 0 ≤ i % ((cs.map Dt.int).length : Nat) ∧ i % ((cs.map Dt.int).length : Nat) < (cs.length : Nat) := ⟨Int.emod_nonneg _ (by omega), by have := Int.emod_lt_of_pos i hcm; rw [List.length_map] at this ⊢; exact this⟩
    obtain ⟨cell, hcell⟩ : ∃ cell : Int, atI (cs.map Dt.int) (i % ((cs.map Dt.int).length : Nat)) = some (.int cell) := by
      have hlt : (i % ((cs.map Dt.int).length : Nat)).toNat < cs.length := by omega
      refine ⟨cs[(i % ((cs.map Dt.int).length : Nat)).toNat], ?_⟩
      have e1 : ((i % ((cs.map Dt.int).length : Nat)).toNat : Int) = i % ((cs.map Dt.int).length : Nat) := Int.toNat_of_nonneg hix.1
      have := atI_nat (xs := cs.map Dt.int) (j := (i % ((cs.map Dt.int).length : Nat)).toNat) (v := .int cs[(i % ((cs.map Dt.int).length : Nat)).toNat]) (by rw [List.getElem?_map, List.getElem?_eq_getElem hlt]; rfl)
      rwa [e1] at this
    refine so_setD (ev_dcells rfl) ?_
    refine so_setD (ev_ixL (ev_var rfl) (ev_op (ev_dat rfl) (ev_lenL (ev_var rfl)) (rv_mod hcm)) hcell) ?_
    refine so_dset (ev_op (ev_dat rfl) ev_int rv_add) rfl dr_pat ?_
    refine so_ifD (et_and (et_test (ev_op (ev_var rfl) (ev_op ev_int ev_int (rv_pow ⟨by decide, by decide, by decide⟩)) rv_ge)) fun _ => et_test (ev_op (ev_dat rfl) (ev_lenL (ev_var rfl)) rv_le)) (fun e2 => ?_) fun e2 => so_skip ?_
    · have hbig : (10 : Int) ^ (18 : Int).toNat ≤ cell := of_decide_eq_true (Bool.and_eq_true_iff.mp e2).1
      have hpos : 0 ≤ cell := Int.le_trans (by decide) hbig
      refine so_assoc (so_dset (ev_op (ev_var rfl) (ev_var rfl) (rv_div (cdivs hm hmb))) rfl dr_pleft ?_)
      exact so_ret1D (ev_op (ev_var rfl) (ev_var rfl) (rv_mod hm)) (dw_of (by omega) (by omega) (Int.ediv_nonneg hpos (by omega)) u0 (by omega)) (fin _)
    · refine so_dset (ev_op (ev_dused rfl) ev_int rv_add) rfl dr_pused ?_
      have u2 : 0 ≤ u + 1 ∧ u + 1 ≤ 1000001 := by omega
      have q1 := mul_in (x := 7919) (y := u + 1) (B := 7919) (C := 1000001) (by decide) (Int.le_refl _) u2.1 u2.2
      have q2 := mul_in (x := 7919 * (u + 1)) (y := u + 1) (B := 7919 * 1000001) (C := 1000001) q1.1 q1.2 u2.1 u2.2
      have c0 := Int.emod_nonneg cell (show (1000000007 : Int) ≠ 0 by decide)
      have c1 := Int.emod_lt_of_pos cell (show (0 : Int) < 1000000007 by decide)
      refine so_setD (ev_op (ev_op (ev_var rfl) ev_int (rv_mod (by decide))) (ev_op (ev_op ev_int (ev_dused rfl) (rv_mul (cmul (by decide) (by decide) u2.1 (by omega)))) (ev_dused rfl) (rv_mul (cmul q1.1 (by omega) u2.1 (by omega)))) rv_add) ?_
      have le1 : (DS K a c cs (i + 1) l (u + 1)).Le (DW K a c cs (n + 1)) := dw_of (by omega) (by omega) l0 u2.1 (by omega)
      refine so_mid (M := fun ρ' => ∃ (num : Int) (x : Option Dt), 0 ≤ num ∧ num < 2 ^ 64 ∧ ρ' = [some (.raw (.ref a)), some (.int m), some (.int cell), some (.lst (cs.map Dt.int)), some (.int num), x]) le1
        (so_forT (xs := [.int (i + 1), .int (u + 1)]) (ev_tup (ea_cons (ev_dat rfl) (ea_cons (ev_dused rfl) ea_nil)) (by show 2 ≤ sizeLine; decide)) (fun _ ρ' => ∃ (num : Int) (x : Option Dt), 0 ≤ num ∧ num < 2 ^ 64 ∧ ρ' = [some (.raw (.ref a)), some (.int m), some (.int cell), some (.lst (cs.map Dt.int)), some (.int num), x])
          ⟨_, _, ?_, ?_, rfl⟩ (fun t x ρ' hx hJ => ?_) fun ρ' h => h) fun ρ' hM => ?_
      · omega
      · have e7 : (7919 * 1000001 * 1000001 : Int) = 7919015838007919 := by decide
        omega
      · obtain ⟨num, y, n0, n1, rfl⟩ := hJ
        obtain ⟨k, rfl, k0, k1⟩ : ∃ k : Int, x = .int k ∧ 0 ≤ k ∧ k ≤ 1000001 := by
          match t, hx with
          | 0, hx => exact ⟨i + 1, (by simpa using hx.symm), by omega, by omega⟩
          | 1, hx => exact ⟨u + 1, (by simpa using hx.symm), by omega, by omega⟩
          | t + 2, hx => simp at hx
        have s0 := Int.emod_nonneg ((num + 31 * k + 7) * 48271) (show (2147483647 : Int) ≠ 0 by decide)
        have s1 := Int.emod_lt_of_pos ((num + 31 * k + 7) * 48271) (show (0 : Int) < 2147483647 by decide)
        have k2 := Int.emod_nonneg k (show (1000 : Int) ≠ 0 by decide)
        have k3 := Int.emod_lt_of_pos k (show (0 : Int) < 1000 by decide)
        refine so_setD (ev_op (ev_op (ev_op (ev_op (ev_var rfl) (ev_op ev_int (ev_var rfl) (rv_mul (cmul (by decide) (by decide) k0 (by omega)))) rv_add) ev_int rv_add) ev_int (rv_mul (cmul (by omega) (by omega) (by decide) (by decide)))) ev_int (rv_mod (by decide))) ?_
        refine so_set0D (ev_op (ev_op (ev_var rfl) (ev_op ev_int (ev_op ev_int (ev_op (ev_var rfl) ev_int (rv_mod (by decide))) (rv_mul (cmul (by decide) (by decide) k2 (by omega)))) rv_add) (rv_mul (cmul s0 (by omega) (by omega) (by omega)))) ev_int (rv_mod (by decide))) (Sta.Le.refl _) ⟨_, _, Int.emod_nonneg _ (by decide), ?_, rfl⟩
        have := Int.emod_lt_of_pos ((num + 31 * k + 7) * 48271 % 2147483647 * (69621 + 2 * (k % 1000))) (show (0 : Int) < 2147483629 by decide)
        omega
      · obtain ⟨num, y, n0, n1, rfl⟩ := hM
        exact so_retD (ev_op (ev_op (ev_var rfl) ev_int (rv_div (cdivs (by decide) (by decide)))) (ev_var rfl) (rv_mod hm)) le1 (fin _)
theorem ev__law_next {S : Sta} {ρ : List (Option Dt)} {ta tm : TE} {m : Int} (h : EvA K S (DW K a c cs n) ρ (tCons ta (tCons tm tNil)) (Eq [.raw (.ref a), .int m])) (hc : cs ≠ []) (hn : n + 1 ≤ 1000000) (h0 : 0 < m) (h1 : m.natAbs < 2 ^ 8000) :
    Ev K S (DW K a c cs (n + 1)) ρ (tCall (p__law_next K) [] E0 (tCons ta (tCons tm tNil))) (fun d => ∃ r, d = .int r ∧ 0 ≤ r ∧ r < m) :=
  (ev_callD (ds := [.int m]) h rfl ⟨m, rfl, h0, h1⟩ hc hn).weak fun d ⟨m', r, e, e2, r0, r1⟩ => by cases e; exact ⟨r, e2, r0, r1⟩
end
/-! ### _law_pick -/
def pickR : List Dt → Dt → Prop := fun ds d => ∃ xs, (ds = [.lst xs] ∨ ds = [.tup xs]) ∧ d ∈ xs
abbrev p__law_pick (K : PySem.W.Frag) : Sp := spD K 1 (fun ds => ∃ xs, (ds = [.lst xs] ∨ ds = [.tup xs]) ∧ xs ≠ [] ∧ xs.length ≤ 100000) pickR 1
abbrev t__law_pick (K : PySem.W.Frag) : TS := (tRet (tOp (rIx K) (tVar 1) (tCall (p__law_next K) [] E0 (tCons (tVar 0) (tCons (tCB (rLen K) (tCons (tVar 1) tNil)) tNil)))))
section
variable {K : PySem.W.Frag} {a : Addr} {c : CT} {cs : List Int} {n : Nat} {ds : List Dt}
theorem at_in {xs : List Dt} {r : Int} (h0 : 0 ≤ r) (h1 : r < (xs.length : Nat)) : ∃ d, atI xs r = some d ∧ d ∈ xs := by
  have hlt : r.toNat < xs.length := by omega
  have e1 : (r.toNat : Int) = r := Int.toNat_of_nonneg h0
  have := atI_nat (xs := xs) (j := r.toNat) (v := xs[r.toNat]) (List.getElem?_eq_getElem hlt)
  rw [e1] at this
  exact ⟨_, this, List.getElem_mem hlt⟩
theorem so__law_pick (hc : cs ≠ []) (hn : n + 1 ≤ 1000000) (hp : ∃ xs, (ds = [.lst xs] ∨ ds = [.tup xs]) ∧ xs ≠ [] ∧ xs.length ≤ 100000) :
    So K (DW K a c cs n) (DW K a c cs (n + 1)) [] (t__law_pick K) (startD 2 (.raw (.ref a) :: ds)) { nx := fun _ => pickR ds .non, rt := pickR ds } := by
  obtain ⟨xs, h, hx, hz⟩ := hp
  have hl : 0 < xs.length := List.length_pos_iff.mpr hx
  have hb : (xs.length : Int).natAbs < 2 ^ 8000 := Nat.lt_of_le_of_lt (show (xs.length : Int).natAbs ≤ 100000 by omega) (by decide)
  rcases h with rfl | rfl
  · refine so_ret (ev_ixLP (ev_var rfl) (ev__law_next (ea_cons (ev_var rfl) (ea_cons (ev_lenL (ev_var rfl)) ea_nil)) hc hn (by omega) hb) (fun y ⟨r, e, r0, r1⟩ => ?_)) (Sta.Le.refl _) fun d p => p
    obtain ⟨d, h1, h2⟩ := at_in r0 r1
    exact ⟨r, d, e, h1, xs, .inl rfl, h2⟩
  · refine so_ret (ev_opP (ev_var rfl) (ev__law_next (ea_cons (ev_var rfl) (ea_cons (ev_lenT (ev_var rfl)) ea_nil)) hc hn (by omega) hb) (fun x y e ⟨r, e2, r0, r1⟩ => ?_)) (Sta.Le.refl _) fun d p => p
    obtain ⟨d, h1, h2⟩ := at_in r0 r1
    subst e e2
    exact fun H v u i r1 r2 Q q => rv_ixST h1 H v u i r1 r2 Q fun v' d' H' g i' r e => q v' d' H' g i' r (e ▸ ⟨xs, .inr rfl, h2⟩)
theorem ev__law_pick {S : Sta} {ρ : List (Option Dt)} {ta tm : TE} {xs : List Dt} (h : EvA K S (DW K a c cs n) ρ (tCons ta (tCons tm tNil)) (Eq [.raw (.ref a), .lst xs])) (hc : cs ≠ []) (hn : n + 1 ≤ 1000000) (h0 : xs ≠ []) (h1 : xs.length ≤ 100000) :
    Ev K S (DW K a c cs (n + 1)) ρ (tCall (p__law_pick K) [] E0 (tCons ta (tCons tm tNil))) (fun d => d ∈ xs) :=
  (ev_callD (ds := [.lst xs]) h rfl ⟨xs, .inl rfl, h0, h1⟩ hc hn).weak fun d ⟨ys, e, hd⟩ => by
    rcases e with e | e <;> cases e
    exact hd
end
/-! ### _law_size, _law_table -/
def sizeR : List Dt → Dt → Prop := fun _ d => ∃ s, d = .int s ∧ dur s
abbrev p__law_size (K : PySem.W.Frag) : Sp := spD K 0 (fun ds => ds = []) sizeR 3
abbrev t__law_size (K : PySem.W.Frag) : TS := (tSeq (tPar 1 2 (tCons (tOp rAddI (tC (.int 1)) (tCall (p__law_next K) [] E0 (tCons (tVar 0) (tCons (tC (.int 6)) tNil)))) (tCons (tOp rAddI (tC (.int 100)) (tCall (p__law_next K) [] E0 (tCons (tVar 0) (tCons (tC (.int 900)) tNil)))) tNil)))
    (tRet (tCall (p__law_pick K) [] E0 (tCons (tVar 0) (tCons (tLst (tCons (tVar 1) (tCons (tVar 1) (tCons (tOp rAddI (tVar 1) (tC (.int 3))) (tCons (tVar 2) (tCons (tC (.int 560)) (tCons (tC (.int 99999)) tNil))))))) tNil)))))
section
variable {K : PySem.W.Frag} {a : Addr} {c : CT} {cs : List Int} {n : Nat} {ds : List Dt}
theorem ev_addP {S S1 S2 : Sta} {ρ : List (Option Dt)} {ta tb : TE} {i : Int} {Φ : Dt → Prop} (ha : Ev K S S1 ρ ta (Eq (.int i))) (hb : Ev K S1 S2 ρ tb Φ) {Θ : Dt → Prop} (h : ∀ y, Φ y → ∃ r, y = .int r ∧ Θ (.int (i + r))) : Ev K S S2 ρ (tOp rAddI ta tb) Θ := ev_opP ha hb fun x y e p => by
  obtain ⟨r, rfl, q⟩ := h y p
  subst e
  exact fun H v u i' r1 r2 Q k => rv_add H v u i' r1 r2 Q fun v' d' H' g i2 r e => k v' d' H' g i2 r (e ▸ q)
theorem so__law_size (hc : cs ≠ []) (hn : n + 3 ≤ 1000000) (hp : ds = []) :
    So K (DW K a c cs n) (DW K a c cs (n + 3)) [] (t__law_size K) (startD 3 (.raw (.ref a) :: ds)) { nx := fun _ => sizeR ds .non, rt := sizeR ds } := by
  subst hp
  refine so_par (ea_consP (Φ := fun d => ∃ r, d = .int r ∧ 1 ≤ r ∧ r ≤ 6) (ev_addP ev_int (ev__law_next (ea_cons (ev_var rfl) (ea_cons ev_int ea_nil)) hc (by omega) (by decide) (by decide)) fun y ⟨r, e, r0, r1⟩ => ⟨r, e, _, rfl, by omega, by omega⟩)
    (ea_consP (Φ := fun d => ∃ r, d = .int r ∧ 100 ≤ r ∧ r ≤ 999) (ev_addP ev_int (ev__law_next (n := n + 1) (ea_cons (ev_var rfl) (ea_cons ev_int ea_nil)) hc (by omega) (by decide) (by decide)) fun y ⟨r, e, r0, r1⟩ => ⟨r, e, _, rfl, by omega, by omega⟩) ea_nil)) (fun l ⟨x, xs, e, _, y, ys, e2, _, e3⟩ => by subst e e2 e3; rfl) fun x y hxy => ?_
  obtain ⟨x', xs, e, ⟨r, rfl, r0, r1⟩, y', ys, e2, ⟨s, rfl, s0, s1⟩, e3⟩ := hxy
  subst e3
  subst e2
  cases e
  refine so_ret (ev__law_pick (n := n + 1 + 1) (xs := [.int r, .int r, .int (r + 3), .int s, .int 560, .int 99999]) (ea_cons (ev_var rfl) (ea_cons (ev_lst (ea_cons (ev_var rfl) (ea_cons (ev_var rfl) (ea_cons (ev_op (ev_var rfl) ev_int rv_add) (ea_cons (ev_var rfl) (ea_cons ev_int (ea_cons ev_int ea_nil)))))) (by show 6 ≤ sizeLine; decide)) ea_nil)) hc (by omega) (by simp) (by show 6 ≤ 100000; decide)) (Sta.Le.refl _) fun d hd => ?_
  simp only [List.mem_cons, List.not_mem_nil, or_false] at hd
  rcases hd with rfl | rfl | rfl | rfl | rfl | rfl <;> exact ⟨_, rfl, by omega, by omega⟩
theorem ev__law_size {S : Sta} {ρ : List (Option Dt)} {ta : TE} (h : Ev K S (DW K a c cs n) ρ ta (Eq (.raw (.ref a)))) (hc : cs ≠ []) (hn : n + 3 ≤ 1000000) :
    Ev K S (DW K a c cs (n + 3)) ρ (tCall (p__law_size K) [] E0 (tCons ta tNil)) (fun d => ∃ s, d = .int s ∧ dur s) := ev_callD (ds := []) (ea_cons h ea_nil) rfl rfl hc hn
end
def tableR : List Dt → Dt → Prop := fun ds d => ∃ (T : Tab) (m : Int), ds = [.int m] ∧ T.ok ∧ d = T.d ∧ T.b ≤ m
abbrev p__law_table (K : PySem.W.Frag) : Sp := spD K 1 (fun ds => ∃ m, ds = [.int m] ∧ 1 ≤ m ∧ m ≤ 8) tableR 40
abbrev t__law_table (K : PySem.W.Frag) : TS := (tSeq (tAsg (tOp rAddI (tC (.int 1)) (tCall (p__law_next K) [] E0 (tCons (tVar 0) (tCons (tVar 1) tNil)))) (gName 2))
    (tSeq (tIfS (tTest (tOp rEq (tCall (p__law_next K) [] E0 (tCons (tVar 0) (tCons (tC (.int 3)) tNil))) (tC (.int 0)))) (tRet (tTup (tCons (tC (.str "halves")) (tCons (tCall (p__law_size K) [] E0 (tCons (tVar 0) tNil)) (tCons (tVar 2) tNil))))) tNext)
    (tSeq (tAsg (tCB (rTupO K) (tCons (tLc (iRng1 (tCons (tOp (rIxL K) (tLst (tCons (tC (.int 0)) (tCons (tC (.int 0)) (tCons (tC (.int 2)) (tCons (tC (.int 4)) tNil))))) (tCall (p__law_next K) [] E0 (tCons (tVar 0) (tCons (tC (.int 4)) tNil)))) tNil)) (gName 4) tYes (tCall (p__law_size K) [] E0 (tCons (tVar 0) tNil)) [4]) tNil)) (gName 3))
    (tSeq (tPar 5 6 (tCons (tTup (tCons (tCall (p__law_size K) [] E0 (tCons (tVar 0) tNil)) (tCons (tCall (p__law_size K) [] E0 (tCons (tVar 0) tNil)) tNil))) (tCons (tTup (tCons (tCall (p__law_size K) [] E0 (tCons (tVar 0) tNil)) (tCons (tCall (p__law_size K) [] E0 (tCons (tVar 0) tNil)) tNil))) tNil)))
    (tSeq (tIfS (tTest (tOp (rEqD K) (tVar 6) (tVar 5))) (tAsg (tTup (tCons (tOp (rIx K) (tVar 5) (tC (.int 0))) (tCons (tOp rAddI (tOp rAddI (tOp rModI (tOp (rIx K) (tVar 5) (tC (.int 1))) (tC (.int 9))) (tC (.int 1))) (tCB rInt1 (tCons (tOp rGtI (tOp (rIx K) (tVar 5) (tC (.int 1))) (tC (.int 9))) tNil))) tNil))) (gName 6)) tNext)
    (tRet (tTup (tCons (tC (.str "pairs")) (tCons (tVar 3) (tCons (tVar 5) (tCons (tVar 6) (tCons (tCall (p__law_size K) [] E0 (tCons (tVar 0) tNil)) (tCons (tVar 2) tNil)))))))))))))
section
variable {K : PySem.W.Frag} {a : Addr} {c : CT} {cs : List Int} {n : Nat} {ds : List Dt}
theorem ea_twoP {S S1 S2 : Sta} {ρ : List (Option Dt)} {ta tb : TE} {Φ Ψ : Dt → Prop} (ha : Ev K S S1 ρ ta Φ) (hb : Ev K S1 S2 ρ tb Ψ) : EvA K S S2 ρ (tCons ta (tCons tb tNil)) (fun l => ∃ x y, l = [x, y] ∧ Φ x ∧ Ψ y) := fun σ H i s Q q =>
  ea_consP ha (ea_consP hb ea_nil) σ H i s Q fun vs ds H' g i' r ⟨x, xs, e, hx, y, ys, e2, hy, e3⟩ => q vs ds H' g i' r ⟨x, y, by rw [e, e2, ← e3], hx, hy⟩
theorem ev_two {S S1 S2 : Sta} {ρ : List (Option Dt)} {ta tb : TE} (ha : Ev K S S1 ρ ta (fun d => ∃ s, d = .int s ∧ dur s)) (hb : Ev K S1 S2 ρ tb (fun d => ∃ s, d = .int s ∧ dur s)) :
    Ev K S S2 ρ (tTup (tCons ta (tCons tb tNil))) (fun d => ∃ x y, d = tI [x, y] ∧ dur x ∧ dur y) := (ev_tupP (ea_twoP ha hb) fun l ⟨x, y, e, _⟩ => by rw [e]; show 2 ≤ sizeLine; decide).weak fun d h => by
  obtain ⟨l, e, x, y, e2, ⟨s, e3, hs⟩, ⟨t, e4, ht⟩⟩ := h
  exact ⟨s, t, by rw [e, e2, e3, e4]; rfl, hs, ht⟩
theorem ints_of : ∀ {ds : List Dt}, (∀ x ∈ ds, ∃ s, x = .int s ∧ dur s) → ∃ ns : List Int, ds = ns.map Dt.int ∧ ∀ x ∈ ns, dur x
  | [], _ => ⟨[], rfl, fun _ z => nomatch z⟩
  | d :: ds, h => by
    obtain ⟨s, rfl, hs⟩ := h d List.mem_cons_self
    obtain ⟨ns, rfl, hn⟩ := ints_of (ds := ds) fun x hx => h x (List.mem_cons_of_mem _ hx)
    exact ⟨s :: ns, rfl, fun x hx => by
      rcases List.mem_cons.mp hx with e | hx
      · rw [e]; exact hs
      · exact hn x hx⟩
theorem ev_tupL {S S1 : Sta} {ρ : List (Option Dt)} {ta : TE} {Φ : List Dt → Prop} (h : Ev K S S1 ρ ta (fun d => ∃ xs, d = .lst xs ∧ Φ xs)) : Ev K S S1 ρ (tCB (rTupO K) (tCons ta tNil)) (fun d => ∃ xs, d = .tup xs ∧ Φ xs) :=
  ev_cbP (Φl := fun l => ∃ xs, l = [.lst xs] ∧ Φ xs) (fun σ H i s Q q => ea_consP h ea_nil σ H i s Q fun vs ds H' g i' r ⟨d, ds', e, ⟨xs, e2, p⟩, e3⟩ => q vs ds H' g i' r ⟨xs, by rw [e, e2, ← e3], p⟩) fun l ⟨xs, e, p⟩ => by
    subst e
    exact fun H vs i r Q q => rc_tupL H vs i r Q fun v' d H' g i' r' e => q v' d H' g i' r' ⟨xs, e.symm, p⟩
theorem so__law_table (hc : cs ≠ []) (hn : n + 40 ≤ 1000000) (hp : ∃ m, ds = [.int m] ∧ 1 ≤ m ∧ m ≤ 8) :
    So K (DW K a c cs n) (DW K a c cs (n + 40)) [] (t__law_table K) (startD 7 (.raw (.ref a) :: ds)) { nx := fun _ => tableR ds .non, rt := tableR ds } := by
  obtain ⟨m, rfl, m1, m8⟩ := hp
  refine so_set (ev_addP (Θ := fun d => ∃ b, d = .int b ∧ 1 ≤ b ∧ b ≤ m) ev_int (ev__law_next (ea_cons (ev_var rfl) (ea_cons (ev_var rfl) ea_nil)) hc (by omega) (by omega) (Nat.lt_of_le_of_lt (show m.natAbs ≤ 8 by omega) (by decide))) fun y ⟨r, e, r0, r1⟩ => ⟨r, e, _, rfl, by omega, by omega⟩) fun d hd => ?_
  obtain ⟨b, rfl, b1, b2⟩ := hd
  refine so_if (Φb := fun _ => True) (et_testP (ev_opP (Θ := fun d => ∃ k, d = .bl k ∧ True) (ev__law_next (n := n + 1) (ea_cons (ev_var rfl) (ea_cons ev_int ea_nil)) hc (by omega) (by decide) (by decide)) ev_int fun x y ⟨r, e, _⟩ e2 => ?_)) (fun _ => ?_) fun _ => so_skip ?_
  · subst e e2
    exact fun H v u i r1 r2 Q q => rv_eqI H v u i r1 r2 Q fun v' d' H' g i' r e => q v' d' H' g i' r ⟨_, e.symm, trivial⟩
  · -- halves
    refine so_ret1 (ev_tupP (ea_consP ev_str (ea_twoP (ev__law_size (n := n + 1 + 1) (ev_var rfl) hc (by omega)) (ev_var (d := .int b) rfl))) fun l ⟨x, xs, e, _, y, z, e2, _⟩ => by rw [e, e2]; show 3 ≤ sizeLine; decide) (dw_le (by omega)) fun d hd => ?_
    obtain ⟨l, rfl, x, xs, rfl, rfl, y, z, rfl, ⟨s, rfl, hs⟩, rfl⟩ := hd
    exact ⟨.ha s b, m, rfl, ⟨hs, b1, by omega⟩, rfl, b2⟩
  · -- pairs: the header
    refine so_set (S1 := DW K a c cs (n + 15)) (Φ := fun d => ∃ xs, d = .tup xs ∧ ((xs.length = 0 ∨ xs.length = 2 ∨ xs.length = 4) ∧ ∀ x ∈ xs, ∃ s, x = .int s ∧ dur s)) (ev_tupL ?_) fun d hd => ?_
    · intro σ H i s Q q
      -- how many: drawn
      have hix : ∀ y : Dt, (∃ r, y = .int r ∧ 0 ≤ r ∧ r < 4) → ∃ k d, y = .int k ∧ atI [Dt.int 0, .int 0, .int 2, .int 4] k = some d ∧ ∃ k : Nat, d = .int k ∧ (k = 0 ∨ k = 2 ∨ k = 4) := by
        rintro y ⟨r, e, r0, r1⟩
        have : r = 0 ∨ r = 1 ∨ r = 2 ∨ r = 3 := by omega
        rcases this with rfl | rfl | rfl | rfl
        · exact ⟨0, .int 0, e, atI_nat (j := 0) rfl, 0, rfl, .inl rfl⟩
        · exact ⟨1, .int 0, e, atI_nat (j := 1) rfl, 0, rfl, .inl rfl⟩
        · exact ⟨2, .int 2, e, atI_nat (j := 2) rfl, 2, rfl, .inr (.inl rfl)⟩
        · exact ⟨3, .int 4, e, atI_nat (j := 3) rfl, 4, rfl, .inr (.inr rfl)⟩
      have hcount := ev_ixLPL (K := K) (S := DW K a c cs (n + 1 + 1)) (ρ := [some (.raw (.ref a)), some (.int m), some (.int b), none, none, none, none]) (ev_lst (ea_cons (ev_int (i := 0)) (ea_cons (ev_int (i := 0)) (ea_cons (ev_int (i := 2)) (ea_cons (ev_int (i := 4)) ea_nil)))) (by show 4 ≤ sizeLine; decide)) (ev__law_next (a := a) (c := c) (cs := cs) (n := n + 1 + 1) (ea_cons (ev_var (i := 0) (d := .raw (.ref a)) rfl) (ea_cons (ev_int (i := 4)) ea_nil)) hc (by omega) (by decide) (by decide)) hix
      refine hcount σ H i s _ fun v d H1 g1 i1 r1 p1 => ?_
      obtain ⟨k, rfl, hk⟩ := p1
      -- from here on the count is known
      have hcomp : Ev K (DW K a c cs (n + 3)) (DW K a c cs (n + 3 + 3 * k)) [some (.raw (.ref a)), some (.int m), some (.int b), none, none, none, none] (tLc (iRng1 (tCons (tC (.int k)) tNil)) (gName 4) tYes (tCall (p__law_size K) [] E0 (tCons (tVar 0) tNil)) [4]) (fun d => ∃ ds, d = .lst ds ∧ ds.length = k ∧ nolA ds = true ∧ ∀ x ∈ ds, ∃ s, x = .int s ∧ dur s) :=
        ev_lcRP (Z := fun i => DW K a c cs (n + 3 + 3 * i)) (fun h1 g hD e h => dw_off h1 g hD e h) (fun i => dw_le (by omega)) (ea_cons ev_int ea_nil) (by omega) (by decide) fun i hi => (ev__law_size (n := n + 3 + 3 * i) (ev_var rfl) hc (by omega)).weak fun d ⟨s, e, hs⟩ => ⟨⟨s, e, hs⟩, by rw [e]; rfl⟩
      obtain rfl := r1.intI
      refine hcomp σ H1 i1 (s.mono g1) Q fun v' d' H2 g2 i2 r2 p2 => ?_
      obtain ⟨xs, e, hl, _, hx⟩ := p2
      exact q v' d' H2 (g1.trans g2) (dw_le (by omega) _ i2) r2 ⟨xs, e, by rw [hl]; exact hk, hx⟩
    obtain ⟨xs, rfl, hl, hx⟩ := hd
    obtain ⟨hs, rfl, hh⟩ := ints_of hx
    rw [List.length_map] at hl
    refine so_par (ea_twoP (ev_two (ev__law_size (n := n + 15) (ev_var rfl) hc (by omega)) (ev__law_size (n := n + 15 + 3) (ev_var rfl) hc (by omega))) (ev_two (ev__law_size (n := n + 15 + 3 + 3) (ev_var rfl) hc (by omega)) (ev__law_size (n := n + 15 + 3 + 3 + 3) (ev_var rfl) hc (by omega)))) (fun l ⟨x, y, e, _⟩ => by rw [e]; rfl) fun x y hxy => ?_
    obtain ⟨x', y', e, ⟨z1, z2, rfl, hz1, hz2⟩, ⟨o1, o2, rfl, ho1, ho2⟩⟩ := hxy
    cases e
    -- the rest
    have rest : ∀ p1 p2 : Int, dur p1 → dur p2 → ¬ (p1 = z1 ∧ p2 = z2) → So K (DW K a c cs (n + 15 + 3 + 3 + 3 + 3)) (DW K a c cs (n + 40)) [] (tRet (tTup (tCons (tC (.str "pairs")) (tCons (tVar 3) (tCons (tVar 5) (tCons (tVar 6) (tCons (tCall (p__law_size K) [] E0 (tCons (tVar 0) tNil)) (tCons (tVar 2) tNil))))))))
        [some (.raw (.ref a)), some (.int m), some (.int b), some (.tup (hs.map Dt.int)), none, some (tI [z1, z2]), some (tI [p1, p2])] { nx := fun _ => tableR [.int m] .non, rt := tableR [.int m] } := fun p1 p2 hp1 hp2 hne => by
      refine so_ret (ev_tupP (ea_consP ev_str (ea_consP (ev_var (d := .tup (hs.map Dt.int)) rfl) (ea_consP (ev_var (d := tI [z1, z2]) rfl) (ea_consP (ev_var (d := tI [p1, p2]) rfl) (ea_twoP (ev__law_size (n := n + 15 + 3 + 3 + 3 + 3) (ev_var rfl) hc (by omega)) (ev_var (d := .int b) rfl)))))) fun l ⟨_, _, e, _, _, _, e1, _, _, _, e2, _, _, _, e3, _, _, _, e4, _⟩ => by rw [e, e1, e2, e3, e4]; show 6 ≤ sizeLine; decide) (dw_le (by omega)) fun d hd => ?_
      obtain ⟨l, rfl, _, _, rfl, rfl, _, _, rfl, rfl, _, _, rfl, rfl, _, _, rfl, rfl, _, _, rfl, ⟨s, rfl, hs'⟩, rfl⟩ := hd
      exact ⟨.pa hs z1 z2 p1 p2 s b, m, rfl, ⟨hl, hh, hz1, hz2, hp1, hp2, hne, hs', b1, by omega⟩, rfl, b2⟩
    refine so_ifD (et_test (ev_op (ev_var rfl) (ev_var rfl) (rv_eqD (cmp2 _ _) (cmp2 _ _)))) (fun e => ?_) fun e => so_skip ?_
    · have e' : (decide (o1 = z1) && decide (o2 = z2)) = true := by rw [← eqv2]; exact e
      simp only [Bool.and_eq_true, decide_eq_true_eq] at e'
      obtain ⟨rfl, rfl⟩ := e'
      refine so_setD (d := tI [o1, o2 % 9 + 1 + (if decide (9 < o2) = true then 1 else 0)]) (ev_tup (ea_cons (ev_ixT (ev_var rfl) ev_int (atI_nat (j := 0) rfl)) (ea_cons (ev_op (ev_op (ev_op (ev_ixT (ev_var rfl) ev_int (atI_nat (j := 1) rfl)) ev_int (rv_mod (by decide))) ev_int rv_add) (ev_cb (ea_cons (ev_op (ev_ixT (ev_var rfl) ev_int (atI_nat (j := 1) rfl)) ev_int rv_gt) ea_nil) rc_intB) rv_add) ea_nil)) (by show 2 ≤ sizeLine; decide)) ?_
      obtain ⟨z2a, z2b⟩ := hz2
      refine rest _ _ hz1 ⟨?_, ?_⟩ ?_
      · split <;> omega
      · split <;> omega
      · rintro ⟨_, q⟩
        split at q
        · rename_i h9
          have := of_decide_eq_true h9
          omega
        · rename_i h9
          have : ¬ (9 < o2) := fun z => h9 (decide_eq_true z)
          omega
    · refine rest o1 o2 ho1 ho2 ?_
      rintro ⟨rfl, rfl⟩
      have : PyData.eqv (py (tI [o1, o2])) (py (tI [o1, o2])) = false := e
      rw [eqv2] at this
      simp at this
theorem ev__law_table {S : Sta} {ρ : List (Option Dt)} {ta tm : TE} {m : Int} (h : EvA K S (DW K a c cs n) ρ (tCons ta (tCons tm tNil)) (Eq [.raw (.ref a), .int m])) (hc : cs ≠ []) (hn : n + 40 ≤ 1000000) (h0 : 1 ≤ m) (h1 : m ≤ 8) :
    Ev K S (DW K a c cs (n + 40)) ρ (tCall (p__law_table K) [] E0 (tCons ta (tCons tm tNil))) (fun d => ∃ T : Tab, T.ok ∧ d = T.d ∧ T.b ≤ m) :=
  (ev_callD (ds := [.int m]) h rfl ⟨m, rfl, h0, h1⟩ hc hn).weak fun d ⟨T, m', e, h1, h2, h3⟩ => by cases e; exact ⟨T, h1, h2, h3⟩
end
end Bf
namespace Bf
open PySem PySem.Spec PyProof.Rows L2
/-! ## The end: the law's def is called with the script -/
section
variable {P : Program} {w : World} {K : PySem.W.Frag} {mg mb : Str → Option Value} {k : Nat} {fa a : Addr} {fd : FuncData} {x : Str} {sp : Sp} {s₁ : Shared} {vs : List Value} {ns : List Int}
end
/-- a constant of the module -/
theorem pe_gc {X : Cx} {x : Str} {v : V} {pos : Pos} (hg : Gl X x) (hm : ∃ u, X.mg x = some u ∧ RelV v u) (hd : (x == ("__debug__" : Str)) = false := by decide) : PE X (.Name x pos) (tC v) := by
  obtain ⟨u, e, r⟩ := hm
  exact pe_glob hg e r hd
end Bf
namespace Bf
open PySem PySem.Spec PyProof.Rows L2
/-! ## _law_begin, _law_words -/
/-- .. with tables of code objects -/
def spBT (K : PySem.W.Frag) : Sp := fun vs H Q _ => ∃ s ns T, vs = [.ref s] ∧ SqL K H s (ns.map V.int) ∧ ns.length ≤ 63 ∧ LamX.Tabs T H ∧ ∀ (p : Addr) (c : Addr) H', Gr H H' → (DS K p ⟨c, T⟩ (ns ++ [0]) 0 0 0).I H' → Q (.ref p) H'
abbrev t__law_begin (K : PySem.W.Frag) : TS := (tRet (tDisp [((tC (.str "cells")), (tOp (rCatS K) (tVar 0) (tLst (tCons (tC (.int 0)) tNil)))), ((tC (.str "at")), (tC (.int 0))), ((tC (.str "left")), (tC (.int 0))), ((tC (.str "used")), (tC (.int 0)))]))
theorem rd__law_beginT {K : PySem.W.Frag} {D : Ends} {σ : L2.St} {H : Hp} {s : Addr} {ns : List Int} (hs : σ[0]? = some (some (.ref s))) (h : SqL K H s (ns.map V.int)) (hl : ns.length ≤ 63)
    {T : List (Addr × Str)} (hT : LamX.Tabs T H) (q : ∀ (p c : Addr) H', Gr H H' → (DS K p ⟨c, T⟩ (ns ++ [0]) 0 0 0).I H' → D.rt (.ref p) H') : t__law_begin K D σ H := by
  intro p hp
  have s1 := same_new (o := .dK []) hp
  refine ⟨.ref s, hs, (by show 1 ≤ sizeLine; decide), fun t ht => ?_⟩
  have s2 := same_new (o := .lst [.int 0]) ht
  refine ⟨s, t, ns.map V.int, [.int 0], rfl, rfl, s2.seq (s1.seq h), SqL.of upd_same, (by rw [List.length_map]; exact Nat.le_trans (show ns.length + 1 ≤ 64 by omega) (by decide)), fun c hc => ?_⟩
  have s3 := same_new (o := .lst (ns.map V.int ++ [.int 0])) hc
  have hp3 := s3 _ _ (s2 _ _ (upd_same (H := H) (a := p) (o := .dK [])))
  refine ⟨hp3, [((.inr "cells" : Key), V.ref c), (.inr "at", .int 0), (.inr "left", .int 0), (.inr "used", .int 0)], rfl, (by show 4 ≤ 15; decide), ?_⟩
  rw [dr_merge]
  have hcp : c ≠ p := fun e => by
    rw [e] at hc
    rw [s2 _ _ (upd_same (H := H) (a := p) (o := .dK []))] at hc
    cases hc
  have hk : ∀ b o, H b = some o → upd (upd (upd (upd H p (.dK [])) t (.lst [.int 0])) c (.lst (ns.map V.int ++ [.int 0]))) p (.dK (drK c 0 0 0)) b = some o := fun b o e => by
    rw [upd_ne (ne_of_none e hp)]
    exact s3 _ _ (s2 _ _ (s1 _ _ e))
  exact q p c _ (fun b o e d => hk b o e) ⟨upd_same, SqL.of (by
    rw [upd_ne hcp, upd_same, List.map_append]
    rfl), hT.ext hk⟩
section
variable {K : PySem.W.Frag} {S : Sta} {ds : List Dt}
end
/-! ### all words of up to eight bits may be compared and shown -/
theorem cmp_refl {d : Dt} (h : cmpOk d = true) : PyData.eqv (py d) (py d) = true := by
  simp only [cmpOk, Bool.and_eq_true] at h
  exact SeqAt.eqv_refl _ (SeqAt.canLay_of_shaped h.2)
/-! ### the word in the middle of which something else is put -/
theorem cutD_sub {xs : List Dt} {lo hi : Option Int} {x : Dt} (h : x ∈ cutD xs lo hi) : x ∈ xs := List.mem_of_mem_drop (List.mem_of_mem_take h)
theorem cutD_le (xs : List Dt) (lo hi : Option Int) : (cutD xs lo hi).length ≤ xs.length := by
  unfold cutD
  rw [List.length_take, List.length_drop]
  omega
end Bf
namespace Bf
open PySem PySem.Spec PyProof.Rows L2
/-! ## A lambda handed to a def that calls it: what it lets out goes by the slots as they stand -/
abbrev lamQ (X : Cx) : Str := X.env.qual ++ "<lambda>"
abbrev lamO (X : Cx) (params : Arguments) (body : Expr) (scope : Scope) (pm : Value) (c' : Addr) (ctv : Value) : Obj := PySem.W.kla_obj "<lambda>" (lamQ X) params body scope (cloFrom X.env.cells scope.names []) pm c' ctv
/-- a call of the lambda at f, its code at c' -/
def tAct (i : Nat) (f c' : Addr) (q : Str) (tl : XK → Hp → VK → Prop) (E : L2.St → XK) : TE := fun σ H Q => σ[i]? = some (some (.ref f)) ∧ H c' = some (LamX.CodeO c' q) ∧ tl (E σ) H Q
section
variable {P : Program} {w : World} {K : PySem.W.Frag} {mg : Str → Option Value} {base : Heap}
/-- a def's body at s -/
abbrev dfCx (P : Program) (w : World) (K : PySem.W.Frag) (mg : Str → Option Value) (base : Heap) (Ng : List Str) (x : Str) (sg : Scope) (g : Addr) (cdg : Value) (A : Around) (out : List Env) (s : Shared) (H : Hp) : Cx :=
  cxOf (L2.CX P w) P w K mg base Ng x sg g cdg A out s H E0
end
section
variable {X : Cx} {pins pn : List (Addr × Obj)} {σ : L2.St} {H : Hp} {s : Shared}
theorem pe_actS {Ng : List Str} {qg : Str} {sg : Scope} {g f c' : Addr} {cdg pm ctv : Value} {params : Arguments} {body : Expr} {scope : Scope} {k i : Nat} {a : Str} {xe : Value → Shared → Prop} {E : L2.St → XK} {tb : XK → TE} {p1 p2 : Pos}
    (I : Inv X pins σ H s) (L : LamX.LamS X.env.scope scope) (of : s.heap.get? f = some (lamO X params body scope pm c' ctv)) (nf : H f = none) (fr : f ∉ frs X.stack)
    (bind : bindArgs (PySem.W.kla_fn "<lambda>" (lamQ X) params body scope (cloFrom X.env.cells scope.names []) pm (.ref c') ctv) ⟨[], []⟩ = pure [])
    (hE : ∀ σ, PassesAt (L2.CX X.prog X.w) ((dfCx X.prog X.w X.K X.mg X.base Ng qg sg g cdg X.A X.stack s H).tr pn xe) σ (E σ)) (hr : Room (k + 1) (X.A.deeper (envOfC qg sg s.heap.objs.size g cdg))) (hgd : X.A.guards = some [])
    (hbody : ∀ (A : Around) (out : List Env) (s : Shared) (H : Hp) (E : XK), Room k (A.deeper (LamX.lamEnv X scope s.heap.objs.size f c')) → A.guards = some [] → PE (LamX.lamCx X A out s H E scope f c') body (tb E))
    (hN : Ng[i]? = some a) (hv : Vis sg a) (hd : (a == ("__debug__" : Str)) = false) (hcd : (a == ("__classdict__" : Str)) = false) :
    PE ((dfCx X.prog X.w X.K X.mg X.base Ng qg sg g cdg X.A X.stack s H).tr pn xe) (.Call (.Name a p1) [] [] p2) (tAct i f c' (lamQ X) (fun E H' Q => tb E σ H' Q) E) := by
  refine ⟨fun pz sz σz Hz Q Iz h => ?_⟩
  obtain ⟨h1, h2, h3⟩ := h
  refine wpAny_Call_Name_kw (thn ((pe_var (pos := p1) (i := i) hN hv hd hcd).run pz sz σz Hz (fun v H1 => v = .ref f ∧ H1 = Hz) Iz ⟨.ref f, h1, rfl, rfl⟩) fun u s1 z => ?_)
  obtain ⟨v, H1, I1, r1, rfl, rfl⟩ := z
  obtain rfl : u = Value.ref f := r1
  have at1 : s1.heap.get? f = some (lamO X params body scope pm c' ctv) := I1.base.keep f _ of nf fr fun z => nomatch (show f ∈ ([] : List Addr) from z)
  have keepU : Un (frs X.stack) [] H H1 s.heap s1.heap := I1.base
  obtain ⟨⟨oc, us, t, c1, c2, c3⟩, _, _⟩ := I1.hok c' _ h2
  let Az : Around := X.A.deeper (envOfC qg sg s.heap.objs.size g cdg)
  let oz : List Env := envOfC qg sg s.heap.objs.size g cdg :: X.stack
  have run : codeAny (model X.prog X.w) Az (.call (.ref f) ⟨[], []⟩) (CR (L2.CX X.prog X.w) oz X.prog X.w H1 s1 Q (E σz)) s1 := by
    refine PySem.W.kla_callFunE hr.depth at1 rfl L.co L.gen rfl ⟨c', oc, us, t, rfl, c1, c2, c3⟩ ?_
    rw [bind]
    refine wpAny_pure (wpAny_newFunctionEnv (fun y hy => (L.own y hy).2) (fun y hy => nomatch hy) (fun h1 hns sb => ⟨I1.nolimit.fresh _ sb, ?_⟩) L.kind)
    have kept : ∀ b o, s1.heap.get? b = some o → h1.get? b = some o := fun b o e => sb.extBut b o (Nat.ne_of_lt (Heap.lt_size e)) (Heap.get?_push_of_some _ e)
    have J : Inv (LamX.lamCx X Az oz s1 H1 (E σz) scope f c') [] σ H1 { s1 with heap := h1, toks := s1.toks + ([] : List (Str × Value)).length } := LamX.lam_start2 I L I1.env0 hr.hd keepU hns kept
    have run2 := (hbody Az oz s1 H1 (E σz) (hr.deeper _) hgd).run [] _ _ H1 Q J h3
    refine PySem.W.kla_codeExpr (wpAny_mono run2 (fun v s' z => ?_) fun e s' z => z)
    obtain ⟨w', H', J', rv, q⟩ := z
    exact ⟨w', H', J'.os, J'.bare, J'.base, J'.hok, rv, q⟩
  refine PySem.W.callWith_F0 ⟨_, _, _, _, at1⟩ (wpAny_call (codeAny_mono run fun r s' hq => ?_))
  match r, hq with
  | .error e, hq => exact hE σz pz H1 s1 e s' I1 hq
  | .ok (.ret u), hq => exact I1.after hq
  | .ok .next, hq => exact hq.elim
  | .ok .brk, hq => exact hq.elim
  | .ok .cont, hq => exact hq.elim
end
/-- a def that calls what it got, a: what it makes (TT) of the call's reading -/
def Gives (P : Program) (w : World) (K : PySem.W.Frag) (mg : Str → Option Value) (base : Heap) (k : Nat) (Ng : List Str) (x a : Str) (sg : Scope) (g : Addr) (cdg : Value) (bg : List Stmt) (TT : (XK → Hp → VK → Prop) → Hp → VK → Prop) : Prop :=
  ∀ (A : Around) (out : List Env) (s : Shared) (H : Hp) (Q : VK) (f c' : Addr) (q : Str) (tl : XK → Hp → VK → Prop), Room k (A.deeper (envOfC x sg s.heap.objs.size g cdg)) → A.guards = some [] →
    (∀ (pn : List (Addr × Obj)) (xe : Value → Shared → Prop) (E : L2.St → XK) (p1 p2 : Pos), (∀ σ, PassesAt (L2.CX P w) ((dfCx P w K mg base Ng x sg g cdg A out s H).tr pn xe) σ (E σ)) → PE ((dfCx P w K mg base Ng x sg g cdg A out s H).tr pn xe) (.Call (.Name a p1) [] [] p2) (tAct 0 f c' q tl E)) →
    H c' = some (LamX.CodeO c' q) → TT tl H Q → ∃ t, PSs (dfCx P w K mg base Ng x sg g cdg A out s H) bg t ∧ t { nx := fun _ H' => Q .non H', rt := Q } (L2.start Ng [.ref f]) H
/-- x(lambda: body) -/
theorem pe_lamS {X : Cx} {T : List (Addr × Str)} {TT : (XK → Hp → VK → Prop) → Hp → VK → Prop} {x a : Str} {g c P : Addr} {k : Nat} {pg : Arguments} {bg : List Stmt} {sg : Scope} {dV kV doc pm cdv ct oc : Value} {an od : Option Addr} {osl : Array (Option Value)} {Ng : List Str}
    {params : Arguments} {body : Expr} {scope : Scope} {t : XK → TE} {p lpos pos : Pos} (hm : X.mg x = some (.ref g)) (hk : PySem.W.keepIn X.K (.ref g) = true)
    (lk : X.K.lookup g = some ⟨oc, od, .func (PySem.W.fnOf x x pg bg sg dV kV doc pm an cdv ct), osl⟩) (hcg : PySem.W.codeIn X.K cdv x = true) (hb : BPos (PySem.W.fnOf x x pg bg sg dV kV doc pm an cdv ct) [a]) (Sg : FnScope Ng [a] sg) (hNg : Ng[0]? = some a) (hva : Vis sg a)
    (hG : Gives X.prog X.w X.K X.mg X.base (k + 1) Ng x a sg g cdv bg TT) (TB : LamX.TabB X.base X.mg c P) (hcode : X.env.code = .ref c) (hmT : (P, lamQ X) ∈ T) (hu : ∀ p ∈ T, p.1 = P → p.2 = lamQ X) (hr : Room (k + 2) X.A) (hgd : X.A.guards = some [])
    (hbind : ∀ (q : Str) (cl : List (Str × Addr)) (pm cv ctv : Value), bindArgs (PySem.W.kla_fn "<lambda>" q params body scope cl pm cv ctv) ⟨[], []⟩ = pure [])
    (hbody : ∀ (f c' : Addr) (A : Around) (out : List Env) (s : Shared) (H : Hp) (E : XK), Room k (A.deeper (LamX.lamEnv X scope s.heap.objs.size f c')) → A.guards = some [] → PE (LamX.lamCx X A out s H E scope f c') body (t E))
    (L : LamX.LamS X.env.scope scope := by exact LamX.lamS_by (by rfl)) (hdef : defaultsOf params X.env = ([], []) := by rfl) (hg : Gl X x := by rfl) (hdb : (x == ("__debug__" : Str)) = false := by decide) (hd : (a == ("__debug__" : Str)) = false := by decide) (hcd : (a == ("__classdict__" : Str)) = false := by decide) :
    PE X (.Call (.Name x p) [.Lambda params body scope lpos] [] pos) (LamX.tLam T TT t) := by
  refine ⟨fun pins s σ H Q I h => wpAny_Call_Name_kw (ld_glob I hg hm ?_ hdb)⟩
  obtain ⟨h0, h⟩ := h
  refine PySem.W.callWith_K (h₀ := X.base) I.ok.mod.kin hk ?_ (by rfl) (by rfl)
  show wpAny _ _ (spliced ((false, eval (.Lambda params body scope lpos) X.env) :: backTo pos (starEach [] X.env))) _ _ s
  refine Calls.spliced_cons (LamX.lam_make2 I TB hcode hmT hu h0 hdef (L.has I.ok) fun f c' pm' ctv H1 s' I1 e1 t1 a1 a2 a3 a4 => Calls.spliced_nil ⟨I1.kIn, ?_⟩)
  have run : codeAny (model X.prog X.w) X.A (.call (.ref g) ⟨[.ref f], []⟩) (CR (L2.CX X.prog X.w) X.stack X.prog X.w H1 s' Q E0) s' := by
    refine LamX.run_ofS (N := Ng) (ps := [a]) (us := [.ref f]) (vs := [.ref f]) lk hcg Sg hr I1.env0 (hb s' [.ref f] rfl) (.cons rfl .nil) rfl fun hr2 => ?_
    exact hG X.A X.stack s' H1 Q f c' (lamQ X) (fun E H' Q' => t E σ H' Q') hr2 hgd (fun pn xe E p1 p2 hE => pe_actS (i := 0) I1 L a1 a2 a3 (hbind _ _ _ _ _) hE hr2 hgd (hbody f c') hNg hva hd hcd) a4 (h H1 e1 t1)
  refine wpAny_call (codeAny_mono run fun r s2 hq => ?_)
  match r, hq with
  | .error e, hq =>
    obtain ⟨_, _, _, _, _, _, _, _, _, _, _, _, z⟩ := hq
    exact z.elim
  | .ok (.ret u), hq => exact I1.after hq
  | .ok .next, hq => exact hq.elim
  | .ok .brk, hq => exact hq.elim
  | .ok .cont, hq => exact hq.elim
theorem pe_lamF {X : Cx} {T : List (Addr × Str)} {TT : (XK → Hp → VK → Prop) → Hp → VK → Prop} {x a : Str} {g c P : Addr} {k : Nat} {st : Stmt} {fd : FuncData} {Ng : List Str} {params : Arguments} {body : Expr} {scope : Scope} {t : XK → TE} {p lpos pos : Pos}
    (Fu : Fun X.K x x st g fd) (hb : BPos fd [a]) (Sg : FnScope Ng [a] (defScope st)) (hNg : Ng[0]? = some a) (hva : Vis (defScope st) a) (hm : X.mg x = some (.ref g))
    (hG : ∀ cdv, Gives X.prog X.w X.K X.mg X.base (k + 1) Ng x a (defScope st) g cdv (defBody st) TT) (TB : LamX.TabB X.base X.mg c P) (hcode : X.env.code = .ref c) (hmT : (P, lamQ X) ∈ T) (hu : ∀ p ∈ T, p.1 = P → p.2 = lamQ X) (hr : Room (k + 2) X.A) (hgd : X.A.guards = some [])
    (hbind : ∀ (q : Str) (cl : List (Str × Addr)) (pm cv ctv : Value), bindArgs (PySem.W.kla_fn "<lambda>" q params body scope cl pm cv ctv) ⟨[], []⟩ = pure [])
    (hbody : ∀ (f c' : Addr) (A : Around) (out : List Env) (s : Shared) (H : Hp) (E : XK), Room k (A.deeper (LamX.lamEnv X scope s.heap.objs.size f c')) → A.guards = some [] → PE (LamX.lamCx X A out s H E scope f c') body (t E))
    (L : LamX.LamS X.env.scope scope := by exact LamX.lamS_by (by rfl)) (hdef : defaultsOf params X.env = ([], []) := by rfl) (hg : Gl X x := by rfl) (hdb : (x == ("__debug__" : Str)) = false := by decide) (hd : (a == ("__debug__" : Str)) = false := by decide) (hcd : (a == ("__classdict__" : Str)) = false := by decide) :
    PE X (.Call (.Name x p) [.Lambda params body scope lpos] [] pos) (LamX.tLam T TT t) := by
  obtain ⟨oc, od, kV, doc, pm, an, cdv, ct, osl, rfl, lk, hcd2⟩ := Fu.ex
  exact pe_lamS hm Fu.kp lk hcd2 hb Sg hNg hva (hG cdv) TB hcode hmT hu hr hgd hbind hbody L hdef hg hdb hd hcd
/-- a def whose code object is told -/
structure FunC (K : PySem.W.Frag) (x qual : Str) (st : Stmt) (f : Addr) (fd : FuncData) (cdv : Value) : Prop where
  ex : ∃ (oc : Value) (od : Option Addr) (kV doc pm : Value) (an : Option Addr) (ct : Value) (osl : Array (Option Value)),
    fd = PySem.W.fnOf x qual (defArgs st) (defBody st) (defScope st) .none kV doc pm an cdv ct ∧ K.lookup f = some ⟨oc, od, .func fd, osl⟩ ∧ PySem.W.codeIn K cdv qual = true
theorem okGC {P : Program} {w : World} {K : PySem.W.Frag} {mg : Str → Option Value} {base : Heap} {x qual : Str} {st : Stmt} {f : Addr} {fd : FuncData} {cdv : Value} {N ps : List Str} {k : Nat} {sp : Sp} (F : FunC K x qual st f fd cdv) (S : FnScope N ps (defScope st)) (len : ∀ vs H Q E, sp vs H Q E → vs.length = ps.length)
    (hb : ∀ (A : Around) (out : List Env) (s : Shared) (H : Hp) (vs : List V) (Q : VK) (E : XK), Room k (A.deeper (envOfC qual (defScope st) s.heap.objs.size f cdv)) → A.guards = some [] → sp vs H Q E →
      ∃ t, PSs (cxOf (L2.CX P w) P w K mg base N qual (defScope st) f cdv A out s H E) (defBody st) t ∧ t { nx := fun _ H' => Q .non H', rt := Q } (start N vs) H) :
    GOk P w K mg base (k + 1) f fd ps sp := by
  obtain ⟨oc, od, kV, doc, pm, an, ct, osl, rfl, lk, hcd⟩ := F.ex
  refine ⟨len, fun A out s H args us vs Q E hr hgd e0 hbi r hsp => ?_⟩
  refine StX.run_bnd lk hcd S hr e0 (G := fun xs H2 => xs = vs ∧ H2 = H) (fun A' Ex Q' h => ?_) fun s2 H2 xs ⟨ex, eH⟩ hr' => ?_
  · exact hbi _ _ _ _ (h s H vs us e0 Un.refl rfl (fun _ _ z => z) r (len _ _ _ _ hsp) ⟨rfl, rfl⟩)
  · subst ex eH
    exact hb A out s2 _ _ Q E hr' hgd hsp
/-! ### over data -/
/-- what a lambda comes to, from H on -/
def LamO (K : PySem.W.Frag) (H : Hp) (tl : XK → Hp → VK → Prop) : Out → Prop
  | .ok d => ∀ (E : XK) (H1 : Hp) (Q : VK), Same H H1 → (∀ v H2, Same H1 H2 → Rep K H2 v d → Q v H2) → tl E H1 Q
  | .er C f d => ∀ (E : XK) (H1 : Hp) (Q : VK), Same H H1 → (∀ a v H2, Same H1 H2 → H2 a = some (.xd [(f, v)]) → Rep K H2 v d → E (.ref C) (some a) H2) → tl E H1 Q
/-- what the def tells of it -/
def TTs (K : PySem.W.Frag) (R : Out → Dt → Prop) : (XK → Hp → VK → Prop) → Hp → VK → Prop := fun tl H Q => ∃ o d, LamO K H tl o ∧ R o d ∧ ∀ v H', Same H H' → Rep K H' v d → Q v H'
/-- a state that the making of lambdas leaves -/
structure TabS (S : Sta) (T : List (Addr × Str)) : Prop where
  has : ∀ H, S.I H → LamX.Tabs T H
  on : ∀ H H1, S.I H → LamX.ExtN H H1 → LamX.Tabs T H1 → S.I H1
theorem extN_gr {H H1 : Hp} (e : LamX.ExtN H H1) : Gr H H1 := fun b o h d => e b o h fun ps z => by
  rw [z] at d
  cases d
theorem dw_tab {K : PySem.W.Frag} {a : Addr} {c : CT} {cs : List Int} {n : Nat} : TabS (DW K a c cs n) c.tb := by
  refine ⟨fun H h => ?_, fun H H1 h e t => ?_⟩
  · obtain ⟨i, l, u, h, _⟩ := h
    exact h.2.2
  · obtain ⟨i, l, u, h, r⟩ := h
    exact ⟨i, l, u, ⟨e _ _ h.1 (fun _ z => nomatch z), (extN_gr e).sqL h.2.1, t⟩, r⟩
section
variable {K : PySem.W.Frag} {S : Sta} {ρ : List (Option Dt)} {T : List (Addr × Str)} {R : Out → Dt → Prop} {t : XK → TE} {d x : Dt} {C : Addr} {f : Str}
/-- S, and all that was at H -/
def staA (S : Sta) (H : Hp) : Sta := ⟨fun H' => S.I H' ∧ Same H H', fun h s => ⟨S.st h.1 s, h.2.trans s⟩⟩
theorem staA_le {H : Hp} : (staA S H).Le S := fun _ h => h.1
theorem ev_lamOk (hT : TabS S T) (h : ∀ (S' : Sta) E, S'.Le S → Ev K S' S' ρ (t E) (Eq d)) (hR : R (.ok d) x) : Ev K S S ρ (LamX.tLam T (TTs K R) t) (Eq x) := fun σ H i s Q q =>
  ⟨hT.has H i, fun H1 e1 t1 => ⟨.ok d, x, fun E H2 Q1 s2 q1 => h (staA S H2) E staA_le σ H2 ⟨S.st (hT.on H H1 i e1 t1) s2, Same.refl H2⟩ ((s.mono (extN_gr e1)).mono s2.gr) Q1 fun v d' H3 g3 i3 r3 e3 => q1 v H3 i3.2 (e3 ▸ r3), hR, fun v H2 s2 r => q v x H2 ((extN_gr e1).trans s2.gr) (S.st (hT.on H H1 i e1 t1) s2) r rfl⟩⟩
theorem ev_lamEr (hT : TabS S T) (h : ∀ (S' : Sta) E, S'.Le S → XW K S' C f d E → EvR K S' ρ (t E)) (hR : R (.er C f d) x) : Ev K S S ρ (LamX.tLam T (TTs K R) t) (Eq x) := fun σ H i s Q q =>
  ⟨hT.has H i, fun H1 e1 t1 => ⟨.er C f d, x, fun E H2 Q1 s2 q1 => h (staA S H2) E staA_le (fun a v H3 i3 ha rv => q1 a v H3 i3.2 ha rv) σ H2 ⟨S.st (hT.on H H1 i e1 t1) s2, Same.refl H2⟩ ((s.mono (extN_gr e1)).mono s2.gr) Q1, hR, fun v H2 s2 r => q v x H2 ((extN_gr e1).trans s2.gr) (S.st (hT.on H H1 i e1 t1) s2) r rfl⟩⟩
variable {S1 : Sta} {i : Nat} {a c' : Addr} {q : Str} {tl : XK → Hp → VK → Prop} {H0 : Hp}
/-- the call within the def -/
theorem ev_act {E : L2.St → XK} (hi : ρ[i]? = some (some (.raw (.ref a)))) (hc : H0 c' = some (LamX.CodeO c' q)) (h : LamO K H0 tl (.ok d)) : Ev K (staSame H0) (staSame H0) ρ (tAct i a c' q tl E) (Eq d) := fun σ H hs s Q q1 => by
  obtain ⟨v, hv, rv⟩ := s.val i _ hi
  obtain rfl := rv.rawI
  exact ⟨hv, hs _ _ hc, h (E σ) H Q hs fun v H2 s2 r => q1 v d H2 s2.gr ((staSame H0).st hs s2) r rfl⟩
theorem pr_act {W : WX} {D : Ends} {σ : L2.St} {H : Hp} {j : Nat} (hi : ρ[i]? = some (some (.raw (.ref a)))) (hc : H0 c' = some (LamX.CodeO c' q)) (h : LamO K H0 tl (.er C f d)) (hs : (staSame H0).I H) (s : Slots K H σ ρ)
    (hW : ∀ a v H', Gr H H' → (staSame H0).I H' → H' a = some (.xd [(f, v)]) → Rep K H' v d → W (.ref C) (some a) σ H') : tAsg (tAct i a c' q tl (WE W)) (gName j) D σ H := by
  obtain ⟨v, hv, rv⟩ := s.val i _ hi
  obtain rfl := rv.rawI
  exact ⟨hv, hs _ _ hc, h (WE W σ) H _ hs fun a v H2 s2 e r => hW a v H2 s2.gr ((staSame H0).st hs s2) e r⟩
end
end Bf
namespace Bf
open PySem PySem.Spec PyProof.Rows L2
/-! ## need_table for any plain data -/
def plD (d : Dt) : Prop := pl d = true ∧ ∀ xs, d = .tup xs → plSA xs = true
def ntO (C : Addr) (d : Dt) : Out := if (tabPart d).isNon = true then .ok d else .er C "part" (tabPart d)
theorem bwD_shape {d : Dt} {n : Str} {k : Int} (h : bwD d n k = true) : ∃ xs, d = .tup xs ∧ (xs.length : Int) = k := by
  unfold bwD at h
  split at h
  · simp only [Bool.and_eq_true, decide_eq_true_eq] at h
    exact ⟨_, rfl, by simpa using h.1⟩
  · cases h
section
variable {K : PySem.W.Frag} {S : Sta} {ds : List Dt} {o : Out} {C : Addr} {E : XK}
end
end Bf
namespace Bf
open PySem PySem.Spec PyProof.Rows L2
/-! ## Ratios: instances of an own class with two attributes -/
/-- the n-th statement of a class's body -/
def clsSt (s : Stmt) (n : Nat) : Stmt := match s with
  | .ClassDef _ _ _ b _ _ _ _ _ _ _ => b.getD n s
  | _ => s
def rat (C : Addr) (n d : Int) : Dt := .ins C ["_num", "_den"] [.int n, .int d]
section
variable {K : PySem.W.Frag} {H : Hp} {v : V} {C : Addr} {n d : Int}
theorem Rep.ratI (h : Rep K H v (rat C n d)) : ∃ a dx, v = .ref a ∧ H a = some (.ins C dx [("_num", .int n), ("_den", .int d)]) := by
  unfold rat at h
  cases h with
  | ins e r =>
    cases r with
    | cons r1 r =>
      cases r with
      | cons r2 r =>
        cases r
        obtain rfl := r1.intI
        obtain rfl := r2.intI
        exact ⟨_, _, rfl, e⟩
theorem rep_rat {a dx : Addr} (e : H a = some (.ins C dx [("_num", .int n), ("_den", .int d)])) : Rep K H (.ref a) (rat C n d) :=
  .ins (ns := ["_num", "_den"]) (vs := [.int n, .int d]) e (.cons (.int n) (.cons (.int d) .nil))
end
theorem look_den {n m : V} : ([(("_num" : Str), n), ("_den", m)] : List (Str × V)).lookup ("_den" : Str) = some m := by
  have : (("_den" : Str) == "_num") = false := by decide
  simp [List.lookup, this]
/-- what is known of the class -/
structure RatT (K : PySem.W.Frag) (mg : Str → Option Value) (C fI pN gN pD gD : Addr) : Prop where
  cl : Cls K C
  mK : Mk K C fI
  pn : PropOf K C "num" pN gN
  pd : PropOf K C "den" pD gD
  an : NoAttr K C "_num"
  ad : NoAttr K C "_den"
  gC : mg "Ratio" = some (.ref C)
  c1 : PySem.W.findIn K (.ref C) "__class__" = some (some (.builtin "object.__class__"))
  c2 : PySem.W.specialIn K (.builtin "object.__class__") "__get__" = some (some (.builtin "getset_descriptor.__get__"))
  c3 : PySem.W.takesIn K (.builtin "object.__class__") = some true
  c4 : PySem.W.mroIn K C (.type "object") = some true
  no : ∀ T ∈ ["NoneType", "bool", "int", "str", "list", "tuple", "dict"], PySem.W.kitOne K (.type T) (.ref C) = some false
  si : PySem.W.kitOne K (.ref C) (.ref C) = some true
  sT : ∀ T ∈ ["bool", "int", "str", "list", "tuple"], PySem.W.kitOne K (.ref C) (.type T) = some false
/-- any plain thing, or a ratio -/
def okRt (C : Addr) (d : Dt) : Prop := okN d = true ∨ ∃ n m, d = rat C n m
def isRatD : Dt → Bool
  | .ins _ _ _ => true
  | _ => false
section
variable {K : PySem.W.Frag} {mg : Str → Option Value} {C fI pN gN pD gD : Addr} {S S1 : Sta} {ρ : List (Option Dt)} {te : TE} {d : Dt} {n m : Int}
theorem ty_rat {H : Hp} {v : V} (T : RatT K mg C fI pN gN pD gD) (r : Rep K H v (rat C n m)) : TyX K H v (.ref C) := by
  obtain ⟨a, dx, rfl, e⟩ := r.ratI
  exact .base (.ins e T.cl T.c1 T.c2 T.c3 T.c4)
/-- isinstance(x, Ratio) -/
theorem rc_isRat (T : RatT K mg C fI pN gN pD gD) (h : okRt C d) : RvC K S (rIsi K) [d, .raw (.ref C)] (Eq (.bl (isRatD d))) := rc_at fun H vs i r Q q => by
  obtain ⟨v, u, rfl, r1, r2⟩ := r.twoI
  obtain rfl := r2.rawI
  rcases h with h | ⟨n, m, rfl⟩
  · cases d with
    | non => exact ⟨v, .ref C, _, _, _, rfl, .own C, r1.ty rfl, T.no _ (by simp), q _ (.bl _)⟩
    | bl => exact ⟨v, .ref C, _, _, _, rfl, .own C, r1.ty rfl, T.no _ (by simp), q _ (.bl _)⟩
    | int => exact ⟨v, .ref C, _, _, _, rfl, .own C, r1.ty rfl, T.no _ (by simp), q _ (.bl _)⟩
    | str => exact ⟨v, .ref C, _, _, _, rfl, .own C, r1.ty rfl, T.no _ (by simp), q _ (.bl _)⟩
    | lst => exact ⟨v, .ref C, _, _, _, rfl, .own C, r1.ty rfl, T.no _ (by simp), q _ (.bl _)⟩
    | tup => exact ⟨v, .ref C, _, _, _, rfl, .own C, r1.ty rfl, T.no _ (by simp), q _ (.bl _)⟩
    | dic => exact ⟨v, .ref C, _, _, _, rfl, .own C, r1.ty rfl, T.no _ (by simp), q _ (.bl _)⟩
    | ins => cases h
    | raw u => cases u <;> cases h
    | lat => cases h
    | err => cases h
    | dct => cases h
    | dti => cases h
    | dat => cases h
    | cel => cases h
  · exact ⟨v, .ref C, _, _, _, rfl, .own C, ty_rat T r1, T.si, q _ (.bl _)⟩
theorem ev_isRat (T : RatT K mg C fI pN gN pD gD) (h : Ev K S S1 ρ te (Eq d)) (hd : okRt C d) : Ev K S S1 ρ (tCB (rIsi K) (tCons te (tCons (tC (.ref C)) tNil))) (Eq (.bl (isRatD d))) := ev_cb (ea_cons h (ea_cons ev_raw ea_nil)) (rc_isRat T hd)
/-- isinstance(a ratio, T) -/
theorem ev_ratIs {t : String} (T : RatT K mg C fI pN gN pD gD) (h : Ev K S S1 ρ te (Eq (rat C n m))) (ht : t ∈ ["bool", "int", "str", "list", "tuple"]) : Ev K S S1 ρ (tCB (rIsi K) (tCons te (tCons (tC (.ty t)) tNil))) (Eq (.bl false)) :=
  ev_cb (ea_cons h (ea_cons ev_ty ea_nil)) (rc_at fun H vs i r Q q => by
    obtain ⟨v, u, rfl, r1, r2⟩ := r.twoI
    obtain rfl := r2.rawI
    exact ⟨v, .ty t, _, _, _, rfl, .ty t, ty_rat T r1, T.sT t ht, q _ (.bl _)⟩)
/-- x.num, x.den -/
theorem ev_num {E : XK} (h : Ev K S S1 ρ te (Eq (rat C n m))) : Ev K S S1 ρ (tProp C (getSp C "_num") [] E te) (Eq (.int n)) := fun σ H i s Q q =>
  h σ H i s _ fun v d H1 g1 i1 r1 e => by
    subst e
    obtain ⟨a, dx, rfl, ea⟩ := r1.ratI
    exact ⟨a, dx, _, rfl, ea, a, dx, _, .int n, rfl, ea, by simp [List.lookup], q _ _ H1 g1 i1 (.int n) rfl⟩
theorem ev_den {E : XK} (h : Ev K S S1 ρ te (Eq (rat C n m))) : Ev K S S1 ρ (tProp C (getSp C "_den") [] E te) (Eq (.int m)) := fun σ H i s Q q =>
  h σ H i s _ fun v d H1 g1 i1 r1 e => by
    subst e
    obtain ⟨a, dx, rfl, ea⟩ := r1.ratI
    exact ⟨a, dx, _, rfl, ea, a, dx, _, .int m, rfl, ea, by rw [look_den], q _ _ H1 g1 i1 (.int m) rfl⟩
end
/-! ### Ratio(a, b) -/
/-- a right one is made -/
def spRI (C : Addr) : Sp := fun vs H Q _ => ∃ (x dx : Addr) (n m : Int), vs = [.ref x, .int n, .int m] ∧ H x = some (.ins C dx []) ∧ 0 ≤ n ∧ 1 ≤ m ∧ m.natAbs < 2 ^ 8000 ∧
  ∀ H', (∀ b o, b ≠ x → H b = some o → dob o = true → H' b = some o) → (∀ b o, b ≠ x → H b = some o → H' b = some o) → H' x = some (.ins C dx [("_num", .int (n / (Nat.gcd n.natAbs m.natAbs : Nat))), ("_den", .int (m / (Nat.gcd n.natAbs m.natAbs : Nat)))]) → Q .non H'
section
variable {X : Cx} {k : Nat} {f C : Addr} {fd : FuncData} {ps : List Str} {sp : Sp} {E : XK} {x : Str} {p pos : Pos} {e : Expr} {es : List Expr} {t : TA} {dvs : List V} {ds : List Value}
/-- C(e, ..) by an __init__ of the law's promises -/
theorem pe_makeG (M : Mk X.K C f) (F : GOk X.prog X.w X.K X.mg X.base k f fd ps sp) (hr : Room (k + 1) X.A) (hgd : X.A.guards = some []) (hm : X.mg x = some (.ref C)) (hb : Binds X.K fd ps ds) (hd : Vals dvs ds) (hx : Passes (L2.CX X.prog X.w) X E)
    (ha : PA X (e :: es) t) (hg : Gl X x := by rfl) (hdb : (x == ("__debug__" : Str)) = false := by decide) (he : starEach (e :: es) X.env = (false, eval e X.env) :: starEach es X.env := by rfl) (hpl : (backTo pos (starEach es X.env)).any (·.1) = false := by rfl) :
    PE X (.Call (.Name x p) (e :: es) [] pos) (tMake C sp dvs E t) := by
  refine ⟨fun pins s σ H Q I h => ?_⟩
  refine wpAny_Call_Name_kw (ld_glob I hg hm ?_ hdb)
  refine PySem.W.callWith_K (h₀ := X.base) I.ok.mod.kin M.kp (thn (ha.run pos pins s σ H _ I h) fun us s1 ⟨vs, H1, I1, r, q⟩ => ⟨I1.kIn, ?_⟩) he hpl
  have hq := q (s1.heap.objs.size + 1) s1.heap.objs.size (I1.hok.fresh (Nat.le_succ _)) (I1.hok.fresh (Nat.le_refl _)) (Nat.ne_of_lt (Nat.lt_succ_self _))
  have I2 := L2.Inv.made (C := C) I1
  have r2 : Vals (V.ref (s1.heap.objs.size + 1) :: (vs ++ dvs)) (Value.ref (s1.heap.objs.size + 1) :: (us ++ ds)) := .cons rfl (r.append hd)
  have hl : (Value.ref (s1.heap.objs.size + 1) :: us ++ ds).length = ps.length := by
    have e := r2.length
    rw [F.len _ _ _ _ hq] at e
    exact e.symm
  refine wpAny_call (make_map (f := f) I1.kIn M.makes M.init (beq_iff_eq.mp M.fn) (codeAny_mono (F.go _ X.stack _ _ ⟨Value.ref (s1.heap.objs.size + 1) :: us, []⟩ (Value.ref (s1.heap.objs.size + 1) :: (us ++ ds)) _ _ E (hr.make C us []) (by first | exact hgd | (simpa [Around.under] using hgd))
    (I2.env0.make C us []) (hb _ (Value.ref (s1.heap.objs.size + 1) :: us) I2.kIn hl) r2 hq) fun r s' hq' => ?_))
  cases r with
  | error e => exact hx pins σ _ _ e s' I2 hq'
  | ok fl =>
    cases fl with
    | ret u =>
      obtain ⟨v, H', I3, rv, ev, q3⟩ := I2.after hq'
      subst ev
      exact ⟨rv, ⟨V.ref (s1.heap.objs.size + 1), H', I3, rfl, q3⟩⟩
    | next => exact False.elim hq'
    | brk => exact False.elim hq'
    | cont => exact False.elim hq'
/-- a def with defaults, by its body -/
theorem okGD {P : Program} {w : World} {K : PySem.W.Frag} {mg : Str → Option Value} {base : Heap} {x qual : Str} {params : Arguments} {body : List Stmt} {scope : Scope} {dv : List V} {kws : List (Str × V)} {f : Addr} {fd : FuncData} {N ps : List Str} {k : Nat} {sp : Sp} (F : FunD K x qual params body scope dv kws f fd) (S : FnScope N ps scope) (len : ∀ vs H Q E, sp vs H Q E → vs.length = ps.length)
    (hb : ∀ (cdv : Value) (A : Around) (out : List Env) (s : Shared) (H : Hp) (vs : List V) (Q : VK) (E : XK), Room k (A.deeper (envOfC qual scope s.heap.objs.size f cdv)) → A.guards = some [] → sp vs H Q E →
      ∃ t, PSs (cxOf (L2.CX P w) P w K mg base N qual scope f cdv A out s H E) body t ∧ t { nx := fun _ H' => Q .non H', rt := Q } (start N vs) H) :
    GOk P w K mg base (k + 1) f fd ps sp := by
  obtain ⟨oc, od, dV, kV, doc, pm, an, cdv, ct, osl, rfl, lk, hcd, _, _⟩ := F.ex
  refine ⟨len, fun A out s H args us vs Q E hr hgd e0 hbi r hsp => ?_⟩
  refine StX.run_bnd lk hcd S hr e0 (G := fun xs H2 => xs = vs ∧ H2 = H) (fun A' Ex Q' h => ?_) fun s2 H2 xs ⟨ex, eH⟩ hr' => ?_
  · exact hbi _ _ _ _ (h s H vs us e0 Un.refl rfl (fun _ _ z => z) r (len _ _ _ _ hsp) ⟨rfl, rfl⟩)
  · subst ex eH
    exact hb cdv A out s2 _ _ Q E hr' hgd hsp
end
abbrev t_rat_init (K : PySem.W.Frag) : TS := (tSeq (tIfS (tNot (tAnd (tB (tCall (p_is_whole K) [] E0 (tCons (tVar 1) tNil))) (tAnd (tB (tCall (p_is_whole K) [] E0 (tCons (tVar 2) tNil))) (tAnd (tTest (tOp rGeI (tVar 1) (tC (.int 0)))) (tTest (tOp rGeI (tVar 2) (tC (.int 1)))))))) tNever tNext)
    (tSeq (tAsg (tCB rGcd (tCons (tVar 1) (tCons (tVar 2) tNil))) (gName 3))
    (tSeq (sFld K (tVar 0) (tOp rDivW (tVar 1) (tVar 3)) "_num") (sFld K (tVar 0) (tOp rDivW (tVar 2) (tVar 3)) "_den"))))
theorem run_ifF {K : PySem.W.Frag} {S S1 : Sta} {ρ : List (Option Dt)} {c : TT} {t u w : TS} {D : Ends} {σ : L2.St} {H : Hp} (h : EvT K S S1 ρ c (Eq false)) (i : S.I H) (s : Slots K H σ ρ) (k : ∀ H1, Gr H H1 → S1.I H1 → (tSeq u w) D σ H1) : (tSeq (tIfS c t u) w) D σ H := h σ H i s _ fun b H1 g1 i1 e => by
  subst e
  rw [if_neg Bool.false_ne_true]
  exact k H1 g1 i1
/-- nothing but the instance changes -/
theorem rd_rat_init {K : PySem.W.Frag} {mg : Str → Option Value} {C fI pN gN pD gD : Addr} (T : RatT K mg C fI pN gN pD gD) {vs : List V} {H : Hp} {Q : VK} {E : XK} (h : spRI C vs H Q E) : t_rat_init K { nx := fun _ H' => Q .non H', rt := Q } (start ["self", "num", "den", "shared"] vs) H := by
  obtain ⟨x, dx, n, m, rfl, hx, n0, m1, mb, q⟩ := h
  have s0 : Slots K H (start ["self", "num", "den", "shared"] [.ref x, .int n, .int m]) [some (.raw (.ref x)), some (.int n), some (.int m), none] := slots_start (N := ["self", "num", "den", "shared"]) (ds := [.raw (.ref x), .int n, .int m]) (.cons (.raw _) (.cons (.int n) (.cons (.int m) .nil)))
  have hw : ∀ (i : Nat) (j : Int), ([some (Dt.raw (.ref x)), some (.int n), some (.int m), none] : List (Option Dt))[i]? = some (some (.int j)) → EvT K (staSame H) (staSame H) [some (.raw (.ref x)), some (.int n), some (.int m), none] (tB (tCall (p_is_whole K) [] E0 (tCons (tVar i) tNil))) (Eq true) := fun i j hi =>
    (et_B (ev_callF (ds := [.int j]) (f := one1 fun d => .bl (isW d)) (ea_cons (ev_var hi) ea_nil) rfl ⟨.int j, rfl, rfl⟩)).to rfl
  have hc : EvT K (staSame H) (staSame H) [some (.raw (.ref x)), some (.int n), some (.int m), none] (tNot (tAnd (tB (tCall (p_is_whole K) [] E0 (tCons (tVar 1) tNil))) (tAnd (tB (tCall (p_is_whole K) [] E0 (tCons (tVar 2) tNil))) (tAnd (tTest (tOp rGeI (tVar 1) (tC (.int 0)))) (tTest (tOp rGeI (tVar 2) (tC (.int 1)))))))) (Eq false) := (et_not (et_andT (hw 1 n rfl) (et_andT (hw 2 m rfl) (et_andT ((et_test (ev_op (ev_var rfl) ev_int rv_ge)).to (decide_eq_true n0)) ((et_test (ev_op (ev_var rfl) ev_int rv_ge)).to (decide_eq_true m1)))))).to rfl
  refine run_ifF hc (Same.refl H) s0 fun H1 g1 i1 => ?_
  have hx1 := i1 _ _ hx
  have mp : (0 : Int) < (Nat.gcd n.natAbs m.natAbs : Nat) := by
    have : 0 < Nat.gcd n.natAbs m.natAbs := Nat.gcd_pos_of_pos_right _ (by omega)
    omega
  have gb : ((Nat.gcd n.natAbs m.natAbs : Nat) : Int).natAbs < 2 ^ 8000 := by
    rw [Int.natAbs_natCast]
    exact Nat.lt_of_le_of_lt (Nat.le_of_dvd (by omega) (Nat.gcd_dvd_right _ _)) mb
  refine ⟨_, rfl, _, rfl, n, m, rfl, ?_⟩
  refine ⟨_, rfl, _, rfl, n, _, rfl, rfl, cdivs mp gb, ?_⟩
  refine ⟨_, rfl, x, C, dx, [], rfl, hx1, T.cl, T.an, by decide, ?_⟩
  refine ⟨_, rfl, _, rfl, m, _, rfl, rfl, cdivs mp gb, ?_⟩
  refine ⟨_, rfl, x, C, dx, _, rfl, upd_same, T.cl, T.ad, by show 1 < 1000; decide, ?_⟩
  rw [upd_upd]
  refine q _ (fun b o hb ho _ => ?_) (fun b o hb ho => ?_) ?_
  · rw [upd_ne hb]; exact i1 _ _ ho
  · rw [upd_ne hb]; exact i1 _ _ ho
  · rw [upd_same]; rfl
section
variable {K : PySem.W.Frag} {S S1 : Sta} {ρ : List (Option Dt)} {tl : TA} {n m : Int} {C : Addr} {E : XK}
/-- in lowest terms -/
def ratL (C : Addr) (n m : Int) : Dt := rat C (n / (Nat.gcd n.natAbs m.natAbs : Nat)) (m / (Nat.gcd n.natAbs m.natAbs : Nat))
end
end Bf
namespace Bf
open PySem PySem.Spec PyProof.Rows L2 PySem.SeqAt
open AutoSeq1 (wpAny_loadPart')
/-! ## == of tuples that hold instances -/
theorem tuple_eqFirst (l b : Addr) (items items2 : Array Value) (n n2 : Nat) (dd dd2 : Option Addr) (sl sl2 : Array (Option Value)) :
    Meets (Builtin.«tuple.__eq__» ⟨[.ref l, .ref b], []⟩)
      (fun A R s => s.heap.get? l = some { cls := .type "tuple", dict := dd, data := .seq items n, slots := sl } ∧ s.heap.get? b = some { cls := .type "tuple", dict := dd2, data := .seq items2 n2, slots := sl2 } ∧
        (∃ (h1 : 0 < items.size) (h2 : 0 < items2.size), EqAt A.in1 s items[0] items2[0] false) ∧ R (.ok (.ret (.bool false))) s) :=
  .of_wp fun prog w A R s h => by
    obtain ⟨hp, g, d, tk, os⟩ := s; obtain ⟨hl, hb, ⟨h1, h2, he⟩, h⟩ := h
    have f2 := AutoSeq1.sub_tuple_tuple
    have hZ : 0 < (items.toList.zip items2.toList).length := by simp; omega
    wp_walk using wpAny_loadPart' hl, wpAny_loadPart' hb, wpAny_forIn_list _ (fun rest b s' => b.1 = none ∧ s' = ⟨hp, g, d, tk, os⟩ ∧ rest = items.toList.zip items2.toList) _
    case turn =>
      rintro ⟨y, x⟩ rest b s' ⟨hb', rfl, hz⟩
      have hz' : (items.toList.zip items2.toList) = (items.toList.zip items2.toList)[0] :: (items.toList.zip items2.toList).drop 1 := by
        rw [← List.drop_eq_getElem_cons hZ, List.drop_zero]
      rw [hz'] at hz
      injection hz with hyx hrest
      have hy : y = items[0] := by have := congrArg Prod.fst hyx; simpa using this
      have hx : x = items2[0] := by have := congrArg Prod.snd hyx; simpa using this
      subst hy hx
      refine wpAny_bind (he prog w _ _ ?_)
      wp_walk
      exact ⟨_, rfl, h⟩
    case fin =>
      rintro ⟨b1, b2⟩ s' ⟨hb', rfl, hz⟩
      rw [← hz] at hZ
      exact absurd hZ (by simp)
    case h =>
      exact ⟨rfl, rfl, rfl⟩
theorem dict_eq_declines_tuple (l b : Addr) (o : Obj) (items2 : Array Value) (n2 : Nat) (dd2 : Option Addr) (sl2 : Array (Option Value)) :
    Meets (Builtin.«dict.__eq__» ⟨[.ref l, .ref b], []⟩) (fun _ R s => s.heap.get? l = some o ∧ o.cls = .type "dict" ∧ s.heap.get? b = some { cls := .type "tuple", dict := dd2, data := .seq items2 n2, slots := sl2 } ∧ R (.ok (.ret .notImplemented)) s) :=
  .of_wp fun prog w A R s h => by obtain ⟨hp, g, d, tk, os⟩ := s; obtain ⟨hl, hc, hb, h⟩ := h; have f1 := F.sub_tuple_dict; wp_walk using wpAny_loadPart' hl, wpAny_loadPart' hb; exact ⟨_, rfl, h⟩
theorem tuple_eq_declines_dict (l b : Addr) (o : Obj) (items : Array Value) (n : Nat) (dd : Option Addr) (sl : Array (Option Value)) :
    Meets (Builtin.«tuple.__eq__» ⟨[.ref l, .ref b], []⟩) (fun _ R s => s.heap.get? l = some { cls := .type "tuple", dict := dd, data := .seq items n, slots := sl } ∧ s.heap.get? b = some o ∧ o.cls = .type "dict" ∧ R (.ok (.ret .notImplemented)) s) :=
  .of_wp fun prog w A R s h => by
    obtain ⟨hp, g, d, tk, os⟩ := s
    obtain ⟨hl, hb, hc, h⟩ := h
    obtain ⟨cls2, dd2, data2, sl2⟩ := o
    simp only at hc
    subst hc
    have f1 := F.sub_dict_tuple
    wp_walk using wpAny_loadPart' hl, wpAny_loadPart' hb
    exact ⟨_, rfl, h⟩
section
variable {A : Around} {s : Shared}
theorem RcAt_first {l b : Addr} {items items2 : Array Value} (hl : s.heap.IsTuple l items) (hb : s.heap.IsTuple b items2) (hu : A.units < cLine)
    (he : ∃ (h1 : 0 < items.size) (h2 : 0 < items2.size), EqAt A.in1 s items[0] items2[0] false) : RcAt A s (.ref l) (.ref b) false := fun prog w E Q h => by
  obtain ⟨⟨cls, dd, data, sl⟩, ho, hc, n, hd⟩ := id hl
  obtain ⟨⟨cls2, dd2, data2, sl2⟩, ho2, hc2, n2, hd2⟩ := id hb
  simp only at hc hd hc2 hd2
  subst hc hd hc2 hd2
  exact richCompare_meets_room (op := .Eq) ⟨_, ho, rfl⟩ ⟨_, ho2, rfl⟩ F.slot_tuple_eq F.entry_tuple_eq (F.args_tuple_eq_2 _ _) (tuple_eqFirst l b items items2 n n2 dd dd2 sl sl2)
    ⟨ho, ho2, he, show Value.bool false ≠ Value.notImplemented ∧ Q (.bool false) s from ⟨(fun x => nomatch x), h⟩⟩ hu
end
section
variable {A : Around} {s : Shared}
theorem RcAt_dict_tuple {l b : Addr} {o : Obj} {items2 : Array Value} (ho : s.heap.get? l = some o) (hc : o.cls = .type "dict") (hb : s.heap.IsTuple b items2) (hu : A.units < cLine) : RcAt A s (.ref l) (.ref b) false := fun prog w E Q h => by
  obtain ⟨⟨cls2, dd2, data2, sl2⟩, ho2, hc2, n2, hd2⟩ := id hb
  simp only at hc2 hd2
  subst hc2 hd2
  have hne : l ≠ b := fun e => by
    subst e
    rw [ho] at ho2
    cases ho2
    exact absurd hc (by simp)
  exact (rc_eq_decline_or (k := false) ⟨_, ho, hc⟩ ⟨_, ho2, rfl⟩ (by decide) F.sub_tuple_dict F.slot_dict_eq F.slot_tuple_eq_refl
    (fun _ hq => call_meets F.slot_dict_eq ⟨_, ho, hc⟩ F.entry_dict_eq (F.args_dict_eq_2 _ _) (dict_eq_declines_tuple l b o items2 n2 dd2 sl2) ⟨ho, hc, ho2, hq⟩)
    (fun _ hq => call_meets F.slot_tuple_eq_refl ⟨_, ho2, rfl⟩ F.entry_tuple_eq (F.args_tuple_eq_2 _ _) (tuple_eq_declines_dict b l o items2 n2 dd2 sl2) ⟨ho2, ho, hc, hq⟩)
    (fun _ hq => wpAny_isSame_ref_other hne ho ho2 (by rw [hc]; simp) hq) (.inr hu) h)
end
/-- how two values are seen to be equal, or not, by their first things; n deep -/
inductive EqW (K : PySem.W.Frag) (H : Hp) : Nat → V → V → Bool → Prop
  | same {n : Nat} {a : Addr} {xs : List V} : SqT K H a xs → EqW K H n (.ref a) (.ref a) true
  | nonT {n : Nat} {b : Addr} {ys : List V} : SqT K H b ys → EqW K H n .non (.ref b) false
  | intT {n : Nat} {i : Int} {b : Addr} {ys : List V} : SqT K H b ys → EqW K H n (.int i) (.ref b) false
  | strT {n : Nat} {x : Str} {b : Addr} {ys : List V} : SqT K H b ys → EqW K H n (.str x) (.ref b) false
  | tStr {n : Nat} {x : Str} {a : Addr} {xs : List V} : SqT K H a xs → EqW K H n (.ref a) (.str x) false
  | lstT {n : Nat} {a b : Addr} {xs ys : List V} : SqL K H a xs → SqT K H b ys → EqW K H n (.ref a) (.ref b) false
  | dicT {n : Nat} {a b : Addr} {ys : List V} : H a = some (.dK []) → SqT K H b ys → EqW K H n (.ref a) (.ref b) false
  | nilT {n : Nat} {a b : Addr} {y : V} {ys : List V} : SqT K H a [] → SqT K H b (y :: ys) → EqW K H n (.ref a) (.ref b) false
  | fst {n : Nat} {a b : Addr} {x y : V} {xs ys : List V} : SqT K H a (x :: xs) → SqT K H b (y :: ys) → x :: xs ≠ y :: ys → EqW K H n x y false → EqW K H (n + 1) (.ref a) (.ref b) false
theorem EqW.at_ {X : Cx} {pins : List (Addr × Obj)} {σ : L2.St} {H : Hp} {s : Shared} (I : L2.Inv X pins σ H s) : ∀ {n : Nat} {x y : V} {b : Bool}, EqW X.K H n x y b → ∀ {A : Around} {u v : Value}, A.units + n < cLine → RelV x u → RelV y v → RcAt A s u v b ∧ EqAt A s u v b
  | _, _, _, _, .same (a := a) ht, A, u, v, hu, ru, rv => by
    cases (show u = Value.ref a from ru)
    cases (show v = Value.ref a from rv)
    obtain ⟨its, r, p, _⟩ := I.tuple ht
    refine ⟨?_, EqAt.same _⟩
    have := RcAt.tuples (e := fun _ => true) p p (A := A) (s := s) (by omega) fun j h1 h2 => EqAt.same _
    have e : ((List.range (min its.toArray.size its.toArray.size)).all (fun _ => true) && its.toArray.size == its.toArray.size) = true := by simp
    rw [e] at this
    exact this
  | _, _, _, _, .nonT (b := b) ht, A, u, v, hu, ru, rv => by
    cases (show u = Value.none from ru)
    cases (show v = Value.ref b from rv)
    obtain ⟨its, r, p, _⟩ := I.tuple ht
    exact ⟨RcAt.none_tuple p (by omega), EqAt.none_tuple p (by omega)⟩
  | _, _, _, _, .intT (b := b) ht, A, u, v, hu, ru, rv => by
    obtain ⟨t, q⟩ := (show ∃ t, u = Value.int _ t from ru)
    cases q
    cases (show v = Value.ref b from rv)
    obtain ⟨its, r, p, _⟩ := I.tuple ht
    exact ⟨RcAt.int_tuple _ _ p (by omega), EqAt.int_tuple _ _ p (by omega)⟩
  | _, _, _, _, .strT (b := b) ht, A, u, v, hu, ru, rv => by
    obtain ⟨t, q⟩ := (show ∃ t, u = Value.str _ t from ru)
    cases q
    cases (show v = Value.ref b from rv)
    obtain ⟨its, r, p, _⟩ := I.tuple ht
    exact ⟨RcAt.str_tuple _ _ p (by omega), EqAt.str_tuple _ _ p (by omega)⟩
  | _, _, _, _, .tStr (a := a) ht, A, u, v, hu, ru, rv => by
    cases (show u = Value.ref a from ru)
    obtain ⟨t, q⟩ := (show ∃ t, v = Value.str _ t from rv)
    cases q
    obtain ⟨its, r, p, _⟩ := I.tuple ht
    exact ⟨RcAt.tuple_str _ _ p (by omega), EqAt.tuple_str _ _ p (by omega)⟩
  | _, _, _, _, .lstT (a := a) (b := b) hl ht, A, u, v, hu, ru, rv => by
    cases (show u = Value.ref a from ru)
    cases (show v = Value.ref b from rv)
    obtain ⟨its, r, p, _⟩ := I.tuple ht
    obtain ⟨its2, r2, p2, _⟩ := I.list hl
    exact ⟨RcAt.list_tuple p2.isList p (by omega), EqAt.list_tuple p2.isList p (by omega)⟩
  | _, _, _, _, .dicT (a := a) (b := b) hd ht, A, u, v, hu, ru, rv => by
    cases (show u = Value.ref a from ru)
    cases (show v = Value.ref b from rv)
    obtain ⟨its, r, p, _⟩ := I.tuple ht
    obtain ⟨_, _, vs, _, o, es, ep, h1, h2, _⟩ := (show ObjOk X.prog X.w H s.heap a (.dK []) from I.hok a _ hd)
    have rc := RcAt_dict_tuple (A := A) (s := s) h1 h2.1 p (by omega)
    have hne : a ≠ b := fun e => by
      subst e
      obtain ⟨o2, ho2, hc2, _⟩ := p
      rw [h1] at ho2
      cases ho2
      rw [h2.1] at hc2
      exact absurd hc2 (by simp)
    exact ⟨rc, .of_refs hne rc⟩
  | _, _, _, _, .nilT (a := a) (b := b) h1 h2, A, u, v, hu, ru, rv => by
    cases (show u = Value.ref a from ru)
    cases (show v = Value.ref b from rv)
    obtain ⟨its, r, p, _⟩ := I.tuple h1
    obtain ⟨its2, r2, p2, _⟩ := I.tuple h2
    cases r
    have hl := r2.length
    have rc := RcAt.tuples (e := fun _ => true) p p2 (A := A) (s := s) (by omega) fun j h1 h2 => absurd h1 (by simp)
    have e : ((List.range (min ([] : List Value).toArray.size its2.toArray.size)).all (fun _ => true) && ([] : List Value).toArray.size == its2.toArray.size) = false := by
      have : its2.length ≠ 0 := by rw [← hl]; simp
      simp
      intro z
      exact this (by rw [z])
    rw [e] at rc
    have hne : a ≠ b := fun z => by
      subst z
      have := I.tuple_inj h1 h2
      cases this
    exact ⟨rc, .of_refs hne rc⟩
  | _, _, _, _, .fst (a := a) (b := b) h1 h2 hd h, A, u, v, hu, ru, rv => by
    cases (show u = Value.ref a from ru)
    cases (show v = Value.ref b from rv)
    obtain ⟨its, r, p, _⟩ := I.tuple h1
    obtain ⟨its2, r2, p2, _⟩ := I.tuple h2
    cases r with
    | cons ra rr =>
      cases r2 with
      | cons rb rr2 =>
        have q := EqW.at_ I h (A := A.in1) (by rw [units_in1]; omega) ra rb
        have rc := RcAt_first (A := A) (s := s) p p2 (by omega) ⟨by simp, by simp, by simpa using q.2⟩
        have hne : a ≠ b := fun z => by
          subst z
          exact hd (I.tuple_inj h1 h2)
        exact ⟨rc, .of_refs hne rc⟩
def rNeW (K : PySem.W.Frag) : R2 := fun x y H Q => (∃ a xs, x = .ref a ∧ y = .ref a ∧ SqT K H a xs ∧ Q (.bl false) H) ∨ ∃ a b xs, x = .ref a ∧ y = .ref b ∧ SqT K H a xs ∧ SqT K H b [] ∧ Q (.bl (!xs.isEmpty)) H
theorem op_neW {X : Cx} (hu : X.A.units + 64 < cLine) : OpR X (compareOp .NotEq) (rNeW X.K) := by
  intro pins s σ H x y v u Q I rx ry h
  rcases h with ⟨a, xs, rfl, rfl, ht, q⟩ | ⟨a, b, xs, rfl, rfl, ht, hb, q⟩
  · cases (show v = Value.ref a from rx)
    cases (show u = Value.ref a from ry)
    obtain ⟨its, r, p, _⟩ := I.tuple ht
    have rc := RcNeAt.tuples (e := fun _ => true) p p (A := X.A) (s := s) (by omega) fun j h1 h2 => EqAt.same _
    have e : (!((List.range (min its.toArray.size its.toArray.size)).all (fun _ => true) && its.toArray.size == its.toArray.size)) = false := by simp
    rw [e] at rc
    exact rc X.prog X.w _ _ ⟨.bl false, H, I, rfl, q⟩
  · cases (show v = Value.ref a from rx)
    cases (show u = Value.ref b from ry)
    obtain ⟨its, r, p, _⟩ := I.tuple ht
    obtain ⟨its2, r2, p2, _⟩ := I.tuple hb
    cases r2
    have hl := r.length
    have rc := RcNeAt.tuples (e := fun _ => true) p p2 (A := X.A) (s := s) (by omega) fun j h1 h2 => absurd h2 (by simp)
    have e : (!((List.range (min its.toArray.size ([] : List Value).toArray.size)).all (fun _ => true) && its.toArray.size == ([] : List Value).toArray.size)) = !xs.isEmpty := by
      cases xs with
      | nil =>
        have : its = [] := List.eq_nil_of_length_eq_zero hl.symm
        subst this
        rfl
      | cons x xs =>
        cases its with
        | nil => simp at hl
        | cons i is => simp
    rw [e] at rc
    exact rc X.prog X.w _ _ ⟨.bl _, H, I, rfl, q⟩
end Bf
namespace Bf
open PySem PySem.Spec PyProof.Rows L2
open AutoSeq1 (wpAny_loadPart')
/-! ## enumerate(a tuple) -/
section
variable {prog : Program} {w : World} {A : Around} {E : Value → Shared → Prop} {s : Shared}
theorem nextOf_tuple_item {it t : Addr} {i : Nat} {items : Array Value} {x : Value} {Q : Value → Shared → Prop} (hit : IsTupIter s.heap it t i) (ht : IsTup s.heap t items) (hx : items[i]? = some x)
    (hQ : ∀ h', IsTupIter h' it t (i + 1) → Heap.SameBut it s.heap h' → Q x { s with heap := h' }) : wpAny (model prog w) A (Builtin.SmallTypes.nextOf (.ref it)) Q E s := by
  obtain ⟨o, ho, hc, hd⟩ := id hit
  obtain ⟨ol, hol, _, nl, hdl⟩ := ht
  unfold Builtin.SmallTypes.nextOf
  refine wpAny_bind (wpAny_callSpecial?_slot (name := Str.ofString "__next__") hit.typeIs slot_tupleiter_next
    (wpAny_call_entry slot_tupleiter_next hit.typeIs entry_tupleiter_next ?_ (args_tupleiter_next _)))
  show wpAny _ _ (field (.ref it) 0 >>= _) _ _ s
  refine wpAny_bind (wpAny_field ho hd (x := .ref t) rfl ?_)
  show wpAny _ _ (if (Value.ref t == Value.none) = true then _ else _) _ _ s
  rw [if_neg (show ¬ ((Value.ref t == Value.none) = true) from Bool.false_ne_true)]
  show wpAny _ _ (field (.ref it) 1 >>= _) _ _ s
  refine wpAny_bind (wpAny_field ho hd (x := .int i 0) rfl ?_)
  show wpAny _ _ (seqItems? (.ref t) >>= _) _ _ s
  refine wpAny_bind (wpAny_seqItems hol hdl ?_)
  simp only [Int.toNat_natCast, hx]
  refine wpAny_bind (wpAny_setField ho hd (by simp) (wpAny_pure ⟨x, rfl, wpAny_pure (hQ _ ?_ (Heap.SameBut.update ..))⟩))
  exact ⟨_, Heap.get?_update_self _ ho (Obj.isFreed_of_fields (Obj.data_mapFields hd _)), (Obj.cls_mapFields ..).trans hc, by
    rw [Obj.data_mapFields hd]; simp [rawInt]⟩
theorem nextOf_tuple_end {it t : Addr} {i : Nat} {items : Array Value} {Q : Value → Shared → Prop} (hh : A.handled = none) (hit : IsTupIter s.heap it t i) (ht : IsTup s.heap t items) (hx : items[i]? = none)
    (hE : ∀ h' e, Heap.ExtBut it s.heap h' → (∃ o, h'.get? e = some o ∧ o.cls = .type "StopIteration") → E (.ref e) { s with heap := h' }) :
    wpAny (model prog w) A (Builtin.SmallTypes.nextOf (.ref it)) Q E s := by
  obtain ⟨o, ho, hc, hd⟩ := id hit
  obtain ⟨ol, hol, _, nl, hdl⟩ := ht
  unfold Builtin.SmallTypes.nextOf
  refine wpAny_bind (wpAny_callSpecial?_slot (name := Str.ofString "__next__") hit.typeIs slot_tupleiter_next
    (wpAny_call_entry slot_tupleiter_next hit.typeIs entry_tupleiter_next ?_ (args_tupleiter_next _)))
  show wpAny _ _ (field (.ref it) 0 >>= _) _ _ s
  refine wpAny_bind (wpAny_field ho hd (x := .ref t) rfl ?_)
  show wpAny _ _ (if (Value.ref t == Value.none) = true then _ else _) _ _ s
  rw [if_neg (show ¬ ((Value.ref t == Value.none) = true) from Bool.false_ne_true)]
  show wpAny _ _ (field (.ref it) 1 >>= _) _ _ s
  refine wpAny_bind (wpAny_field ho hd (x := .int i 0) rfl ?_)
  show wpAny _ _ (seqItems? (.ref t) >>= _) _ _ s
  refine wpAny_bind (wpAny_seqItems hol hdl ?_)
  simp only [Int.toNat_natCast, hx]
  refine wpAny_bind (wpAny_rule (wpAny_bind (wpAny_setField ho hd (by simp) ?_)))
  show wpAny _ _ (newExc (.type "StopIteration") [] >>= _) _ _ _
  refine wpAny_bind ?_
  simp only [newExc, newTuple]
  refine wpAny_bind (wpAny_newObj_type ?_ (by size_fits))
  refine wpAny_bind (m := firstArgMember _ _) (wpAny_of_eq (a := Value.none) (by first | rfl | (simp only [firstArgMember]; rfl)) ?_)
  refine wpAny_newObj_type ?_ (by size_fits)
  simp only [raiseNew]
  refine wpAny_bind (wpAny_handled ?_)
  first | rw [show A.in1.handled = none from hh] | rw [hh]
  refine wpAny_bind (wpAny_pure (wpAny_throw ?_))
  exact hE _ _ (((Heap.SameBut.update ..).extBut.push _).push _) ⟨_, Heap.get?_push_size _ rfl, rfl⟩
end
theorem draws_tuple {prog : Program} {w : World} {A : Around} (hh : A.handled = none) (it t : Addr) (hne : t ≠ it) (items : Array Value) :
    Draws prog w A it [it, t] items.size (fun i v => items[i]? = some v) (fun i h => IsTupIter h it t i ∧ IsTup h t items) where
  live := fun _ _ st => let ⟨o, ho, _⟩ := st.1; ⟨o, ho⟩
  frame := fun _ _ _ st hk => ⟨let ⟨o, ho, r⟩ := st.1; ⟨o, hk it (by simp) o ho, r⟩, let ⟨o, ho, r⟩ := st.2; ⟨o, hk t (by simp) o ho, r⟩⟩
  item := fun i s Q E hi st hQ => by
    refine nextOf_tuple_item st.1 st.2 (x := items[i]) (by simp [hi]) fun h' hit' hs' => ?_
    exact hQ _ h' s.toks (by simp [hi]) ⟨hit', st.2.extBut hs'.extBut hne⟩ hs'
  done := fun s Q E st hE => nextOf_tuple_end hh st.1 st.2 (by simp) hE
theorem meets_enumerate_newT (l : Addr) (items : Array Value) (n : Nat) (dct : Option Addr) (sl : Array (Option Value)) :
    Meets (Builtin.«enumerate.__new__» ⟨[.type "enumerate", .ref l], []⟩) (fun _ R s => s.heap.get? l = some { cls := .type "tuple", dict := dct, data := .seq items n, slots := sl } ∧
      R (.ok (.ret (.ref (s.heap.push { cls := .type "tuple_iterator", data := .fields #[.ref l, .int 0 0] }).objs.size)))
        { s with heap := (s.heap.push { cls := .type "tuple_iterator", data := .fields #[.ref l, .int 0 0] }).push { cls := .type "enumerate", data := .fields #[.none, .bool false, .ref s.heap.objs.size, rawInt 0, .none, .none] } }) :=
  .of_wp fun prog w A R s h => by
    obtain ⟨hp, g, d, tk, os⟩ := s; obtain ⟨hl, h⟩ := h
    have hsub := sub_enumerate
    have hL : IsTup (Shared.heap ⟨hp, g, d, tk, os⟩) l items := ⟨_, hl, rfl, n, rfl⟩
    wp_walk using wpAny_loadPart' hl
    refine wpAny_stack_any fun st => wpAny_pure ?_
    split
    · rename_i c _ _ _ _ _
      cases (c == Value.type "enumerate")
      · wp_walk using wpAny_loadPart' hl, iter_tuple hL
        exact ⟨_, rfl, h⟩
      · wp_walk using wpAny_loadPart' hl, iter_tuple hL
        exact ⟨_, rfl, h⟩
    · wp_walk using wpAny_loadPart' hl, iter_tuple hL
      exact ⟨_, rfl, h⟩
section
variable {prog : Program} {w : World} {A : Around} {E : Value → Shared → Prop} {s : Shared}
theorem call_enumerate_tuple {l : Addr} {items : Array Value} {Q : Value → Shared → Prop} (hL : IsTup s.heap l items)
    (h : ∀ h', IsEnum h' (s.heap.objs.size + 1) s.heap.objs.size 0 .none → IsTupIter h' s.heap.objs.size l 0 → h'.objs.size = s.heap.objs.size + 2 →
      (∀ b o, s.heap.get? b = some o → h'.get? b = some o) → Q (.ref (s.heap.objs.size + 1)) { s with heap := h' }) :
    wpAny (model prog w) A (call (.type "enumerate") [.ref l]) Q E s := by
  obtain ⟨⟨c, dct, dt, sl⟩, hl, hc, n, hd⟩ := hL
  replace hc : c = .type "tuple" := hc
  replace hd : dt = .seq items n := hd
  subst hc hd
  refine callType_new F.called_enumerate (by decide) (F.typeCall_enumerate_1 _) (F.newCall_enumerate_1 _) (fun obj => F.args_object_init_2 obj _) F.entry_enumerate_new
    (meets_enumerate_newT l items n dct sl) ⟨hl, ?_⟩
  have hz : (s.heap.push { cls := .type "tuple_iterator", data := .fields #[.ref l, .int 0 0] }).objs.size = s.heap.objs.size + 1 := Heap.size_push ..
  show _ ∧ _
  rw [hz]
  have he : IsEnum ((s.heap.push { cls := .type "tuple_iterator", data := .fields #[.ref l, .int 0 0] }).push
      { cls := .type "enumerate", data := .fields #[.none, .bool false, .ref s.heap.objs.size, rawInt 0, .none, .none] }) (s.heap.objs.size + 1) s.heap.objs.size 0 .none := by
    have := Heap.get?_push_size (s.heap.push { cls := .type "tuple_iterator", data := .fields #[.ref l, .int 0 0] })
      (o := { cls := .type "enumerate", data := .fields #[.none, .bool false, .ref s.heap.objs.size, rawInt 0, .none, .none] }) rfl
    rw [hz] at this; exact this
  refine ⟨⟨_, he, rfl⟩, h _ he ⟨_, Heap.get?_push_of_some _ (Heap.get?_push_size _ rfl), rfl, rfl⟩ (by rw [Heap.size_push, hz]) fun b o x => Heap.get?_push_of_some _ (Heap.get?_push_of_some _ x)⟩
end
/-- the tuple at a, each item in a new pair -/
def IteT (K : PySem.W.Frag) (a : Addr) : It :=
  ⟨fun i H => ∃ (xs : List V) (x : V), SqT K H a xs ∧ xs[i]? = some x, fun i H v H' => ∃ T x, v = .ref T ∧ H T = none ∧ H' = upd H T (.tup [.int (i : Nat), x]) ∧ ∀ xs, SqT K H a xs → xs[i]? = some x, fun i H => ∃ xs : List V, SqT K H a xs ∧ xs.length ≤ i⟩
theorem enum_ne_tup {h : Heap} {e it a : Addr} {i : Int} {old : Value} {items : Array Value} (he : IsEnum h e it i old) (ht : IsTup h a items) : e ≠ a := fun z => by
  obtain ⟨o, ho, hc, _⟩ := ht
  subst z
  have : h.get? e = _ := he
  rw [ho] at this
  cases this
  injection hc with q
  exact absurd q (by decide)
theorem tupit_ne_tup {h : Heap} {it a : Addr} {i : Nat} {items : Array Value} (hi : IsTupIter h it a i) (ht : IsTup h a items) : a ≠ it := fun z => by
  obtain ⟨o, ho, hc, _⟩ := ht
  obtain ⟨o2, ho2, hc2, _⟩ := hi
  subst z
  rw [ho] at ho2
  cases ho2
  rw [hc] at hc2
  injection hc2 with q
  exact absurd q (by decide)
theorem turn_enumT {P : Program} {w : World} {K : PySem.W.Frag} {elts : List Expr} {kk : Nat} {tpos : Pos} (a e it : Addr) :
    Turn P w K (.Tuple elts kk tpos) (IteT K a) [e, it] e (fun i h => (∃ old, IsEnum h e it ((i : Nat) : Int) old) ∧ IsTupIter h it a i ∧ e ≠ it) where
  mem := by simp
  obj := fun i h st b hb => by
    obtain ⟨⟨old, he⟩, ⟨o, ho, hc, hd⟩, _⟩ := st
    have e' : b = e ∨ b = it := by simpa using hb
    rcases e' with z | z
    · rw [z]; exact ⟨_, he, fun v q => nomatch q⟩
    · rw [z]; exact ⟨o, ho, fun v q => by rw [hd] at q; cases q⟩
  keep := fun i h h' st k => let ⟨⟨old, he⟩, ⟨o, ho, r⟩, hne⟩ := st; ⟨⟨old, k e (by simp) _ he⟩, ⟨o, k it (by simp) o ho, r⟩, hne⟩
  item := by
    intro X hP hw hK hc i pins s σ H E I hf st hg
    subst hP hw hK
    obtain ⟨⟨old, he⟩, hit, hne⟩ := st
    obtain ⟨xs, x, hq, hx⟩ := hg
    obtain ⟨its, rv, p, hz⟩ := I.tuple hq
    obtain ⟨u, hu, ru⟩ := rv.get hx
    have hel : e < s.heap.objs.size := Heap.lt_size he
    have hil : it < s.heap.objs.size := by obtain ⟨_, q, _⟩ := hit; exact Heap.lt_size q
    have hlt : i < its.toArray.size := by
      rw [List.size_toArray]
      exact (List.getElem?_eq_some_iff.mp hu).1
    refine wpAny_pyNext_enum_itemD (draws_tuple (show X.A.in1.handled = none from I.ok.hd hc) it a (tupit_ne_tup hit p) its.toArray) he ⟨hit, p⟩ hlt hne (by simp [hne, enum_ne_tup he p]) fun v h' tk hv ho hst' hT hsz hk => ?_
    have hvu : v = u := by
      have : its.toArray[i]? = some u := by simpa using hu
      rw [hv] at this
      exact Option.some.inj this
    subst hvu
    have hit' := hst'.1
    refine ⟨_, rfl, wpAny_letOwnedTupleGo_enum (s := { s with heap := h', toks := tk + 1 }) ho fun h'' he' sb => ?_⟩
    have hT2 : h''.get? s.heap.objs.size = some { cls := .type "tuple", data := .seq #[.int i tk, v] } := (sb.2 _ (Nat.ne_of_gt hel)).trans hT
    have new : ObjOk X.prog X.w (upd H s.heap.objs.size (.tup [.int (i : Nat), x])) h'' s.heap.objs.size (.tup [.int (i : Nat), x]) :=
      ⟨by show 2 ≤ sizeLine; decide, [.int i tk, v], .cons ⟨_, rfl⟩ (.cons ru .nil), ⟨_, hT2, rfl, _, rfl⟩⟩
    have I1 : L2.Inv X pins σ (upd H s.heap.objs.size (.tup [.int (i : Nat), x])) { s with heap := h'', toks := tk + 1 } :=
      I.turnedNew (ch := [e, it]) (fun b ob hb q => (sb.2 b (fun z => hb (by simp [z]))).trans (hk b ob (fun z => hb (by simp [z])) (fun z => hb (by simp [z])) q)) hf (Nat.le_refl _) new
    refine ⟨.ref s.heap.objs.size, _, I1, rfl, ⟨_, x, rfl, I.hok.fresh (Nat.le_refl _), rfl, fun ys hy => by rw [I.tuple_inj hy hq]; exact hx⟩, ⟨⟨v, ?_⟩, ?_, hne⟩, fun b hb => ?_⟩
    · have e1 : ((i + 1 : Nat) : Int) = (i : Int) + 1 := by omega
      rw [e1]; exact he'
    · obtain ⟨o, ho', r⟩ := hit'
      exact ⟨o, (sb.2 it (Ne.symm hne)).trans ho', r⟩
    · have hb' : b < s.heap.objs.size := by
        have e' : b = e ∨ b = it := by simpa using hb
        rcases e' with z | z
        · rw [z]; exact hel
        · rw [z]; exact hil
      rw [upd_ne (Nat.ne_of_lt hb')]
      exact (hf b hb).1
  done := by
    intro X hP hw hK hc i pins s σ H E I hf st hg
    subst hP hw hK
    obtain ⟨⟨old, he⟩, hit, hne⟩ := st
    obtain ⟨xs, hq, hx⟩ := hg
    obtain ⟨its, rv, p, hz⟩ := I.tuple hq
    obtain ⟨f0, f1, f2, f3, f4, f5⟩ := hf it (by simp)
    have hl := rv.length
    have hh : X.A.in1.handled = none := I.ok.hd hc
    refine wpAny_bind (wpAny_attempt (wpAny_callSpecial?_slot (name := Str.ofString "__next__") (T := "enumerate") ⟨_, he, rfl⟩ F.slot_enumerate_next
      (wpAny_call_entry F.slot_enumerate_next ⟨_, he, rfl⟩ F.entry_enumerate_next ?_ (F.args_enumerate_next_1 _))))
    show wpAny _ _ (field (.ref e) 2 >>= _) _ _ _
    refine wpAny_bind (wpAny_field he rfl (x := .ref it) rfl ?_)
    refine wpAny_bind (nextOf_tuple_end hh hit p (by simp; omega) fun h' x he' hx' => ?_)
    obtain ⟨o, ho, hc'⟩ := hx'
    refine wpAny_bind (wpAny_isInstance (T := "StopIteration") (b := true) ⟨o, ho, hc'⟩ isSubtype_stop ?_)
    exact wpAny_pure ⟨rfl, I.turned (t' := s.toks) (fun b o hb q => he' b o hb q) f0 f1 f3 f4 f5⟩
  self := fun A i s Q E st h => let ⟨⟨_, he⟩, _⟩ := st; wpAny_pyIter_enum he h
def iEnumT (K : PySem.W.Frag) (ta : TA) : TI := fun σ H R => ta σ H fun vs H1 => ∃ a xs, vs = [.ref a] ∧ SqT K H1 a xs ∧ R (IteT K a) H1
theorem pi_enumT {X : Cx} {e : Expr} {ta : TA} {p pos tpos : Pos} {elts : List Expr} {kk : Nat} (hg : Gl X "enumerate") (hm : X.mg "enumerate" = none) (ha : PA X [e] ta) (hs : starEach [e] X.env = [(false, eval e X.env)] := by rfl) :
    PI X (.Tuple elts kk tpos) (.Call (.Name "enumerate" p) [e] [] pos) (iEnumT X.K ta) := by
  refine ⟨fun pins s σ H R I h => ?_⟩
  refine Call_ (ld_blt I hg hm boot_enumerate (PyProof.Rows.callWith_type1 (thn (ha.run pos pins s σ H _ I h) fun us s1 ⟨vs, H1, I1, r1, q1⟩ => ?_) hs rfl))
  obtain ⟨a, xs, ex, hq, q⟩ := q1
  subst ex
  cases r1 with
  | cons r rr =>
    cases rr
    cases r
    obtain ⟨its, rv, p', hz⟩ := I1.tuple hq
    refine call_enumerate_tuple p' fun h' he hit hsz hk => wpAny_pyIter_enum he ?_
    have I2 : L2.Inv X pins σ H1 { s1 with heap := h' } := I1.kept (t' := s1.toks) hk
    refine ⟨s1.heap.objs.size + 1, [s1.heap.objs.size + 1, s1.heap.objs.size], _, _, H1, rfl, I2, turn_enumT a (s1.heap.objs.size + 1) s1.heap.objs.size, ⟨⟨.none, he⟩, hit, Nat.succ_ne_self _⟩, fun b hb => ?_, q⟩
    have e' : b = s1.heap.objs.size + 1 ∨ b = s1.heap.objs.size := by simpa using hb
    have hle : s1.heap.objs.size ≤ b := by
      rcases e' with z | z
      · rw [z]; exact Nat.le_add_right _ _
      · rw [z]; exact Nat.le_refl _
    exact I1.fpOk hle (I1.hok.fresh hle)
theorem walk_enumT {K : PySem.W.Frag} {a : Addr} {xs : List V} : Walk (IteT K a) xs.length (fun H => SqT K H a xs) (YPair (fun i => some (.int (i : Nat))) (fun i => xs[i]?)) := by
  refine ⟨fun i _ hi q => ⟨xs, xs[i], q, by simp [hi]⟩, fun _ q => ⟨xs, q, Nat.le_refl _⟩, fun i H v H' _ q y => ?_⟩
  obtain ⟨T, x, h1, h2, h3, h4⟩ := y
  exact ⟨T, .int (i : Nat), x, h1, h2, h3, rfl, h4 xs q⟩
section
variable {K : PySem.W.Frag} {S SB : Sta} {L : List Addr} {ρ : List (Option Dt)} {P : Po} {tl : TE} {t : TS}
/-- for j1, j2 in enumerate(a tuple) -/
theorem so_forET {j1 j2 : Nat} {xs : List Dt} (h : Ev K S S ρ tl (Eq (.tup xs))) (J : Nat → List (Option Dt) → Prop) (h0 : J 0 ρ)
    (hs : ∀ (i : Nat) x ρ', xs[i]? = some x → J i ρ' → So K S S [] t ((ρ'.set j1 (some (.int i))).set j2 (some x)) { P with nx := J (i + 1), ct := J (i + 1), bk := P.nx }) (hd : ∀ ρ', J xs.length ρ' → P.nx ρ') :
    Sg K S SB S L (tFor (iEnumT K (tCons tl tNil)) (gTup K 2 (gCons (gName j1) (gCons (gName j2) gNil))) t) ρ P := fun D σ B H b i s f0 =>
  have f := f0.mono b.gr
  h σ H i s _ fun v d H1 g1 i1 r1 p1 => by
    subst p1
    obtain ⟨a, vs, rfl, ht, ra⟩ := r1.tupI
    refine ⟨a, vs, rfl, ht, for_it walk_enumT (fun n σ' H' => Gr H1 H' ∧ S.I H' ∧ ∃ ρ', Slots K H' σ' ρ' ∧ J n ρ') ⟨Gr.refl H1, i1, ρ, s.mono g1, h0⟩ (fun n σ' H' _ p => p.1.sqT ht) (fun n x σ' H' H2 hn p y => ?_) fun σ' H' p => ?_⟩
    · obtain ⟨g2, i2, ρ', s2, jn⟩ := p
      obtain ⟨T, x1, x2, rfl, hT, rfl, e1, e2⟩ := y
      cases e1
      obtain ⟨d, hd', rd⟩ := ra.ta e2
      have sn := same_new (o := .tup [.int (n : Nat), x2]) hT
      refine ⟨T, [.int (n : Nat), x2], rfl, SqT.of upd_same, rfl, names_run (is := [j1, j2]) (ds := [.int (n : Nat), d]) (s2.mono sn.gr) (.cons (.int _) (.cons (rd.mono (g2.trans sn.gr)) .nil)) rfl fun σ5 s5 => ?_⟩
      have g3 := g2.trans sn.gr
      exact hs n d ρ' hd' jn _ _ _ _ ⟨Gr.refl _, S.st i2 sn, fun _ z => nomatch z⟩ (S.st i2 sn) s5 ⟨fun σ3 ρ3 H3 g4 i3 s3 q => ⟨g3.trans g4, i3, ρ3, s3, q⟩, fun v3 d3 H3 g4 => f.rt v3 d3 H3 ((g1.trans g3).trans g4), fun σ3 ρ3 H3 g4 i3 s3 q => f.nx σ3 ρ3 H3 ((g1.trans g3).trans g4) i3 s3 q, fun σ3 ρ3 H3 g4 i3 s3 q => ⟨g3.trans g4, i3, ρ3, s3, q⟩⟩
    · obtain ⟨g2, i2, ρ', s2, jn⟩ := p
      rw [ra.len] at jn
      exact f.nx σ' ρ' H' (g1.trans g2) i2 s2 (hd ρ' jn)
end
end Bf
namespace Bf
open PySem PySem.Spec PyProof.Rows L2
/-! ## Ratios' members in terms -/
structure RatG (K : PySem.W.Frag) (C gN : Addr) (hN : FuncData) (gD : Addr) (hD : FuncData) : Prop where
  n : ∀ (P : Program) (w : World) (mg : Str → Option Value) (base : Heap), FnOk P w K mg base CX0 1 gN hN ["self"] (getSp C "_num")
  d : ∀ (P : Program) (w : World) (mg : Str → Option Value) (base : Heap), FnOk P w K mg base CX0 1 gD hD ["self"] (getSp C "_den")
  bn : Binds K hN ["self"] []
  bd : Binds K hD ["self"] []
structure RatI (P : Program) (K : PySem.W.Frag) (mg : Str → Option Value) (fI : Addr) (fd : FuncData) (C : Addr) : Prop where
  i : ∀ (w : World) (base : Heap), GOk P w K mg base 2 fI fd ["self", "num", "den"] (spRI C)
  b2 : Binds K fd ["self", "num", "den"] []
  b1 : ∃ ds, Vals [V.int 1] ds ∧ Binds K fd ["self", "num", "den"] ds
section
variable {X : Cx} {C fI pN gN pD gD : Addr} {hN hD fd : FuncData} {e : Expr} {es : List Expr} {te : TE} {t : TA} {p pos : Pos}
theorem pe_num (T : RatT X.K X.mg C fI pN gN pD gD) (G : RatG X.K C gN hN gD hD) (hr : Room 2 X.A) (he : PE X e te) (hab : attributeBase e "num" X.env (eval e X.env) = eval e X.env := by rfl) : PE X (.Attribute e "num" pos) (tProp C (getSp C "_num") [] E0 te) :=
  pe_prop he T.cl T.pn (G.n _ _ _ _) hr G.bn .nil pass0 hab
theorem pe_den (T : RatT X.K X.mg C fI pN gN pD gD) (G : RatG X.K C gN hN gD hD) (hr : Room 2 X.A) (he : PE X e te) (hab : attributeBase e "den" X.env (eval e X.env) = eval e X.env := by rfl) : PE X (.Attribute e "den" pos) (tProp C (getSp C "_den") [] E0 te) :=
  pe_prop he T.cl T.pd (G.d _ _ _ _) hr G.bd .nil pass0 hab
theorem pe_mk2 (T : RatT X.K X.mg C fI pN gN pD gD) (I : RatI X.prog X.K X.mg fI fd C) (hr : Room 3 X.A) (hgd : X.A.guards = some []) (ha : PA X (e :: es) t) (hg : Gl X "Ratio" := by rfl)
    (he : starEach (e :: es) X.env = (false, eval e X.env) :: starEach es X.env := by rfl) (hpl : (backTo pos (starEach es X.env)).any (·.1) = false := by rfl) : PE X (.Call (.Name "Ratio" p) (e :: es) [] pos) (tMake C (spRI C) [] E0 t) :=
  pe_makeG T.mK (I.i _ _) hr hgd T.gC I.b2 .nil passL ha hg (by decide) he hpl
theorem pe_mk1 (T : RatT X.K X.mg C fI pN gN pD gD) (I : RatI X.prog X.K X.mg fI fd C) (hr : Room 3 X.A) (hgd : X.A.guards = some []) (ha : PA X (e :: es) t) (hg : Gl X "Ratio" := by rfl)
    (he : starEach (e :: es) X.env = (false, eval e X.env) :: starEach es X.env := by rfl) (hpl : (backTo pos (starEach es X.env)).any (·.1) = false := by rfl) : PE X (.Call (.Name "Ratio" p) (e :: es) [] pos) (tMake C (spRI C) [.int 1] E0 t) := by
  obtain ⟨ds, r, b⟩ := I.b1
  exact pe_makeG T.mK (I.i _ _) hr hgd T.gC b r passL ha hg (by decide) he hpl
end
section
variable {K : PySem.W.Frag} {S S1 : Sta} {ρ : List (Option Dt)} {tl : TA} {n : Int} {C : Addr} {E : XK}
/-- Ratio(n) -/
theorem ev_mkrat1 (h : EvA K S S1 ρ tl (Eq [.int n])) (h0 : 0 ≤ n) : Ev K S S1 ρ (tMake C (spRI C) [.int 1] E tl) (Eq (rat C n 1)) := fun σ H i s Q q =>
  h σ H i s _ fun vs ds H1 g1 i1 r1 e => by
    subst e
    obtain ⟨v, rfl, ra⟩ := r1.oneI
    obtain rfl := ra.intI
    intro x dx hx hdx ne
    refine ⟨x, dx, n, 1, rfl, upd_same, h0, by decide, by decide, fun H' _ k e => ⟨rfl, ?_⟩⟩
    have sm : Same H1 H' := fun b o eb => by
      have hbx : b ≠ x := ne_of_none eb hx
      have hbd : b ≠ dx := ne_of_none eb hdx
      refine k b o hbx ?_
      rw [upd_ne hbx, upd_ne hbd]
      exact eb
    have e1 : ((Nat.gcd n.natAbs (1 : Int).natAbs : Nat) : Int) = 1 := by
      show ((Nat.gcd n.natAbs 1 : Nat) : Int) = 1
      rw [Nat.gcd_one_right]
      rfl
    rw [e1, Int.ediv_one, Int.ediv_one] at e
    exact q _ _ H' (g1.trans sm.gr) (S1.st i1 sm) (rep_rat e) rfl
end
/-! ### try .. except C: without a name -/
section
variable {K : PySem.W.Frag} {S S1 SB SF : Sta} {L : List Addr} {ρ : List (Option Dt)} {P : Po} {te : TE} {w : TS} {d : Dt} {f : Str} {C : Addr} {c : Value} {tw : WX → TS} {ts : Addr → Value → Option Addr → TS} {Wout : WX}
theorem so_onlyOk (h : ∀ W, Sg K S SB SF L (tw W) ρ P) : Sg K S SB SF L (fun D σ H => tw (wOnly K c ts Wout D) D σ H) ρ P := fun D σ B H b hi s ft => h (wOnly K c ts Wout D) D σ B H b hi s ft
theorem so_onlyEr (hm : PySem.W.exmOne K (.ref C) c = some true)
    (hb : ∀ (W : WX) (D : Ends) (σ : L2.St) (H : Hp), S.I H → Slots K H σ ρ → (∀ a v H', Gr H H' → S1.I H' → H' a = some (.xd [(f, v)]) → Rep K H' v d → W (.ref C) (some a) σ H') → tw W D σ H)
    (hs : ∀ (e a : Addr), Sg K S1 SB SF L (ts e (.ref C) (some a)) ρ P) :
    Sg K S SB SF L (fun D σ H => tw (wOnly K c ts Wout D) D σ H) ρ P := fun D σ B H b hi s ft =>
  hb _ D σ H hi s fun a v H' g i' ha rv => ⟨true, hm, fun _ e he => hs e a _ _ B H' (b.up g) i' (s.mono g) (ft.mono (Gr.refl _)), fun z => nomatch z⟩
theorem so_drop0 {Φ : Dt → Prop} (h : Ev K S S1 ρ te Φ) (l : S1.Le SF) (q : P.nx ρ) : Sg K S SB SF L (tDrop te) ρ P := fun D σ B H b i s f => h σ H i s _ fun v d H1 g1 i1 r1 p1 => f.nx _ _ H1 (b.gr.trans g1) (l _ i1) (s.mono g1) q
end
end Bf
namespace Bf
open PySem PySem.Spec PyProof.Rows L2
/-! ## receivers.py -/
/-- plain data, or a ratio -/
def plRt (C : Addr) (d : Dt) : Prop := plD d ∨ ∃ a b, d = rat C a b
def r_bwR (C : Addr) (ds : List Dt) (a : Dt) : Prop := ∃ d n k, ds = [d, .str n, .int k] ∧ (pl d = true ∨ ∃ a b, d = rat C a b) ∧ 0 < k ∧ a = .bl (bwD d n k)
abbrev p_begins_withR (K : PySem.W.Frag) (C : Addr) : Sp := spR K 3 (r_bwR C)
def r_ntR (CB C : Addr) (ds : List Dt) (o : Out) : Prop := ∃ d, ds = [d] ∧ plRt C d ∧ o = ntO CB d
abbrev p_need_tableR (K : PySem.W.Frag) (CB C : Addr) : Sp := spX K 1 (r_ntR CB C)
abbrev t_need_tableR (K : PySem.W.Frag) (CB C : Addr) (E : XK) : TS := (tSeq (tIfS (tB (tCall (p_begins_withR K C) [] E0 (tCons (tVar 0) (tCons (tC (.str "pairs")) (tCons (tC (.int 6)) tNil))))) (tAsg (tCall (p_wrong_part_of_pairs K) [] E0 (tCons (tVar 0) tNil)) (gName 1)) (tIfS (tB (tCall (p_begins_withR K C) [] E0 (tCons (tVar 0) (tCons (tC (.str "halves")) (tCons (tC (.int 3)) tNil))))) (tAsg (tCall (p_wrong_part_of_halves K) [] E0 (tCons (tVar 0) tNil)) (gName 1)) (tAsg (tC (.str "form")) (gName 1))))
    (tSeq (tIfS (tTest (tOp rNoNo (tVar 1) (tC .non))) (tRaiseB CB "part" (fun cls d _ H => E cls d H) (tCons (tVar 1) tNil)) tNext)
    (tRet (tVar 0))))
def isPair : Dt → Bool
  | .tup [_, _] => true
  | _ => false
def r_ip (C : Addr) (ds : List Dt) (a : Dt) : Prop := ∃ d, ds = [d] ∧ okRt C d ∧ a = .bl (isPair d)
abbrev p_is_pair (K : PySem.W.Frag) (C : Addr) : Sp := spR K 1 (r_ip C)
abbrev t_is_pair (K : PySem.W.Frag) : TS := (tRet (tAndV (tCB (rIsi K) (tCons (tVar 0) (tCons (tC (.ty "tuple")) tNil))) (tOp rEq (tCB (rLen K) (tCons (tVar 0) tNil)) (tC (.int 2)))))
def r_it (C : Addr) (ds : List Dt) (a : Dt) : Prop := ∃ d, ds = [d] ∧ plRt C d ∧ a = .bl (tabPart d).isNon
abbrev p_is_table (K : PySem.W.Frag) (C : Addr) : Sp := spR K 1 (r_it C)
abbrev t_is_table (K : PySem.W.Frag) (CB C : Addr) : TS := (tSeq (fun D σ H => (fun W => (tDrop (tCallS (p_need_tableR K CB C) (WE W) (tCons (tVar 0) tNil)))) (wOnly K (.ref CB) (fun a cls d => (tRet (tC (.bl false)))) (fun _ _ _ _ => False) D) D σ H)
    (tRet (tC (.bl true))))
def blw : Dt → Bool
  | .ins _ _ [.int n, .int m] => decide (n < m)
  | _ => false
def r_bo (C : Addr) (ds : List Dt) (a : Dt) : Prop := ∃ d, ds = [d] ∧ okRt C d ∧ a = .bl (blw d)
abbrev p_is_below_one (K : PySem.W.Frag) (C : Addr) : Sp := spR K 1 (r_bo C)
abbrev t_is_below_one (K : PySem.W.Frag) (C : Addr) : TS := (tRet (tAndV (tCB (rIsi K) (tCons (tVar 0) (tCons (tC (.ref C)) tNil))) (tOp rLtI (tProp C (getSp C "_num") [] E0 (tVar 0)) (tProp C (getSp C "_den") [] E0 (tVar 0)))))
/-- as the things in a receiver are drawn -/
def elR (C : Addr) (d : Dt) : Prop := okRt C d ∧ ∀ a b, d = .tup [a, b] → plRt C a ∧ okRt C b
def pairB : Dt → Bool
  | .tup [a, b] => (tabPart a).isNon && blw b
  | _ => false
def r_tt (C : Addr) (ds : List Dt) (a : Dt) : Prop := ∃ d, ds = [d] ∧ elR C d ∧ a = .bl (pairB d)
abbrev p_is_table_with_tolerance (K : PySem.W.Frag) (C : Addr) : Sp := spR K 1 (r_tt C)
abbrev t_is_table_with_tolerance (K : PySem.W.Frag) (C : Addr) : TS := (tRet (tAndV (tCall (p_is_pair K C) [] E0 (tCons (tVar 0) tNil)) (tAndV (tCall (p_is_table K C) [] E0 (tCons (tOp (rIx K) (tVar 0) (tC (.int 0))) tNil)) (tCall (p_is_below_one K C) [] E0 (tCons (tOp (rIx K) (tVar 0) (tC (.int 1))) tNil)))))
section
variable {K : PySem.W.Frag} {mg : Str → Option Value} {C fI pN gN pD gD CB : Addr} {S : Sta} {ds : List Dt} {d : Dt} {o : Out} {E : XK}
theorem so_begins_withR (T : RatT K mg C fI pN gN pD gD) (hmu : S.Mu) (hp : r_bwR C ds d) : So K S S [] (t_begins_with K) (startD 3 ds) (Pu d) := by
  obtain ⟨x, n, k, rfl, hx, hk, rfl⟩ := hp
  rcases hx with hx | ⟨a, b, rfl⟩
  · exact so_begins_with hmu ⟨x, n, k, rfl, hx, hk⟩
  · exact so_ifT (et_orT (et_notF (et_B (ev_ratIs T (ev_var rfl) (by simp))))) (so_ret1D ev_bl (Sta.Le.refl S) rfl)
theorem ev_begins_withR {S1 : Sta} {ρ : List (Option Dt)} {ta : TE} {n : Str} {k : Int} (h : Ev K S S1 ρ ta (Eq d)) (hd : pl d = true ∨ ∃ a b, d = rat C a b) (hk : 0 < k) : Ev K S S1 ρ (tCall (p_begins_withR K C) [] E0 (tCons ta (tCons (tC (.str n)) (tCons (tC (.int k)) tNil)))) (Eq (.bl (bwD d n k))) :=
  ev_callR (ea_cons h (ea_cons ev_str (ea_cons ev_int ea_nil))) rfl ⟨d, n, k, rfl, hd, hk, rfl⟩
theorem so_need_tableR (hmu : S.Mu) (hp : r_ntR CB C ds o) (hw : ∀ C' f d, o = .er C' f d → XW K S C' f d E) : So K S S [] (t_need_tableR K CB C E) (startD 2 ds) (PO o) := by
  obtain ⟨d, rfl, hd, rfl⟩ := hp
  have hd' : pl d = true ∨ ∃ a b, d = rat C a b := hd.imp (fun h => h.1) id
  have rest : ∀ p, tabPart d = p → So K S S [] (tSeq (tIfS (tTest (tOp rNoNo (tVar 1) (tC .non))) (tRaiseB CB "part" (fun cls d _ H => E cls d H) (tCons (tVar 1) tNil)) tNext) (tRet (tVar 0))) [some d, some p] (PO (ntO CB d)) := fun p hpp => by
    refine so_ifD (k := !p.isNon) (et_test (ev_op (ev_var rfl) ev_non rv_noNo)) (fun e => ?_) fun e => so_skip ?_
    · have hn : ¬ ((tabPart d).isNon = true) := by rw [hpp]; simpa using e
      have ho : ntO CB d = .er CB "part" p := by rw [ntO, if_neg hn, hpp]
      exact so_raise1B (ev_var rfl) (hw CB "part" p ho)
    · have hn : (tabPart d).isNon = true := by rw [hpp]; simpa using e
      have ho : ntO CB d = .ok d := by rw [ntO, if_pos hn]
      rw [ho]
      exact so_retD (ev_var rfl) (Sta.Le.refl S) rfl
  have hsa : ∀ xs, d = .tup xs → plSA xs = true := fun xs e => by
    rcases hd with h | ⟨a, b, rfl⟩
    · exact h.2 xs e
    · cases e
  refine so_if (Φb := Eq (bwD d "pairs" 6)) (et_B (ev_begins_withR (ev_var rfl) hd' (by decide))) (fun e => ?_) fun e => ?_
  · obtain ⟨xs, rfl, hl⟩ := bwD_shape e
    exact so_setD (ev_callF (ea_cons (ev_var rfl) ea_nil) rfl ⟨xs, rfl, by omega, hsa xs rfl⟩) (rest _ (if_pos e))
  · refine so_if (Φb := Eq (bwD d "halves" 3)) (et_B (ev_begins_withR (ev_var rfl) hd' (by decide))) (fun e2 => ?_) fun e2 => ?_
    · obtain ⟨xs, rfl, hl⟩ := bwD_shape e2
      exact so_setD (ev_callF (ea_cons (ev_var rfl) ea_nil) rfl ⟨xs, rfl, by omega, hsa xs rfl⟩) (rest _ (by rw [tabPart, if_neg (by rw [e]; decide), if_pos e2]))
    · exact so_setD ev_str (rest _ (by rw [tabPart, if_neg (by rw [e]; decide), if_neg (by rw [e2]; decide)]))
theorem pair_len {xs : List Dt} : isPair (.tup xs) = decide ((xs.length : Int) = 2) := by
  match xs with
  | [] => rfl
  | [_] => rfl
  | [_, _] => rfl
  | a :: b :: c :: l =>
    have : ¬ (((a :: b :: c :: l : List Dt).length : Int) = 2) := by simp; omega
    rw [decide_eq_false this]
    rfl
theorem so_is_pair (T : RatT K mg C fI pN gN pD gD) (hp : r_ip C ds d) : So K S S [] (t_is_pair K) (startD 1 ds) (Pu d) := by
  obtain ⟨x, rfl, hx, rfl⟩ := hp
  rcases hx with hx | ⟨a, b, rfl⟩
  · cases x with
    | tup xs => exact so_retD ((ev_andT ((ev_isTup (ev_var rfl) hx).to rfl) (ev_op (ev_lenT (ev_var rfl)) ev_int rv_eqI)).to (by rw [pair_len])) (Sta.Le.refl S) rfl
    | _ => exact so_retD (ev_andF ((ev_isTup (ev_var rfl) hx).to rfl)) (Sta.Le.refl S) rfl
  · exact so_retD (ev_andF (ev_ratIs T (ev_var rfl) (by simp))) (Sta.Le.refl S) rfl
theorem so_is_table (hte : PySem.W.exmOne K (.ref CB) (.ref CB) = some true) (hp : r_it C ds d) : So K S S [] (t_is_table K CB C) (startD 1 ds) (Pu d) := by
  obtain ⟨x, rfl, hx, rfl⟩ := hp
  cases hn : (tabPart x).isNon with
  | true =>
    have ho : ntO CB x = .ok x := by rw [ntO, if_pos hn]
    exact so_seqG (S1 := S) (M := fun ρ' => ρ' = [some x]) (Sta.Le.refl _) (so_onlyOk fun W => so_drop0 (ev_callXS (R := r_ntR CB C) (d := x) (ea_cons (ev_var rfl) ea_nil) rfl ⟨x, rfl, hx, ho.symm⟩) (Sta.Le.refl _) rfl) fun ρ' hM => by
      subst hM
      exact so_retD ev_bl (Sta.Le.refl S) rfl
  | false =>
    have ho : ntO CB x = .er CB "part" (tabPart x) := by rw [ntO, if_neg (by rw [hn]; decide)]
    refine so_seqG (S1 := S) (M := fun ρ' => False) (Sta.Le.refl _) (so_onlyEr (S1 := S) (C := CB) (f := "part") (d := tabPart x) (c := .ref CB) (Wout := fun _ _ _ _ => False) (tw := fun W => tDrop (tCallS (p_need_tableR K CB C) (WE W) (tCons (tVar 0) tNil))) (ts := fun a cls d => tRet (tC (.bl false))) hte (fun W D σ H i s hW => ?_) (fun e a => ?_)) fun ρ' hM => hM.elim
    · exact pr_drop (pr_callS (R := r_ntR CB C) i s (ea_cons (ev_var rfl) ea_nil) rfl ⟨x, rfl, hx, ho.symm⟩ hW)
    · exact so_retD ev_bl (Sta.Le.refl S) rfl
theorem so_is_below_one (T : RatT K mg C fI pN gN pD gD) (hp : r_bo C ds d) : So K S S [] (t_is_below_one K C) (startD 1 ds) (Pu d) := by
  obtain ⟨x, rfl, hx, rfl⟩ := hp
  rcases hx with hx | ⟨a, b, rfl⟩
  · have e1 : isRatD x = false := by cases x <;> first | rfl | (cases hx)
    have e2 : blw x = false := by cases x <;> first | rfl | (cases hx)
    exact so_retD (ev_andF ((ev_isRat T (ev_var rfl) (.inl hx)).to (by rw [e1]))) (Sta.Le.refl S) (by rw [e2])
  · exact so_retD (ev_andT ((ev_isRat T (ev_var rfl) (.inr ⟨a, b, rfl⟩)).to rfl) (ev_op (ev_num (ev_var rfl)) (ev_den (ev_var rfl)) rv_lt)) (Sta.Le.refl S) rfl
theorem so_is_table_with_tolerance (hp : r_tt C ds d) : So K S S [] (t_is_table_with_tolerance K C) (startD 1 ds) (Pu d) := by
  obtain ⟨x, rfl, ⟨hx, hxx⟩, rfl⟩ := hp
  have e1 : Ev K S S [some x] (tCall (p_is_pair K C) [] E0 (tCons (tVar 0) tNil)) (Eq (.bl (isPair x))) := ev_callR (ea_cons (ev_var rfl) ea_nil) rfl ⟨x, rfl, hx, rfl⟩
  cases hip : isPair x with
  | true =>
    obtain ⟨a, b, rfl⟩ : ∃ a b, x = .tup [a, b] := by
      unfold isPair at hip
      split at hip
      · exact ⟨_, _, rfl⟩
      · cases hip
    obtain ⟨ha, hb⟩ := hxx a b rfl
    exact so_retD (ev_andT (e1.to rfl) (ev_and (ev_callR (R := r_it C) (ea_cons (ev_ixT (ev_var rfl) ev_int (atI_nat (j := 0) rfl)) ea_nil) rfl ⟨a, rfl, ha, rfl⟩) fun _ => ev_callR (R := r_bo C) (ea_cons (ev_ixT (ev_var rfl) ev_int (atI_nat (j := 1) rfl)) ea_nil) rfl ⟨b, rfl, hb, rfl⟩)) (Sta.Le.refl S) rfl
  | false =>
    have e2 : pairB x = false := by
      unfold pairB
      split
      · cases hip
      · rfl
    exact so_retD (ev_andF (e1.to (by rw [hip]))) (Sta.Le.refl S) (by rw [e2])
end
/-! ### promises that hand back the thing itself -/
def spI (K : PySem.W.Frag) (R : Dt → Out → Prop) : Sp := fun vs H Q E => ∃ v d o, vs = [v] ∧ Rep K H v d ∧ R d o ∧ match o with
  | .ok _ => ∀ H', Same H H' → Q v H'
  | .er C f x => ∀ a u H', Same H H' → H' a = some (.xd [(f, u)]) → Rep K H' u x → E (.ref C) (some a) H'
def POI (v : V) : Out → Po
  | .ok _ => { rt := Eq (.raw v) }
  | .er _ _ _ => {}
section
variable {K : PySem.W.Frag} {S S1 SB SF : Sta} {L : List Addr} {ρ : List (Option Dt)} {d : Dt} {R : Dt → Out → Prop} {E : XK} {C : Addr} {f : Str} {j : Nat} {xs : List Dt}
theorem okI {Pg : Program} {w : World} {mg : Str → Option Value} {base : Heap} {x qual : Str} {st : Stmt} {g : Addr} {fd : FuncData} {N : List Str} {p : Str} {k : Nat} (Fu : Fun K x qual st g fd) (Sc : FnScope N [p] (defScope st))
    (hb : ∀ (cdv : Value) (A : Around) (out : List Env) (s : Shared) (H : Hp) (E : XK), Room k (A.deeper (envOfC qual (defScope st) s.heap.objs.size g cdv)) → A.guards = some [] →
      ∃ t, PSs (cxOf (L2.CX Pg w) Pg w K mg base N qual (defScope st) g cdv A out s H E) (defBody st) t ∧ ∀ (S : Sta), S.Mu → ∀ (v : V) (d : Dt) (o : Out), (∀ H', S.I H' → Rep K H' v d) → R d o → (∀ C f x, o = .er C f x → XW K S C f x E) → So K S S [] t (startD N.length [.raw v]) (POI v o)) :
    GOk Pg w K mg base (k + 1) g fd [p] (spI K R) := by
  refine okG Fu Sc (fun vs H Q E h => ?_) fun cdv A out s H vs Q E hr hg h => ?_
  · obtain ⟨v, d, o, rfl, _⟩ := h
    rfl
  · obtain ⟨v, d, o, rfl, rv, hp, q⟩ := h
    obtain ⟨t, ht, so⟩ := hb cdv A out s H E hr hg
    have hw : ∀ C f x, o = .er C f x → XW K (staSame H) C f x E := fun C f x e a u H' i ha ru => by
      subst e
      exact q a u H' i ha ru
    refine ⟨t, ht, so (staSame H) staSame_mu v d o (fun H' i => rv.mono (Same.gr i)) hp hw _ _ H H ⟨Gr.refl H, Same.refl H, fun _ z => nomatch z⟩ (Same.refl H) (slots_start (.cons (.raw v) .nil)) ⟨fun σ ρ H' g i s' e => ?_, fun u d' H' g i r' e => ?_, fun σ ρ H' g i s' e => ?_, fun σ ρ H' g i s' e => ?_⟩⟩
    · cases o <;> exact (show False from e).elim
    · cases o with
      | ok d =>
        have e2 : Dt.raw v = d' := e
        subst e2
        obtain rfl := r'.rawI
        exact q H' i
      | er => exact (show False from e).elim
    · cases o <;> exact (show False from e).elim
    · cases o <;> exact (show False from e).elim
/-- a slot's value by itself, read as data -/
theorem ev_rawD {v : V} {j : Nat} (hj : ρ[j]? = some (some (.raw v))) (hv : ∀ H', S.I H' → Rep K H' v d) : Ev K S S ρ (tVar j) (Eq d) := fun σ H i s Q q => by
  obtain ⟨u, hu, ru⟩ := s.val j _ hj
  obtain rfl := ru.rawI
  exact ⟨u, hu, q u d H (Gr.refl H) i (hv H i) rfl⟩
theorem ev_callI {te : TE} {o : Dt} (ha : Ev K S S1 ρ te (Eq d)) (hp : R d (.ok o)) : Ev K S S1 ρ (tCall (spI K R) [] E (tCons te tNil)) (Eq d) := fun σ H i s Q q =>
  ha σ H i s _ fun v d' H1 g1 i1 r1 p1 => by
    subst p1
    exact ⟨v, d, .ok o, rfl, r1, hp, fun H2 sm => q v _ H2 (g1.trans sm.gr) (S1.st i1 sm) (r1.mono sm.gr) rfl⟩
end
/-! ### need_receiver -/
def rcvO (CR : Addr) (d : Dt) : Out := match d with
  | .tup xs => if 1 ≤ xs.length ∧ xs.length ≤ 4 then (match xs.findIdx? (fun x => !pairB x) with | none => .ok d | some i => .er CR "place" (.int i)) else .er CR "place" .non
  | _ => .er CR "place" .non
/-- as receivers are drawn -/
def vR (C : Addr) (d : Dt) : Prop := okRt C d ∧ ∀ xs, d = .tup xs → ∀ x ∈ xs, elR C x
def r_nr (C CR : Addr) (d : Dt) (o : Out) : Prop := vR C d ∧ o = rcvO CR d
abbrev p_need_receiver (K : PySem.W.Frag) (C CR : Addr) : Sp := spI K (r_nr C CR)
abbrev t_need_receiver (K : PySem.W.Frag) (C CR : Addr) (E : XK) : TS := (tSeq (tIfS (tOr (tNot (tB (tCB (rIsi K) (tCons (tVar 0) (tCons (tC (.ty "tuple")) tNil))))) (tNot (tTest (tChain rLeI rLeI (tC (.int 1)) (tCB (rLen K) (tCons (tVar 0) tNil)) (tC (.int 4)))))) (tRaiseB CR "place" (fun cls d _ H => E cls d H) (tCons (tC .non) tNil)) tNext)
    (tSeq (tFor (iEnumT K (tCons (tVar 0) tNil)) (gTup K 2 (gCons (gName 1) (gCons (gName 2) gNil))) (tIfS (tNot (tB (tCall (p_is_table_with_tolerance K C) [] E0 (tCons (tVar 2) tNil)))) (tRaiseB CR "place" (fun cls d _ H => E cls d H) (tCons (tVar 1) tNil)) tNext))
    (tRet (tVar 0))))
section
variable {K : PySem.W.Frag} {mg : Str → Option Value} {C fI pN gN pD gD CR : Addr} {S : Sta} {d : Dt} {o : Out} {E : XK} {v : V}
theorem so_raise0B {S1 SB SF : Sta} {L : List Addr} {ρ : List (Option Dt)} {P : Po} {te : TE} {f : Str} (h : Ev K S S1 ρ te (Eq d)) (hw : XW K S1 C f d E) : Sg K S SB SF L (tRaiseB C f (fun cls d _ H => E cls d H) (tCons te tNil)) ρ P := so_raiseB h hw
theorem so_need_receiver (T : RatT K mg C fI pN gN pD gD) (hv : ∀ H', S.I H' → Rep K H' v d) (hp : r_nr C CR d o) (hw : ∀ C' f x, o = .er C' f x → XW K S C' f x E) : So K S S [] (t_need_receiver K C CR E) (startD 3 [.raw v]) (POI v o) := by
  obtain ⟨⟨hd, hx⟩, rfl⟩ := hp
  have e0 : ∀ {y1 y2 : Option Dt}, Ev K S S [some (.raw v), y1, y2] (tVar 0) (Eq d) := fun {_ _} => ev_rawD rfl hv
  by_cases ht : ∃ xs, d = .tup xs
  · obtain ⟨xs, rfl⟩ := ht
    have c1 : EvT K S S [some (.raw v), none, none] (tOr (tNot (tB (tCB (rIsi K) (tCons (tVar 0) (tCons (tC (.ty "tuple")) tNil))))) (tNot (tTest (tChain rLeI rLeI (tC (.int 1)) (tCB (rLen K) (tCons (tVar 0) tNil)) (tC (.int 4)))))) (Eq (!(decide ((1 : Int) ≤ (xs.length : Nat)) && decide (((xs.length : Nat) : Int) ≤ 4)))) :=
      et_orF (et_notT ((et_B (ev_isTup e0 rfl)).to rfl)) (et_not (et_test (ev_lele ev_int (ev_lenT e0) ev_int)))
    by_cases hl : 1 ≤ xs.length ∧ xs.length ≤ 4
    · refine so_ifF (c1.to (by rw [decide_eq_true (by omega), decide_eq_true (by omega)]; rfl)) (so_skip ?_)
      have ho : rcvO CR (.tup xs) = (match xs.findIdx? (fun x => !pairB x) with | none => .ok (.tup xs) | some i => .er CR "place" (.int i)) := if_pos hl
      rw [ho] at hw ⊢
      refine so_mid (M := fun ρ' => xs.findIdx? (fun x => !pairB x) = none ∧ ∃ y1 y2, ρ' = [some (.raw v), y1, y2]) (Sta.Le.refl S)
        (so_forET e0 (fun i ρ' => (∀ j x, j < i → xs[j]? = some x → pairB x = true) ∧ ∃ y1 y2, ρ' = [some (.raw v), y1, y2]) ⟨fun j x h => absurd h (Nat.not_lt_zero j), _, _, rfl⟩ (fun i x ρ' hi hJ => ?_) (fun ρ' hJ => ⟨?_, hJ.2⟩)) fun ρ' hM => ?_
      · obtain ⟨hJ, y1, y2, rfl⟩ := hJ
        have hmem : x ∈ xs := List.mem_of_getElem? hi
        refine so_if0 (Φb := Eq (!pairB x)) (et_not (et_B (ev_callR (R := r_tt C) (ea_cons (ev_var rfl) ea_nil) rfl ⟨x, rfl, hx _ rfl x hmem, rfl⟩))) (fun e => ?_) fun e => so_next (Sta.Le.refl S) ⟨fun j y hj hy => ?_, _, _, rfl⟩
        · have hf : xs.findIdx? (fun x => !pairB x) = some i := by
            rw [List.findIdx?_eq_some_iff_getElem]
            have hlt : i < xs.length := (List.getElem?_eq_some_iff.mp hi).1
            refine ⟨hlt, ?_, fun j hj => ?_⟩
            · have : xs[i] = x := (List.getElem?_eq_some_iff.mp hi).2
              rw [this]
              simpa using e
            · have := hJ j xs[j] hj (List.getElem?_eq_getElem (by omega))
              simpa using this
          exact so_raise0B (ev_var rfl) (hw CR "place" (.int i) (by rw [hf]))
        · rcases Nat.lt_or_ge j i with h | h
          · exact hJ j y h hy
          · have : j = i := by omega
            subst this
            rw [hi] at hy
            cases hy
            simpa using e
      · rw [List.findIdx?_eq_none_iff]
        intro x hx'
        obtain ⟨j, hj⟩ := List.getElem?_of_mem hx'
        have := hJ.1 j x (List.getElem?_eq_some_iff.mp hj).1 hj
        simpa using this
      · obtain ⟨hn, y1, y2, rfl⟩ := hM
        rw [hn]
        exact so_retD (ev_var rfl) (Sta.Le.refl S) rfl
    · have ho : rcvO CR (.tup xs) = .er CR "place" .non := if_neg hl
      refine so_ifT (c1.to ?_) (so_raise1B ev_non (hw CR "place" .non ho))
      by_cases h1 : 1 ≤ xs.length
      · have : ¬ (((xs.length : Nat) : Int) ≤ 4) := fun z => hl ⟨h1, by omega⟩
        rw [decide_eq_false this, Bool.and_false]; rfl
      · have : ¬ ((1 : Int) ≤ (xs.length : Nat)) := by omega
        rw [decide_eq_false this, Bool.false_and]; rfl
  · have ho : rcvO CR d = .er CR "place" .non := by
      unfold rcvO
      split
      · exact absurd ⟨_, rfl⟩ ht
      · rfl
    refine so_ifT (et_orT (et_notF ?_)) (so_raise1B ev_non (hw CR "place" .non ho))
    rcases hd with hd | ⟨a, b, rfl⟩
    · refine (et_B (ev_isTup e0 hd)).to ?_
      cases d with
      | tup xs => exact absurd ⟨xs, rfl⟩ ht
      | _ => rfl
    · exact et_B (ev_ratIs T e0 (by simp))
end
end Bf
namespace Bf
open PySem PySem.Spec PyProof.Rows L2 PySem.SeqAt
/-! ## Things that are handed on as they are: a slot's value by itself, with what it is known to be -/
section
variable {K : PySem.W.Frag} {S S0 S1 S2 SB SF : Sta} {L : List Addr} {ρ : List (Option Dt)} {P : Po} {te ta tb : TE} {w t : TS} {tl : TA} {d x : Dt} {j n : Nat} {ds xs : List Dt} {vs : List V} {R : List V → List Dt → Out → Prop} {E : XK} {C : Addr} {f : Str} {v : V}
/-! ### tuples of the same things -/
end
end Bf
namespace Bf
open PySem PySem.Spec PyProof.Rows L2
/-! ## keywords in any order -/
end Bf
namespace Bf
open PySem PySem.Spec PyProof.Rows L2
/-! ## x op y by an own method: both of the same class -/
end Bf
namespace Bf
open PySem PySem.Spec PyProof.Rows L2
/-! ## x != y by the text's own ==, through object.__ne__ -/
section
variable {M : Model} {prog : Program} {w : World} {A : Around} {E : Value → Shared → Prop} {s : Shared} {K : PySem.W.Frag} {x C L f : Addr} {h₀ : Heap} {m : Str → Option Value} {ox : Obj} {od : Option Obj} {b tb : Value}
end
end Bf
namespace Bf
open PySem PySem.Spec PyProof.Rows L2 PySem.SeqAt
open AutoSeq1 (wpAny_loadPart')
/-! ## == and != of tuples that hold ratios: equal ones are seen to be equal -/
section
variable {prog : Program} {w : World} {A : Around} {R : Result → Shared → Prop}
end
section
variable {prog : Program} {w : World} {A : Around} {E : Value → Shared → Prop} {s : Shared}
end
/-- somewhere below a body without guards, with room -/
structure SubG (X : Cx) (n : Nat) (A : Around) : Prop where
  room : Room n A
  fr : A.frames = X.A.frames
  gd : A.guards = some []
theorem SubG.in1 {X : Cx} {n : Nat} {A : Around} (s : SubG X (n + 1) A) : SubG X n A.in1 := ⟨s.room.in1, s.fr, s.gd⟩
theorem SubG.mono {X : Cx} {n m : Nat} {A : Around} (s : SubG X n A) (h : m ≤ n) : SubG X m A := ⟨s.room.mono h, s.fr, s.gd⟩
theorem SubG.sub {X : Cx} {n : Nat} {A : Around} (s : SubG X n A) : Sub X n A := ⟨s.room, s.fr⟩
/-- == inside a builtin gives True for what D says, and only makes objects -/
def EqP (X : Cx) (n : Nat) (D : Eqv) : Prop :=
  ∀ (A : Around) (pins : List (Addr × Obj)) (s : Shared) (σ : L2.St) (H : Hp) (x y : V) (u v : Value), SubG X n A → L2.Inv X pins σ H s → RelV x u → RelV y v → D x y H →
    wpAny (model X.prog X.w) A (eqBool u v) (fun r s' => r = true ∧ ∃ H', L2.Inv X pins σ H' s' ∧ Ext H H') X.xe s
section
variable {X : Cx} {n m : Nat} {D D' : Eqv}
theorem EqP.mono (h : EqP X n D) (hn : n ≤ m) : EqP X m D := fun A pins s σ H x y u v sb => h A pins s σ H x y u v (sb.mono hn)
theorem _root_.L2.EqG.p (h : EqG X n D) : EqP X n D := fun A pins s σ H x y u v sb => h A pins s σ H x y u v sb.sub
theorem EqP.or (h : EqP X n D) (h' : EqP X n D') : EqP X n (fun x y H => D x y H ∨ D' x y H) := fun A pins s σ H x y u v sb I rx ry d => by
  rcases d with d | d
  · exact h A pins s σ H x y u v sb I rx ry d
  · exact h' A pins s σ H x y u v sb I rx ry d
theorem EqP.imp (h : EqP X n D) (hd : ∀ x y H, D' x y H → D x y H) : EqP X n D' := fun A pins s σ H x y u v sb I rx ry d => h A pins s σ H x y u v sb I rx ry (hd x y H d)
end
/-- what Ratio's == says -/
def r_req (C : Addr) (ds : List Dt) (a : Dt) : Prop := ∃ n m i j, ds = [rat C n m, rat C i j] ∧ a = .bl (decide (n = i) && decide (m = j))
abbrev p_req (K : PySem.W.Frag) (C : Addr) : Sp := spR K 2 (r_req C)
/-- what the class is known for by its == -/
structure RatE (P : Program) (w : World) (K : PySem.W.Frag) (mg : Str → Option Value) (base : Heap) (C q : Addr) (qd : FuncData) : Prop where
  g : GOk P w K mg base 2 q qd ["self", "other"] (p_req K C)
  s : PySem.W.findIn K (.ref C) "__eq__" = some (some (.ref q))
  n : PySem.W.findIn K (.ref C) "__ne__" = some (some (.builtin "object.__ne__"))
  f : PySem.W.isFn K (.ref q) = true
  m : PySem.W.mroIn K C (.type "object") = some true
  b : Binds K qd ["self", "other"] []
section
variable {X : Cx} {C q : Addr} {qd : FuncData}
end
section
variable {K : PySem.W.Frag} {S : Sta} {C : Addr} {d : Dt} {n m i j : Int}
end
end Bf
namespace Bf
open PySem PySem.Spec PyProof.Rows L2
/-! ## Ratio's methods -/
/-- a method of two parts, as the text has it -/
structure RatM (K : PySem.W.Frag) (C : Addr) (x qual : Str) (st : Stmt) (f : Addr) (fd : FuncData) : Prop where
  fn : Fun K x qual st f fd
  s : PySem.W.findIn K (.ref C) x = some (some (.ref f))
  f : PySem.W.isFn K (.ref f) = true
  b : Binds K fd ["self", "other"] []
section
variable {K : PySem.W.Frag} {mg : Str → Option Value} {C fI pN gN pD gD : Addr} {S S1 S2 : Sta} {ρ : List (Option Dt)} {te ta tb : TE} {ds : List Dt} {d : Dt} {n m i j : Int}
end
/-! ### for x, y in zip(a tuple, a tuple) -/
section
variable {K : PySem.W.Frag} {S S1 S2 SB SF : Sta} {L : List Addr} {ρ : List (Option Dt)} {P : Po} {t : TS} {ta : TA}
end
end Bf
namespace Bf
open PySem PySem.Spec PyProof.Rows L2
/-! ## Dicts with tuples as keys -/
section
variable {X : Cx} {pins : List (Addr × Obj)} {σ : L2.St} {H : Hp} {s : Shared}
/-! ### d.get(k) -/
/-! ### len(d) -/
end
end Bf
namespace Bf
open PySem PySem.Spec PyProof.Rows L2
/-! ## dict(a list of pairs), the keys tuples -/
inductive PrsA (K : PySem.W.Frag) (H : Hp) : List Addr → List Addr → List V → Prop
  | nil : PrsA K H [] [] []
  | cons {p a : Addr} {v : V} {ps as : List Addr} {vs : List V} : SqT K H p [.ref a, v] → PrsA K H ps as vs → PrsA K H (p :: ps) (a :: as) (v :: vs)
theorem PrsA.len {K : PySem.W.Frag} {H : Hp} : ∀ {ps as : List Addr} {vs : List V}, PrsA K H ps as vs → as.length = ps.length ∧ vs.length = ps.length
  | _, _, _, .nil => ⟨rfl, rfl⟩
  | _, _, _, .cons _ r => ⟨by rw [List.length_cons, List.length_cons, r.len.1], by rw [List.length_cons, List.length_cons, r.len.2]⟩
section
variable {X : Cx} {pins : List (Addr × Obj)} {σ : L2.St} {H : Hp} {s : Shared}
theorem PrsA.here (I : L2.Inv X pins σ H s) : ∀ {ps as : List Addr} {vs : List V}, PrsA X.K H ps as vs → ∃ us, Vals vs us ∧ ∀ (j : Nat) (a : Addr) (u : Value), as[j]? = some a → us[j]? = some u → ∃ p, ps[j]? = some p ∧ IsTup s.heap p #[.ref a, u]
  | _, _, _, .nil => ⟨[], .nil, fun j a u e => by simp at e⟩
  | _, _, _, .cons (p := p) (a := a) (v := v) h r => by
    obtain ⟨us, rv, q⟩ := r.here I
    obtain ⟨its, ri, ht, _⟩ := I.tuple h
    obtain ⟨x, y, ei, rx, ry⟩ := vals2 ri
    subst ei
    obtain rfl : x = Value.ref a := rx
    refine ⟨y :: us, .cons ry rv, fun j a' u' e1 e2 => ?_⟩
    cases j with
    | zero =>
      obtain rfl : a = a' := by simpa using e1
      obtain rfl : y = u' := by simpa using e2
      exact ⟨p, rfl, ht⟩
    | succ j => exact q j a' u' (by simpa using e1) (by simpa using e2)
end
/-! ### over data -/
section
variable {K : PySem.W.Frag} {S S1 S2 : Sta} {ρ : List (Option Dt)} {td ty te : TE} {ks xs : List Dt} {q : Dt}
end
end Bf
namespace Bf
open PySem PySem.Spec PyProof.Rows L2
/-! ## Frames and places -/
structure Site where
  k : Int
  rest : List Int
  o : Str
def Site.d (s : Site) : Dt := .tup [.int s.k, tI s.rest, .str s.o]
def fhS (bit : Int) : Str := if bit = 1 then "pulse" else "gap"
def ohS (h : Str) : Str := if h = "pulse" then "gap" else "pulse"
def Tab.beg : Tab → Site
  | .ha u _ => ⟨0, [u], "gap"⟩
  | .pa h .. => ⟨0, h, ""⟩
/-- what a bit of halves leaves: the durations, the half under way -/
def haP (u bit : Int) (o : Str) : List Int × Str := if fhS bit = o then ([2 * u], ohS o) else ([u, u], o)
def haS (u bit : Int) (o : Str) (last : Bool) : List Int × Str := if last && decide ((haP u bit o).2 = "pulse") then ((haP u bit o).1 ++ [u], "gap") else haP u bit o
def Tab.sett : Tab → Site → Int → Site
  | .ha u b, s, bit => ⟨s.k + 1, (haS u bit s.o (decide (s.k + 1 = b))).1, (haS u bit s.o (decide (s.k + 1 = b))).2⟩
  | .pa _ z1 z2 o1 o2 st b, s, bit => ⟨s.k + 1, (if bit = 1 then [o1, o2] else [z1, z2]) ++ (if decide (s.k + 1 = b) = true then [st] else []), ""⟩
/-- what a step tells -/
def stD (x : Dt) (s : Site) : Dt := .tup [x, .int (s.rest.headD 0), (Site.mk s.k s.rest.tail s.o).d]
def Tab.steps (T : Tab) (s : Site) : List Dt :=
  if decide (s.k = T.b) && decide (s.rest = []) then [] else if s.rest ≠ [] then [stD .non s] else [stD (.int 0) (T.sett s 0), stD (.int 1) (T.sett s 1)]
/-- the durations from a place on, with these bits to come -/
def Tab.ahead (T : Tab) : Site → List Int → List Int
  | s, [] => s.rest
  | s, bit :: ws => s.rest ++ T.ahead ⟨(T.sett s bit).k, (T.sett s bit).rest, (T.sett s bit).o⟩ ws
/-- the frame -/
def Tab.frame (T : Tab) (w : List Int) : List Int := T.ahead T.beg w
/-! ### pairs -/
/-! ### halves -/
/-- durations of halves: one under way since cur -/
def runs (u : Int) : Str → Int → List Str → List Int
  | _, cur, [] => [cur]
  | prev, cur, l :: ls => if l = prev then runs u l (cur + u) ls else cur :: runs u l u ls
def hvs (w : List Int) : List Str := w.flatMap fun bit => [fhS bit, ohS (fhS bit)]
end Bf
namespace Bf
open PySem PySem.Spec PyProof.Rows L2
/-! ## frames.py over data -/
theorem offOk_nol {p : Addr} {d : Dt} (h : nol d = true) : offOk p d := by
  cases d <;> first | exact h | simp [nol] at h
section
variable {K : PySem.W.Frag} {S : Sta} {ds : List Dt} {d : Dt}
section
variable {S1 : Sta} {ρ : List (Option Dt)} {ta tb tc td : TE}
end
/-! ### the frame of pairs -/
end
end Bf
namespace Bf
open PySem PySem.Spec PyProof.Rows L2
section
variable {K : PySem.W.Frag} {S : Sta} {ds : List Dt} {d : Dt}
/-! ### the frame of halves -/
end
end Bf
namespace Bf
open PySem PySem.Spec PyProof.Rows L2
/-! ## The parts of a frame: what each bit adds -/
def Tab.part : Tab → Str → Int → Bool → List Int
  | .ha u _, o, bit, l => (haS u bit o l).1
  | .pa _ z1 z2 o1 o2 st _, _, bit, l => (if bit = 1 then [o1, o2] else [z1, z2]) ++ (if l = true then [st] else [])
theorem sett_rest (T : Tab) (s : Site) (bit : Int) : (T.sett s bit).rest = T.part s.o bit (decide (s.k + 1 = T.b)) := by cases T <;> rfl
theorem part_len {T : Tab} {o : Str} {bit : Int} {l : Bool} : 1 ≤ (T.part o bit l).length ∧ (T.part o bit l).length ≤ 3 := by
  cases T with
  | ha u b =>
    simp only [Tab.part, haS, haP]
    repeat' split
    all_goals exact ⟨by simp, by simp⟩
  | pa h z1 z2 o1 o2 st b =>
    simp only [Tab.part]
    repeat' split
    all_goals exact ⟨by simp, by simp⟩
section
variable {K : PySem.W.Frag} {S : Sta} {ds : List Dt} {d : Dt}
section
variable {S1 : Sta} {ρ : List (Option Dt)} {ta tb tc td : TE} {T : Tab} {o : Str} {bit : Int} {l : Bool}
end
section
variable {S1 : Sta} {ρ : List (Option Dt)} {ta tb tc td : TE} {T : Tab} {o : Str} {bit : Int} {l : Bool}
end
/-! ### enumerate of a tuple while lists change -/
section
variable {SB : Sta} {L : List Addr} {ρ : List (Option Dt)} {P : Po} {tl : TE} {t : TS}
end
end
end Bf
namespace Bf
open PySem PySem.Spec PyProof.Rows L2
section
variable {K : PySem.W.Frag} {S : Sta} {ds xs : List Dt} {d : Dt}
/-! ### settled -/
section
variable {S1 S2 S3 S4 : Sta} {ρ : List (Option Dt)} {ta tb tc td : TE}
end
/-! ### a step -/
/-! ### begin_of, is_end, steps_of, frame_of -/
section
variable {S1 S2 : Sta} {ρ : List (Option Dt)} {ta tb tc : TE}
end
theorem sett_ne (T : Tab) (s : Site) (bit : Int) : (T.sett s bit).rest ≠ [] := by
  cases T with
  | ha u b =>
    simp only [Tab.sett, haS, haP]
    repeat' split
    all_goals simp
  | pa h z1 z2 o1 o2 st b =>
    simp only [Tab.sett]
    split <;> simp
end
end Bf
namespace Bf
open PySem PySem.Spec PyProof.Rows L2
/-! ## The law's frames: two lists, one made anew, one changed -/
section
variable {K : PySem.W.Frag} {S S1 S2 SB SF : Sta} {L : List Addr} {ρ : List (Option Dt)} {P : Po} {ta tb te : TE} {w t : TS} {xs ys : List Dt} {p q : Addr} {j : Nat}
end
end Bf
namespace Bf
open PySem PySem.Spec PyProof.Rows L2
/-! ## _law_frame -/
section
variable {K : PySem.W.Frag} {S : Sta} {ds : List Dt} {d : Dt}
end
end Bf
namespace Bf
open PySem PySem.Spec PyProof.Rows L2
/-! ## Fact 1: different words have different frames -/
end Bf
namespace Bf
open PySem PySem.Spec PyProof.Rows L2
/-! ## The law of tables: what is said, what is due -/
section
variable {K : PySem.W.Frag} {S : Sta} {ds : List Dt} {d : Dt} {C : Addr}
end
end Bf
namespace Bf
open PySem PySem.Spec PyProof.Rows L2
/-! ## a tuple backwards; a tuple many times -/
section
variable {prog : Program} {w : World} {A : Around} {E : Value → Shared → Prop} {s : Shared}
end
theorem RepA.rep {K : PySem.W.Frag} {H : Hp} {vs : List V} {ds : List Dt} (r : RepA K H vs ds) : ∀ n : Nat, RepA K H (List.replicate n vs).flatten (List.replicate n ds).flatten
  | 0 => .nil
  | n + 1 => by
    rw [List.replicate_succ, List.replicate_succ, List.flatten_cons, List.flatten_cons]
    exact r.app (r.rep n)
section
variable {K : PySem.W.Frag} {S S1 : Sta} {ρ : List (Option Dt)} {te : TE} {xs : List Dt}
end
end Bf
namespace Bf
open PySem PySem.Spec PyProof.Rows L2
/-! ## The law of frames: frame_of that refuses, word_of -/
section
variable {K : PySem.W.Frag} {S S1 S2 : Sta} {ρ : List (Option Dt)} {ds : List Dt} {d : Dt} {o : Out} {C : Addr} {E : XK} {ta tb te tl : TE} {T : Tab}
/-! ### word_of -/
end
end Bf
namespace Bf
open PySem PySem.Spec PyProof.Rows L2
/-! ## right receivers, sendings -/
def prD (C : Addr) (p : Tab × Int × Int) : Dt := .tup [p.1.d, rat C p.2.1 p.2.2]
def rcD (C : Addr) (rc : List (Tab × Int × Int)) : Dt := .tup (rc.map (prD C))
def prOk (p : Tab × Int × Int) : Prop := p.1.ok ∧ 0 ≤ p.2.1 ∧ p.2.1 < p.2.2
def rcOk (rc : List (Tab × Int × Int)) : Prop := 1 ≤ rc.length ∧ rc.length ≤ 4 ∧ ∀ p ∈ rc, prOk p
section
variable {C CR : Addr} {p : Tab × Int × Int} {rc : List (Tab × Int × Int)}
theorem plRt_tab {T : Tab} (h : T.ok) : plRt C T.d := .inl ⟨pl_tab T, plSA_tab h⟩
theorem pairB_pr (h : prOk p) : pairB (prD C p) = true := by
  show ((tabPart p.1.d).isNon && decide (p.2.1 < p.2.2)) = true
  rw [wrong_ok h.1, decide_eq_true h.2.2]
  rfl
theorem elR_pr (h : prOk p) : elR C (prD C p) := ⟨.inl rfl, fun a b e => by
  have e' : Dt.tup [p.1.d, rat C p.2.1 p.2.2] = .tup [a, b] := e
  cases e'
  exact ⟨plRt_tab h.1, .inr ⟨_, _, rfl⟩⟩⟩
theorem vR_rc (h : ∀ p ∈ rc, prOk p) : vR C (rcD C rc) := ⟨.inl rfl, fun xs e x hx => by
  cases e
  obtain ⟨p, hp, rfl⟩ := List.mem_map.mp hx
  exact elR_pr (h p hp)⟩
theorem rcvO_ok (h : rcOk rc) : rcvO CR (rcD C rc) = .ok (rcD C rc) := by
  have h1 : (if 1 ≤ (rc.map (prD C)).length ∧ (rc.map (prD C)).length ≤ 4 then (match (rc.map (prD C)).findIdx? (fun x => !pairB x) with | none => Out.ok (rcD C rc) | some i => .er CR "place" (.int i)) else .er CR "place" .non) = .ok (rcD C rc) := by
    rw [if_pos (by rw [List.length_map]; exact ⟨h.1, h.2.1⟩)]
    have : (rc.map (prD C)).findIdx? (fun x => !pairB x) = none := by
      rw [List.findIdx?_eq_none_iff]
      intro x hx
      obtain ⟨p, hp, rfl⟩ := List.mem_map.mp hx
      rw [pairB_pr (h.2.2 p hp)]
      rfl
    rw [this]
  exact h1
end
section
variable {K : PySem.W.Frag} {mg : Str → Option Value} {C fI pN gN pD gD CR : Addr} {S : Sta} {ds : List Dt} {d : Dt}
end
end Bf
namespace Bf
open PySem PySem.Spec PyProof.Rows L2
section
variable {K : PySem.W.Frag} {S : Sta} {ds : List Dt} {d : Dt}
/-! ### the law's own looks -/
/-- no list, no tuple, no dict: may be compared -/
def scal : Dt → Bool
  | .non => true
  | .bl _ => true
  | .int _ => true
  | .str x => x.cps.all (· < 0x110000)
  | _ => false
theorem scal_okN {x : Dt} (h : scal x = true) : okN x = true := by cases x <;> simp [scal] at h <;> rfl
end
end Bf
namespace Bf
open PySem PySem.Spec PyProof.Rows L2
/-! ## in, not in over data -/
section
variable {K : PySem.W.Frag} {S : Sta} {ds : List Dt} {d : Dt}
/-! ### what is due -/
/-- parts as they are drawn: scalars, or tuples and lists of scalars -/
def parT (d : Dt) : Prop := okN d = true ∧ ∀ xs, d = .tup xs → xs.length ≤ 1000 ∧ ∀ x ∈ xs, scal x = true
end
end Bf
namespace Bf
open PySem PySem.Spec PyProof.Rows L2
/-- values as they are drawn -/
def valT (d : Dt) : Prop := okN d = true ∧ ∀ xs, d = .tup xs → xs.length ≤ 1000 ∧ ∀ x ∈ xs, parT x ∧ ∀ s : Str, x = .str s → scal x = true
section
variable {K : PySem.W.Frag} {S : Sta} {ds : List Dt} {d : Dt}
end
end Bf
namespace Bf
open PySem PySem.Spec PyProof.Rows L2
/-! ## tables with a part otherwise -/
/-- a part as it is drawn -/
def ptD (n : Nat) (d : Dt) : Prop := scal d = true ∨ ∃ xs, (d = .tup xs ∨ d = .lst xs) ∧ xs.length ≤ n ∧ ∀ x ∈ xs, scal x = true
/-- a value as it is drawn -/
def vlD (n : Nat) (d : Dt) : Prop := scal d = true ∨ d = .dic ∨ ∃ xs, (d = .tup xs ∨ d = .lst xs) ∧ xs.length ≤ 7 ∧ ∀ x ∈ xs, ptD n x
theorem ptD.mono {n m : Nat} {d : Dt} (h : ptD n d) (l : n ≤ m) : ptD m d := by
  rcases h with h | ⟨xs, e, hl, hs⟩
  · exact .inl h
  · exact .inr ⟨xs, e, by omega, hs⟩
theorem scal_pl {d : Dt} (h : scal d = true) : pl d = true := by cases d <;> simp [scal] at h <;> rfl
theorem ptD.okN {n : Nat} {d : Dt} (h : ptD n d) : okN d = true := by
  rcases h with h | ⟨xs, rfl | rfl, _, _⟩
  · exact scal_okN h
  · rfl
  · rfl
theorem ptD.pl {n : Nat} {d : Dt} (h : ptD n d) : pl d = true := by
  rcases h with h | ⟨xs, rfl | rfl, _, hs⟩
  · exact scal_pl h
  · unfold Bf.pl; exact plA_all.mpr fun x hx => scal_pl (hs x hx)
  · unfold Bf.pl; exact plA_all.mpr fun x hx => scal_pl (hs x hx)
theorem ptD.plS {n : Nat} {d : Dt} (h : ptD n d) (hn : n ≤ 100000) : plS d = true := by
  have hp := h.pl
  rcases h with h | ⟨xs, rfl | rfl, hl, hs⟩
  · cases d <;> simp [scal] at h <;> simp [Bf.plS, hp]
  · simp only [Bf.plS, hp, Bool.true_and, decide_eq_true_eq]; omega
  · simp [Bf.plS, hp]
theorem ptD.parT {n : Nat} {d : Dt} (h : ptD n d) (hn : n ≤ 1000) : parT d := ⟨h.okN, fun xs e => by
  subst e
  rcases h with h | ⟨ys, e | e, hl, hs⟩
  · simp [scal] at h
  · cases e; exact ⟨by omega, hs⟩
  · cases e⟩
theorem vlD.pl {n : Nat} {d : Dt} (h : vlD n d) : pl d = true := by
  rcases h with h | rfl | ⟨xs, rfl | rfl, _, hs⟩
  · exact scal_pl h
  · rfl
  · unfold Bf.pl; exact plA_all.mpr fun x hx => (hs x hx).pl
  · unfold Bf.pl; exact plA_all.mpr fun x hx => (hs x hx).pl
theorem vlD.plD {n : Nat} {d : Dt} (h : vlD n d) (hn : n ≤ 1000) : plD d := ⟨h.pl, fun xs e => by
  subst e
  rcases h with h | h | ⟨ys, e | e, hl, hs⟩
  · simp [scal] at h
  · cases h
  · cases e
    exact List.all_eq_true.mpr fun x hx => (hs x hx).plS (by omega)
  · cases e⟩
theorem vlD.valT {n : Nat} {d : Dt} (h : vlD n d) (hn : n ≤ 1000) : valT d := ⟨pl_okN h.pl, fun xs e => by
  subst e
  rcases h with h | h | ⟨ys, e | e, hl, hs⟩
  · simp [scal] at h
  · cases h
  · cases e
    refine ⟨by omega, fun x hx => ⟨(hs x hx).parT hn, fun s e => ?_⟩⟩
    subst e
    rcases hs _ hx with h | ⟨zs, e | e, _⟩
    · exact h
    · cases e
    · cases e
  · cases e⟩
/-! ### a value of which nothing is wrong is a right table -/
end Bf
namespace Bf
open PySem PySem.Spec PyProof.Rows L2
/-! ## _law_spoiled -/
section
variable {K : PySem.W.Frag} {S S1 S2 : Sta} {ρ : List (Option Dt)} {t u : TT}
/-- and, where the second may turn what holds -/
theorem et_andS {a : Bool} {Φ : Bool → Prop} (ha : EvT K S S1 ρ t (Eq a)) (l : S1.Le S2) (hf : a = false → Φ false) (hb : a = true → EvT K S1 S2 ρ u Φ) : EvT K S S2 ρ (tAnd t u) Φ := fun σ H i s Q q => ha σ H i s _ fun c H1 g1 i1 p1 => by
  subst p1
  cases a with
  | true => rw [if_pos rfl]; exact hb rfl σ H1 i1 (s.mono g1) Q fun v H2 g2 => q v H2 (g1.trans g2)
  | false => rw [if_neg Bool.false_ne_true]; exact q _ H1 g1 (l _ i1) (hf rfl)
end
section
variable {K : PySem.W.Frag} {a : Addr} {c : CT} {cs : List Int} {n : Nat} {ds : List Dt}
end
end Bf
namespace Bf
open PySem PySem.Spec PyProof.Rows L2
/-! ## tables like others, receivers -/
def likeR (ds : List Dt) (d : Dt) : Prop := ∃ T : Tab, T.ok ∧ d = T.d
abbrev p__law_like (K : PySem.W.Frag) : Sp := spD K 1 (fun ds => ∃ T : Tab, T.ok ∧ ds = [T.d]) likeR 1
abbrev t__law_like (K : PySem.W.Frag) : TS := (tSeq (tAsg (tCall (p__law_next K) [] E0 (tCons (tVar 0) (tCons (tC (.int 6)) tNil))) (gName 2))
    (tSeq (tIfS (tTest (tOp rEq (tOp (rIx K) (tVar 1) (tC (.int 0))) (tC (.str "halves")))) (tSeq (tAsg (tIf (tTest (tOp rEq (tVar 2) (tC (.int 0)))) (tOp rAddI (tOp rModI (tOp (rIx K) (tVar 1) (tC (.int 1))) (tC (.int 9))) (tC (.int 1))) (tOp (rIx K) (tVar 1) (tC (.int 1)))) (gName 3))
    (tRet (tTup (tCons (tOp (rIx K) (tVar 1) (tC (.int 0))) (tCons (tVar 3) (tCons (tIf (tTest (tOp rLtI (tVar 2) (tC (.int 3)))) (tOp (rIx K) (tVar 1) (tC (.int 2))) (tOp rAddI (tC (.int 1)) (tOp rModI (tOp (rIx K) (tVar 1) (tC (.int 2))) (tC (.int 3))))) tNil)))))) tNext)
    (tSeq (tAsg (tVar 1) (gTup K 6 (gCons (gName 4) (gCons (gName 5) (gCons (gName 6) (gCons (gName 7) (gCons (gName 8) (gCons (gName 9) gNil))))))))
    (tSeq (tIfS (tTest (tOp rEq (tVar 2) (tC (.int 0)))) (tRet (tTup (tCons (tVar 4) (tCons (tVar 5) (tCons (tVar 7) (tCons (tVar 6) (tCons (tVar 8) (tCons (tVar 9) tNil)))))))) tNext)
    (tSeq (tIfS (tTest (tOp rEq (tVar 2) (tC (.int 1)))) (tRet (tTup (tCons (tVar 4) (tCons (tSl (rSlA K) (tVar 5) tNoPart (tPart (tUn rNegI (tC (.int 2))))) (tCons (tVar 6) (tCons (tVar 7) (tCons (tVar 8) (tCons (tVar 9) tNil)))))))) tNext)
    (tSeq (tIfS (tAnd (tTest (tOp rEq (tVar 2) (tC (.int 2)))) (tTest (tOp (rNeD K) (tVar 6) (tTup (tCons (tOp (rIx K) (tVar 7) (tC (.int 0))) (tCons (tOp rAddI (tOp rModI (tOp (rIx K) (tVar 7) (tC (.int 1))) (tC (.int 9))) (tC (.int 1))) tNil)))))) (tRet (tTup (tCons (tVar 4) (tCons (tVar 5) (tCons (tVar 6) (tCons (tTup (tCons (tOp (rIx K) (tVar 7) (tC (.int 0))) (tCons (tOp rAddI (tOp rModI (tOp (rIx K) (tVar 7) (tC (.int 1))) (tC (.int 9))) (tC (.int 1))) tNil))) (tCons (tVar 8) (tCons (tVar 9) tNil)))))))) tNext)
    (tSeq (tAsg (tIf (tTest (tOp rEq (tVar 2) (tC (.int 3)))) (tOp rAddI (tOp rModI (tVar 8) (tC (.int 9))) (tC (.int 1))) (tVar 8)) (gName 8))
    (tRet (tTup (tCons (tVar 4) (tCons (tVar 5) (tCons (tVar 6) (tCons (tVar 7) (tCons (tVar 8) (tCons (tIf (tTest (tOp rLtI (tVar 2) (tC (.int 5)))) (tVar 9) (tOp rAddI (tC (.int 1)) (tOp rModI (tVar 9) (tC (.int 3))))) tNil)))))))))))))))
theorem dur9 (i : Int) : dur (i % 9 + 1) := by
  have h0 := Int.emod_nonneg i (show (9 : Int) ≠ 0 by decide)
  have h1 := Int.emod_lt_of_pos i (show (0 : Int) < 9 by decide)
  exact ⟨by omega, by omega⟩
theorem cut_m2 (hs : List Int) : cutD (hs.map Dt.int) none (some (-2)) = (hs.take (hs.length - 2)).map Dt.int := by
  unfold cutD
  have e : HT.sIx (hs.map Dt.int).length (hs.map Dt.int).length (some (-2)) = hs.length - 2 := by
    show (if (-2 : Int) < 0 then ((-2 : Int) + ((hs.map Dt.int).length : Int)).toNat else min (-2 : Int).toNat (hs.map Dt.int).length) = _
    rw [if_pos (by decide), List.length_map]
    omega
  rw [e, HT.sIx_none, List.drop_zero, Nat.sub_zero, List.map_take]
theorem ev_if2 {K : PySem.W.Frag} {S : Sta} {ρ : List (Option Dt)} {c : TT} {ta tb : TE} {k : Bool} {x y : Int} (hc : EvT K S S ρ c (Eq k)) (ha : Ev K S S ρ ta (Eq (.int x))) (hb : Ev K S S ρ tb (Eq (.int y))) : Ev K S S ρ (tIf c ta tb) (Eq (.int (if k = true then x else y))) :=
  ev_if hc (fun e => ha.to (by rw [if_pos e])) (fun e => hb.to (by rw [if_neg (by rw [e]; decide)]))
section
variable {K : PySem.W.Frag} {a : Addr} {c : CT} {cs : List Int} {n : Nat} {ds : List Dt}
theorem so__law_like (hc : cs ≠ []) (hn : n + 1 ≤ 1000000) (hp : ∃ T : Tab, T.ok ∧ ds = [T.d]) :
    So K (DW K a c cs n) (DW K a c cs (n + 1)) [] (t__law_like K) (startD 10 (.raw (.ref a) :: ds)) { nx := fun _ => likeR ds .non, rt := likeR ds } := by
  obtain ⟨T, hT, rfl⟩ := hp
  refine so_set (ev__law_next (ea_cons (ev_var rfl) (ea_cons ev_int ea_nil)) hc (by omega) (by decide) (by decide)) fun d hd => ?_
  obtain ⟨w, rfl, w0, w1⟩ := hd
  cases T with
  | ha u b =>
    obtain ⟨hu, b1, b8⟩ := hT
    have m0 := Int.emod_nonneg b (show (3 : Int) ≠ 0 by decide)
    have m1 := Int.emod_lt_of_pos b (show (0 : Int) < 3 by decide)
    refine so_ifT ((et_test (ev_op (ev_ixT (d := .str "halves") (xs := [.str "halves", .int u, .int b]) (ev_var rfl) ev_int (atI_nat (j := 0) rfl)) ev_str rv_eqS)).to (by decide +kernel)) ?_
    refine so_assoc (so_setD (ev_if2 (et_test (ev_op (ev_var rfl) ev_int rv_eqI)) (ev_op (ev_op (ev_ixT (d := .int u) (xs := [.str "halves", .int u, .int b]) (ev_var rfl) ev_int (atI_nat (j := 1) rfl)) ev_int (rv_mod (by decide))) ev_int rv_add) (ev_ixT (d := .int u) (xs := [.str "halves", .int u, .int b]) (ev_var rfl) ev_int (atI_nat (j := 1) rfl))) ?_)
    refine so_ret1D (ev_tup (ea_cons (ev_ixT (d := .str "halves") (xs := [.str "halves", .int u, .int b]) (ev_var rfl) ev_int (atI_nat (j := 0) rfl)) (ea_cons (ev_var rfl) (ea_cons (ev_if2 (et_test (ev_op (ev_var rfl) ev_int rv_lt)) (ev_ixT (d := .int b) (xs := [.str "halves", .int u, .int b]) (ev_var rfl) ev_int (atI_nat (j := 2) rfl)) (ev_op ev_int (ev_op (ev_ixT (d := .int b) (xs := [.str "halves", .int u, .int b]) (ev_var rfl) ev_int (atI_nat (j := 2) rfl)) ev_int (rv_mod (by decide))) rv_add)) ea_nil))) (by show 3 ≤ sizeLine; decide)) (Sta.Le.refl _) ⟨.ha _ _, ⟨?_, ?_, ?_⟩, rfl⟩
    · split
      · exact dur9 u
      · exact hu
    · split <;> omega
    · split <;> omega
  | pa h z1 z2 o1 o2 s b =>
    have hTT := hT
    obtain ⟨hl, hh, hz1, hz2, ho1, ho2, hne, hs, b1, b8⟩ := hT
    have m0 := Int.emod_nonneg b (show (3 : Int) ≠ 0 by decide)
    have m1 := Int.emod_lt_of_pos b (show (0 : Int) < 3 by decide)
    refine so_ifF ((et_test (ev_op (ev_ixT (d := .str "pairs") (xs := [.str "pairs", tI h, tI [z1, z2], tI [o1, o2], .int s, .int b]) (ev_var rfl) ev_int (atI_nat (j := 0) rfl)) ev_str rv_eqS)).to (by decide +kernel)) (so_skip ?_)
    refine so_unp (is := [4, 5, 6, 7, 8, 9]) (xs := [.str "pairs", tI h, tI [z1, z2], tI [o1, o2], .int s, .int b]) (ev_var rfl) rfl rfl rfl ?_
    refine so_ifD (et_test (ev_op (ev_var rfl) ev_int rv_eqI)) (fun _ => so_ret1D (ev_tup (ea_cons (ev_var rfl) (ea_cons (ev_var rfl) (ea_cons (ev_var rfl) (ea_cons (ev_var rfl) (ea_cons (ev_var rfl) (ea_cons (ev_var rfl) ea_nil)))))) (by show 6 ≤ sizeLine; decide)) (Sta.Le.refl _) ⟨.pa h o1 o2 z1 z2 s b, ⟨hl, hh, ho1, ho2, hz1, hz2, fun z => hne ⟨z.1.symm, z.2.symm⟩, hs, b1, b8⟩, rfl⟩) fun _ => so_skip ?_
    refine so_ifD (et_test (ev_op (ev_var rfl) ev_int rv_eqI)) (fun _ => so_ret1D (ev_tup (ea_cons (ev_var rfl) (ea_cons (ev_slT (ev_var rfl) eo_none (eo_some (ev_neg ev_int))) (ea_cons (ev_var rfl) (ea_cons (ev_var rfl) (ea_cons (ev_var rfl) (ea_cons (ev_var rfl) ea_nil)))))) (by show 6 ≤ sizeLine; decide)) (Sta.Le.refl _) ⟨.pa (h.take (h.length - 2)) z1 z2 o1 o2 s b, ⟨by rw [List.length_take]; omega, fun x hx => hh x (List.mem_of_mem_take hx), hz1, hz2, ho1, ho2, hne, hs, b1, b8⟩, ?_⟩) fun _ => so_skip ?_
    · rw [cut_m2]; rfl
    have eo : Ev K (DW K a c cs (n + 1)) (DW K a c cs (n + 1)) [some (.raw (.ref a)), some (.tup [.str "pairs", tI h, tI [z1, z2], tI [o1, o2], .int s, .int b]), some (.int w), none, some (.str "pairs"), some (tI h), some (tI [z1, z2]), some (tI [o1, o2]), some (.int s), some (.int b)] (tTup (tCons (tOp (rIx K) (tVar 7) (tC (.int 0))) (tCons (tOp rAddI (tOp rModI (tOp (rIx K) (tVar 7) (tC (.int 1))) (tC (.int 9))) (tC (.int 1))) tNil))) (Eq (tI [o1, o2 % 9 + 1])) :=
      ev_tup (ea_cons (ev_ixT (xs := [.int o1, .int o2]) (ev_var rfl) ev_int (atI_nat (j := 0) rfl)) (ea_cons (ev_op (ev_op (ev_ixT (xs := [.int o1, .int o2]) (ev_var rfl) ev_int (atI_nat (j := 1) rfl)) ev_int (rv_mod (by decide))) ev_int rv_add) ea_nil)) (by show 2 ≤ sizeLine; decide)
    refine so_ifD (et_and (et_test (ev_op (ev_var rfl) ev_int rv_eqI)) fun _ => et_test (ev_op (ev_var rfl) eo (rv_neD (cmp2 _ _) (cmp2 _ _)))) (fun e => ?_) fun _ => so_skip ?_
    · have e2 := (Bool.and_eq_true_iff.mp e).2
      have e3 : (decide (z1 = o1) && decide (z2 = o2 % 9 + 1)) = false := by
        rw [← eqv2]
        simpa using e2
      refine so_ret1D (ev_tup (ea_cons (ev_var rfl) (ea_cons (ev_var rfl) (ea_cons (ev_var rfl) (ea_cons eo (ea_cons (ev_var rfl) (ea_cons (ev_var rfl) ea_nil)))))) (by show 6 ≤ sizeLine; decide)) (Sta.Le.refl _) ⟨.pa h z1 z2 o1 (o2 % 9 + 1) s b, ⟨hl, hh, hz1, hz2, ho1, dur9 o2, fun z => ?_, hs, b1, b8⟩, rfl⟩
      rw [z.1, z.2] at e3
      simp at e3
    · refine so_setD (ev_if2 (et_test (ev_op (ev_var rfl) ev_int rv_eqI)) (ev_op (ev_op (ev_var rfl) ev_int (rv_mod (by decide))) ev_int rv_add) (ev_var rfl)) ?_
      refine so_retD (ev_tup (ea_cons (ev_var rfl) (ea_cons (ev_var rfl) (ea_cons (ev_var rfl) (ea_cons (ev_var rfl) (ea_cons (ev_var rfl) (ea_cons (ev_if2 (et_test (ev_op (ev_var rfl) ev_int rv_lt)) (ev_var rfl) (ev_op ev_int (ev_op (ev_var rfl) ev_int (rv_mod (by decide))) rv_add)) ea_nil)))))) (by show 6 ≤ sizeLine; decide)) (Sta.Le.refl _) ⟨.pa h z1 z2 o1 o2 _ _, ⟨hl, hh, hz1, hz2, ho1, ho2, hne, ?_, ?_, ?_⟩, rfl⟩
      · split
        · exact dur9 s
        · exact hs
      · split <;> omega
      · split <;> omega
end
end Bf
namespace Bf
open PySem PySem.Spec PyProof.Rows L2
/-! ## The law of frames: what is said, a bent frame -/
section
variable {K : PySem.W.Frag} {S S1 S2 : Sta} {ρ : List (Option Dt)} {ds : List Dt} {d : Dt} {C : Addr} {ta tb te tl : TE} {tt : TT} {T : Tab} {vs : List Nat} {j : Nat} {xs : List Dt}
/-! ### [x for x in a tuple if tt]: how many -/
end
/-! ### str(n) -/
end Bf
namespace Bf
open PySem PySem.Spec PyProof.Rows L2
/-! ## a tuple times some number -/
/-! ## frames are small -/
/-! ## a frame with one thing otherwise -/
section
variable {K : PySem.W.Frag} {a : Addr} {c : CT} {cs : List Int} {n : Nat} {ds : List Dt}
end
end Bf
namespace Bf
open PySem PySem.Spec PyProof.Rows L2
/-! ## Bursts: how far off a frame -/
abbrev Fq : Type := Int × Int
def ratP (C : Addr) (p : Fq) : Dt := rat C p.1 p.2
def okQ (p : Fq) : Prop := 0 ≤ p.1 ∧ p.1 < 2 ^ 90 ∧ 1 ≤ p.2 ∧ p.2 < 2 ^ 90
def okS (s : Int) : Prop := 1 ≤ s ∧ s ≤ 2000000
/-- the difference, divided by the duration -/
def offP (p : Fq) (s : Int) : Fq := (if p.1 - s * p.2 < 0 then -(p.1 - s * p.2) else p.1 - s * p.2, s * p.2)
def canP (p : Fq) : Fq := (p.1 / (Nat.gcd p.1.natAbs p.2.natAbs : Nat), p.2 / (Nat.gcd p.1.natAbs p.2.natAbs : Nat))
def lessP (a b : Fq) : Bool := decide (a.1 * b.2 < b.1 * a.2)
def farL (l : List (Fq × Int)) : Fq := l.foldl (fun f q => if lessP f (offP q.1 q.2) = true then offP q.1 q.2 else f) (0, 1)
/-- a fraction is its lowest terms, multiplied by a number above 0 -/
theorem can_mul {p : Fq} (h : okQ p) : ∃ g : Int, 0 < g ∧ p.1 = g * (canP p).1 ∧ p.2 = g * (canP p).2 := by
  obtain ⟨h1, h2, h3, h4⟩ := h
  refine ⟨(Nat.gcd p.1.natAbs p.2.natAbs : Nat), ?_, ?_, ?_⟩
  · have : 0 < Nat.gcd p.1.natAbs p.2.natAbs := Nat.gcd_pos_of_pos_right _ (by omega)
    omega
  · exact (Int.mul_ediv_cancel' (Int.ofNat_dvd_left.mpr (Nat.gcd_dvd_left _ _))).symm
  · exact (Int.mul_ediv_cancel' (Int.ofNat_dvd_left.mpr (Nat.gcd_dvd_right _ _))).symm
theorem okQ_can {p : Fq} (h : okQ p) : okQ (canP p) := by
  obtain ⟨g, g0, e1, e2⟩ := can_mul h
  obtain ⟨h1, h2, h3, h4⟩ := h
  have a : 0 ≤ (canP p).1 := Int.ediv_nonneg h1 (Int.natCast_nonneg _)
  have b : 0 ≤ (canP p).2 := Int.ediv_nonneg (by omega) (Int.natCast_nonneg _)
  have c1 : (canP p).1 ≤ p.1 := by
    have := Int.mul_le_mul_of_nonneg_right (show 1 ≤ g by omega) a
    rw [e1]; omega
  have c2 : (canP p).2 ≤ p.2 := by
    have := Int.mul_le_mul_of_nonneg_right (show 1 ≤ g by omega) b
    rw [e2]; omega
  have b1 : (canP p).2 ≠ 0 := fun e => by rw [e, Int.mul_zero] at e2; omega
  exact ⟨a, by omega, by omega, by omega⟩
/-! ### off_by, greatest_off -/
section
variable {K : PySem.W.Frag} {mg : Str → Option Value} {C fI pN gN pD gD : Addr} {S S1 S2 : Sta} {ρ : List (Option Dt)} {te ta tb : TE} {ds : List Dt} {d : Dt}
end
end Bf
namespace Bf
open PySem PySem.Spec PyProof.Rows L2
/-! ## Frames have oddly many durations, each above 0 -/
end Bf
namespace Bf
open PySem PySem.Spec PyProof.Rows L2
section
variable {K : PySem.W.Frag} {S : Sta} {ds xs : List Dt} {d : Dt}
/-! ## the law's own frames and places -/
/-! ### _law_steps -/
end
end Bf
namespace Bf
open PySem PySem.Spec PyProof.Rows L2
/-! ## The law of frames -/
/-! ### what is known -/
end Bf
namespace Bf
open PySem PySem.Spec PyProof.Rows L2
section
variable {K : PySem.W.Frag} {a C : Addr} {c : CT} {cs : List Int}
end
end Bf
namespace Bf
open PySem PySem.Spec PyProof.Rows L2
/-! ## need_burst, nearest, and the law's own -/
abbrev t_is_above_zero (K : PySem.W.Frag) (C : Addr) : TS := (tRet (tAndV (tCB (rIsi K) (tCons (tVar 0) (tCons (tC (.ref C)) tNil))) (tOp rGtI (tProp C (getSp C "_num") [] E0 (tVar 0)) (tC (.int 0)))))
/-- the nearest word so far -/
def nearS (T : Tab) (bs : List Fq) (best : Option (Fq × List Int)) (w : List Int) : Option (Fq × List Int) :=
  if (T.frame w).length = bs.length then (match best with
    | none => some (farL (bs.zip (T.frame w)), w)
    | some b => if lessP (farL (bs.zip (T.frame w))) b.1 = true then some (farL (bs.zip (T.frame w)), w) else some b) else best
def nearL (T : Tab) (bs : List Fq) (ws : List (List Int)) : Option (Fq × List Int) := ws.foldl (nearS T bs) none
section
variable {K : PySem.W.Frag} {mg : Str → Option Value} {C CW fI pN gN pD gD : Addr} {S S1 S2 : Sta} {ρ : List (Option Dt)} {te ta tb : TE} {ds : List Dt} {d : Dt}
end
end Bf
namespace Bf
open PySem PySem.Spec PyProof.Rows L2
/-! ## drawn receivers -/
section
variable {K : PySem.W.Frag} {S S1 : Sta} {ρ : List (Option Dt)} {tl : TA} {C : Addr} {E : XK} {Φ : Int → Int → Prop}
theorem ev_mkratP (h : EvA K S S1 ρ tl (fun l => ∃ x y, l = [.int x, .int y] ∧ Φ x y)) (hΦ : ∀ x y, Φ x y → 0 ≤ x ∧ 1 ≤ y ∧ y.natAbs < 2 ^ 8000) : Ev K S S1 ρ (tMake C (spRI C) [] E tl) (fun d => ∃ x y, Φ x y ∧ d = ratL C x y) := fun σ H i s Q q =>
  h σ H i s _ fun vs ds H1 g1 i1 r1 e => by
    obtain ⟨n, m, e, p⟩ := e
    obtain ⟨h0, h1, hb⟩ := hΦ n m p
    subst e
    obtain ⟨v, u, rfl, ra, rb⟩ := r1.twoI
    obtain rfl := ra.intI
    obtain rfl := rb.intI
    intro x dx hx hdx ne
    refine ⟨x, dx, n, m, rfl, upd_same, h0, h1, hb, fun H' _ k e => ⟨rfl, ?_⟩⟩
    have sm : Same H1 H' := fun b o eb => by
      have hbx : b ≠ x := ne_of_none eb hx
      have hbd : b ≠ dx := ne_of_none eb hdx
      refine k b o hbx ?_
      rw [upd_ne hbx, upd_ne hbd]
      exact eb
    exact q _ _ H' (g1.trans sm.gr) (S1.st i1 sm) (rep_rat e) ⟨n, m, p, rfl⟩
end
theorem prOk_mk {T : Tab} {n m : Int} (hT : T.ok) (h0 : 0 ≤ n) (h1 : n < m) : prOk (T, n / (Nat.gcd n.natAbs m.natAbs : Nat), m / (Nat.gcd n.natAbs m.natAbs : Nat)) := by
  have gp : (0 : Int) < (Nat.gcd n.natAbs m.natAbs : Nat) := by
    have : 0 < Nat.gcd n.natAbs m.natAbs := Nat.gcd_pos_of_pos_right _ (by omega)
    omega
  have gd : ((Nat.gcd n.natAbs m.natAbs : Nat) : Int) ∣ m := by
    have := Nat.gcd_dvd_right n.natAbs m.natAbs
    exact Int.dvd_natAbs.mp (Int.natCast_dvd_natCast.mpr this)
  refine ⟨hT, Int.ediv_nonneg h0 (by omega), ?_⟩
  refine Int.ediv_lt_of_lt_mul gp ?_
  rw [Int.ediv_mul_cancel gd]
  exact h1
abbrev t__law_receiver (K : PySem.W.Frag) (C : Addr) : TS := (tSeq (tAsg (tTup tNil) (gName 3))
    (tSeq (tFor (iRng1 (tCons (tOp rAddI (tC (.int 1)) (tCall (p__law_next K) [] E0 (tCons (tVar 0) (tCons (tVar 1) tNil)))) tNil)) (gName 4) (tSeq (tAsg (tCall (p__law_table K) [] E0 (tCons (tVar 0) (tCons (tVar 2) tNil))) (gName 5))
    (tSeq (tIfS (tAnd (tTest (tOp (rNeW K) (tVar 3) (tTup tNil))) (tTest (tOp rGtI (tCall (p__law_next K) [] E0 (tCons (tVar 0) (tCons (tC (.int 3)) tNil))) (tC (.int 0))))) (tAsg (tCall (p__law_like K) [] E0 (tCons (tVar 0) (tCons (tOp (rIx K) (tOp (rIx K) (tVar 3) (tUn rNegI (tC (.int 1)))) (tC (.int 0))) tNil))) (gName 5)) tNext)
    (tSeq (tAsg (tCall (p__law_next K) [] E0 (tCons (tVar 0) (tCons (tC (.int 12)) tNil))) (gName 6))
    (tAsg (tOp (rCatA K) (tVar 3) (tTup (tCons (tTup (tCons (tVar 5) (tCons (tMake C (spRI C) [] E0 (tCons (tVar 6) (tCons (tOp rAddI (tOp rAddI (tVar 6) (tC (.int 1))) (tCall (p__law_next K) [] E0 (tCons (tVar 0) (tCons (tC (.int 20)) tNil)))) tNil))) tNil))) tNil))) (gName 3))))))
    (tRet (tVar 3))))
theorem so_forRE {K : PySem.W.Frag} {S S1 SB SF : Sta} {L : List Addr} {ρ : List (Option Dt)} {P : Po} {j : Nat} {ta : TA} {t : TS} {Ψ : Nat → Prop} (h : EvA K S S1 ρ ta (fun l => ∃ k : Nat, l = [.int k] ∧ Ψ k)) (q : ∀ k, Ψ k → Sg K S1 SB SF L (tFor (iRng1 (tCons (tC (.int k)) tNil)) (gName j) t) ρ P) : Sg K S SB SF L (tFor (iRng1 ta) (gName j) t) ρ P := fun D σ B H b i s f =>
  h σ H i s _ fun vs ds H1 g1 i1 r1 p1 => by
    obtain ⟨k, e, hk⟩ := p1
    subst e
    obtain ⟨v, rfl, rv⟩ := r1.oneI
    obtain rfl := rv.intI
    exact q k hk D σ B H1 (b.up g1) i1 (s.mono g1) f
theorem rv_neT0 {K : PySem.W.Frag} {S : Sta} {xs : List Dt} : Rv2 K S (rNeW K) (.tup xs) (.tup []) (Eq (.bl (!xs.isEmpty))) := rv_at fun H v u _ r1 r2 Q q => by
  obtain ⟨a, vs, rfl, ht, ra⟩ := r1.tupI
  obtain ⟨b, us, rfl, hb, rb⟩ := r2.tupI
  cases rb
  refine .inr ⟨a, b, vs, rfl, rfl, ht, hb, ?_⟩
  have e : vs.isEmpty = xs.isEmpty := by
    cases ra <;> rfl
  rw [e]
  exact q _ (.bl _)
section
variable {K : PySem.W.Frag} {a : Addr} {c : CT} {cs : List Int} {n : Nat} {ds : List Dt} {C : Addr}
end
end Bf
namespace Bf
open PySem PySem.Spec PyProof.Rows L2
/-! ## What a receiver reads -/
theorem less_canL {a b : Fq} (ha : okQ a) : lessP (canP a) b = lessP a b := by
  obtain ⟨g, g0, e1, e2⟩ := can_mul ha
  unfold lessP
  apply decide_eq_decide.mpr
  generalize hx : canP a = x at e1 e2 ⊢
  rw [e1, e2]
  have h1 : g * x.1 * b.2 = g * (x.1 * b.2) := Int.mul_assoc _ _ _
  have h2 : b.1 * (g * x.2) = g * (b.1 * x.2) := by rw [← Int.mul_assoc, Int.mul_comm b.1 g, Int.mul_assoc]
  rw [h1, h2]
  exact ⟨fun h => Int.mul_lt_mul_of_pos_left h g0, fun h => Int.lt_of_mul_lt_mul_left h (Int.le_of_lt g0)⟩
theorem less_canR {a b : Fq} (hb : okQ b) : lessP a (canP b) = lessP a b := by
  obtain ⟨h, h0, f1, f2⟩ := can_mul hb
  unfold lessP
  generalize canP b = b' at f1 f2 ⊢
  have l1 : a.1 * b.2 = h * (a.1 * b'.2) := by rw [f2]; ac_rfl
  have l2 : b.1 * a.2 = h * (b'.1 * a.2) := by rw [f1]; ac_rfl
  rw [l1, l2]
  have : (a.1 * b'.2 < b'.1 * a.2) ↔ (h * (a.1 * b'.2) < h * (b'.1 * a.2)) :=
    ⟨fun z => Int.mul_lt_mul_of_pos_left z h0, fun z => Int.lt_of_mul_lt_mul_left z (Int.le_of_lt h0)⟩
  simp only [decide_eq_decide]
  exact this
theorem less_trans {a b c : Fq} (ha : okQ a) (hb : okQ b) (hc : okQ c) (h1 : lessP a b = true) (h2 : lessP c b = false) : lessP a c = true := by
  have e1 : a.1 * b.2 < b.1 * a.2 := of_decide_eq_true h1
  have e2 : ¬ (c.1 * b.2 < b.1 * c.2) := of_decide_eq_false h2
  have pa := ha.2.2.1
  have pb := hb.2.2.1
  have pc := hc.2.2.1
  have x1 : a.1 * b.2 * c.2 < b.1 * a.2 * c.2 := Int.mul_lt_mul_of_pos_right e1 (by omega)
  have x2 : b.1 * c.2 * a.2 ≤ c.1 * b.2 * a.2 := Int.mul_le_mul_of_nonneg_right (by omega) (by omega)
  have y1 : a.1 * b.2 * c.2 = a.1 * c.2 * b.2 := by ac_rfl
  have y2 : b.1 * a.2 * c.2 = b.1 * c.2 * a.2 := by ac_rfl
  have y3 : c.1 * b.2 * a.2 = c.1 * a.2 * b.2 := by ac_rfl
  exact decide_eq_true (Int.lt_of_mul_lt_mul_right (show a.1 * c.2 * b.2 < c.1 * a.2 * b.2 by omega) (by omega))
def prQ (p : Tab × Fq) : Prop := p.1.ok ∧ 0 ≤ p.2.1 ∧ p.2.1 < p.2.2 ∧ p.2.2 ≤ 1000
theorem prQ_pr {p : Tab × Fq} (h : prQ p) : prOk p := ⟨h.1, h.2.1, h.2.2.1⟩
/-! ### fits, and the law's own -/
section
variable {K : PySem.W.Frag} {mg : Str → Option Value} {C fI pN gN pD gD : Addr} {S S1 S2 SB : Sta} {L : List Addr} {ρ : List (Option Dt)} {P : Po} {te ta tb tl : TE} {t : TS} {ds : List Dt} {d : Dt}
end
end Bf
namespace Bf
open PySem PySem.Spec PyProof.Rows L2
/-! ## drawn receivers, with what their tolerances are at most -/
theorem prQ_mk {T : Tab} {n m : Int} (hT : T.ok) (h0 : 0 ≤ n) (h1 : n < m) (h2 : m ≤ 1000) : prQ (T, n / (Nat.gcd n.natAbs m.natAbs : Nat), m / (Nat.gcd n.natAbs m.natAbs : Nat)) := by
  obtain ⟨a, b, c⟩ := prOk_mk hT h0 h1
  exact ⟨a, b, c, Int.le_trans (Int.ediv_le_self _ (by omega)) h2⟩
section
variable {K : PySem.W.Frag} {a : Addr} {c : CT} {cs : List Int} {n : Nat} {ds : List Dt} {C : Addr}
end
end Bf
namespace Bf
open PySem PySem.Spec PyProof.Rows L2
/-! ## words_of, where need_table may refuse -/
section
variable {K : PySem.W.Frag} {S : Sta} {ds : List Dt} {CB C : Addr}
end
/-! ## need_burst of what is none -/
def isAZ : Dt → Bool
  | .ins _ _ [.int n, .int _] => decide (0 < n)
  | _ => false
def isBu : Dt → Bool
  | .tup xs => decide (xs.length ≤ 63) && decide (xs.length % 2 = 1) && xs.all isAZ
  | _ => false
/-- as bursts are drawn, and other things -/
def bvR (C : Addr) (d : Dt) : Prop := okRt C d ∧ ∀ xs, d = .tup xs → xs.length ≤ 100000 ∧ ∀ x ∈ xs, okRt C x
def r_iazG (C : Addr) (ds : List Dt) (d : Dt) : Prop := ∃ x, okRt C x ∧ ds = [x] ∧ d = .bl (isAZ x)
abbrev p_is_above_zeroG (K : PySem.W.Frag) (C : Addr) : Sp := spR K 1 (r_iazG C)
def r_ibuG (C : Addr) (ds : List Dt) (d : Dt) : Prop := ∃ x, bvR C x ∧ ds = [x] ∧ d = .bl (isBu x)
abbrev p_is_burstG (K : PySem.W.Frag) (C : Addr) : Sp := spR K 1 (r_ibuG C)
abbrev t_is_burstG (K : PySem.W.Frag) (C : Addr) : TS := (tSeq (tIfS (tOr (tNot (tB (tCB (rIsi K) (tCons (tVar 0) (tCons (tC (.ty "tuple")) tNil))))) (tOr (tTest (tOp rGtI (tCB (rLen K) (tCons (tVar 0) tNil)) (tC (.int 63)))) (tTest (tOp rEq (tOp rModI (tCB (rLen K) (tCons (tVar 0) tNil)) (tC (.int 2))) (tC (.int 0)))))) (tRet (tC (.bl false))) tNext)
    (tRet (tCB (rAll K) (tCons (tLc (iTup K (tVar 0)) (gName 1) tYes (tCall (p_is_above_zeroG K C) [] E0 (tCons (tVar 1) tNil)) [1]) tNil))))
def r_nbuX (CB C : Addr) (ds : List Dt) (o : Out) : Prop := ∃ x, bvR C x ∧ ds = [x] ∧ o = if isBu x = true then .ok x else .er CB "given" x
abbrev p_need_burstX (K : PySem.W.Frag) (CB C : Addr) : Sp := spX K 1 (r_nbuX CB C)
abbrev t_need_burstX (K : PySem.W.Frag) (CB C : Addr) (E : XK) : TS := (tSeq (tIfS (tNot (tB (tCall (p_is_burstG K C) [] E0 (tCons (tVar 0) tNil)))) (tRaiseB CB "given" (fun cls d _ H => E cls d H) (tCons (tVar 0) tNil)) tNext)
    (tRet (tVar 0)))
section
variable {K : PySem.W.Frag} {mg : Str → Option Value} {C CB fI pN gN pD gD : Addr} {S : Sta} {ds : List Dt} {d : Dt} {o : Out} {E : XK}
theorem so_is_above_zeroG (T : RatT K mg C fI pN gN pD gD) (hp : r_iazG C ds d) : So K S S [] (t_is_above_zero K C) (startD 1 ds) (Pu d) := by
  obtain ⟨x, hx, rfl, rfl⟩ := hp
  have h1 : Ev K S S [some x] (tCB (rIsi K) (tCons (tVar 0) (tCons (tC (.ref C)) tNil))) (Eq (.bl (isRatD x))) := ev_isRat T (ev_var rfl) hx
  rcases hx with hx | ⟨n, m, rfl⟩
  · have e1 : isRatD x = false := by cases x <;> first | rfl | (simp [okN, tyN] at hx)
    have e2 : isAZ x = false := by cases x <;> first | rfl | (simp [okN, tyN] at hx)
    rw [e1] at h1
    rw [e2]
    exact so_retD (ev_andF h1) (Sta.Le.refl S) rfl
  · exact so_retD (ev_andT (h1.to rfl) (ev_op (ev_num (ev_var rfl)) ev_int rv_gt)) (Sta.Le.refl S) rfl
theorem so_is_burstG (T : RatT K mg C fI pN gN pD gD) (hmu : S.Mu) (hp : r_ibuG C ds d) : So K S S [] (t_is_burstG K C) (startD 2 ds) (Pu d) := by
  obtain ⟨x, ⟨hx, hxx⟩, rfl, rfl⟩ := hp
  by_cases ht : ∃ xs, x = .tup xs
  · obtain ⟨xs, rfl⟩ := ht
    obtain ⟨hl, hxs⟩ := hxx xs rfl
    refine so_if (Φb := Eq (decide ((63 : Int) < xs.length) || decide ((xs.length : Int) % 2 = 0))) (et_orF (et_notT (et_B ((ev_isTup (ev_var rfl) rfl).to rfl))) (et_or (et_test (ev_op (ev_lenT (ev_var rfl)) ev_int rv_gt)) fun _ => et_test (ev_op (ev_op (ev_lenT (ev_var rfl)) ev_int (rv_mod (by decide))) ev_int rv_eqI))) (fun e => ?_) fun e => so_skip ?_
    · refine so_ret1D ev_bl (Sta.Le.refl S) ?_
      have : (decide (xs.length ≤ 63) && decide (xs.length % 2 = 1)) = false := by
        simp only [Bool.or_eq_true, decide_eq_true_eq] at e
        by_cases h1 : xs.length ≤ 63
        · rw [decide_eq_true h1, Bool.true_and]
          exact decide_eq_false (by omega)
        · rw [decide_eq_false h1, Bool.false_and]
      simp only [isBu, this, Bool.false_and]
    · have : (decide (xs.length ≤ 63) && decide (xs.length % 2 = 1)) = true := by
        simp only [Bool.or_eq_false_iff, decide_eq_false_iff_not] at e
        rw [decide_eq_true (by omega), decide_eq_true (by omega)]
        rfl
      refine so_retD (ev_allT (p := isAZ) hmu (ev_var rfl) (by decide) hl fun y hy => ev_callR (R := r_iazG C) (ea_cons (ev_var rfl) ea_nil) rfl ⟨y, hxs y hy, rfl, rfl⟩) (Sta.Le.refl S) ?_
      simp only [isBu, this, Bool.true_and]
  · have e2 : isBu x = false := by
      cases x <;> first | rfl | exact absurd ⟨_, rfl⟩ ht
    rw [e2]
    rcases hx with hx | ⟨n, m, rfl⟩
    · have e1 : isTupD x = false := by
        cases x <;> first | rfl | exact absurd ⟨_, rfl⟩ ht
      exact so_ifT (et_orT (et_notF (et_B ((ev_isTup (ev_var rfl) hx).to (by rw [e1]))))) (so_ret1D ev_bl (Sta.Le.refl S) rfl)
    · exact so_ifT (et_orT (et_notF (et_B (ev_ratIs T (ev_var rfl) (by simp))))) (so_ret1D ev_bl (Sta.Le.refl S) rfl)
theorem so_need_burstX (hp : r_nbuX CB C ds o) (hw : ∀ C' f d, o = .er C' f d → XW K S C' f d E) : So K S S [] (t_need_burstX K CB C E) (startD 1 ds) (PO o) := by
  obtain ⟨x, hx, rfl, rfl⟩ := hp
  have h1 : Ev K S S [some x] (tCall (p_is_burstG K C) [] E0 (tCons (tVar 0) tNil)) (Eq (.bl (isBu x))) := ev_callR (R := r_ibuG C) (ea_cons (ev_var rfl) ea_nil) rfl ⟨x, hx, rfl, rfl⟩
  cases e : isBu x with
  | true => 
    rw [e] at h1
    rw [if_pos rfl]
    exact so_ifF (et_notT (et_B h1)) (so_skip (so_retD (ev_var rfl) (Sta.Le.refl S) rfl))
  | false =>
    rw [e] at h1 hw
    rw [if_neg Bool.false_ne_true]
    exact so_ifT (et_notF (et_B h1)) (so_raise1B (ev_var rfl) (hw CB "given" x (if_neg Bool.false_ne_true)))
end
end Bf
namespace Bf
open PySem PySem.Spec PyProof.Rows L2
/-! ### for x, y in zip(a tuple, a tuple), to the shorter one's end -/
section
variable {K : PySem.W.Frag} {S S1 S2 SB SF : Sta} {L : List Addr} {ρ : List (Option Dt)} {P : Po} {t : TS} {ta : TA}
end
end Bf
namespace Bf
open PySem PySem.Spec PyProof.Rows L2
/-! ## The law of bursts: need_burst, need_ratio, is_within -/
theorem exmAny_cons_of {K : PySem.W.Frag} {cls c : Value} {r : List Value} {b d : Bool} (h1 : PySem.W.exmOne K cls c = some b) (h2 : PySem.W.exmAny K cls r = some d) : PySem.W.exmAny K cls (c :: r) = some (b || d) := by
  unfold PySem.W.exmAny
  rw [h1, h2]
section
variable {K : PySem.W.Frag} {mg : Str → Option Value} {C CB CR fI pN gN pD gD : Addr} {S S1 : Sta} {ds : List Dt} {d : Dt} {o : Out} {E : XK} {vs : List V} {ρ : List (Option Dt)}
/-! ### what is said -/
/-- what is known of the two classes -/
structure Two (K : PySem.W.Frag) (CB CR : Addr) : Prop where
  bb : PySem.W.kitOne K (.ref CB) (.ref CB) = some true
  rb : PySem.W.kitOne K (.ref CR) (.ref CB) = some false
  xb : PySem.W.exmAny K (.ref CB) [.ref CB, .ref CR] = some true
  xr : PySem.W.exmAny K (.ref CR) [.ref CB, .ref CR] = some true
end
end Bf
namespace Bf
open PySem PySem.Spec PyProof.Rows L2
/-! ## The need of two durations -/
/-- a tolerance below 1 -/
def okT (t : Fq) : Prop := 0 ≤ t.1 ∧ t.1 < t.2 ∧ t.2 ≤ 1000
/-- the greatest of three numbers, above and below a line -/
def needP (f p : Int) (t : Fq) : Fq := (if 0 < p * (t.2 - t.1) - f * t.2 then p * (t.2 - t.1) - f * t.2 else if 0 < f * t.2 - p * (t.2 + t.1) then f * t.2 - p * (t.2 + t.1) else 0, f * t.2)
/-- the number nearest to one duration of those allowed -/
def nearA (f p : Int) (t : Fq) : Fq := if f * t.2 < p * (t.2 - t.1) then canP (p * (t.2 - t.1), t.2) else if p * (t.2 + t.1) < f * t.2 then canP (p * (t.2 + t.1), t.2) else (f, 1)
/-! ### nearest_allowed, need_between, and the law's own -/
section
variable {K : PySem.W.Frag} {C : Addr} {S : Sta} {ds : List Dt} {d : Dt}
end
end Bf
namespace Bf
open PySem PySem.Spec PyProof.Rows L2 PySem.SeqAt
/-! ## xs != ys, lists of tuples of the very same things -/
end Bf
namespace Bf
open PySem PySem.Spec PyProof.Rows L2
section
variable {K : PySem.W.Frag} {mg : Str → Option Value} {C CB CR fI pN gN pD gD : Addr} {S S1 : Sta} {ds : List Dt} {d : Dt} {o : Out} {E : XK} {vs : List V} {ρ : List (Option Dt)}
/-! ### what is said -/
end
/-! ## The law of needs -/
section
variable {K : PySem.W.Frag} {mg : Str → Option Value} {C CN CR fI pN gN pD gD : Addr} {S S1 : Sta} {ds : List Dt} {d : Dt} {o : Out} {E : XK} {vs : List V} {ρ : List (Option Dt)}
end
end Bf
namespace Bf
open PySem PySem.Spec PyProof.Rows L2
/-! ## list.count and list.index of flat things; isinstance of a kept error, of a tuple of classes -/
theorem count_eqU {x : V} : ∀ {xs : List V} {us : List Value}, Vals xs us → xs.all flatV = true → us.countP (eqU x) = xs.countP fun y => eqV y x
  | _, _, .nil, _ => rfl
  | _, _, .cons r t, f => by
    rw [List.all_cons, Bool.and_eq_true] at f
    rw [List.countP_cons, List.countP_cons, eqU_of r f.1, count_eqU t f.2]
def rCntF (K : PySem.W.Frag) : V → List V → Hp → VK → Prop := fun x xs H Q => ∃ (p : Addr) (ys : List V) (y : V), x = .ref p ∧ xs = [y] ∧ SqL K H p ys ∧ flatV y = true ∧ ys.all flatV = true ∧ Q (.int ((ys.countP fun z => eqV z y : Nat) : Int)) H
theorem mt_countF {X : Cx} : MtR X "list.count" (rCntF X.K) := by
  intro pins s σ H x xs v us Q I rx rxs h
  obtain ⟨p, ys, y, rfl, rfl, hs, fy, fys, q⟩ := h
  cases rx
  cases rxs with
  | cons ry rt =>
    rename_i uy ut
    cases rt
    obtain ⟨its, rv, ⟨⟨cls, dd, data, sl⟩, n, ho, hc, hdn, hd⟩, hlen⟩ := I.list hs
    simp only at hc hd
    subst hc hd
    refine call_meets PySem.F.slot_list_count ⟨_, ho, rfl⟩ PySem.F.entry_list_count (PySem.F.args_list_count_2 _ _)
      (SeqAt.list_countAt p its.toArray n dd sl uy (eqU y)) ⟨ho, fun u' hu' => mem_eqAt ry fy rv fys u' (by simpa using hu'), ?_⟩
    have ec : its.toArray.toList.countP (eqU y) = ys.countP (fun z => eqV z y) := count_eqU rv fys
    refine ⟨.int ((ys.countP fun z => eqV z y : Nat) : Int), H, I.tok _, ⟨s.toks, ?_⟩, q⟩
    show Value.int ((its.toArray.toList.countP (eqU y) : Nat) : Int) s.toks = Value.int ((ys.countP fun z => eqV z y : Nat) : Int) s.toks
    rw [ec]
theorem flat_bls : ∀ bs : List Bool, (bs.map V.bl).all flatV = true
  | [] => rfl
  | _ :: l => flat_bls l
section
variable {K : PySem.W.Frag} {S S1 : Sta} {ρ : List (Option Dt)} {te : TE} {d : Dt} {p : Addr} {bs : List Bool}
theorem ev_countB (h : Ev K S S1 ρ te (Eq (.lat p (bs.map Dt.bl)))) : Ev K S S1 ρ (tBM K "list" (rCntF K) te (tCons (tC (.bl true)) tNil)) (Eq (.int ((bs.map V.bl).countP fun z => eqV z (.bl true) : Nat))) := fun σ H i s Q q =>
  h σ H i s _ fun v d' H1 g1 i1 r1 e => by
    subst e
    obtain ⟨rfl, vs, hp, ra⟩ := r1.latI
    obtain rfl := ra.bls
    exact ⟨.inl ⟨rfl, _, SqL.of hp⟩, _, _, _, rfl, rfl, SqL.of hp, rfl, flat_bls bs, q _ _ H1 g1 i1 (.int _) rfl⟩
theorem ev_indexB {j : Nat} (h : Ev K S S1 ρ te (Eq (.lat p (bs.map Dt.bl)))) (hj : bs[j]? = some true) (hn : ∀ m, m < j → bs[m]? = some false) : Ev K S S1 ρ (tBM K "list" (rIndex K) te (tCons (tC (.bl true)) tNil)) (Eq (.int (j : Nat))) := fun σ H i s Q q =>
  h σ H i s _ fun v d' H1 g1 i1 r1 e => by
    subst e
    obtain ⟨rfl, vs, hp, ra⟩ := r1.latI
    obtain rfl := ra.bls
    refine ⟨.inl ⟨rfl, _, SqL.of hp⟩, _, _, _, j, .bl true, rfl, rfl, SqL.of hp, rfl, flat_bls bs, by rw [List.getElem?_map, hj] <;> rfl, rfl, fun m z' hm hz => ?_, q _ _ H1 g1 i1 (.int _) rfl⟩
    rw [List.getElem?_map, hn m hm] at hz
    cases hz
    rfl
end
/-- isinstance(e, (C, D)), e a kept error -/
def rIsiTE (K : PySem.W.Frag) (Cs : List Addr) : List V → Hp → VK → Prop := fun xs H Q => ∃ (a C tp dd : Addr) (Ds : List Addr) (f : Str) (v : V) (b : Bool), xs = [.ref a, .ref tp] ∧ C ∈ Cs ∧ H a = some (ErrO (.ref C) (some dd) a) ∧ H dd = some (.xd [(f, v)]) ∧ H tp = some (.tup (Ds.map V.ref)) ∧ PySem.W.kitAny K (.ref C) (Ds.map Value.ref) = some b ∧ Q (.bl b) H
theorem vals_refs : ∀ {Ds : List Addr} {us : List Value}, Vals (Ds.map V.ref) us → us = Ds.map Value.ref
  | [], _, .nil => rfl
  | D :: Ds, _, .cons r t => by
    obtain rfl := vals_refs t
    exact congrArg (· :: _) (show _ = Value.ref D from r)
theorem call_isiTE {X : Cx} {Cs : List Addr} (T : ∀ C ∈ Cs, IsiC X.K C) : CallR X (.builtin "isinstance") (rIsiTE X.K Cs) := by
  intro pins s σ H xs us Q I r h
  obtain ⟨a, C, tp, dd, Ds, f, v, b, rfl, hC, hA, hD, hT, hk, q⟩ := h
  obtain ⟨u1, u2, rfl, r1, r2⟩ := vals2 r
  obtain rfl : u1 = Value.ref a := r1
  obtain rfl : u2 = Value.ref tp := r2
  have T := T C hC
  obtain ⟨⟨oe, ha, hz, vs, hv⟩, _, _⟩ := show ObjOk X.prog X.w H s.heap a (ErrO (.ref C) (some dd) a) from I.hok a _ hA
  obtain ⟨mA, hns, _⟩ := show ObjOk X.prog X.w H s.heap dd (.xd [(f, v)]) from I.hok dd _ hD
  obtain ⟨od, ho, _⟩ := lookIn_ns hns
  have J : PySem.W.InstAt s.heap a oe C (some od) := ⟨ha, hz.1, by unfold PySem.W.notCls; rw [hv] <;> rfl, by rw [hz.2]; exact ho⟩
  obtain ⟨_, its, rv, o, h1, h2, n, h3⟩ := (show ObjOk X.prog X.w H s.heap tp (.tup (Ds.map V.ref)) from I.hok tp _ hT)
  have e3 := vals_refs rv
  subst e3
  obtain ⟨oc, od', dt, sl⟩ := o
  simp only at h2 h3
  subst h2 h3
  exact PySem.W.kia_tup (PySem.W.kitx_exc (ox := oe) (od := some od) T.cl T.ga T.gg T.ex T.ca T.cg T.ct T.ob) I.kIn J h1 hk (fun z => nomatch z) fun tk => ⟨.bl b, H, I.tok tk, rfl, q⟩
section
variable {K : PySem.W.Frag} {S S1 : Sta} {ρ : List (Option Dt)} {te : TE} {d : Dt} {C D1 D2 : Addr} {f : Str} {b : Bool}
theorem ev_isiTE {Cs : List Addr} (h : Ev K S S1 ρ te (Eq (.err C f d))) (hC : C ∈ Cs) (hk : PySem.W.kitAny K (.ref C) [.ref D1, .ref D2] = some b) : Ev K S S1 ρ (tCB (rIsiTE K Cs) (tCons te (tCons (tTup (tCons (tC (.ref D1)) (tCons (tC (.ref D2)) tNil))) tNil))) (Eq (.bl b)) := fun σ H i s Q q =>
  h σ H i s _ fun v d' H1 g1 i1 r1 e => by
    subst e
    refine ⟨by show 2 ≤ sizeLine; decide, fun p hp => ?_⟩
    have sm := same_new (o := .tup [V.ref D1, V.ref D2]) hp
    have r2 := r1.mono sm.gr
    cases r2 with
    | err h1 h2 r => exact ⟨_, _, _, _, [D1, D2], _, _, _, rfl, hC, h1, h2, upd_same, hk, q _ _ _ (g1.trans sm.gr) (S1.st i1 sm) (.bl _) rfl⟩
end
end Bf
namespace Bf
open PySem PySem.Spec PyProof.Rows L2
/-! ## Loops over a tuple in which draws are made and a list grows -/
section
variable {K : PySem.W.Frag} {S S1 SB SF : Sta} {L : List Addr} {ρ : List (Option Dt)} {P : Po} {te : TE} {w t : TS} {H : Hp} {σ : L2.St}
end
/-! ### _law_moved -/
section
variable {K : PySem.W.Frag} {a : Addr} {c : CT} {cs : List Int} {n : Nat} {ds : List Dt} {C : Addr}
end
end Bf
namespace Bf
open PySem PySem.Spec PyProof.Rows L2
/-! ## The law of bursts -/
section
variable {K : PySem.W.Frag} {a : Addr} {c : CT} {cs : List Int} {n : Nat} {ds : List Dt} {C : Addr}
theorem ea_c {S : Sta} {ρ : List (Option Dt)} {te : TE} {tr : TA} {d : Dt} {ds : List Dt} (h : Ev K S S ρ te (Eq d)) (hr : EvA K S S ρ tr (Eq ds)) : EvA K S S ρ (tCons te tr) (Eq (d :: ds)) := ea_cons h hr
end
end Bf
namespace Bf
open PySem PySem.Spec PyProof.Rows L2
/-! ## Drawn bursts; the law of nearest -/
section
variable {K : PySem.W.Frag} {S S1 S2 SB SF : Sta} {L : List Addr} {ρ : List (Option Dt)} {P : Po} {te ta tb tl : TE} {t : TS} {Φ : Dt → Prop} {a : Addr} {c : CT} {cs : List Int} {n : Nat} {C : Addr}
end
section
variable {K : PySem.W.Frag} {a : Addr} {c : CT} {cs : List Int} {n : Nat} {ds : List Dt} {C : Addr}
end
end Bf
namespace Bf
open PySem PySem.Spec PyProof.Rows L2
/-! ## reads -/
section
variable {K : PySem.W.Frag} {S SB : Sta} {L : List Addr} {ρ : List (Option Dt)} {P : Po} {tl : TE} {t : TS}
end
section
variable {K : PySem.W.Frag} {mg : Str → Option Value} {C CB CR CW : Addr} {S : Sta} {ds : List Dt} {d : Dt} {o : Out} {E : XK}
end
end Bf
namespace Bf
open PySem PySem.Spec PyProof.Rows L2 PySem.SeqAt
open AutoSeq1 (wpAny_loadPart')
open MeetsSeq MeetsSeq2 MeetsSeq3 SeqRoads2
/-! ## == and != of lists that hold ratios: equal ones are seen to be equal -/
section
variable {prog : Program} {w : World} {A : Around} {R : Result → Shared → Prop} {E : Value → Shared → Prop} {s : Shared}
end
section
variable {X : Cx} {n : Nat} {D : Eqv}
end
section
variable {X : Cx} {C q : Addr} {qd : FuncData}
end
end Bf
namespace Bf
open PySem PySem.Spec PyProof.Rows L2
/-! ## The law of reading: drawn bursts, what is refused -/
theorem so_unpP {K : PySem.W.Frag} {S S1 SB SF : Sta} {L : List Addr} {ρ : List (Option Dt)} {P : Po} {te : TE} {w : TS} {n : Nat} {g : TGs} {is : List Nat} {Φ : Dt → Prop} (h : Ev K S S1 ρ te Φ) (hg : g = gNames is) (hx : ∀ d, Φ d → ∃ xs, d = .tup xs ∧ xs.length = n ∧ xs.length = is.length) (q : ∀ xs, Φ (.tup xs) → Sg K S1 SB SF L w (setAll ρ is xs) P) : Sg K S SB SF L (tSeq (tAsg te (gTup K n g)) w) ρ P := fun D σ B H b i s f =>
  h σ H i s _ fun v d H1 g1 i1 r1 p1 => by
    obtain ⟨xs, rfl, hn, hi⟩ := hx d p1
    subst hg
    obtain ⟨a, vs, rfl, ht, ra⟩ := r1.tupI
    exact ⟨a, vs, rfl, ht, ra.len.trans hn, names_run (s.mono g1) ra hi fun σ' s' => q xs p1 D σ' B H1 (b.up g1) i1 s' f⟩
section
variable {K : PySem.W.Frag} {a : Addr} {c : CT} {cs : List Int} {n : Nat} {ds : List Dt} {d : Dt} {C CB : Addr}
end
end Bf
namespace Bf
open PySem PySem.Spec PyProof.Rows L2
/-! ## The end, where the law's def makes lambdas: the script, and the tables of code objects, empty -/
section
variable {P : Program} {w : World} {K : PySem.W.Frag} {mg mb : Str → Option Value} {k : Nat} {fa a : Addr} {fd : FuncData} {x : Str} {sp : Sp} {s₁ : Shared} {vs : List Value} {ns : List Int} {cs : List (Addr × Addr)}
abbrev tabsOf (cs : List (Addr × Addr)) : List Addr := cs.map (·.2)
def OnlyT (cs : List (Addr × Addr)) (H : Hp) : Prop := ∀ b, H b = none ∨ b ∈ tabsOf cs ∨ ∃ o xs, H b = some (.frz o (.lst xs))
abbrev tabO : Obj := { cls := .none, data := .fields #[] }
theorem law_fromT {H : Hp} (KX : K.In s₁.heap) (hns : s₁.heap.Ns mainGlobals mg) (hb : s₁.heap.Ns builtinsNs mb) (hbb : ∀ y : Str, y ≠ "__name__" → mb y = bootBuiltins y) (hlim : s₁.heap.NoLimit) (hg : s₁.gens = #[])
    (hT : ∀ p ∈ cs, s₁.heap.get? p.2 = some tabO) (nT : ∀ p ∈ cs, K.lookup p.2 = none) (hC : ∀ p ∈ cs, PySem.W.CodeHd s₁.heap p.1 p.2)
    (hbm : ∃ (bm : Addr) (ob : Obj), mg "__builtins__" = some (.ref bm) ∧ bm ≠ builtinsNs ∧ s₁.heap.get? bm = some ob ∧ ob.cls = .type "module" ∧ ob.dict = some builtinsNs ∧ ob.data = .plain)
    (ha : s₁.heap.get? a = some { cls := .type "list", data := .seq vs.toArray }) (hr : Room k callerA) (F : ∀ base : Heap, K.In base → base.Ns mainGlobals mg → (∀ p ∈ cs, LamX.TabB base mg p.1 p.2) → GOk P w K mg base k fa fd [x] sp) (hbind : ∀ (s : Shared) (u : Value), BindsTo s fd ⟨[u], []⟩ [(x, u)])
    (hsp : sp [.ref a] H (fun v _ => v = .bl true) fun _ _ _ => False) (hH : ∀ p ∈ cs, H p.2 = some (.tbl #[])) (hO : OnlyT cs H) (hok : HOk P w H s₁.heap) (hA : ∀ b, H b ≠ none → b = a ∨ b ∈ tabsOf cs) (hK : H a ≠ none → K.lookup a = none) :
    codeAny (model P w) callerA (.call (.ref fa) ⟨[.ref a], []⟩) (fun r s' => r = .ok (.ret (.bool true)) ∧ OldK s₁.heap s'.heap ∧ s'.os = s₁.os ∧ AllBare s'.gens) s₁ := by
  have tab_at : ∀ {b}, b ∈ tabsOf cs → s₁.heap.get? b = some tabO := fun {b} z => by
    obtain ⟨p, hp, rfl⟩ := List.mem_map.mp z
    exact hT p hp
  have below : ∀ {b : Addr} {o : Obj}, s₁.heap.get? b = some o → H b = none → (hidT s₁.heap H).get? b = some o := fun e z => hidT_get e z
  -- what is neither a list nor an empty table is not tracked
  have other : ∀ {b : Addr} {o : Obj}, s₁.heap.get? b = some o → (∀ us n, o.data ≠ .seq us n) → o.data ≠ .fields #[] → H b = none := fun {b o} e n1 n2 => by
    cases q : H b with
    | none => rfl
    | some y =>
      rcases hA b (by rw [q]; exact Option.some_ne_none y) with z | z
      · subst z
        rw [ha] at e
        cases e
        exact absurd rfl (n1 _ _)
      · rw [tab_at z] at e
        cases e
        exact absurd rfl n2
  have free : ∀ {b : Addr} {o : Obj} {es : Array DictEntry} {ep : Nat}, s₁.heap.get? b = some o → o.data = .dict es ep → H b = none := fun e d => other e (fun us n z => by rw [d] at z; cases z) fun z => by rw [d] at z; cases z
  have lift : ∀ {b : Addr} {m : Str → Option Value}, s₁.heap.Ns b m → (hidT s₁.heap H).Ns b m := fun {b m} z => by
    obtain ⟨o, es, ep, e, d, r⟩ := z
    exact ⟨o, es, ep, below e (free e d), d, r⟩
  have inK : K.In (hidT s₁.heap H) := fun b o e => below (KX b o e) (by
    cases q : H b with
    | none => rfl
    | some y =>
      rcases hA b (by rw [q]; exact Option.some_ne_none y) with z | z
      · subst z
        rw [hK (by rw [q]; exact Option.some_ne_none y)] at e
        cases e
      · obtain ⟨p, hp, rfl⟩ := List.mem_map.mp z
        rw [nT p hp] at e
        cases e)
  have notG : ∀ {b : Addr} {o : Obj}, s₁.heap.get? b = some o → (∀ es ep, o.data ≠ .dict es ep) → b ≠ mainGlobals := fun {b o} e n z => by
    obtain ⟨o2, es, ep, e2, d, _⟩ := id hns
    rw [z, e2] at e
    cases e
    exact n _ _ d
  have TB : ∀ p ∈ cs, LamX.TabB (hidT s₁.heap H) mg p.1 p.2 := fun p hp => by
    refine ⟨?_, ?_, fun z => notG (hT p hp) (fun _ _ y => nomatch y) z.symm⟩
    · obtain ⟨o, us, file, tf, flags, tg, inF, text, tt, e1, r1, r2, r3, r⟩ := hC p hp
      have n2 : o.data ≠ .fields #[] := fun z => by
        rw [r2] at z
        cases z
        simp at r3
      exact ⟨o, us, file, tf, flags, tg, inF, text, tt, below e1 (other e1 (fun _ _ z => by rw [r2] at z; cases z) n2), r1, r2, r3, r⟩
    · obtain ⟨bm, ob, b1, b2, b3, b4, b5, b6⟩ := hbm
      have nP : bm ≠ p.2 := fun q => by
        rw [q, hT p hp] at b3
        cases b3
        cases b6
      exact ⟨bm, ob, b1, b2, notG b3 (fun _ _ z => by rw [b6] at z; cases z), nP, below b3 (other b3 (fun _ _ z => by rw [b6] at z; cases z) fun z => by rw [b6] at z; cases z), b4, b5, b6⟩
  obtain ⟨mc, l1, l2⟩ := hlim
  have e0 : Env0 P w K mg (hidT s₁.heap H) callerA [] s₁ H :=
    ⟨rfl, ⟨inK, lift hns, ⟨mb, lift hb, hbb⟩, ⟨mc, lift l1, l2⟩⟩, fun b o e => of_hidT e, Nat.le_of_eq (hidT_size _ _), trivial, fun b z => absurd (show b ∈ ([] : List Addr) from z) (by simp), hok, .of_eq hg⟩
  have run := (F _ inK (lift hns) TB).go callerA [] s₁ H ⟨[.ref a], []⟩ [.ref a] [.ref a] _ _ hr rfl e0 (hbind s₁ (.ref a)) (.cons rfl .nil) hsp
  refine codeAny_mono run fun r s' h => ?_
  match r, h with
  | .error e, h =>
    obtain ⟨_, _, _, _, _, _, _, _, _, _, _, _, z⟩ := h
    exact z.elim
  | .ok .next, h => exact h.elim
  | .ok .brk, h => exact h.elim
  | .ok .cont, h => exact h.elim
  | .ok (.ret u), h =>
    obtain ⟨v, H', os, bare, un, hok', rv, q⟩ := h
    obtain rfl : v = V.bl true := q
    obtain rfl : u = Value.bool true := rv
    have same : ∀ {b : Addr} {o : Obj}, b ∉ tabsOf cs → s₁.heap.get? b = some o → s'.heap.get? b = some o := fun {b o} nb e => by
      rcases hO b with z | z | ⟨ob, ys, z⟩
      · exact un.keep b o e z (fun y => absurd (show b ∈ ([] : List Addr) from y) (by simp)) (by simp)
      · exact absurd z nb
      · obtain ⟨e1, _⟩ := hok b _ z
        obtain ⟨e2, _⟩ := hok' b _ (un.frzs b ob _ z)
        rw [e] at e1
        cases e1
        exact e2
    have more : ∀ p ∈ cs, ∃ ps : Array Value, s'.heap.get? p.2 = some { cls := .none, data := .fields ps } := fun p hp => by
      obtain ⟨ps, z⟩ := un.tbls p.2 #[] (hH p hp)
      exact ⟨_, hok' p.2 _ z⟩
    refine ⟨rfl, ⟨fun b o e => ?_, fun b o e => ?_⟩, os, bare⟩
    · by_cases nb : b ∈ tabsOf cs
      · obtain ⟨p, hp, rfl⟩ := List.mem_map.mp nb
        obtain ⟨ps, z⟩ := more p hp
        rw [hT p hp] at e
        cases e
        exact .inr (.inl ⟨((hC p hp).tab (hT p hp)).isCodeTable, rfl, #[], ps, rfl, by rw [Array.empty_append]; exact z⟩)
      · exact .inl (same nb e)
    · by_cases nb : b ∈ tabsOf cs
      · obtain ⟨p, hp, rfl⟩ := List.mem_map.mp nb
        obtain ⟨ps, z⟩ := more p hp
        exact ⟨_, z⟩
      · exact ⟨o, same nb e⟩
theorem law_callGT (KX : K.In s₁.heap) (hns : s₁.heap.Ns mainGlobals mg) (hb : s₁.heap.Ns builtinsNs mb) (hbb : ∀ y : Str, y ≠ "__name__" → mb y = bootBuiltins y) (hlim : s₁.heap.NoLimit) (hg : s₁.gens = #[])
    (hT : ∀ p ∈ cs, s₁.heap.get? p.2 = some tabO) (nT : ∀ p ∈ cs, K.lookup p.2 = none) (hC : ∀ p ∈ cs, PySem.W.CodeHd s₁.heap p.1 p.2)
    (hbm : ∃ (bm : Addr) (ob : Obj), mg "__builtins__" = some (.ref bm) ∧ bm ≠ builtinsNs ∧ s₁.heap.get? bm = some ob ∧ ob.cls = .type "module" ∧ ob.dict = some builtinsNs ∧ ob.data = .plain)
    (ha : s₁.heap.get? a = some { cls := .type "list", data := .seq vs.toArray }) (hi : IntsAre vs ns) (hl : ns.length ≤ sizeLine) (hr : Room k callerA) (F : ∀ base : Heap, K.In base → base.Ns mainGlobals mg → (∀ p ∈ cs, LamX.TabB base mg p.1 p.2) → GOk P w K mg base k fa fd [x] sp)
    (hbind : ∀ (s : Shared) (u : Value), BindsTo s fd ⟨[u], []⟩ [(x, u)]) (hsp : ∀ H : Hp, (∀ p ∈ cs, H p.2 = some (.tbl #[])) → SqL K H a (ns.map V.int) → sp [.ref a] H (fun v _ => v = .bl true) fun _ _ _ => False) :
    codeAny (model P w) callerA (.call (.ref fa) ⟨[.ref a], []⟩) (fun r s' => r = .ok (.ret (.bool true)) ∧ OldK s₁.heap s'.heap ∧ s'.os = s₁.os ∧ AllBare s'.gens) s₁ := by
  have rv := vals_ints hi
  have lv := hi.length
  have tab_at : ∀ {b}, b ∈ tabsOf cs → s₁.heap.get? b = some tabO := fun {b} z => by
    obtain ⟨p, hp, rfl⟩ := List.mem_map.mp z
    exact hT p hp
  have na : a ∉ tabsOf cs := fun z => by
    have y := tab_at z
    rw [ha] at y
    exact nomatch (show Data.seq vs.toArray _ = Data.fields #[] from congrArg Obj.data (Option.some.inj y))
  have isT : ∀ p ∈ cs, p.2 ∈ tabsOf cs := fun p hp => List.mem_map.mpr ⟨p, hp, rfl⟩
  cases hk : K.lookup a with
  | some o =>
    have e := KX a o hk
    rw [ha] at e
    cases e
    let H : Hp := fun b => if b ∈ tabsOf cs then some (.tbl #[]) else none
    have t1 : ∀ {b}, b ∈ tabsOf cs → H b = some (.tbl #[]) := fun h => if_pos h
    have t2 : ∀ {b}, b ∉ tabsOf cs → H b = none := fun h => if_neg h
    refine law_fromT (H := H) KX hns hb hbb hlim hg hT nT hC hbm ha hr F hbind (hsp H (fun p hp => t1 (isT p hp)) (.inr ⟨_, vs.toArray, _, hk, rfl, rfl, rfl, by rw [List.size_toArray, lv]; exact hl, by simpa using rv⟩)) (fun p hp => t1 (isT p hp)) (fun b => ?_) (fun b u z => ?_) (fun b z => ?_) fun z => absurd (t2 na) z
    · by_cases h : b ∈ tabsOf cs
      · exact .inr (.inl h)
      · exact .inl (t2 h)
    · by_cases h : b ∈ tabsOf cs
      · rw [t1 h] at z
        cases z
        exact tab_at h
      · rw [t2 h] at z
        cases z
    · by_cases h : b ∈ tabsOf cs
      · exact .inr h
      · exact absurd (t2 h) z
  | none =>
    let H : Hp := fun b => if b = a then some (.frz { cls := .type "list", data := .seq vs.toArray } (.lst (ns.map V.int))) else if b ∈ tabsOf cs then some (.tbl #[]) else none
    have t0 : H a = some (.frz { cls := .type "list", data := .seq vs.toArray } (.lst (ns.map V.int))) := if_pos rfl
    have t1 : ∀ {b}, b ∈ tabsOf cs → H b = some (.tbl #[]) := fun {b} h => (if_neg (fun z : b = a => na (z ▸ h))).trans (if_pos h)
    have t2 : ∀ {b}, b ≠ a → b ∉ tabsOf cs → H b = none := fun h0 h => (if_neg h0).trans (if_neg h)
    refine law_fromT (H := H) KX hns hb hbb hlim hg hT nT hC hbm ha hr F hbind (hsp H (fun p hp => t1 (isT p hp)) (.inl (.inr ⟨_, t0⟩))) (fun p hp => t1 (isT p hp)) (fun b => ?_) (fun b u z => ?_) (fun b z => ?_) fun _ => hk
    · by_cases h0 : b = a
      · subst h0
        exact .inr (.inr ⟨_, _, t0⟩)
      · by_cases h : b ∈ tabsOf cs
        · exact .inr (.inl h)
        · exact .inl (t2 h0 h)
    · by_cases h0 : b = a
      · subst h0
        rw [t0] at z
        cases z
        exact ⟨ha, by rw [List.length_map]; exact hl, vs, _, rv, ha⟩
      · by_cases h : b ∈ tabsOf cs
        · rw [t1 h] at z
          cases z
          exact tab_at h
        · rw [t2 h0 h] at z
          cases z
    · by_cases h0 : b = a
      · exact .inl h0
      · by_cases h : b ∈ tabsOf cs
        · exact .inr h
        · exact absurd (t2 h0 h) z
end
/-- what k_head leaves, from the law's promise -/
theorem walk_gT {l : PySem.W.OpenLaw} {n k : Nat} {q : Program} {loose : List Str} {XP : (Str → Option Value) → Heap → Prop} {YP : World → Heap → Prop} {d : DefRec} {K : Params → PySem.W.Frag} {sp : List (Addr × Addr) → PySem.W.Frag → Sp} {x : Str}
    (hn : l.most = some n) (hn2 : n ≤ sizeLine) (hdf : d.params.defaults = []) (hr : Room k callerA) (hY : ∀ (w : World) (h : Heap), YP w h → (K w.params).In h)
    (F : ∀ (w : World) (mg : Str → Option Value) (fa : Addr) (h : Heap), YP w h → (K w.params).In h → h.Ns mainGlobals mg → mg d.name = some (.ref fa) →
      ∃ (fd : FuncData) (cs : List (Addr × Addr)), (∀ p ∈ cs, h.get? p.2 = some tabO) ∧ (∀ p ∈ cs, (K w.params).lookup p.2 = none) ∧ (∀ p ∈ cs, PySem.W.CodeHd h p.1 p.2) ∧ (∀ (s : Shared) (u : Value), BindsTo s fd ⟨[u], []⟩ [(x, u)]) ∧
        ∀ base : Heap, (K w.params).In base → base.Ns mainGlobals mg → (∀ p ∈ cs, LamX.TabB base mg p.1 p.2) → GOk l.prog w (K w.params) mg base k fa fd [x] (sp cs (K w.params)))
    (hsp : ∀ (cs : List (Addr × Addr)) (K : PySem.W.Frag) (H : Hp) (a : Addr) (ns : List Int), ns.length ≤ n → (∀ p ∈ cs, H p.2 = some (.tbl #[])) → SqL K H a (ns.map V.int) → sp cs K [.ref a] H (fun v _ => v = .bl true) fun _ _ _ => False) :
    PySem.W.WalkO q loose XP YP l.row.toRowW d [] (fun f vs => PySem.call f vs) := by
  refine Att.attach_call hn hdf fun w s₀ s₁ mg mb fa o pm cd doc a vs ns G Y ho hd hcd hmg hobj hints hlen hg => ?_
  have KX := hY w _ Y
  obtain ⟨fd, cs, hT, nT, hC, hb, hF⟩ := F w mg fa _ Y KX G.T.g hmg
  exact law_callGT KX G.T.g G.T.b G.T.builtins G.T.nolimit hg hT nT hC G.T.bmain hobj hints (Nat.le_trans hlen hn2) hr hF hb fun H hH hS => hsp cs _ H a ns hlen hH hS
/-- the law's promise, the tables empty to begin with -/
def spLawT (cs : List (Addr × Addr)) (K : PySem.W.Frag) : Sp := fun vs H Q _ => ∃ (s : Addr) (ns : List Int), vs = [.ref s] ∧ SqL K H s (ns.map V.int) ∧ ns.length ≤ 63 ∧ (∀ p ∈ cs, H p.2 = some (.tbl #[])) ∧ ∀ H', Q (.bl true) H'
end Bf
namespace Bf
open PySem PySem.Spec PyProof.Rows L2
section
variable {K : PySem.W.Frag} {S SB SF : Sta} {L : List Addr} {ρ : List (Option Dt)} {P : Po} {tl : TE} {t : TS}
end
section
variable {K : PySem.W.Frag} {S S1 SB SF : Sta} {L : List Addr} {ρ : List (Option Dt)} {P : Po} {te : TE} {w : TS} {xs : List Dt}
/-- x = a new list; at the base what holds there -/
theorem so_newB {i : Nat} (h : EvN K S S1 ρ te xs) (k : ∀ p, (∀ (i : Nat) (p' : Addr) (zs : List Dt), ρ[i]? = some (some (Dt.lat p' zs)) → p' ≠ p) → Sg K S1 S1 SF [p] w (ρ.set i (some (.lat p xs))) P) : Sg K S SB SF L (tSeq (tAsg te (gName i)) w) ρ P := fun D σ B H b i s f =>
  h σ H i s _ fun p vs H1 H2 g1 i1 hp g2 i2 e r => k p (fun i p' zs e2 e3 => by
      obtain ⟨v, _, rv⟩ := (s.mono g1).val i _ e2
      obtain ⟨_, vs', hp', _⟩ := rv.latI
      rw [e3, hp] at hp'
      cases hp') D _ H1 H2 ⟨g2, i1, fun a ha => by rw [List.mem_singleton.mp ha]; exact hp⟩ i2 ((s.mono (g1.trans g2)).set (.lat e r) _) (f.mono (b.gr.trans g1))
end
section
variable {K : PySem.W.Frag} {a : Addr} {c : CT} {cs : List Int} {CB CR C : Addr}
end
end Bf
namespace Bf
open PySem PySem.Spec PyProof.Rows L2
/-! ## Styles, moments, rows -/
section
variable {K : PySem.W.Frag} {S S1 : Sta} {ds : List Dt} {ρ : List (Option Dt)} {o : Out} {E : XK} {CN CS CR : Addr}
/-! ### those that refuse -/
end
end Bf
namespace Bf
open PySem PySem.Spec PyProof.Rows L2
theorem so_re {K : PySem.W.Frag} {S SB SF : Sta} {L : List Addr} {ρ ρ' : List (Option Dt)} {P : Po} {w : TS} (e : ρ = ρ') (h : Sg K S SB SF L w ρ' P) : Sg K S SB SF L w ρ P := e ▸ h
section
variable {K : PySem.W.Frag} {a : Addr} {c : CT} {cs : List Int} {CN CR C : Addr}
end
end Bf
namespace Bf
open PySem PySem.Spec PyProof.Rows L2
/-! ## A list that grows once, right where it is made -/
section
variable {K : PySem.W.Frag} {S SB SF : Sta} {L : List Addr} {ρ : List (Option Dt)} {P : Po} {te : TE} {ta : TA} {w : TS} {d : Dt} {xs : List Dt} {j : Nat}
theorem so_newApp (hmu : S.Mu) (hj : j < ρ.length) (ha : EvA K S S ρ ta (Eq xs)) (hz : xs.length < 100000) (hx : nolA xs = true) (he : ∀ p, Ev K S S (ρ.set j (some (.lat p xs))) te (Eq d)) (hd : nol d = true) (q : ∀ p, Sg K S SB SF L w (ρ.set j (some (.lat p (xs ++ [d])))) P) :
    Sg K S SB SF L (tSeq (tAsg (tLst ta) (gName j)) (tSeq (tDrop (tBM K "list" rAppend (tVar j) (tCons te tNil))) w)) ρ P := fun D σ B H b i s f => by
  refine ha σ H i s _ fun vs ds H1 g1 i1 r1 e => ?_
  subst e
  have hl := r1.len
  have hsz : (100000 : Nat) ≤ sizeLine := by decide
  refine ⟨by omega, fun p hp => ?_⟩
  have sm : Same H1 (upd H1 p (.lst vs)) := same_new hp
  have s2 := ((s.mono g1).mono sm.gr).set (v := .ref p) (.lat upd_same (r1.mono sm.gr)) j
  have hjs : (σ.set j (some (V.ref p)))[j]? = some (some (V.ref p)) := List.getElem?_set_self (by rw [s.len]; exact hj)
  refine ⟨.ref p, hjs, .inl ⟨rfl, _, SqL.of upd_same⟩, ?_⟩
  refine he p _ _ (S.st i1 sm) s2 _ fun u d' H3 g3 i3 r3 e => ?_
  subst e
  have hp3 : H3 p = some (.lst vs) := g3 _ _ upd_same rfl
  refine ⟨p, vs, u, rfl, rfl, hp3, by omega, ?_⟩
  have ne : ∀ a o, H1 a = some o → a ≠ p := fun a o e z => by rw [z, hp] at e; cases e
  have g14 : Gr H1 (upd H3 p (.lst (vs ++ [u]))) := fun a o e dd => by
    rw [upd_ne (ne a o e)]
    exact g3 _ _ (by rw [upd_ne (ne a o e)]; exact e) dd
  have s4 := ((s.mono g1).mono g14).set (v := .ref p) (.lat upd_same ((r1.mono g14).app (.cons (r3.off hp3 hd) .nil))) j
  exact q p D _ B _ (b.up (g1.trans g14)) (hmu i1 (sm.gr.trans g3) hp hp3 i3) s4 f
end
/-! ### an error is told of by its kind and by what it was given -/
structure Ten where
  ratio : Addr
  table : Addr
  word : Addr
  burst : Addr
  receiver : Addr
  number : Addr
  paper : Addr
  style : Addr
  row : Addr
  text : Addr
def Ten.l (t : Ten) : List Addr := [t.ratio, t.table, t.word, t.burst, t.receiver, t.number, t.paper, t.style, t.row, t.text]
/-- C is the one at i, and no other -/
structure IsTen (K : PySem.W.Frag) (t : Ten) (C : Addr) (i : Nat) : Prop where
  at_ : t.l[i]? = some C
  is_ : ∀ j D, j < 9 → t.l[j]? = some D → PySem.W.kitOne K (.ref C) (.ref D) = some (decide (j = i))
  ex : PySem.W.exmAny K (.ref C) (t.l.map Value.ref) = some true
section
variable {K : PySem.W.Frag} {S S1 : Sta} {ds : List Dt} {ρ : List (Option Dt)} {o : Out} {E : XK} {CN CS CR : Addr} {a : Dt} {t : Ten}
end
/-! ### what is said -/
section
variable {K : PySem.W.Frag} {S S1 : Sta} {ds : List Dt} {ρ : List (Option Dt)} {o : Out} {E : XK} {d : Dt} {t : Ten}
end
end Bf
namespace Bf
open PySem PySem.Spec PyProof.Rows L2
mutual
theorem gd_pl : ∀ (n : Nat) (d : Dt), gd n d = true → pl d = true
  | _, .non, _ => rfl
  | _, .bl _, _ => rfl
  | _, .int _, _ => rfl
  | _, .str _, _ => rfl
  | n + 1, .lst xs, h => by
    simp only [gd, Bool.and_eq_true] at h
    unfold pl
    exact gdA_pl n xs h.1
  | n + 1, .tup xs, h => by
    simp only [gd, Bool.and_eq_true] at h
    unfold pl
    exact gdA_pl n xs h.1
  | 0, .lst xs, h => by simp [gd] at h
  | 0, .tup xs, h => by simp [gd] at h
  | n, .dic, h => by simp [gd] at h
  | n, .ins _ _ _, h => by simp [gd] at h
  | n, .raw _, h => by simp [gd] at h
  | n, .lat _ _, h => by simp [gd] at h
  | n, .err _ _ _, h => by simp [gd] at h
  | n, .dct _ _, h => by simp [gd] at h
  | n, .dti _ _ _, h => by simp [gd] at h
  | n, .dat _ _ _ _, h => by simp [gd] at h
  | n, .cel _ _, h => by simp [gd] at h
theorem gdA_pl : ∀ (n : Nat) (xs : List Dt), gdA n xs = true → plA xs = true
  | _, [], _ => rfl
  | n, x :: xs, h => by
    simp only [gdA, Bool.and_eq_true] at h
    unfold plA
    rw [gd_pl n x h.1, gdA_pl n xs h.2]
    rfl
end
section
variable {K : PySem.W.Frag} {S S1 : Sta} {ds : List Dt} {ρ : List (Option Dt)} {d : Dt}
end
end Bf
namespace Bf
open PySem PySem.Spec PyProof.Rows L2
/-! ### what is due of a row -/
section
variable {K : PySem.W.Frag} {S S1 : Sta} {ds : List Dt} {ρ : List (Option Dt)} {d : Dt}
end
/-! ### repr, where an empty dict may stand -/
end Bf
namespace Bf
open PySem PySem.Spec PyProof.Rows L2
/-! ## The draws -/
section
variable {K : PySem.W.Frag} {S S1 SB SF : Sta} {L : List Addr} {ρ : List (Option Dt)} {P : Po} {t w : TS} {ta : TA}
end
section
variable {K : PySem.W.Frag} {a : Addr} {c : CT} {cs : List Int} {n : Nat} {ds : List Dt}
end
/-! ### a style -/
/-! ### an odd row -/
section
variable {K : PySem.W.Frag} {a : Addr} {c : CT} {cs : List Int} {n : Nat} {ds : List Dt}
end
end Bf
namespace Bf
open PySem PySem.Spec PyProof.Rows L2
/-! ## The law of styles and rows -/
section
variable {K : PySem.W.Frag} {S S1 : Sta} {ρ : List (Option Dt)} {tl : TA} {n m : Nat} {ds es : List Dt} {R : List Dt → Out → Prop} {E : XK} {d x : Dt} {o : Out} {T : List (Addr × Str)} {RR : Out → Dt → Prop}
/-- what is said of a call -/
theorem ev_lamX (hT : TabS S T) (ha : ∀ S' : Sta, EvA K S' S' ρ tl (Eq ds)) (hn : ds.length = n) (hp : R ds o) (hR : RR o x) : Ev K S S ρ (LamX.tLam T (TTs K RR) (fun E => tCall (spX K n R) [] E tl)) (Eq x) := by
  cases o with
  | ok d => exact ev_lamOk hT (fun S' E le => ev_callX (ha S') hn hp) hR
  | er C f d => exact ev_lamEr hT (fun S' E le hw => er_callX (ha S') hn hp hw) hR
end
section
variable {K : PySem.W.Frag} {a : Addr} {c : CT} {cs : List Int} {t : Ten}
end
end Bf
namespace Bf
open PySem PySem.Spec PyProof.Rows L2
/-! ## C.m(..), m a classmethod; c(..), c a local that holds a class -/
section
variable {X : Cx} {k : Nat} {f C p g : Addr} {fd : FuncData} {ps : List Str} {sp : Sp} {E : XK} {x m : Str} {q pos apos : Pos} {e o : Expr} {es : List Expr} {t : TA} {ta : TE} {dvs : List V} {ds : List Value} {i : Nat} {mc : Value} {pl : Sem Bool}
end
end Bf
namespace Bf
open PySem PySem.Spec PyProof.Rows L2
/-! ## defs whose exceptions have no context; raise C(e) from None where an error is handled -/
structure GOkN (P : Program) (w : World) (K : PySem.W.Frag) (mg : Str → Option Value) (base : Heap) (k : Nat) (f : Addr) (fd : FuncData) (ps : List Str) (sp : Sp) : Prop where
  len : ∀ vs H Q E, sp vs H Q E → vs.length = ps.length
  go : ∀ (A : Around) (out : List Env) (s : Shared) (H : Hp) (args : Args) (us : List Value) (vs : List V) (Q : VK) (E : XK),
    Room k A → A.guards = some [] → Env0 P w K mg base A out s H → BindsTo s fd args (ps.zip us) → Vals vs us → sp vs H Q E →
    codeAny (model P w) A (.call (.ref f) args) (CR (L2N.CX P w) out P w H s Q E) s
section
variable {P : Program} {w : World} {K : PySem.W.Frag} {mg : Str → Option Value} {base : Heap}
theorem cxN_cx {out : List Env} {H : Hp} {s s' : Shared} {E : XK} {u : Value} (c : L2N.CX P w out H s E u s') : L2.CX P w out H s E u s' := by
  obtain ⟨a, B, H', cls, d, rfl, fl, r⟩ := c
  exact ⟨a, B, H', cls, d, rfl, L2H.flyingZ_imp (fun o z => z.zc) fl, r⟩
theorem GOkN.g {k : Nat} {f : Addr} {fd : FuncData} {ps : List Str} {sp : Sp} (G : GOkN P w K mg base k f fd ps sp) : GOk P w K mg base k f fd ps sp :=
  ⟨G.len, fun A out s H args us vs Q E r hg e b rv h => codeAny_mono (G.go A out s H args us vs Q E r hg e b rv h) fun r s' q => match r, q with
    | .error er, q => cxN_cx q
    | .ok (.ret u), q => q
    | .ok .next, q => q
    | .ok .brk, q => q
    | .ok .cont, q => q⟩
end
section
variable {X : Cx} {C fI : Addr} {x f : Str}
end
section
variable {X : Cx} {k : Nat} {f C p g : Addr} {fd : FuncData} {ps : List Str} {sp : Sp} {E : L2.St → XK} {m : Str} {q pos apos : Pos} {e o : Expr} {es : List Expr} {t : TA} {ta : TE} {mc : Value} {pl : Sem Bool}
end
/-! ### over data -/
section
variable {K : PySem.W.Frag} {S S1 SB SF : Sta} {L : List Addr} {ρ : List (Option Dt)} {P : Po} {tl : TA} {w : TS} {n : Nat} {R : List Dt → Out → Prop} {E : XK} {C D0 : Addr} {f : Str} {d : Dt} {ds : List Dt} {c : TT} {u : TS}
end
end Bf
namespace Bf
open PySem PySem.Spec PyProof.Rows L2
/-! ## a comprehension whose step may raise: what leaves its block -/
theorem note_same {x : Value} {e1 e2 : Env} (h : e1.frame = e2.frame) : noteFrame x e1 = noteFrame x e2 := by
  unfold noteFrame PySem.frameOf
  rw [h]
/-- behind the block, whose names stand at ce -/
def blkEnd (M : Model) (A : Around) (E : Value → Shared → Prop) (use : Option (Value → Sem Unit)) (Q : Value → Shared → Prop) (acc : Value) (ce : Env) : Result → Shared → Prop
  | .ok f, s' => compPost M A E use Q acc ce.locals (.ok f) s'
  | .error x, s' => ∃ m, s'.heap.Ns ce.locals m ∧ ∀ h2, Heap.SameBut ce.locals s'.heap h2 → wpAny M A (passOn "comprehension.variables-let-go" x ce : Sem Value) (fun _ _ => False) E { s' with heap := h2 }
section
variable {M : Model} {A : Around} {E : Value → Shared → Prop} {s : Shared} {env : Env}
theorem run_compr {e : Expr} {sc : Scope} {pos : Pos} {mk one : Sem Value} {g : Comprehension} {gs : List Comprehension} {cl : List (Str × Addr)} {use : Option (Value → Sem Unit)} {Q : Value → Shared → Prop}
    (c1 : clausesOf e = g :: gs) (c2 : ∀ x, foldedSetIterable g.iter env x = pure x) (c3 : closureFor sc env = pure cl) (c4 : sc.kind = .function) (c5 : ∀ x ∈ sc.names, x.2 = .local → sc.names.lookup x.1 = some .local)
    (h : wpAny M A one (fun x s1 => wpAny M A (pyIter x) (fun it s2 => wpAny M A mk (fun acc s3 => wpAny M A (newFunctionEnv sc env.globals cl [] env.qual none .none (some env)) (fun ce s4 =>
        codeAny M A (.compStart e 0 it acc { ce with scope := relabel sc env }) (blkEnd M A E use Q acc { ce with scope := relabel sc env }) s4) E s3) E s2) E s1) E s) :
    wpAny M A (comprehension e sc env pos mk false one use) Q E s := by
  unfold comprehension
  rw [c3, c1]
  refine wpAny_bind (wpAny_mono h (fun x s1 k1 => ?_) fun _ _ z => z)
  refine wpAny_bind (wpAny_standAt (wpAny_bind (wpAny_of_eq (c2 x) (wpAny_bind (wpAny_holding (wpAny_mono k1 (fun it s2 k2 => ?_) fun _ _ z => z))))))
  refine wpAny_standIf (wpAny_bind (wpAny_mono k2 (fun acc s3 k3 => ?_) fun _ _ z => z))
  refine wpAny_bind (wpAny_pure (wpAny_bind (wpAny_mono k3 (fun ce s4 k4 => ?_) fun _ _ z => z)))
  dsimp only
  generalize hvs : (sc.names.filter fun x => (x.2 == .local || x.2 == .cell) && x.1 != (".0" : Str)) = vs
  have hl : ∀ x ∈ vs, x.2 = .local → Env.kindOf { ce with scope := relabel sc env } x.1 = some .local := fun x hx e => by
    rw [← hvs] at hx
    exact lookup_relabel_local (c5 x (List.mem_filter.mp hx).1 e)
  refine wpAny_holding (wpAny_bind (wpAny_attempt (wpAny_holding (wpAny_run (codeAny_mono k4 fun r s5 k5 => ?_)))))
  match r, use, k5 with
  | .ok f, none, ⟨m, n1, q⟩ =>
    exact wpAny_bind (wpAny_holding (wpAny_comp_letGo (cenv := { ce with scope := relabel sc env }) c4 _ s5 m (fun x hx => hl x (List.mem_reverse.mp hx)) n1 fun h2 m2 _ sb => wpAny_pure (q h2 sb)))
  | .ok f, some u, k5 =>
    refine wpAny_bind (wpAny_rule (wpAny_bind (wpAny_holding (wpAny_mono (show wpAny M A (u acc) _ E s5 from k5) (fun _ s6 k6 => ?_) fun _ _ z => z))))
    obtain ⟨m, n1, q⟩ := k6
    refine wpAny_bind (wpAny_comp_letGo (cenv := { ce with scope := relabel sc env }) c4 _ s6 m (fun x hx => ?_) n1 fun h2 m2 _ sb => wpAny_pure (q h2 sb))
    rcases List.mem_append.mp hx with z | z
    · exact hl x (List.mem_reverse.mp (List.mem_of_mem_drop z))
    · exact hl x (List.mem_reverse.mp (List.mem_of_mem_take z))
  | .error x, u, ⟨m, n1, q⟩ =>
    exact wpAny_bind (wpAny_holding (wpAny_comp_letGo (cenv := { ce with scope := relabel sc env }) c4 _ s5 m (fun x hx => hl x (List.mem_reverse.mp hx)) n1 fun h2 m2 _ sb => wpAny_mono (q h2 sb) (fun _ _ f => f.elim) fun _ _ z => z))
end
theorem fun_but {h h' base base' : Heap} {C : Addr} (hs : ∀ b, b ≠ C → h'.get? b = h.get? b) (hb : ∀ b, base.get? b = none → base'.get? b = none) : ∀ {l : List Env}, C ∉ frs l → h.FunFrames base l → h'.FunFrames base' l
  | [], _, _ => trivial
  | env :: l, hc, ⟨k1, ⟨L, o, f1, f2, f3, f4⟩, k2⟩ => by
    have e : frs (env :: l) = L :: frs l := by show List.filterMap _ (env :: l) = _; rw [List.filterMap_cons, f1]; rfl
    rw [e] at hc
    refine ⟨k1, ⟨L, o, f1, hb L f2, ?_, f4⟩, fun_but hs hb (fun z => hc (List.mem_cons_of_mem _ z)) k2⟩
    rw [hs L (fun z => hc (by rw [z]; exact List.mem_cons_self))]
    exact f3
section
variable {X : Cx} {W : XK} {pins pins' : List (Addr × Obj)} {σ σ' : L2.St} {H3 H' : Hp} {s3 s' s2 : Shared} {fp : List Addr} {sc : Scope} {ce : Env} {xe' : Value → Shared → Prop} {use : Option (Value → Sem Unit)} {Qf : Value → Shared → Prop} {acc x : Value}
/-- a call's exception leaves the block and is in the air of the def -/
theorem blk_out (hfs : X.stack = X.env :: X.outer) (hfe : X.env.frame = some X.env.locals) (tk : L2.Takes X (fun cls d _ H => W cls d H)) (I3 : Inv X pins σ H3 s3) (cL : ce.locals = s3.heap.objs.size) (cF : ce.frame = X.env.frame)
    (f3 : ∀ b ∈ fp, FpOk X pins H3 b ∧ b < s3.heap.objs.size) (I' : Inv { X.blk s3 H3 sc ce fp with xe := xe' } pins' σ' H' s') (c : L2.CX X.prog X.w X.stack H' s' W x s2) :
    notedBy (model X.prog X.w) X.A ce (fun e s => blkEnd (model X.prog X.w) X.A X.xe use Qf acc ce (.error e) s) x s2 := by
  obtain ⟨a, B, Hn, cls, d, rfl, fl, hok, ub, na, os, ag, hW⟩ := c
  obtain ⟨m, hm, _⟩ := I'.loc
  obtain ⟨oC, es, ep, hoC, rest⟩ := hm
  have hoC : s'.heap.get? ce.locals = some oC := hoC
  have nHC : H' ce.locals = none := I'.free
  have hfr : X.A.frames = some (X.env :: X.outer) := by rw [I3.ok.frames, hfs]
  have nC : ce.locals ∉ frs X.stack := fun hb => by
    rcases List.mem_cons.mp (I3.stkSub _ hb) with z | z
    · have := I3.lt
      rw [← z, cL] at this
      exact absurd this (Nat.lt_irrefl _)
    · exact I3.nofs (Nat.le_of_eq cL.symm) z
  have hBC : B.get? ce.locals = some oC := ub.keep _ oC hoC nHC nC
  have hnC : Hn ce.locals = none := ub.free _ oC hoC nHC
  have fl' : HandSPX.FlyingZ B (X.env :: X.outer) a (Zc cls d) s2.heap := by rw [← hfs]; exact fl
  show wpAny _ X.A (noteFrame (.ref a) ce) _ _ s2
  rw [note_same cF]
  refine HandSPX.looks_onZ Zc.steady hfr hfe fl' fun h1 hd1 up1 => ?_
  refine ⟨m, ⟨oC, es, ep, hd1.1 _ _ hBC, rest⟩, fun h2 sb => ?_⟩
  have h2e : ∀ b, b ≠ ce.locals → h2.get? b = h1.get? b := fun b hb => sb.2 b hb
  obtain ⟨B2, b1, b2⟩ := restrict B fun b => decide (b ≠ ce.locals)
  have Bk : ∀ b, b ≠ ce.locals → B2.get? b = B.get? b := fun b hb => b1 b (decide_eq_true hb)
  have BC : B2.get? ce.locals = none := b2 _ (by simp)
  have Bn : ∀ b, B.get? b = none → B2.get? b = none := fun b hb => by
    by_cases z : b = ce.locals
    · rw [z]; exact BC
    · rw [Bk b z]; exact hb
  have neB : ∀ b, B.get? b = none → b ≠ ce.locals := fun b hb z => by rw [z, hBC] at hb; cases hb
  have hd2 : HandSPX.HeldZ B2 (X.env :: X.outer) a (Zc cls d) X.env.locals h2 := by
    obtain ⟨w1, w2, w3, oe, vs, T, oT, ts, t1, t2, t3, t4, t5, t6, t7, t8, t9⟩ := hd1
    refine ⟨fun b o e => ?_, Bn a w2, fun_but h2e Bn (by rw [← hfs]; exact nC) w3, oe, vs, T, oT, ts, by rw [h2e a (neB a w2)]; exact t1, t2, t3, t4, Bn T t5, t6, by rw [h2e T (neB T t5)]; exact t7, t8, t9⟩
    have hb : b ≠ ce.locals := fun z => by rw [z, BC] at e; cases e
    rw [h2e b hb]
    rw [Bk b hb] at e
    exact w1 b o e
  obtain ⟨_, _, _, oe, vs, T, oT, ts, t1, t2, t3, t4, _⟩ := id hd2
  unfold PySem.passOn
  refine wpAny_bind (wpAny_field t1 t3 t4 ?_)
  rw [if_neg (by simp : ¬ ((Value.ref T == Value.none) = true))]
  have fin : wpAny (model X.prog X.w) X.A (setFlight (.ref a) ce.frame) (fun _ s4 => wpAny (model X.prog X.w) X.A (throw (.ref a) : Sem Value) (fun _ _ => False) X.xe s4) X.xe { s2 with heap := h2 } := by
    rw [cF, hfe]
    refine HandSPX.setFlight_onZ (s := { s2 with heap := h2 }) hd2 fun h4 hd4 up4 => wpAny_throw (tk _ _ ?_)
    -- the state without the exception
    obtain ⟨G, g1, g2⟩ := restrict h4 fun b => (B2.get? b).isSome || decide (b ∈ frs X.stack)
    have gB : ∀ b o, B2.get? b = some o → G.get? b = some o := fun b o e => (g1 b (by simp [e])).trans (hd4.1 b o e)
    have gF : ∀ b, b ∈ frs X.stack → G.get? b = h4.get? b := fun b hb => g1 b (by simp [hb])
    have gO : ∀ b o, G.get? b = some o → h4.get? b = some o ∧ ((B2.get? b).isSome = true ∨ b ∈ frs X.stack) := fun b o e => by
      by_cases q : ((B2.get? b).isSome || decide (b ∈ frs X.stack)) = true
      · rw [g1 b q] at e
        rw [Bool.or_eq_true, decide_eq_true_eq] at q
        exact ⟨e, q⟩
      · rw [g2 b (by simpa using q)] at e
        cases e
    have old : ∀ {b : Addr} {o : Obj}, s3.heap.get? b = some o → b ≠ ce.locals := fun {b o} e z => by
      have := Heap.lt_size e
      rw [z, cL] at this
      exact absurd this (Nat.lt_irrefl _)
    have slotF : ∀ b o, s3.heap.get? b = some o → b ∈ frs X.stack → b ∉ fp → ∃ sl, G.get? b = some { o with slots := sl } := fun b o e hb hx => by
      obtain ⟨_, o0, e0, nf⟩ := I3.stack.mem hb
      rw [e] at e0
      cases e0
      obtain ⟨l1, q1⟩ := I'.base.slot b o e (I'.ok.frf b hb) hb hx
      obtain ⟨l2, q2⟩ := ub.slot b _ q1 hb
      obtain ⟨l3, q3⟩ := up1 b _ q2 nf
      have q4 : h2.get? b = _ := (h2e b (old e)).trans q3
      obtain ⟨l5, q5⟩ := up4 b _ q4 nf
      exact ⟨l5, (gF b hb).trans q5⟩
    have hok2 : HOk X.prog X.w Hn B2 := fun b u e => by
      have nit : ∀ (y : Addr) (v : HO), Hn y = some v → y ≠ ce.locals := fun y v q z => by rw [z, hnC] at q; cases q
      refine (hok b u e).stay (fun y v hc q => ?_) (fun _ q => q) fun _ _ q => q
      rw [Bk y]
      · exact q
      · rcases hc with z | z
        · rw [z]; exact nit b u e
        · exact nit y _ z
    refine ⟨a, B2, { s' with heap := G, gens := s2.gens, drawn := s2.drawn, toks := s2.toks }, pins, σ, Hn, cls, d, rfl, ?_, fun b o e hb => ?_, Heap.UpToSlots.of_keeps fun b o e => (gO b o e).1, .inr (.inr (by rw [hfs]; exact hd4)), na, os, ag, hW⟩
    · refine I3.call' (ch := fp) I'.os ⟨fun b o e n hb hx => ?_, fun b o e n hb hx => slotF b o e hb hx, fun b o e n hx => ?_, fun b o e hx => ?_, fun b xs e => ub.tups b xs (I'.base.tups b xs e), fun b o u e => ub.frzs b o u (I'.base.frzs b o u e), fun b ps e => ?_⟩ (hok2.kept gB) ag
        fun b hb => ⟨(f3 b hb).1.2.2.2.1, (f3 b hb).1.2.1, (f3 b hb).1.2.2.2.2.1, (f3 b hb).1.2.2.2.2.2⟩
      · refine gB b o ?_
        rw [Bk b (old e)]
        exact ub.keep b o (I'.base.keep b o e n hb hx) (I'.base.free b o e n hx) hb
      · obtain ⟨o', q⟩ := I'.base.there b o e hx
        exact ub.free b o' q (I'.base.free b o e n hx)
      · by_cases hb : b ∈ frs X.stack
        · obtain ⟨sl, q⟩ := slotF b o e hb hx
          exact ⟨_, q⟩
        · obtain ⟨o', q⟩ := I'.base.there b o e hx
          obtain ⟨o2, q2⟩ := ub.there b o' q hb
          exact ⟨o2, gB b o2 (by rw [Bk b (old e)]; exact q2)⟩
      · obtain ⟨m1, q1⟩ := I'.base.tbls b ps e
        obtain ⟨m2, q2⟩ := ub.tbls b _ q1
        exact ⟨m1 ++ m2, by rw [q2, Array.append_assoc]⟩
    · obtain ⟨e', z⟩ := gO b o e
      rcases z with z | z
      · obtain ⟨o', q⟩ := Option.isSome_iff_exists.mp z
        have := hd4.1 b o' q
        rw [e'] at this
        cases this
        exact q
      · exact absurd z hb
  first
    | exact wpAny_bind (wpAny_pure (wpAny_bind fin))
    | exact wpAny_bind fin
end
end Bf
namespace Bf
open PySem PySem.Spec PyProof.Rows L2
/-! ## a comprehension whose step may raise -/
/-- a call within the block let an exception out -/
def XB (X Y : Cx) (W : XK) (u : Value) (s' : Shared) : Prop := ∃ (pins : List (Addr × Obj)) (σ : L2.St) (H : Hp) (s : Shared), Inv Y pins σ H s ∧ L2.CX X.prog X.w X.stack H s W u s'
/-- the block's context -/
abbrev bCx (X : Cx) (W : XK) (s : Shared) (H : Hp) (sc : Scope) (ce : Env) (fp : List Addr) : Cx := { X.blk s H sc ce fp with xe := XB X (X.blk s H sc ce fp) W }
theorem inv_xe {Y : Cx} {xe1 xe2 : Value → Shared → Prop} {pins : List (Addr × Obj)} {σ : L2.St} {H : Hp} {s : Shared} (I : Inv { Y with xe := xe1 } pins σ H s) : Inv { Y with xe := xe2 } pins σ H s :=
  ⟨⟨I.ok.mod, I.ok.kind, I.ok.glob, I.ok.blt, I.ok.above, I.ok.inj, I.ok.has, I.ok.cab, I.ok.hd, I.ok.frames, I.ok.stk, I.ok.exf, I.ok.bs, I.ok.bsz, I.ok.noex, I.ok.exfs, I.ok.funs, I.ok.frf⟩, I.os, I.bare, I.base, I.loc, I.cell, I.free, I.freeC, I.pin, I.hok, I.len⟩
section
variable {X : Cx} {W : XK} {s : Shared} {H : Hp} {sc : Scope} {ce : Env} {fp : List Addr}
end
/-- the step's parts, in the block -/
structure BlkP (X : Cx) (W : XK) (sc : Scope) (elt tg : Expr) (ifs : List Expr) (g : TG) (tt : TT) (te : TE) : Prop where
  g : ∀ (s : Shared) (H : Hp) (C : Addr) (cl : List (Str × Addr)) (fp : List Addr), PG (bCx X W s H sc (compEnvC sc cl C X.env) fp) tg g
  t : ∀ (s : Shared) (H : Hp) (C : Addr) (cl : List (Str × Addr)) (fp : List Addr), PTs (bCx X W s H sc (compEnvC sc cl C X.env) fp) ifs tt
  e : ∀ (s : Shared) (H : Hp) (C : Addr) (cl : List (Str × Addr)) (fp : List Addr), PE (bCx X W s H sc (compEnvC sc cl C X.env) fp) elt te
section
variable {X : Cx} {W : XK}
theorem lc_raise {pins : List (Addr × Obj)} {s : Shared} {σ : L2.St} {H : Hp} {Q : VK} {elt tg iter : Expr} {ifs : List Expr} {sc : Scope} {own : List (Str × Nat)} {pos pos' : Pos} {wi : TI} {g : TG} {tt : TT} {te : TE} {use : Option (Value → Sem Unit)} {Qf : Value → Shared → Prop}
    (hfs : X.stack = X.env :: X.outer) (hfe : X.env.frame = some X.env.locals) (tk : L2.Takes X (fun cls d _ H => W cls d H)) (hc : X.calm = true) (hN : X.N.Nodup) (I : Inv X pins σ H s) (hi : PI X tg iter wi) (ok : BlkOk X.N X.env.scope sc own) (bp : BlkP X W sc elt tg ifs g tt te)
    (hs : ∀ x, foldedSetIterable iter X.env x = pure x) (h : tLc wi g tt te (own.map (·.2)) σ H Q)
    (out : ∀ D C s1 m H1, Inv X pins σ H1 s1 → Q (.ref D) H1 → s1.heap.Ns C m → FpOk X pins H1 C → compPost (model X.prog X.w) X.A X.xe use Qf (.ref D) C (.ok .next) s1) :
    wpAny (model X.prog X.w) X.A (comprehension (.ListComp elt [⟨tg, iter, ifs, 0⟩] sc pos) sc X.env pos' (newList []) false (eval iter X.env) use) Qf X.xe s := by
  have hfree : ∀ y ∈ sc.names, y.2 = .free → ∃ c, X.env.cells.lookup y.1 = some c := fun y hy e => I.ok.has _ (ok.free y hy e)
  refine run_compr (use := use) rfl hs (closure_ok hfree) ok.kind (fun y hy e => (ok.uniq y hy).trans (by rw [e])) (thn (hi.run pins s σ H _ I h) fun xv s1 hx => thn hx fun itv s2 hx2 => ?_)
  obtain ⟨it, fp, tn, J, H2, e, I2, T, st2, f2, q⟩ := hx2
  subst e
  refine wpAny_newObj_type (newEnv_comp ?_) (by show 0 ≤ sizeLine; decide)
  generalize hD : s2.heap.objs.size = D
  obtain ⟨V0, ⟨m0, w0⟩, turn⟩ := q D (I2.hok.fresh (Nat.le_of_eq hD))
  -- the list that grows
  generalize hs3 : ({ s2 with heap := s2.heap.push { cls := .type "list", data := .seq ([] : List Value).toArray } } : Shared) = s3
  have e3 : s3.heap = s2.heap.push { cls := .type "list", data := .seq ([] : List Value).toArray } := by rw [← hs3]
  have I3 : Inv X pins σ (upd H2 D (.lst [])) s3 := by
    subst hs3
    subst hD
    exact I2.laid (t' := s2.toks) (fun _ _ z => Heap.get?_push_of_some _ z) (Nat.le_refl _) ⟨Nat.zero_le _, [], 0, .nil, Heap.get?_push_size _ rfl⟩
  have f3 : ∀ b ∈ fp, FpOk X pins (upd H2 D (.lst [])) b ∧ b < s3.heap.objs.size := fun b hb => by
    obtain ⟨o, eo, _⟩ := T.obj _ _ st2 b hb
    have hlt := Heap.lt_size eo
    refine ⟨⟨?_, (f2 b hb).2⟩, ?_⟩
    · rw [upd_ne (Nat.ne_of_lt (Nat.lt_of_lt_of_eq hlt hD))]
      exact (f2 b hb).1
    · rw [e3, Heap.size_push]
      exact Nat.lt_succ_of_lt hlt
  have st3 : tn 0 s3.heap := T.keep _ _ _ st2 fun b _ o z => by rw [e3]; exact Heap.get?_push_of_some _ z
  have I4 := block_start I3 ok hN f3
  generalize hcl : cellsFrom (s3.heap.objs.size + 1) sc.names (cloFrom X.env.cells sc.names []) = cl at I4
  generalize hH3 : upd H2 D (.lst []) = H3 at I3 I4 w0 f3
  have pg := bp.g s3 H3 s3.heap.objs.size cl fp
  have pt := bp.t s3 H3 s3.heap.objs.size cl fp
  have pe := bp.e s3 H3 s3.heap.objs.size cl fp
  have goal : codeAny (model X.prog X.w) X.A (.compStart (.ListComp elt [⟨tg, iter, ifs, 0⟩] sc pos) 0 (.ref it) (.ref D) (compEnvC sc cl s3.heap.objs.size X.env)) (blkEnd (model X.prog X.w) X.A X.xe use Qf (.ref D) (compEnvC sc cl s3.heap.objs.size X.env)) { s3 with heap := pushCells (s3.heap.push { cls := .type "dict", data := .dict #[] }) sc.names } := by
    have cF : (compEnvC sc cl s3.heap.objs.size X.env).frame = X.env.frame := rfl
    have cL : (compEnvC sc cl s3.heap.objs.size X.env).locals = s3.heap.objs.size := rfl
    generalize compEnvC sc cl s3.heap.objs.size X.env = ce at I4 pg pt pe cF cL ⊢
    generalize hs4 : ({ s3 with heap := pushCells (s3.heap.push { cls := .type "dict", data := .dict #[] }) sc.names } : Shared) = s4 at I4 ⊢
    have I4 : Inv (bCx X W s3 H3 sc ce fp) [] (wipe σ (own.map (·.2))) H3 s4 := inv_xe I4
    have st4 : tn 0 s4.heap := T.keep _ _ _ st3 fun b _ o z => by rw [← hs4]; exact pushCells_keeps _ _ _ _ (Heap.get?_push_of_some _ z)
    -- what flies out of the block
    have fly : ∀ u sx, XB X (X.blk s3 H3 sc ce fp) W u sx → notedBy (model X.prog X.w) X.A ce (fun e s => blkEnd (model X.prog X.w) X.A X.xe use Qf (.ref D) ce (.error e) s) u sx := fun u sx ⟨_, _, _, _, Ix, c⟩ => blk_out (xe' := fun _ _ => False) hfs hfe tk I3 cL cF f3 Ix c
    have thB : ∀ {α : Type} {t : Sem α} {R R' : α → Shared → Prop} {sx : Shared}, wpAny (model X.prog X.w) X.A t R (bCx X W s3 H3 sc ce fp).xe sx → (∀ a sy, R a sy → R' a sy) → wpAny (model X.prog X.w) X.A t R' (notedBy (model X.prog X.w) X.A ce (fun e s => blkEnd (model X.prog X.w) X.A X.xe use Qf (.ref D) ce (.error e) s)) sx := fun k1 k2 => wpAny_mono k1 k2 fly
    have stat : ∀ {σ' : L2.St} {H' : Hp} {sx : Shared}, Inv (bCx X W s3 H3 sc ce fp) [] σ' H' sx → (∀ b ∈ fp, H' b = none) → ∀ b ∈ fp, FpOk (bCx X W s3 H3 sc ce fp) [] H' b := fun {σ' H' sx} Ix hn b hb =>
      ⟨hn b hb, (Ix.ok.exf b hb).1, Ix.ok.exfs b hb, .inl hb, fun x c z => (Ix.ok.exf b hb).2 x c z, fun p hp => absurd (show p ∈ ([] : List (Addr × Obj)) ++ [] from hp) (by simp)⟩
    have loop : codeAny (model X.prog X.w) X.A (.compLoop (.ListComp elt [⟨tg, iter, ifs, 0⟩] sc pos) 0 (.ref it) (.ref D) ce) (blkEnd (model X.prog X.w) X.A X.xe use Qf (.ref D) ce) s4 := by
      refine compLoop_any (fun n sx => ∃ i Hx, Inv (bCx X W s3 H3 sc ce fp) [] (wipe σ (own.map (·.2))) Hx sx ∧ tn i sx.heap ∧ (∀ b ∈ fp, Hx b = none) ∧ V0 i n Hx) ?_ m0 ⟨0, H3, I4, st4, fun b hb => (f3 b hb).1.1, w0⟩
      rintro n s5 ⟨i, H5, I5, st5, n5, w5⟩
      rcases turn i n H5 w5 with ⟨stop, qq⟩ | ⟨go, Nx, hNx, step⟩
      · refine thnF (T.done (bCx X W s3 H3 sc ce fp) rfl rfl rfl hc i [] s5 _ H5 (fun _ _ => False) I5 (stat I5 n5) st5 stop) fun r s6 ⟨hr, I6⟩ => ?_
        subst hr
        have I7 : Inv X pins σ H5 s6 := I3.call' (ch := fp) I6.os I6.base I6.hok I6.bare fun b hb => ⟨(f3 b hb).1.2.2.2.1, (f3 b hb).1.2.1, (f3 b hb).1.2.2.2.2.1, (f3 b hb).1.2.2.2.2.2⟩
        obtain ⟨m, hn, _⟩ := I6.loc
        have hn : s6.heap.Ns ce.locals m := hn
        have nC : H5 ce.locals = none := I6.free
        rw [cL] at nC
        have := out D s3.heap.objs.size s6 m H5 I7 qq (by rw [← cL]; exact hn) (I3.fpOk (Nat.le_refl _) nC)
        show compPost (model X.prog X.w) X.A X.xe use Qf (.ref D) ce.locals (.ok .next) s6
        rw [cL]
        exact this
      · refine thnF (T.item (bCx X W s3 H3 sc ce fp) rfl rfl rfl hc i [] s5 _ H5 (fun _ _ => False) I5 (stat I5 n5) st5 go) fun r s6 ⟨u, hr, h6⟩ => ?_
        subst hr
        refine thnF h6 fun _ s7 ⟨x, H7, I7, r7, y7, st7, n7⟩ => ?_
        have I7' := I7.pinned (stat I7 n7) (T.obj _ _ st7)
        refine thB (pg.run _ s7 _ H7 x u _ I7' r7 (step x H7 y7)) fun _ s8 ⟨σ8, H8, I8, hw8, q8⟩ => ?_
        refine thB (pt.run _ s8 σ8 H8 _ I8 q8) fun b s9 ⟨H9, I9, q9⟩ => ?_
        have fin : ∀ {sx : Shared} {Hx : Hp}, Inv (bCx X W s3 H3 sc ce fp) ([] ++ pinsAt fp s7.heap) σ8 Hx sx → Nx Hx → ∃ m, m < n ∧ ∃ i Hx, Inv (bCx X W s3 H3 sc ce fp) [] (wipe σ (own.map (·.2))) Hx sx ∧ tn i sx.heap ∧ (∀ b ∈ fp, Hx b = none) ∧ V0 i m Hx := fun {sx Hx} Ix nx => by
          obtain ⟨m', hm, w'⟩ := hNx Hx nx
          have at7 : ∀ b ∈ fp, ∀ o, s7.heap.get? b = some o → sx.heap.get? b = some o ∧ Hx b = none := fun b hb o eo => by
            have z := Ix.pin (b, o) (List.mem_append_right _ (List.mem_append_right _ (mem_pinsAt hb eo)))
            exact ⟨z.1, z.2.1⟩
          refine ⟨m', hm, i + 1, Hx, (Ix.unpinned (pins := [])).weak (by rw [← hw8, wipe_length]) (fun j v ev => ?_), T.keep _ _ _ st7 fun b hb o eo => (at7 b hb o eo).1, fun b hb => ?_, w'⟩
          · rw [← hw8] at ev
            exact (wipe_some ev).1
          · obtain ⟨o, eo, _⟩ := T.obj _ _ st7 b hb
            exact (at7 b hb o eo).2
        cases b with
        | false =>
          simp only [Bool.false_eq_true, if_false] at q9 ⊢
          exact fin I9 q9
        | true =>
          simp only [if_true] at q9 ⊢
          refine thB (pe.run _ s9 σ8 H9 _ I9 q9) fun z s10 ⟨yv, H10, I10, r10, acc, hD10, hz10, nx⟩ => ?_
          exact app_ok (X := bCx X W s3 H3 sc ce fp) I10 hD10 hz10 r10 fun s11 I11 => fin I11 nx
    exact codeAny_compStart_list loop (T.self X.A 0 _ _ _ st4 loop)
  exact goal
end
end Bf
namespace Bf
open PySem PySem.Spec PyProof.Rows L2
/-! ## a list of lambdas: each function object is pinned from its making on -/
section
variable {X : Cx} {pins : List (Addr × Obj)} {σ : L2.St} {H : Hp} {s : Shared}
theorem pin_more {f : Addr} {o : Obj} (I : Inv X pins σ H s) (e : s.heap.get? f = some o) (hf : ∃ fd, o.data = .func fd) (hn : H f = none) (hfr : f ∉ frs X.stack) : Inv X (pins ++ [(f, o)]) σ H s :=
  I.pins_of fun p hp => (List.mem_append.mp hp).elim (fun z => I.pin p (List.mem_append_right _ z)) fun z => by
    rw [List.mem_singleton] at z
    subst z
    obtain ⟨fd, hd⟩ := hf
    refine ⟨e, hn, fun z => ?_, fun z => hfr ?_, fun v z => ?_⟩
    · obtain ⟨m, ⟨ob, es, ep, ho, hc, _⟩, _⟩ := I.loc
      have z : f = X.env.locals := z
      rw [← z, e] at ho
      cases ho
      rw [hd] at hc
      cases hc
    · have z : f ∈ X.fs := z
      rcases I.ok.stk with q | ⟨q, _⟩
      · rw [q]; exact z
      · rw [q]
        unfold frs
        rw [List.filterMap_cons]
        split
        · exact z
        · exact List.mem_cons_of_mem _ z
    · have z : o.data = .cell v := z
      rw [hd] at z
      cases z
/-- a lambda is made, and pinned -/
theorem lam_pin {T : List (Addr × Str)} {c P : Addr} {params : Arguments} {body : Expr} {scope : Scope} {pos : Pos} {E : Value → Shared → Prop} {Q : Value → Shared → Prop} (I : Inv X pins σ H s) (TB : LamX.TabB X.base X.mg c P) (hcode : X.env.code = .ref c)
    (hm : (P, lamQ X) ∈ T) (hu : ∀ p ∈ T, p.1 = P → p.2 = lamQ X) (hT : LamX.Tabs T H) (hdef : defaultsOf params X.env = ([], [])) (L : LamX.LamS X.env.scope scope)
    (h : ∀ (f c' : Addr) (pm ctv : Value) (H1 : Hp) (s' : Shared), Inv X (pins ++ [(f, lamO X params body scope pm c' ctv)]) σ H1 s' → LamX.ExtN H H1 → LamX.Tabs T H1 → f ∉ frs X.stack → H1 c' = some (LamX.CodeO c' (lamQ X)) → Q (.ref f) s') :
    wpAny (model X.prog X.w) X.A (eval (.Lambda params body scope pos) X.env) Q E s :=
  LamX.lam_make2 I TB hcode hm hu hT hdef (L.has I.ok) fun f c' pm ctv H1 s' I1 e1 t1 a1 a2 a3 a4 => h f c' pm ctv H1 s' (pin_more I1 a1 ⟨_, rfl⟩ a2 a3) e1 t1 a3 a4
end
/-- what is known of a lambda that was made -/
structure LamI where
  params : Arguments
  body : Expr
  scope : Scope
  t : XK → TE
/-- the function object of the i-th lambda stands at f, and its code at c' -/
def LamAt (X : Cx) (l : LamI) (pins : List (Addr × Obj)) (H : Hp) (f : Addr) : Prop := ∃ (c' : Addr) (pm ctv : Value), (f, lamO X l.params l.body l.scope pm c' ctv) ∈ pins ∧ H c' = some (LamX.CodeO c' (lamQ X)) ∧ f ∉ frs X.stack
theorem LamAt.more {X : Cx} {l : LamI} {pins new : List (Addr × Obj)} {H H' : Hp} {f : Addr} (a : LamAt X l pins H f) (e : LamX.ExtN H H') : LamAt X l (pins ++ new) H' f := by
  obtain ⟨c', pm, ctv, h1, h2, h3⟩ := a
  exact ⟨c', pm, ctv, List.mem_append_left _ h1, e _ _ h2 LamX.codeO_ne, h3⟩
section
variable {X : Cx} {pins : List (Addr × Obj)} {σ : L2.St} {H : Hp} {s : Shared}
/-- x = [lambda: ..] -/
theorem run_lamNew {T : List (Addr × Str)} {c P : Addr} {l : LamI} {lpos p1 p2 spos : Pos} {i : Nat} {y : Str} {Q : Flow → Shared → Prop} (hN : X.N.Nodup) (hi : X.N[i]? = some y) (hx : X.env.scope.names.lookup y = some .local) (I : Inv X pins σ H s) (TB : LamX.TabB X.base X.mg c P) (hcode : X.env.code = .ref c)
    (hm : (P, lamQ X) ∈ T) (hu : ∀ p ∈ T, p.1 = P → p.2 = lamQ X) (hT : LamX.Tabs T H) (hdef : defaultsOf l.params X.env = ([], [])) (L : LamX.LamS X.env.scope l.scope)
    (hs : swapsWith (.List [.Lambda l.params l.body l.scope lpos] p2) (some (.Name y p1)) spos.line X.env = pure false)
    (h : ∀ (new : List (Addr × Obj)) (f a : Addr) (H1 : Hp) (s' : Shared), LamX.ExtN H H1 → LamX.Tabs T H1 → LamAt X l (pins ++ new) H1 f → H1 a = some (.lst [.ref f]) → (∀ b o, H b = some o → (∀ ps, o ≠ .tbl ps) → b ≠ a) → Inv X (pins ++ new) (σ.set i (some (V.ref a))) H1 s' → Q .next s') :
    wpAny (model X.prog X.w) X.A (exec (.Assign [.Name y p1] (.List [.Lambda l.params l.body l.scope lpos] p2) spos) X.env) Q X.xe s := by
  refine wpAny_Assign_Name (wpAny_List_spliced ?_) hs
  show wpAny _ _ (spliced ((false, eval (.Lambda l.params l.body l.scope lpos) X.env) :: backTo p2 (starEach [] X.env))) _ _ s
  refine Calls.spliced_cons (lam_pin I TB hcode hm hu hT hdef L fun f c' pm ctv H1 s1 I1 e1 t1 a3 a4 => Calls.spliced_nil ⟨by show 1 ≤ sizeLine; decide, ?_⟩)
  have hf : H1 s1.heap.objs.size = none := I1.hok.fresh (Nat.le_refl _)
  have I2 : Inv X (pins ++ [(f, lamO X l.params l.body l.scope pm c' ctv)]) σ (upd H1 s1.heap.objs.size (.lst [.ref f])) { s1 with heap := s1.heap.push { cls := .type "list", data := .seq [Value.ref f].toArray } } :=
    I1.laid (t' := s1.toks) (fun b u e => Heap.get?_push_of_some _ e) (Nat.le_refl _) ⟨by show 1 ≤ sizeLine; decide, [Value.ref f], 0, .cons rfl .nil, Heap.get?_push_size _ rfl⟩
  have sm : Same H1 (upd H1 s1.heap.objs.size (.lst [.ref f])) := same_new hf
  refine store_ok (v := V.ref s1.heap.objs.size) I2 hN hi (.inl hx) rfl (fun s2 I3 => h _ f _ _ s2 (fun b o e n => sm b o (e1 b o e n)) (fun p hp => (t1 p hp).ext sm) ⟨c', pm, ctv, List.mem_append_right _ (List.mem_singleton.mpr rfl), sm _ _ a4, a3⟩ upd_same (fun b o e n z => ?_) I3) (.inr hx)
  have := e1 b o e n
  rw [z, hf] at this
  cases this
/-- x.append(lambda: ..) -/
theorem run_lamApp {T : List (Addr × Str)} {c P : Addr} {l : LamI} {lpos p1 apos cpos spos : Pos} {i : Nat} {y : Str} {a : Addr} {vs : List V} {Q : Flow → Shared → Prop} (hi : X.N[i]? = some y) (hx : X.env.scope.names.lookup y = some .local) (I : Inv X pins σ H s) (TB : LamX.TabB X.base X.mg c P) (hcode : X.env.code = .ref c)
    (hm : (P, lamQ X) ∈ T) (hu : ∀ p ∈ T, p.1 = P → p.2 = lamQ X) (hT : LamX.Tabs T H) (hdef : defaultsOf l.params X.env = ([], [])) (L : LamX.LamS X.env.scope l.scope) (hσ : σ[i]? = some (some (.ref a))) (ha : H a = some (.lst vs)) (hz : vs.length < sizeLine)
    (hbase : attributeBase (.Name y p1) "append" X.env (eval (.Name y p1) X.env) = eval (.Name y p1) X.env) (hline : (apos.endLine == cpos.line) = true) (hd : (y == ("__debug__" : Str)) = false) (hcd : (y == ("__classdict__" : Str)) = false)
    (hs : swapsWith (.Call (.Attribute (.Name y p1) "append" apos) [.Lambda l.params l.body l.scope lpos] [] cpos) none spos.line X.env = pure false)
    (h : ∀ (new : List (Addr × Obj)) (f : Addr) (H1 : Hp) (s' : Shared), (∀ b o, H b = some o → (∀ ps, o ≠ .tbl ps) → b ≠ a → H1 b = some o) → LamX.Tabs T H1 → LamAt X l (pins ++ new) H1 f → H1 a = some (.lst (vs ++ [.ref f])) → Inv X (pins ++ new) σ H1 s' → Q .next s') :
    wpAny (model X.prog X.w) X.A (exec (.Expr (.Call (.Attribute (.Name y p1) "append" apos) [.Lambda l.params l.body l.scope lpos] [] cpos) spos) X.env) Q X.xe s := by
  refine wpAny_Expr_any ?_ I.quiet hs
  refine wpAny_Call_method_late hbase (by rfl) hline rfl (thn ((pe_var (pos := p1) (i := i) hi (.inl hx) hd hcd).run pins s σ H (fun v H1 => v = .ref a ∧ H1 = H) I ⟨.ref a, hσ, rfl, rfl⟩) fun v s1 ⟨x, H1, I1, r1, e1, e2⟩ => ?_)
  subst e1 e2
  obtain rfl : v = Value.ref a := r1
  obtain ⟨z1, z2⟩ := tyV_is I1 (show RelV (V.ref a) (Value.ref a) from rfl) (show tyV X.K "list" (V.ref a) H1 from .inl ⟨rfl, vs, SqL.of ha⟩)
  refine ⟨"list", "list.append", PySem.F.plainAttrs_list, PySem.F.slot_list_append, PySem.F.type_list_append, z1, z2, ?_⟩
  refine Calls.callWith_builtin rfl (Calls.evalArgs_plain ?_)
  show wpAny _ _ (spliced ((false, eval (.Lambda l.params l.body l.scope lpos) X.env) :: backTo cpos (starEach [] X.env))) _ _ s1
  refine Calls.spliced_cons (lam_pin I1 TB hcode hm hu hT hdef L fun f c' pm ctv H2 s2 I2 e2 t2 a3 a4 => Calls.spliced_nil ?_)
  have ha2 : H2 a = some (.lst vs) := e2 _ _ ha fun _ z => nomatch z
  refine thn (mt_append (pins ++ [(f, lamO X l.params l.body l.scope pm c' ctv)]) s2 σ H2 (.ref a) [.ref f] (.ref a) [.ref f] (fun v H' => v = .non ∧ H' = upd H2 a (.lst (vs ++ [.ref f]))) I2 rfl (.cons rfl .nil) ⟨a, vs, .ref f, rfl, rfl, ha2, hz, rfl, rfl⟩) fun u s3 ⟨v, H3, I3, rv, ev, eH⟩ => ?_
  subst eH
  have na : ∀ b o, H2 b = some o → (∀ xs, o ≠ .lst xs) → b ≠ a := fun b o e n z => by
    rw [z, ha2] at e
    exact n vs (Option.some.inj e).symm
  have nc : ∀ b q, H2 b = some (LamX.CodeO b q) → b ≠ a := fun b q e => na _ _ e fun xs z => by
    unfold LamX.CodeO at z
    cases z
  refine h _ f _ s3 (fun b o e n hb => by rw [upd_ne hb]; exact e2 b o e n) (fun p hp => ?_) ⟨c', pm, ctv, List.mem_append_right _ (List.mem_singleton.mpr rfl), by rw [upd_ne (nc _ _ a4)]; exact a4, a3⟩ upd_same I3
  obtain ⟨ps, b1, b2, b3⟩ := t2 p hp
  refine ⟨ps, by rw [upd_ne (na _ _ b1 fun _ z => nomatch z)]; exact b1, b2, fun pos cv hc => ?_⟩
  obtain ⟨c0, q1, q2⟩ := b3 pos cv hc
  exact ⟨c0, q1, by rw [upd_ne (nc _ _ q2)]; exact q2⟩
end
end Bf
namespace Bf
open PySem PySem.Spec PyProof.Rows L2
/-! ## a comprehension over lambdas: each is handed to a def that calls it -/
section
variable {X : Cx} {W : XK}
/-- as lc_raise; the block's parts know the frame around them -/
theorem lc_raiseI {pins : List (Addr × Obj)} {s : Shared} {σ : L2.St} {H : Hp} {Q : VK} {elt tg iter : Expr} {ifs : List Expr} {sc : Scope} {own : List (Str × Nat)} {pos pos' : Pos} {wi : TI} {g : TG} {tt : TT} {te : TE} {use : Option (Value → Sem Unit)} {Qf : Value → Shared → Prop}
    (hfs : X.stack = X.env :: X.outer) (hfe : X.env.frame = some X.env.locals) (tk : L2.Takes X (fun cls d _ H => W cls d H)) (hc : X.calm = true) (hN : X.N.Nodup) (I : Inv X pins σ H s) (hi : PI X tg iter wi) (ok : BlkOk X.N X.env.scope sc own) 
    (bp : ∀ (s3 : Shared) (H3 : Hp) (C : Addr) (cl : List (Str × Addr)) (fp : List Addr), Inv X pins σ H3 s3 → (∀ b ∈ fp, FpOk X pins H3 b ∧ b < s3.heap.objs.size) → PG (bCx X W s3 H3 sc (compEnvC sc cl C X.env) fp) tg g ∧ PTs (bCx X W s3 H3 sc (compEnvC sc cl C X.env) fp) ifs tt ∧ PE (bCx X W s3 H3 sc (compEnvC sc cl C X.env) fp) elt te)
   
    (hs : ∀ x, foldedSetIterable iter X.env x = pure x) (h : tLc wi g tt te (own.map (·.2)) σ H Q)
    (out : ∀ D C s1 m H1, Inv X pins σ H1 s1 → Q (.ref D) H1 → s1.heap.Ns C m → FpOk X pins H1 C → compPost (model X.prog X.w) X.A X.xe use Qf (.ref D) C (.ok .next) s1) :
    wpAny (model X.prog X.w) X.A (comprehension (.ListComp elt [⟨tg, iter, ifs, 0⟩] sc pos) sc X.env pos' (newList []) false (eval iter X.env) use) Qf X.xe s := by
  have hfree : ∀ y ∈ sc.names, y.2 = .free → ∃ c, X.env.cells.lookup y.1 = some c := fun y hy e => I.ok.has _ (ok.free y hy e)
  refine run_compr (use := use) rfl hs (closure_ok hfree) ok.kind (fun y hy e => (ok.uniq y hy).trans (by rw [e])) (thn (hi.run pins s σ H _ I h) fun xv s1 hx => thn hx fun itv s2 hx2 => ?_)
  obtain ⟨it, fp, tn, J, H2, e, I2, T, st2, f2, q⟩ := hx2
  subst e
  refine wpAny_newObj_type (newEnv_comp ?_) (by show 0 ≤ sizeLine; decide)
  generalize hD : s2.heap.objs.size = D
  obtain ⟨V0, ⟨m0, w0⟩, turn⟩ := q D (I2.hok.fresh (Nat.le_of_eq hD))
  -- the list that grows
  generalize hs3 : ({ s2 with heap := s2.heap.push { cls := .type "list", data := .seq ([] : List Value).toArray } } : Shared) = s3
  have e3 : s3.heap = s2.heap.push { cls := .type "list", data := .seq ([] : List Value).toArray } := by rw [← hs3]
  have I3 : Inv X pins σ (upd H2 D (.lst [])) s3 := by
    subst hs3
    subst hD
    exact I2.laid (t' := s2.toks) (fun _ _ z => Heap.get?_push_of_some _ z) (Nat.le_refl _) ⟨Nat.zero_le _, [], 0, .nil, Heap.get?_push_size _ rfl⟩
  have f3 : ∀ b ∈ fp, FpOk X pins (upd H2 D (.lst [])) b ∧ b < s3.heap.objs.size := fun b hb => by
    obtain ⟨o, eo, _⟩ := T.obj _ _ st2 b hb
    have hlt := Heap.lt_size eo
    refine ⟨⟨?_, (f2 b hb).2⟩, ?_⟩
    · rw [upd_ne (Nat.ne_of_lt (Nat.lt_of_lt_of_eq hlt hD))]
      exact (f2 b hb).1
    · rw [e3, Heap.size_push]
      exact Nat.lt_succ_of_lt hlt
  have st3 : tn 0 s3.heap := T.keep _ _ _ st2 fun b _ o z => by rw [e3]; exact Heap.get?_push_of_some _ z
  have I4 := block_start I3 ok hN f3
  generalize hcl : cellsFrom (s3.heap.objs.size + 1) sc.names (cloFrom X.env.cells sc.names []) = cl at I4
  generalize hH3 : upd H2 D (.lst []) = H3 at I3 I4 w0 f3
  obtain ⟨pg, pt, pe⟩ := bp s3 H3 s3.heap.objs.size cl fp I3 f3
  have goal : codeAny (model X.prog X.w) X.A (.compStart (.ListComp elt [⟨tg, iter, ifs, 0⟩] sc pos) 0 (.ref it) (.ref D) (compEnvC sc cl s3.heap.objs.size X.env)) (blkEnd (model X.prog X.w) X.A X.xe use Qf (.ref D) (compEnvC sc cl s3.heap.objs.size X.env)) { s3 with heap := pushCells (s3.heap.push { cls := .type "dict", data := .dict #[] }) sc.names } := by
    have cF : (compEnvC sc cl s3.heap.objs.size X.env).frame = X.env.frame := rfl
    have cL : (compEnvC sc cl s3.heap.objs.size X.env).locals = s3.heap.objs.size := rfl
    generalize compEnvC sc cl s3.heap.objs.size X.env = ce at I4 pg pt pe cF cL ⊢
    generalize hs4 : ({ s3 with heap := pushCells (s3.heap.push { cls := .type "dict", data := .dict #[] }) sc.names } : Shared) = s4 at I4 ⊢
    have I4 : Inv (bCx X W s3 H3 sc ce fp) [] (wipe σ (own.map (·.2))) H3 s4 := inv_xe I4
    have st4 : tn 0 s4.heap := T.keep _ _ _ st3 fun b _ o z => by rw [← hs4]; exact pushCells_keeps _ _ _ _ (Heap.get?_push_of_some _ z)
    -- what flies out of the block
    have fly : ∀ u sx, XB X (X.blk s3 H3 sc ce fp) W u sx → notedBy (model X.prog X.w) X.A ce (fun e s => blkEnd (model X.prog X.w) X.A X.xe use Qf (.ref D) ce (.error e) s) u sx := fun u sx ⟨_, _, _, _, Ix, c⟩ => blk_out (xe' := fun _ _ => False) hfs hfe tk I3 cL cF f3 Ix c
    have thB : ∀ {α : Type} {t : Sem α} {R R' : α → Shared → Prop} {sx : Shared}, wpAny (model X.prog X.w) X.A t R (bCx X W s3 H3 sc ce fp).xe sx → (∀ a sy, R a sy → R' a sy) → wpAny (model X.prog X.w) X.A t R' (notedBy (model X.prog X.w) X.A ce (fun e s => blkEnd (model X.prog X.w) X.A X.xe use Qf (.ref D) ce (.error e) s)) sx := fun k1 k2 => wpAny_mono k1 k2 fly
    have stat : ∀ {σ' : L2.St} {H' : Hp} {sx : Shared}, Inv (bCx X W s3 H3 sc ce fp) [] σ' H' sx → (∀ b ∈ fp, H' b = none) → ∀ b ∈ fp, FpOk (bCx X W s3 H3 sc ce fp) [] H' b := fun {σ' H' sx} Ix hn b hb =>
      ⟨hn b hb, (Ix.ok.exf b hb).1, Ix.ok.exfs b hb, .inl hb, fun x c z => (Ix.ok.exf b hb).2 x c z, fun p hp => absurd (show p ∈ ([] : List (Addr × Obj)) ++ [] from hp) (by simp)⟩
    have loop : codeAny (model X.prog X.w) X.A (.compLoop (.ListComp elt [⟨tg, iter, ifs, 0⟩] sc pos) 0 (.ref it) (.ref D) ce) (blkEnd (model X.prog X.w) X.A X.xe use Qf (.ref D) ce) s4 := by
      refine compLoop_any (fun n sx => ∃ i Hx, Inv (bCx X W s3 H3 sc ce fp) [] (wipe σ (own.map (·.2))) Hx sx ∧ tn i sx.heap ∧ (∀ b ∈ fp, Hx b = none) ∧ V0 i n Hx) ?_ m0 ⟨0, H3, I4, st4, fun b hb => (f3 b hb).1.1, w0⟩
      rintro n s5 ⟨i, H5, I5, st5, n5, w5⟩
      rcases turn i n H5 w5 with ⟨stop, qq⟩ | ⟨go, Nx, hNx, step⟩
      · refine thnF (T.done (bCx X W s3 H3 sc ce fp) rfl rfl rfl hc i [] s5 _ H5 (fun _ _ => False) I5 (stat I5 n5) st5 stop) fun r s6 ⟨hr, I6⟩ => ?_
        subst hr
        have I7 : Inv X pins σ H5 s6 := I3.call' (ch := fp) I6.os I6.base I6.hok I6.bare fun b hb => ⟨(f3 b hb).1.2.2.2.1, (f3 b hb).1.2.1, (f3 b hb).1.2.2.2.2.1, (f3 b hb).1.2.2.2.2.2⟩
        obtain ⟨m, hn, _⟩ := I6.loc
        have hn : s6.heap.Ns ce.locals m := hn
        have nC : H5 ce.locals = none := I6.free
        rw [cL] at nC
        have := out D s3.heap.objs.size s6 m H5 I7 qq (by rw [← cL]; exact hn) (I3.fpOk (Nat.le_refl _) nC)
        show compPost (model X.prog X.w) X.A X.xe use Qf (.ref D) ce.locals (.ok .next) s6
        rw [cL]
        exact this
      · refine thnF (T.item (bCx X W s3 H3 sc ce fp) rfl rfl rfl hc i [] s5 _ H5 (fun _ _ => False) I5 (stat I5 n5) st5 go) fun r s6 ⟨u, hr, h6⟩ => ?_
        subst hr
        refine thnF h6 fun _ s7 ⟨x, H7, I7, r7, y7, st7, n7⟩ => ?_
        have I7' := I7.pinned (stat I7 n7) (T.obj _ _ st7)
        refine thB (pg.run _ s7 _ H7 x u _ I7' r7 (step x H7 y7)) fun _ s8 ⟨σ8, H8, I8, hw8, q8⟩ => ?_
        refine thB (pt.run _ s8 σ8 H8 _ I8 q8) fun b s9 ⟨H9, I9, q9⟩ => ?_
        have fin : ∀ {sx : Shared} {Hx : Hp}, Inv (bCx X W s3 H3 sc ce fp) ([] ++ pinsAt fp s7.heap) σ8 Hx sx → Nx Hx → ∃ m, m < n ∧ ∃ i Hx, Inv (bCx X W s3 H3 sc ce fp) [] (wipe σ (own.map (·.2))) Hx sx ∧ tn i sx.heap ∧ (∀ b ∈ fp, Hx b = none) ∧ V0 i m Hx := fun {sx Hx} Ix nx => by
          obtain ⟨m', hm, w'⟩ := hNx Hx nx
          have at7 : ∀ b ∈ fp, ∀ o, s7.heap.get? b = some o → sx.heap.get? b = some o ∧ Hx b = none := fun b hb o eo => by
            have z := Ix.pin (b, o) (List.mem_append_right _ (List.mem_append_right _ (mem_pinsAt hb eo)))
            exact ⟨z.1, z.2.1⟩
          refine ⟨m', hm, i + 1, Hx, (Ix.unpinned (pins := [])).weak (by rw [← hw8, wipe_length]) (fun j v ev => ?_), T.keep _ _ _ st7 fun b hb o eo => (at7 b hb o eo).1, fun b hb => ?_, w'⟩
          · rw [← hw8] at ev
            exact (wipe_some ev).1
          · obtain ⟨o, eo, _⟩ := T.obj _ _ st7 b hb
            exact (at7 b hb o eo).2
        cases b with
        | false =>
          simp only [Bool.false_eq_true, if_false] at q9 ⊢
          exact fin I9 q9
        | true =>
          simp only [if_true] at q9 ⊢
          refine thB (pe.run _ s9 σ8 H9 _ I9 q9) fun z s10 ⟨yv, H10, I10, r10, acc, hD10, hz10, nx⟩ => ?_
          exact app_ok (X := bCx X W s3 H3 sc ce fp) I10 hD10 hz10 r10 fun s11 I11 => fin I11 nx
    exact codeAny_compStart_list loop (T.self X.A 0 _ _ _ st4 loop)
  exact goal
end
/-- f(x), x one of the lambdas; the frame around is as at σ -/
def tSay (X : Cx) (pins : List (Addr × Obj)) (σ : L2.St) (Ls : LamI → Prop) (TT : (XK → Hp → VK → Prop) → Hp → VK → Prop) (j : Nat) : TE := fun σ' H Q => ∃ (l : LamI) (f c' : Addr) (pm ctv : Value), Ls l ∧ σ'[j]? = some (some (.ref f)) ∧ (f, lamO X l.params l.body l.scope pm c' ctv) ∈ pins ∧ H c' = some (LamX.CodeO c' (lamQ X)) ∧ f ∉ frs X.stack ∧ TT (fun E H' Q' => l.t E σ H' Q') H Q
/-- what each lambda is known for -/
structure LamOk (X : Cx) (k : Nat) (l : LamI) : Prop where
  L : LamX.LamS X.env.scope l.scope
  df : defaultsOf l.params X.env = ([], [])
  bind : ∀ (q : Str) (cl : List (Str × Addr)) (pm cv ctv : Value), bindArgs (PySem.W.kla_fn "<lambda>" q l.params l.body l.scope cl pm cv ctv) ⟨[], []⟩ = pure []
  body : ∀ (f c' : Addr) (A : Around) (out : List Env) (s : Shared) (H : Hp) (E : XK), Room k (A.deeper (LamX.lamEnv X l.scope s.heap.objs.size f c')) → A.guards = some [] → PE (LamX.lamCx X A out s H E l.scope f c') l.body (l.t E)
section
variable {X : Cx} {W : XK} {pins : List (Addr × Obj)} {σ : L2.St}
theorem pe_sayV {s3 : Shared} {H3 : Hp} {sc : Scope} {ce : Env} {fp : List Addr} {TT : (XK → Hp → VK → Prop) → Hp → VK → Prop} {x a y : Str} {g : Addr} {k j : Nat} {st : Stmt} {fd : FuncData} {Ng : List Str} {Ls : LamI → Prop} {p q pos : Pos}
    (I3 : Inv X pins σ H3 s3) (f3 : ∀ b ∈ fp, FpOk X pins H3 b ∧ b < s3.heap.objs.size) (Fu : Fun X.K x x st g fd) (hb : BPos fd [a]) (Sg : FnScope Ng [a] (defScope st)) (hNg : Ng[0]? = some a) (hva : Vis (defScope st) a) (hm : X.mg x = some (.ref g))
    (hG : ∀ cdv, Gives X.prog X.w X.K X.mg X.base (k + 1) Ng x a (defScope st) g cdv (defBody st) TT) (hr : Room (k + 2) X.A) (hgd : X.A.guards = some []) (hL : ∀ l, Ls l → LamOk X k l) (hj : X.N[j]? = some y) (hy : Vis ce.scope y)
    (hg : Gl (bCx X W s3 H3 sc ce fp) x) (he : starEach [.Name y q] ce = (false, eval (.Name y q) ce) :: starEach [] ce) (hpl : (backTo pos (starEach [] ce)).any (·.1) = false)
    (hdb : (x == ("__debug__" : Str)) = false := by decide) (hd : (a == ("__debug__" : Str)) = false := by decide) (hcd : (a == ("__classdict__" : Str)) = false := by decide) (hd2 : (y == ("__debug__" : Str)) = false := by decide) (hcd2 : (y == ("__classdict__" : Str)) = false := by decide) :
    PE (bCx X W s3 H3 sc ce fp) (.Call (.Name x p) [.Name y q] [] pos) (tSay X pins σ Ls TT j) := by
  obtain ⟨oc, od, kV, doc, pm, an, cdv, ct, osl, rfl, lk, hcdv⟩ := Fu.ex
  refine ⟨fun pins' s σ' H Q I h => ?_⟩
  obtain ⟨l, f, c', pmv, ctv, hl, hs, hp, hc', hfr, h⟩ := h
  have hO := hL l hl
  refine wpAny_Call_Name_kw (ld_glob I hg hm ?_ hdb)
  refine PySem.W.callWith_K (h₀ := X.base) I.ok.mod.kin Fu.kp ?_ he hpl
  rw [he]
  show wpAny _ _ (spliced ((false, eval (.Name y q) ce) :: backTo pos (starEach [] ce))) _ _ s
  refine Calls.spliced_cons (thn ((pe_var (X := bCx X W s3 H3 sc ce fp) (pos := q) (i := j) hj hy hd2 hcd2).run pins' s σ' H (fun v H1 => v = .ref f ∧ H1 = H) I ⟨.ref f, hs, rfl, rfl⟩) fun u s1 ⟨v, H1, I1, r1, e1, e2⟩ => ?_)
  subst e1 e2
  obtain rfl : u = Value.ref f := r1
  have I7 : Inv X pins σ H1 s1 := I3.call' (ch := fp) I1.os I1.base I1.hok I1.bare fun b hb => ⟨(f3 b hb).1.2.2.2.1, (f3 b hb).1.2.1, (f3 b hb).1.2.2.2.2.1, (f3 b hb).1.2.2.2.2.2⟩
  obtain ⟨at1, nf, _⟩ := I7.pin _ (List.mem_append_right _ hp)
  refine Calls.spliced_nil ⟨I1.kIn, ?_⟩
  have run : codeAny (model X.prog X.w) X.A (.call (.ref g) ⟨[.ref f], []⟩) (CR (L2.CX X.prog X.w) X.stack X.prog X.w H1 s1 Q E0) s1 := by
    refine LamX.run_ofS (N := Ng) (ps := [a]) (us := [.ref f]) (vs := [.ref f]) lk hcdv Sg hr I7.env0 (hb s1 [.ref f] rfl) (.cons rfl .nil) rfl fun hr2 => ?_
    exact hG cdv X.A X.stack s1 H1 Q f c' (lamQ X) (fun E H' Q' => l.t E σ H' Q') hr2 hgd (fun pn xe E p1 p2 hE => pe_actS (i := 0) I7 hO.L at1 nf hfr (hO.bind _ _ _ _ _) hE hr2 hgd (hO.body f c') hNg hva hd hcd) hc' h
  refine wpAny_call (codeAny_mono run fun r s2 hq => ?_)
  match r, hq with
  | .error e, hq =>
    obtain ⟨_, _, _, _, _, _, _, _, _, _, _, _, z⟩ := hq
    exact z.elim
  | .ok (.ret u), hq => exact I1.after hq
  | .ok .next, hq => exact hq.elim
  | .ok .brk, hq => exact hq.elim
  | .ok .cont, hq => exact hq.elim
end
end Bf
namespace Bf
open PySem PySem.Spec PyProof.Rows L2
/-! ## a statement that never goes on; a def that makes a list of lambdas and asks what is said of each -/
def tStop (t : TS) : TS := fun D σ H => t { D with nx := fun _ _ => False } σ H
theorem pss_stop {X : Cx} {st : Stmt} {rest : List Stmt} {t : TS} (h : PS X st t) : PSs X (st :: rest) (tStop t) := by
  refine ⟨fun pins s σ H D I r => wpAny_execs_cons (thn (h.run pins s σ H _ I r) fun f s1 q => ?_)⟩
  match f, q with
  | .next, ⟨_, _, _, z⟩ => exact z.elim
  | .brk, q => exact q
  | .cont, q => exact q
  | .ret u, q => exact q
theorem so_stop {K : PySem.W.Frag} {S SB SF : Sta} {L : List Addr} {t : TS} {ρ : List (Option Dt)} {P : Po} (h : Sg K S SB SF L t ρ { P with nx := fun _ => False }) : Sg K S SB SF L (tStop t) ρ P := fun D σ B H b i s f =>
  h _ σ B H b i s ⟨fun _ _ _ _ _ _ z => z.elim, f.rt, f.bk, f.ct⟩
theorem LamO.up {K : PySem.W.Frag} {H H1 : Hp} {tl : XK → Hp → VK → Prop} : ∀ {o : Out}, LamO K H tl o → Same H H1 → LamO K H1 tl o
  | .ok _, h, s => fun E H2 Q s2 q => h E H2 Q (s.trans s2) q
  | .er _ _ _, h, s => fun E H2 Q s2 q => h E H2 Q (s.trans s2) q
/-- the call within the block -/
theorem ev_sayV {X : Cx} {pins : List (Addr × Obj)} {σ0 : L2.St} {Ls : LamI → Prop} {K : PySem.W.Frag} {R : Out → Dt → Prop} {j : Nat} {ρ : List (Option Dt)} {H0 : Hp} {l : LamI} {f : Addr} {o : Out} {d : Dt}
    (hl : Ls l) (hi : ρ[j]? = some (some (.raw (.ref f)))) (a : LamAt X l pins H0 f) (h : LamO K H0 (fun E H' Q' => l.t E σ0 H' Q') o) (hR : R o d) : Ev K (staSame H0) (staSame H0) ρ (tSay X pins σ0 Ls (TTs K R) j) (Eq d) := fun σ H hs s Q q1 => by
  obtain ⟨v, hv, rv⟩ := s.val j _ hi
  obtain rfl := rv.rawI
  obtain ⟨c', pm, ctv, h1, h2, h3⟩ := a
  exact ⟨l, f, c', pm, ctv, hl, hv, h1, hs _ _ h2, h3, o, d, h.up hs, hR, fun v H2 s2 r => q1 v d H2 s2.gr ((staSame H0).st hs s2) r rfl⟩
inductive All2 {α β : Type} (R : α → β → Prop) : List α → List β → Prop
  | nil : All2 R [] []
  | cons {a : α} {b : β} {as : List α} {bs : List β} : R a b → All2 R as bs → All2 R (a :: as) (b :: bs)
theorem All2.len {α β : Type} {R : α → β → Prop} {as : List α} {bs : List β} (h : All2 R as bs) : as.length = bs.length := by
  induction h with
  | nil => rfl
  | cons _ _ ih => rw [List.length_cons, List.length_cons, ih]
theorem All2.imp {α β : Type} {R S : α → β → Prop} {as : List α} {bs : List β} (k : ∀ a b, R a b → S a b) (h : All2 R as bs) : All2 S as bs := by
  induction h with
  | nil => exact .nil
  | cons r _ ih => exact .cons (k _ _ r) ih
theorem All2.app {α β : Type} {R : α → β → Prop} {as cs : List α} {bs ds : List β} (h : All2 R as bs) (k : All2 R cs ds) : All2 R (as ++ cs) (bs ++ ds) := by
  induction h with
  | nil => exact k
  | cons r _ ih => exact .cons r ih
theorem All2.right {α β : Type} {R : α → β → Prop} {as : List α} {bs : List β} (h : All2 R as bs) : ∀ b ∈ bs, ∃ a ∈ as, R a b := by
  induction h with
  | nil => exact fun _ z => nomatch z
  | cons r _ ih =>
      intro b hb
      rcases List.mem_cons.mp hb with z | hb
      · subst z
        exact ⟨_, .head _, r⟩
      · obtain ⟨a, ha, z⟩ := ih b hb
        exact ⟨a, .tail _ ha, z⟩
/-- x.append(lambda ..) -/
structure IsApp (X : Cx) (y : Str) (l : LamI) (st : Stmt) : Prop where
  ex : ∃ (lpos p1 apos cpos spos : Pos), st = .Expr (.Call (.Attribute (.Name y p1) "append" apos) [.Lambda l.params l.body l.scope lpos] [] cpos) spos ∧ attributeBase (.Name y p1) "append" X.env (eval (.Name y p1) X.env) = eval (.Name y p1) X.env ∧ (apos.endLine == cpos.line) = true ∧
    swapsWith (.Call (.Attribute (.Name y p1) "append" apos) [.Lambda l.params l.body l.scope lpos] [] cpos) none spos.line X.env = pure false
def LamsAt (X : Cx) (ks : List LamI) (pins : List (Addr × Obj)) (H : Hp) (vs : List V) : Prop := All2 (fun l v => ∃ f, v = V.ref f ∧ LamAt X l pins H f) ks vs
section
variable {X : Cx}
theorem run_apps {T : List (Addr × Str)} {c P : Addr} {i k : Nat} {y : Str} {a : Addr} {Q : Flow → Shared → Prop} {rest : List Stmt} {σ : L2.St} {H0 : Hp} (hi : X.N[i]? = some y) (hx : X.env.scope.names.lookup y = some .local) (TB : LamX.TabB X.base X.mg c P) (hcode : X.env.code = .ref c)
    (hm : (P, lamQ X) ∈ T) (hu : ∀ p ∈ T, p.1 = P → p.2 = lamQ X) (hσ : σ[i]? = some (some (.ref a))) (hd : (y == ("__debug__" : Str)) = false) (hcd : (y == ("__classdict__" : Str)) = false) :
    ∀ (ls : List LamI) (sts : List Stmt), All2 (IsApp X y) ls sts → (∀ l ∈ ls, LamOk X k l) → ∀ (ks : List LamI) (vs : List V) (pins : List (Addr × Obj)) (H : Hp) (s : Shared), ks.length + ls.length < 1000 → Inv X pins σ H s → LamX.Tabs T H → H a = some (.lst vs) → LamsAt X ks pins H vs →
      (∀ b o, H0 b = some o → (∀ ps, o ≠ .tbl ps) → b ≠ a ∧ H b = some o) →
      (∀ (new : List (Addr × Obj)) (us : List V) (H1 : Hp) (s1 : Shared), Inv X (pins ++ new) σ H1 s1 → LamX.Tabs T H1 → H1 a = some (.lst us) → LamsAt X (ks ++ ls) (pins ++ new) H1 us → (∀ b o, H0 b = some o → (∀ ps, o ≠ .tbl ps) → b ≠ a ∧ H1 b = some o) → wpAny (model X.prog X.w) X.A (execs rest X.env) Q X.xe s1) →
      wpAny (model X.prog X.w) X.A (execs (sts ++ rest) X.env) Q X.xe s
  | [], _, .nil, _, ks, vs, pins, H, s, _, I, hT, ha, hk, old, h => h [] vs H s (by rw [List.append_nil]; exact I) hT ha (by rw [List.append_nil, List.append_nil]; exact hk) old
  | l :: ls, _ :: sts, .cons ia f2, ok, ks, vs, pins, H, s, hz, I, hT, ha, hk, old, h => by
    obtain ⟨lpos, p1, apos, cpos, spos, rfl, e1, e2, e3⟩ := ia
    have hvs : vs.length = ks.length := hk.len.symm
    rw [List.length_cons] at hz
    refine wpAny_execs_cons (run_lamApp hi hx I TB hcode hm hu hT (ok l (.head _)).df (ok l (.head _)).L hσ ha (by rw [hvs]; exact Nat.lt_of_lt_of_le (by omega) (show 1000 ≤ sizeLine by decide)) e1 e2 hd hcd e3 fun new f H1 s1 keep T1 at1 ha1 I1 => ?_)
    have nc : ∀ c', H c' = some (LamX.CodeO c' (lamQ X)) → c' ≠ a := fun c' e z => by
      rw [z, ha] at e
      unfold LamX.CodeO at e
      cases e
    have up : ∀ (l : LamI) (f : Addr), LamAt X l pins H f → LamAt X l (pins ++ new) H1 f := fun l f z => by
      obtain ⟨c', pm, ctv, h1, h2, h3⟩ := z
      exact ⟨c', pm, ctv, List.mem_append_left _ h1, keep _ _ h2 LamX.codeO_ne (nc _ h2), h3⟩
    have hk1 : LamsAt X (ks ++ [l]) (pins ++ new) H1 (vs ++ [.ref f]) := All2.app (All2.imp (fun l v ⟨f, e, z⟩ => ⟨f, e, up l f z⟩) hk) (.cons ⟨f, rfl, at1⟩ .nil)
    refine run_apps hi hx TB hcode hm hu hσ hd hcd ls sts f2 (fun l h => ok l (.tail _ h)) (ks ++ [l]) (vs ++ [.ref f]) (pins ++ new) H1 s1 (by rw [List.length_append, List.length_singleton]; omega) I1 T1 ha1 hk1 (fun b o e n => ⟨(old b o e n).1, keep _ _ (old b o e n).2 n (old b o e n).1⟩) fun new2 us H2 s2 I2 T2 ha2 hk2 old2 => ?_
    rw [List.append_assoc] at I2 hk2
    rw [List.append_assoc] at hk2
    exact h (new ++ new2) us H2 s2 I2 T2 ha2 hk2 old2
end
section
variable {K : PySem.W.Frag} {H0 : Hp} {ρ : List (Option Dt)} {tl te : TE} {tt : TT} {xs : List Dt} {j : Nat}
/-- [e for x in xs if ..], the test holds for none -/
theorem ev_lcNone (h : Ev K (staSame H0) (staSame H0) ρ tl (Eq (.lst xs))) (ht : ∀ x ∈ xs, EvT K (staSame H0) (staSame H0) ((wipeD ρ [j]).set j (some x)) tt (Eq false)) :
    Ev K (staSame H0) (staSame H0) ρ (tLc (iList K tl) (gName j) tt te [j]) (Eq (.lst [])) := fun σ H i s Q q =>
  h σ H i s _ fun v d H1 g1 i1 r1 p1 => by
    subst p1
    obtain ⟨a, us, rfl, hT, ra⟩ := r1.lstI
    refine ⟨a, rfl, ⟨us, hT⟩, fun D hD => lc_list (K := K) (a := a) (xs := us) (fun n H' => Gr H1 H' ∧ (staSame H0).I H' ∧ H' D = some (.lst [])) ⟨(same_new hD).gr, (staSame H0).st i1 (same_new hD), upd_same⟩
      (fun n H' _ q' => q'.1.sqL hT) (fun n x H' hx q' => ?_) fun H' q' => ?_⟩
    · obtain ⟨g2, i2, hd⟩ := q'
      obtain ⟨dx, hdx, rdx⟩ := ra.ta hx
      refine ⟨wipe_put _ σ (.head _), ht dx (List.mem_of_getElem? hdx) _ H' i2 (((s.mono (g1.trans g2)).wipe [j]).set (rdx.mono g2) j) _ fun b H3 g3 i3 p3 => ?_⟩
      subst p3
      rw [if_neg Bool.false_ne_true]
      exact ⟨g2.trans g3, i3, g3 _ _ hd rfl⟩
    · obtain ⟨g2, i2, hd⟩ := q'
      exact q _ _ H' (g1.trans g2) i2 (.lst (SqL.of hd) .nil) rfl
end
/-- what the def asks of its lambdas -/
def tLams (K : PySem.W.Frag) (T : List (Addr × Str)) (ls : List LamI) (R : Out → Dt → Prop) (i z : Nat) (nm : Str) : TS := fun D σ H => LamX.Tabs T H ∧ ∃ (ρ : List (Option Dt)) (d : Dt), Slots K H σ ρ ∧ ρ[z]? = some (some d) ∧ i < ρ.length ∧ cmpOk (.tup [.str nm, d]) = true ∧
  (∀ l ∈ ls, ∀ a : Addr, ∃ o, (∀ H1, LamX.ExtN H H1 → LamO K H1 (fun E H' Q' => l.t E (σ.set i (some (.ref a))) H' Q') o) ∧ R o (.tup [.str nm, d])) ∧ ∀ H1, LamX.ExtN H H1 → LamX.Tabs T H1 → D.rt (.bl true) H1
theorem rep_raws {K : PySem.W.Frag} {H : Hp} : ∀ us : List V, RepA K H us (us.map .raw)
  | [] => .nil
  | u :: us => .cons (.raw _) (rep_raws us)
/-- the comprehension and what is told of it -/
theorem ev_lams {X : Cx} {pins : List (Addr × Obj)} {K : PySem.W.Frag} {R : Out → Dt → Prop} {ls : List LamI} {i j z : Nat} {nm : Str} {σ : L2.St} {H : Hp} {ρ : List (Option Dt)} {d : Dt} {us : List V} {a : Addr} (s : Slots K H σ ρ) (hz : ρ[z]? = some (some d)) (hi : i < ρ.length) (hc : cmpOk (.tup [.str nm, d]) = true)
    (hzi : z ≠ i) (hzj : z ≠ j) (hj : j < ρ.length) (ha : H a = some (.lst us)) (hl : LamsAt X ls pins H us) (hs : ∀ l ∈ ls, ∃ o, LamO K H (fun E H' Q' => l.t E (σ.set i (some (.ref a))) H' Q') o ∧ R o (.tup [.str nm, d])) {Q : VK} (q : ∀ H1, Same H H1 → Q (.bl true) H1) :
    tOp (rEqNil K) (tLc (iList K (tVar i)) (gName j) (tTest (tOp (rNeD K) (tSay X pins (σ.set i (some (.ref a))) (· ∈ ls) (TTs K R) j) (tTup (tCons (tC (.str nm)) (tCons (tVar z) tNil))))) (tVar j) [j]) (tLst tNil) (σ.set i (some (.ref a))) H Q := by
  have s1 : Slots K H (σ.set i (some (V.ref a))) (ρ.set i (some (.lst (us.map .raw)))) := s.set (.lst (SqL.of ha) (rep_raws us)) i
  have e1 : (ρ.set i (some (.lst (us.map .raw))))[i]? = some (some (.lst (us.map .raw))) := List.getElem?_set_self hi
  have hz1 : (ρ.set i (some (.lst (us.map .raw))))[z]? = some (some d) := by rw [List.getElem?_set_ne (fun e => hzi e.symm)]; exact hz
  have w : ∀ x : Dt, ((wipeD (ρ.set i (some (.lst (us.map .raw)))) [j]).set j (some x))[z]? = some (some d) := fun x => by
    show (((ρ.set i _).set j none).set j (some x))[z]? = _
    rw [List.getElem?_set_ne (fun e => hzj e.symm), List.getElem?_set_ne (fun e => hzj e.symm)]
    exact hz1
  have w2 : ∀ x : Dt, ((wipeD (ρ.set i (some (.lst (us.map .raw)))) [j]).set j (some x))[j]? = some (some x) := fun x => by
    show (((ρ.set i _).set j none).set j (some x))[j]? = _
    exact List.getElem?_set_self (by rw [List.length_set, List.length_set]; exact hj)
  refine (ev_op (S2 := staSame H) (ev_lcNone (H0 := H) (ev_var e1) fun x hx => ?_) (ev_lst ea_nil (Nat.zero_le _)) rv_eqNil) _ H (Same.refl H) s1 Q fun v d' H1 g1 i1 r1 p1 => ?_
  · obtain ⟨u, hu, rfl⟩ := List.mem_map.mp hx
    obtain ⟨l, hl1, f, rfl, hat⟩ := hl.right u hu
    obtain ⟨o, ho, hR⟩ := hs l hl1
    exact (et_test (ev_op (ev_sayV hl1 (w2 _) hat ho hR) (ev_tup (ea_cons ev_str (ea_cons (ev_var (w _)) ea_nil)) (by show 2 ≤ sizeLine; decide)) (rv_neD hc hc))).to (by rw [cmp_refl hc]; rfl)
  · subst p1
    cases r1
    exact q H1 i1
section
variable {X : Cx} {W : XK}
theorem inv_fewer {pins new : List (Addr × Obj)} {σ : L2.St} {H : Hp} {s : Shared} (I : Inv X (pins ++ new) σ H s) : Inv X pins σ H s := I.pins_of fun p hp => I.pin p (List.mem_append_right _ (List.mem_append_left _ hp))
/-- the def that makes the lambdas and asks what is said of each -/
theorem pss_lams {T : List (Addr × Str)} {c P : Addr} {i j z k : Nat} {x ax y w zn nm : Str} {g : Addr} {st0 : Stmt} {fd : FuncData} {Ng : List Str} {R : Out → Dt → Prop} {l0 : LamI} {ls : List LamI} {sts : List Stmt} {sc : Scope} {lpos p1 p2 spos q1 q2 q3 q5 q6 q7 q8 r1 r2 r3 r4 r5 r6 r7 : Pos} {cj ti : Nat} {body : List Stmt}
    (hbody : body = .Assign [.Name y p1] (.List [.Lambda l0.params l0.body l0.scope lpos] p2) spos :: (sts ++ [.Return (some (.Compare (.ListComp (.Name w q1) [⟨.Name w q2, .Name y q3, [.Compare (.Call (.Name x r1) [.Name w r2] [] r3) [.NotEq] [.Tuple [.Constant (.str nm) cj r4, .Name zn r5] ti r6] r7], 0⟩] sc q5) [.Eq] [.List [] q6] q7)) q8]))
    (hN : X.N.Nodup) (hi : X.N[i]? = some y) (hx : X.env.scope.names.lookup y = some .local) (TB : LamX.TabB X.base X.mg c P) (hcode : X.env.code = .ref c)
    (hm : (P, lamQ X) ∈ T) (hu : ∀ p ∈ T, p.1 = P → p.2 = lamQ X) (hd : (y == ("__debug__" : Str)) = false) (hcd : (y == ("__classdict__" : Str)) = false)
    (hok : ∀ l ∈ l0 :: ls, LamOk X k l) (hsw : swapsWith (.List [.Lambda l0.params l0.body l0.scope lpos] p2) (some (.Name y p1)) spos.line X.env = pure false) (happ : All2 (IsApp X y) ls sts) (hlen : 1 + ls.length < 1000)
    (hfs : X.stack = X.env :: X.outer) (hfe : X.env.frame = some X.env.locals) (tk : L2.Takes X (fun cls d _ H => W cls d H)) (hcalm : X.calm = true) (ok : BlkOk X.N X.env.scope sc [(w, j)]) (hit : PE X (.Name y q3) (tVar i))
    (Fu : Fun X.K x x st0 g fd) (hb : BPos fd [ax]) (Sg : FnScope Ng [ax] (defScope st0)) (hNg : Ng[0]? = some ax) (hva : Vis (defScope st0) ax) (hmg : X.mg x = some (.ref g))
    (hG : ∀ cdv, Gives X.prog X.w X.K X.mg X.base (k + 1) Ng x ax (defScope st0) g cdv (defBody st0) (TTs X.K R)) (hr : Room (k + 2) X.A) (hgd : X.A.guards = some []) (hj : X.N[j]? = some w)
    (hwy : ∀ (cl : List (Str × Addr)) (C : Addr), Vis (compEnvC sc cl C X.env).scope w) (hgl : ∀ (s3 : Shared) (H3 : Hp) (C : Addr) (cl : List (Str × Addr)) (fp : List Addr), Gl (bCx X W s3 H3 sc (compEnvC sc cl C X.env) fp) x)
    (hpg : ∀ (s3 : Shared) (H3 : Hp) (C : Addr) (cl : List (Str × Addr)) (fp : List Addr), PG (bCx X W s3 H3 sc (compEnvC sc cl C X.env) fp) (.Name w q2) (gName j))
    (hpe : ∀ (s3 : Shared) (H3 : Hp) (C : Addr) (cl : List (Str × Addr)) (fp : List Addr), PE (bCx X W s3 H3 sc (compEnvC sc cl C X.env) fp) (.Name w q1) (tVar j))
    (hdu : ∀ (s3 : Shared) (H3 : Hp) (C : Addr) (cl : List (Str × Addr)) (fp : List Addr), PE (bCx X W s3 H3 sc (compEnvC sc cl C X.env) fp) (.Name zn r5) (tVar z))
    (hzi : z ≠ i) (hzj : z ≠ j) (hij : i ≠ j) (hNj : j < X.N.length)
    (hdb : (x == ("__debug__" : Str)) = false := by decide) (hd1 : (ax == ("__debug__" : Str)) = false := by decide) (hcd1 : (ax == ("__classdict__" : Str)) = false := by decide) (hd2 : (w == ("__debug__" : Str)) = false := by decide) (hcd2 : (w == ("__classdict__" : Str)) = false := by decide) :
    PSs X body (tLams X.K T (l0 :: ls) R i z nm) := by
  subst hbody
  refine ⟨fun pins s σ H D I r => ?_⟩
  obtain ⟨hT, ρ, d, hs, hz, hip, hcm, hls, hD⟩ := r
  have hlenσ : σ.length = X.N.length := I.len
  refine wpAny_execs_cons (run_lamNew hN hi hx I TB hcode hm hu hT (hok _ (.head _)).df (hok _ (.head _)).L hsw fun new f a H1 s1 e1 t1 at1 ha1 old1 I1 => ?_)
  have hσ : (σ.set i (some (V.ref a)))[i]? = some (some (.ref a)) := List.getElem?_set_self (by rw [hs.len]; exact hip)
  refine run_apps (k := k) (H0 := H) hi hx TB hcode hm hu hσ hd hcd ls sts happ (fun l h => hok l (.tail _ h)) [l0] [.ref f] _ H1 s1 hlen I1 t1 ha1 (.cons ⟨f, rfl, at1⟩ .nil) (fun b o e n => ⟨old1 b o e n, e1 b o e n⟩) fun new2 us H2 s2 I2 t2 ha2 hk2 old2 => ?_
  have e2 : LamX.ExtN H H2 := fun b o e n => (old2 b o e n).2
  refine wpAny_execs_cons (wpAny_Return_some (thn (Q := fun v s' => ∃ u H3, Inv X (pins ++ new ++ new2) (σ.set i (some (V.ref a))) H3 s' ∧ RelV u v ∧ D.rt u H3) ?_ fun v s3 ⟨u, H3, I3, r3, q3⟩ => ⟨u, _, H3, inv_fewer (inv_fewer I3), r3, q3⟩))
  have s2' : Slots X.K H2 σ ρ := hs.mono (extN_gr e2)
  have rd := ev_lams (X := X) (pins := pins ++ new ++ new2) (j := j) (ls := l0 :: ls) (R := R) (nm := nm) s2' hz hip hcm hzi hzj (by rw [← hs.len, hlenσ]; exact hNj) ha2 hk2 (fun l hl => let ⟨o, h1, h2⟩ := hls l hl a; ⟨o, h1 H2 e2, h2⟩) (Q := D.rt) (fun H3 sm => hD H3 (fun b o e n => sm _ _ (e2 b o e n)) fun p hp => (t2 p hp).ext sm)
  refine wpAny_Compare1 ?_ (by rfl)
  rw [eval_ListComp]
  refine thn (Q := fun v s' => ∃ u H3, Inv X (pins ++ new ++ new2) (σ.set i (some (V.ref a))) H3 s' ∧ RelV u v ∧ tLst tNil (σ.set i (some (V.ref a))) H3 (fun y H4 => rEqNil X.K u y H4 D.rt)) (lc_raiseI (W := W) (own := [(w, j)]) hfs hfe tk hcalm hN I2 (pi_list hit) ok (fun s3 H3 C cl fp I3 f3 => ⟨hpg _ _ _ _ _, pts_one (pt_cmpR (op_neD (X := bCx X W s3 H3 sc (compEnvC sc cl C X.env) fp) hr.units) (pe_sayV (k := k) I3 f3 Fu hb Sg hNg hva hmg hG hr hgd (fun l hl => hok l hl) hj (hwy _ _) (hgl _ _ _ _ _) (by rfl) (by rfl) hdb hd1 hcd1 hd2 hcd2) (pe_tup (pa_cons pe_str (pa_cons (hdu _ _ _ _ _) pa_nil))) (nomark _)), hpe _ _ _ _ _⟩) (by intro _; rfl) rd fun D' C s3 m H3 I3 qq hn ff => ?_) fun v s3 ⟨u, H3, I3, r3, h3⟩ => ?_
  · obtain ⟨k0, k1, k2, k3, k4, k5⟩ := ff
    exact ⟨m, hn, fun h2 sb => ⟨.ref D', H3, I3.turned (t' := s3.toks) (fun b o hb eo => (sb.2 b hb).trans eo) k0 k1 k3 k4 k5, rfl, qq⟩⟩
  · refine thn ((pe_lst pa_nil).run _ s3 _ H3 _ I3 h3) fun v2 s4 ⟨u2, H4, I4, r4, h4⟩ => ?_
    exact op_eqNil hr.units _ s4 _ H4 u u2 v v2 _ I4 r3 r4 h4
end
end Bf
namespace Bf
open PySem PySem.Spec PyProof.Rows L2
/-! ## an error is told of by its kind: all ten kinds, L: those that may be kept, G and Pt: those with a given, with a part -/
def fldN (i : Nat) : Str := if i = 1 ∨ i = 6 then "part" else if i = 4 then "place" else if i = 8 then "moment" else if i = 9 then "word" else "given"
def nameN (i : Nat) : Str := ((["ratio", "table", "word", "burst", "receiver", "number", "paper", "style", "row", "text"] : List Str)[i]?).getD ""
def r_faultG (K : PySem.W.Frag) (t : Ten) (L G Pt : List Addr) (ds : List Dt) (a : Dt) : Prop := ∃ (C : Addr) (i : Nat) (d : Dt), C ∈ L ∧ i < 10 ∧ IsTen K t C i ∧ (fldN i = "given" → C ∈ G) ∧ (fldN i = "part" → C ∈ Pt) ∧ ds = [.err C (fldN i) d] ∧ a = .tup [.str (nameN i), d]
abbrev p__law_faultG (K : PySem.W.Frag) (t : Ten) (L G Pt : List Addr) : Sp := spR K 1 (r_faultG K t L G Pt)
abbrev e__law_faultG (K : PySem.W.Frag) (t : Ten) (L G Pt : List Addr) : TS := (tSeq (tIfS (tTest (tOp rEq (tBM K "list" (rCntF K) (tVar 1) (tCons (tC (.bl true)) tNil)) (tC (.int 1)))) (tRet (tTup (tCons (tOp (rIx K) (tLst (tCons (tC (.str "ratio")) (tCons (tC (.str "word")) (tCons (tC (.str "burst")) (tCons (tC (.str "number")) (tCons (tC (.str "style")) tNil)))))) (tBM K "list" (rIndex K) (tVar 1) (tCons (tC (.bl true)) tNil))) (tCons (tKFld G "given" (tVar 0)) tNil)))) tNext)
    (tSeq (tIfS (tB (tCB (rIsiTE K L) (tCons (tVar 0) (tCons (tTup (tCons (tC (.ref t.table)) (tCons (tC (.ref t.paper)) tNil))) tNil)))) (tRet (tTup (tCons (tIf (tB (tCB (rIsiE K L) (tCons (tVar 0) (tCons (tC (.ref t.table)) tNil)))) (tC (.str "table")) (tC (.str "paper"))) (tCons (tKFld Pt "part" (tVar 0)) tNil)))) tNext)
    (tSeq (tIfS (tB (tCB (rIsiE K L) (tCons (tVar 0) (tCons (tC (.ref t.receiver)) tNil)))) (tRet (tTup (tCons (tC (.str "receiver")) (tCons (tKFld [t.receiver] "place" (tVar 0)) tNil)))) tNext)
    (tRet (tIf (tB (tCB (rIsiE K L) (tCons (tVar 0) (tCons (tC (.ref t.row)) tNil)))) (tTup (tCons (tC (.str "row")) (tCons (tKFld [t.row] "moment" (tVar 0)) tNil))) (tTup (tCons (tC (.str "text")) (tCons (tKFld [t.text] "word" (tVar 0)) tNil))))))))
abbrev t__law_faultG (K : PySem.W.Frag) (t : Ten) (L G Pt : List Addr) : TS := (tSeq (tAsg (tLst (tCons (tCB (rIsiE K L) (tCons (tVar 0) (tCons (tC (.ref t.ratio)) tNil))) (tCons (tCB (rIsiE K L) (tCons (tVar 0) (tCons (tC (.ref t.word)) tNil))) (tCons (tCB (rIsiE K L) (tCons (tVar 0) (tCons (tC (.ref t.burst)) tNil))) (tCons (tCB (rIsiE K L) (tCons (tVar 0) (tCons (tC (.ref t.number)) tNil))) tNil))))) (gName 1))
    (tSeq (tDrop (tBM K "list" rAppend (tVar 1) (tCons (tCB (rIsiE K L) (tCons (tVar 0) (tCons (tC (.ref t.style)) tNil))) tNil)))
    (e__law_faultG K t L G Pt)))
section
variable {K : PySem.W.Frag} {S S1 : Sta} {ds : List Dt} {ρ : List (Option Dt)} {o : Out} {E : XK} {d a : Dt} {t : Ten} {L G Pt : List Addr}
theorem so__law_faultG (hmu : S.Mu) (hp : r_faultG K t L G Pt ds a) : So K S S [] (t__law_faultG K t L G Pt) (startD 2 ds) (Pu a) := by
  obtain ⟨C, i, d, hC, hi, T, hG, hP, rfl, rfl⟩ := hp
  have one : ∀ {ρ : List (Option Dt)} {D : Addr} (j : Nat), t.l[j]? = some D → ρ[0]? = some (some (.err C (fldN i) d)) → (hj : j < 9 := by decide) → Ev K S S ρ (tCB (rIsiE K L) (tCons (tVar 0) (tCons (tC (.ref D)) tNil))) (Eq (.bl (decide (j = i)))) := fun j hD h0 hj => ev_isiE (ev_var h0) hC (T.is_ j _ hj hD)
  have z2 : 2 ≤ sizeLine := by decide
  refine so_newApp (xs := [.bl (decide (0 = i)), .bl (decide (2 = i)), .bl (decide (3 = i)), .bl (decide (5 = i))]) (d := .bl (decide (7 = i))) hmu (by show 1 < 2; decide)
      (ea_cons (one 0 rfl rfl) (ea_cons (one 2 rfl rfl) (ea_cons (one 3 rfl rfl) (ea_cons (one 5 rfl rfl) ea_nil)))) (by show 4 < 100000; decide) rfl (fun p => one 7 rfl rfl) rfl fun p => ?_
  have cnt : ∀ {k : Int} {b : Bool}, ((((([decide (0 = i), decide (2 = i), decide (3 = i), decide (5 = i), decide (7 = i)].map V.bl).countP fun z => eqV z (V.bl true)) : Nat) : Int) = k) → decide (k = 1) = b → EvT K S S [some (.err C (fldN i) d), some (.lat p ([decide (0 = i), decide (2 = i), decide (3 = i), decide (5 = i), decide (7 = i)].map Dt.bl))] (tTest (tOp rEq (tBM K "list" (rCntF K) (tVar 1) (tCons (tC (.bl true)) tNil)) (tC (.int 1)))) (Eq b) := fun {k b} e1 e2 => (et_test (ev_op (ev_countB (bs := [decide (0 = i), decide (2 = i), decide (3 = i), decide (5 = i), decide (7 = i)]) (ev_var rfl)) ev_int rv_eqI)).to (by rw [e1, e2])
  have giv : ∀ (j : Nat) (x : Str), (([decide (0 = i), decide (2 = i), decide (3 = i), decide (5 = i), decide (7 = i)].map V.bl).countP fun z => eqV z (V.bl true)) = 1 → [decide (0 = i), decide (2 = i), decide (3 = i), decide (5 = i), decide (7 = i)][j]? = some true → (∀ m, m < j → [decide (0 = i), decide (2 = i), decide (3 = i), decide (5 = i), decide (7 = i)][m]? = some false) → ([.str "ratio", .str "word", .str "burst", .str "number", .str "style"] : List Dt)[j]? = some (.str x) → nameN i = x → fldN i = "given" →
      So K S S [] (e__law_faultG K t L G Pt) [some (.err C (fldN i) d), some (.lat p ([decide (0 = i), decide (2 = i), decide (3 = i), decide (5 = i), decide (7 = i)].map Dt.bl))] (Pu (.tup [.str (nameN i), d])) := fun j x h1 h2 h3 h4 h5 h6 => by
    refine so_ifT (cnt (k := 1) (by rw [h1]; rfl) rfl) ?_
    rw [h5]
    have hk : Ev K S S [some (.err C (fldN i) d), some (.lat p ([decide (0 = i), decide (2 = i), decide (3 = i), decide (5 = i), decide (7 = i)].map Dt.bl))] (tKFld G "given" (tVar 0)) (Eq d) := by
      have hv : Ev K S S [some (.err C (fldN i) d), some (.lat p ([decide (0 = i), decide (2 = i), decide (3 = i), decide (5 = i), decide (7 = i)].map Dt.bl))] (tVar 0) (Eq (.err C "given" d)) := ev_var (by rw [h6]; rfl)
      exact ev_kfld hv (hG h6)
    exact so_ret1D (ev_tup (ea_cons (ev_ixL (ev_lst (ea_cons ev_str (ea_cons ev_str (ea_cons ev_str (ea_cons ev_str (ea_cons ev_str ea_nil))))) (by show 5 ≤ sizeLine; decide)) (ev_indexB (bs := [decide (0 = i), decide (2 = i), decide (3 = i), decide (5 = i), decide (7 = i)]) (j := j) (ev_var rfl) h2 h3) (atI_nat (j := j) h4)) (ea_cons hk ea_nil)) z2) (Sta.Le.refl S) rfl
  have kit : ∀ {b : Bool}, (decide (1 = i) || decide (6 = i)) = b → PySem.W.kitAny K (.ref C) [.ref t.table, .ref t.paper] = some b := fun {b} e => by
    unfold PySem.W.kitAny
    rw [T.is_ 1 t.table (by decide) rfl]
    cases h1 : decide (1 = i) with
    | true => rw [h1, Bool.true_or] at e; rw [← e]
    | false =>
      rw [h1, Bool.false_or] at e
      show PySem.W.kitAny K (.ref C) [.ref t.paper] = some b
      unfold PySem.W.kitAny
      rw [T.is_ 6 t.paper (by decide) rfl, e]
      cases b <;> rfl
  have oth : (([decide (0 = i), decide (2 = i), decide (3 = i), decide (5 = i), decide (7 = i)].map V.bl).countP fun z => eqV z (V.bl true)) = 0 → So K S S [] (tSeq (tIfS (tB (tCB (rIsiTE K L) (tCons (tVar 0) (tCons (tTup (tCons (tC (.ref t.table)) (tCons (tC (.ref t.paper)) tNil))) tNil)))) (tRet (tTup (tCons (tIf (tB (tCB (rIsiE K L) (tCons (tVar 0) (tCons (tC (.ref t.table)) tNil)))) (tC (.str "table")) (tC (.str "paper"))) (tCons (tKFld Pt "part" (tVar 0)) tNil)))) tNext)
    (tSeq (tIfS (tB (tCB (rIsiE K L) (tCons (tVar 0) (tCons (tC (.ref t.receiver)) tNil)))) (tRet (tTup (tCons (tC (.str "receiver")) (tCons (tKFld [t.receiver] "place" (tVar 0)) tNil)))) tNext)
    (tRet (tIf (tB (tCB (rIsiE K L) (tCons (tVar 0) (tCons (tC (.ref t.row)) tNil)))) (tTup (tCons (tC (.str "row")) (tCons (tKFld [t.row] "moment" (tVar 0)) tNil))) (tTup (tCons (tC (.str "text")) (tCons (tKFld [t.text] "word" (tVar 0)) tNil))))))) [some (.err C (fldN i) d), some (.lat p ([decide (0 = i), decide (2 = i), decide (3 = i), decide (5 = i), decide (7 = i)].map Dt.bl))] (Pu (.tup [.str (nameN i), d])) →
      So K S S [] (e__law_faultG K t L G Pt) [some (.err C (fldN i) d), some (.lat p ([decide (0 = i), decide (2 = i), decide (3 = i), decide (5 = i), decide (7 = i)].map Dt.bl))] (Pu (.tup [.str (nameN i), d])) := fun h0 k => so_ifF (cnt (k := 0) (by rw [h0]; rfl) rfl) (so_skip k)
  have isf : ∀ {ρ : List (Option Dt)} {D : Addr} (j : Nat), t.l[j]? = some D → ¬ j = i → ρ[0]? = some (some (.err C (fldN i) d)) → (hj : j < 9 := by decide) → Ev K S S ρ (tCB (rIsiE K L) (tCons (tVar 0) (tCons (tC (.ref D)) tNil))) (Eq (.bl false)) := fun j hD hne h0 hj => (one j hD h0 hj).to (by rw [decide_eq_false hne])
  have hcase : i = 0 ∨ i = 1 ∨ i = 2 ∨ i = 3 ∨ i = 4 ∨ i = 5 ∨ i = 6 ∨ i = 7 ∨ i = 8 ∨ i = 9 := by omega
  rcases hcase with rfl | rfl | rfl | rfl | rfl | rfl | rfl | rfl | rfl | rfl
  · exact giv 0 "ratio" rfl rfl (fun m hm => absurd hm (Nat.not_lt_zero m)) rfl rfl rfl
  · refine oth rfl (so_ifT ((et_B (ev_isiTE (ev_var rfl) hC (kit (b := true) rfl)))) ?_)
    exact so_ret1D (ev_tup (ea_cons (ev_ifT (et_B ((one 1 rfl rfl).to rfl)) ev_str) (ea_cons (ev_kfld (ev_var rfl) (hP rfl)) ea_nil)) z2) (Sta.Le.refl S) rfl
  · exact giv 1 "word" rfl rfl (fun m hm => by match m, hm with | 0, _ => rfl) rfl rfl rfl
  · exact giv 2 "burst" rfl rfl (fun m hm => by match m, hm with | 0, _ => rfl | 1, _ => rfl) rfl rfl rfl
  · have hc : C = t.receiver := by have := T.at_; exact (Option.some.inj this).symm
    refine oth rfl (so_ifF ((et_B (ev_isiTE (ev_var rfl) hC (kit (b := false) rfl)))) (so_skip ?_))
    refine so_ifT ((et_B ((one 4 rfl rfl).to rfl))) ?_
    exact so_ret1D (ev_tup (ea_cons ev_str (ea_cons (ev_kfld (ev_var rfl) (by rw [hc]; exact List.mem_cons_self)) ea_nil)) z2) (Sta.Le.refl S) rfl
  · exact giv 3 "number" rfl rfl (fun m hm => by match m, hm with | 0, _ => rfl | 1, _ => rfl | 2, _ => rfl) rfl rfl rfl
  · refine oth rfl (so_ifT ((et_B (ev_isiTE (ev_var rfl) hC (kit (b := true) rfl)))) ?_)
    exact so_ret1D (ev_tup (ea_cons (ev_ifF (et_B (isf 1 rfl (by decide) rfl)) ev_str) (ea_cons (ev_kfld (ev_var rfl) (hP rfl)) ea_nil)) z2) (Sta.Le.refl S) rfl
  · exact giv 4 "style" rfl rfl (fun m hm => by match m, hm with | 0, _ => rfl | 1, _ => rfl | 2, _ => rfl | 3, _ => rfl) rfl rfl rfl
  · have hc : C = t.row := by have := T.at_; exact (Option.some.inj this).symm
    refine oth rfl (so_ifF ((et_B (ev_isiTE (ev_var rfl) hC (kit (b := false) rfl)))) (so_skip ?_))
    refine so_ifF ((et_B (isf 4 rfl (by decide) rfl))) (so_skip ?_)
    exact so_retD (ev_ifT ((et_B ((one 8 rfl rfl).to rfl))) (ev_tup (ea_cons ev_str (ea_cons (ev_kfld (ev_var rfl) (by rw [hc]; exact List.mem_cons_self)) ea_nil)) z2)) (Sta.Le.refl S) rfl
  · have hc : C = t.text := by have := T.at_; exact (Option.some.inj this).symm
    refine oth rfl (so_ifF ((et_B (ev_isiTE (ev_var rfl) hC (kit (b := false) rfl)))) (so_skip ?_))
    refine so_ifF ((et_B (isf 4 rfl (by decide) rfl))) (so_skip ?_)
    exact so_retD (ev_ifF ((et_B (isf 8 rfl (by decide) rfl))) (ev_tup (ea_cons ev_str (ea_cons (ev_kfld (ev_var rfl) (by rw [hc]; exact List.mem_cons_self)) ea_nil)) z2)) (Sta.Le.refl S) rfl
end
/-! ### what is said -/
def RG (K : PySem.W.Frag) (t : Ten) (L G Pt : List Addr) : Out → Dt → Prop
  | .ok z, d => d = .lst [z]
  | .er C f z, d => r_faultG K t L G Pt [.err C f z] d
abbrev t__law_saidG (K : PySem.W.Frag) (t : Ten) (L G Pt : List Addr) (f c' : Addr) (q : Str) (tl : XK → Hp → VK → Prop) : TS := (tSeq (tAsg (tTup (tCons (tC .non) (tCons (tC .non) tNil))) (gTup K 2 (gCons (gName 1) (gCons (gName 2) gNil))))
    (tSeq (fun D σ H => (fun W => (tAsg (tAct 0 f c' q tl (WE W)) (gName 2))) (wKp (fun cls => PySem.W.exmAny K cls (t.l.map Value.ref)) 3 (fun a cls d => (tAsg (tVar 3) (gName 1))) (fun _ _ _ _ => False) D) D σ H)
    (tRet (tIf (tTest (tOp rIsNo (tVar 1) (tC .non))) (tLst (tCons (tVar 2) tNil)) (tCall (p__law_faultG K t L G Pt) [] E0 (tCons (tVar 1) tNil))))))
section
variable {K : PySem.W.Frag} {S S1 : Sta} {ds : List Dt} {ρ : List (Option Dt)} {o : Out} {E : XK} {d : Dt} {t : Ten} {L G Pt : List Addr}
theorem so__law_saidG {H0 : Hp} {f c' : Addr} {q : Str} {tl : XK → Hp → VK → Prop} (hc : H0 c' = some (LamX.CodeO c' q)) (hl : LamO K H0 tl o) (hR : RG K t L G Pt o d) : So K (staSame H0) (staSame H0) [] (t__law_saidG K t L G Pt f c' q tl) (startD 4 [.raw (.ref f)]) (Pu d) := by
  refine so_unp (is := [1, 2]) (xs := [.non, .non]) (ev_tup (ea_cons ev_non (ea_cons ev_non ea_nil)) (by show 2 ≤ sizeLine; decide)) rfl rfl rfl ?_
  cases o with
  | ok z =>
    obtain rfl := hR
    refine so_seqG (S1 := staSame H0) (M := fun ρ' => ρ' = [some (.raw (.ref f)), some .non, some z, none]) (Sta.Le.refl _) (so_keepOk fun W => so_set0D (ev_act rfl hc hl) (Sta.Le.refl _) rfl) fun ρ' hM => ?_
    subst hM
    exact so_retD (ev_ifT ((et_test (ev_op (ev_var rfl) ev_non rv_isNo)).to rfl) (ev_lst (ea_cons (ev_var rfl) ea_nil) (by show 1 ≤ sizeLine; decide))) (Sta.Le.refl _) rfl
  | er C' f' z =>
    have hR' : r_faultG K t L G Pt [.err C' f' z] d := hR
    have hx : PySem.W.exmAny K (.ref C') (t.l.map Value.ref) = some true := by
      obtain ⟨C, i, d', _, _, T, _, _, e, _⟩ := hR'
      cases e
      exact T.ex
    refine so_seqG (S1 := staSame H0) (M := fun ρ' => ρ' = [some (.raw (.ref f)), some (.err C' f' z), some .non, none]) (Sta.Le.refl _) (so_keepEr (S1 := staSame H0) (C := C') (f := f') (d := z) (i := 3) (j := 1) (tw := fun W => tAsg (tAct 0 f c' q tl (WE W)) (gName 2)) hx (by decide) (by show 3 < 4; decide) (fun W D σ H i s hW => pr_act rfl hc hl i s hW) (Sta.Le.refl _) rfl) fun ρ' hM => ?_
    subst hM
    exact so_retD (ev_ifF ((et_test (ev_op (ev_var rfl) ev_non rv_isNo)).to rfl) (ev_callR (R := r_faultG K t L G Pt) (ea_cons (ev_var rfl) ea_nil) rfl hR')) (Sta.Le.refl _) rfl
end
end Bf
namespace Bf
open PySem PySem.Spec PyProof.Rows L2
/-! ## Defs with lists and dicts of their own: F is the heap without what may change -/
/-- what may change -/
def mutk : HO → Bool
  | .lst _ => true
  | .dK _ => true
  | .dT _ => true
  | .ext _ => true
  | _ => false
/-- F within H, since Fb within Hb -/
structure Vw (Hb Fb F H : Hp) : Prop where
  bF : Same Fb F
  bH : Same Hb H
  fH : Same F H
  off : ∀ a o, Hb a = some o → F a = Fb a
  mu : ∀ a o, H a = some o → F a = none → mutk o = true
/-- all that is new belongs to F, but for p -/
def grow (F H H' : Hp) (p : Option Addr) : Hp := fun a => if p = some a then none else match H a with
  | none => H' a
  | some _ => F a
section
variable {K : PySem.W.Frag} {Hb Fb F F' H H' : Hp} {p : Addr} {o : HO} {v : V} {d : Dt} {vs : List V} {ds : List Dt}
theorem grow_old {a : Addr} {q : Option Addr} (hq : q ≠ some a) (h : H a = some o) : grow F H H' q a = F a := by
  unfold grow
  rw [if_neg hq, h]
theorem grow_new {a : Addr} {q : Option Addr} (hq : q ≠ some a) (h : H a = none) : grow F H H' q a = H' a := by
  unfold grow
  rw [if_neg hq, h]
theorem Vw.grow {q : Option Addr} (V : Vw Hb Fb F H) (s : Same H H') (hq : ∀ a, q = some a → H a = none ∧ ∃ u, H' a = some u ∧ mutk u = true) : Vw Hb Fb (grow F H H' q) H' := by
  have hq1 : ∀ {a u}, H a = some u → q ≠ some a := fun {a u} e z => by
    have := (hq a z).1
    rw [e] at this
    cases this
  refine ⟨fun a u e => ?_, fun a u e => s _ _ (V.bH a u e), fun a u e => ?_, fun a u e => ?_, fun a u e1 e2 => ?_⟩
  · have h1 := V.bF a u e
    have h2 := V.fH a u h1
    rw [grow_old (hq1 h2) h2]
    exact h1
  · by_cases hz : q = some a
    · unfold Bf.grow at e
      rw [if_pos hz] at e
      cases e
    · cases h : H a with
      | none => rw [grow_new hz h] at e; exact e
      | some w => rw [grow_old hz h] at e; exact s _ _ (V.fH a u e)
  · have h2 := V.bH a u e
    rw [grow_old (hq1 h2) h2]
    exact V.off a u e
  · by_cases hz : q = some a
    · obtain ⟨_, u', e', m⟩ := hq a hz
      rw [e1] at e'
      cases e'
      exact m
    · cases h : H a with
      | none => rw [grow_new hz h, e1] at e2; cases e2
      | some w =>
        rw [grow_old hz h] at e2
        have := s _ _ h
        rw [e1] at this
        cases this
        exact V.mu a u h e2
/-- the object at p is another one -/
theorem Vw.put (V : Vw Hb Fb F H) (h1 : Hb p = none) (h2 : F p = none) (m : mutk o = true) : Vw Hb Fb F (upd H p o) :=
  ⟨V.bF, fun a u e => by rw [upd_ne (ne_of_none e h1)]; exact V.bH a u e, fun a u e => by rw [upd_ne (ne_of_none e h2)]; exact V.fH a u e, V.off, fun a u e1 e2 => by
    by_cases h : a = p
    · subst h
      rw [upd_same] at e1
      cases e1
      exact m
    · rw [upd_ne h] at e1
      exact V.mu a u e1 e2⟩
/-- p does not change any more -/
theorem Vw.frz (V : Vw Hb Fb F H) (h1 : Hb p = none) (h2 : F p = none) (h : H p = some o) : Vw Hb Fb (upd F p o) H :=
  ⟨fun a u e => by rw [upd_ne (ne_of_none (V.bF a u e) h2)]; exact V.bF a u e, V.bH, fun a u e => by
    by_cases z : a = p
    · subst z
      rw [upd_same] at e
      cases e
      exact h
    · rw [upd_ne z] at e
      exact V.fH a u e, fun a u e => by rw [upd_ne (ne_of_none e h1)]; exact V.off a u e, fun a u e1 e2 => by
    by_cases z : a = p
    · subst z
      rw [upd_same] at e2
      cases e2
    · rw [upd_ne z] at e2
      exact V.mu a u e1 e2⟩
theorem same_frz (h2 : F p = none) : Same F (upd F p o) := fun a u e => by
  rw [upd_ne (ne_of_none e h2)]
  exact e
mutual
/-- data that hold nothing that may change -/
def fixd : Dt → Bool
  | .non => true
  | .bl _ => true
  | .int _ => true
  | .str _ => true
  | .raw _ => true
  | .tup xs => fixdA xs
  | .ins _ _ xs => fixdA xs
  | _ => false
def fixdA : List Dt → Bool
  | [] => true
  | x :: xs => fixd x && fixdA xs
end
theorem fixdA_all : ∀ {xs : List Dt}, fixdA xs = true ↔ ∀ x ∈ xs, fixd x = true
  | [] => by simp [fixdA]
  | x :: xs => by simp [fixdA, fixdA_all]
mutual
theorem Rep.toF (h : ∀ a u, H a = some u → mutk u = false → F a = some u) : ∀ {v : V} {d : Dt}, fixd d = true → Rep K H v d → Rep K F v d
  | _, _, _, .non => .non
  | _, _, _, .bl b => .bl b
  | _, _, _, .int i => .int i
  | _, _, _, .str x => .str x
  | _, _, _, .raw v => .raw v
  | _, _, f, .tup q r => .tup (by
      rcases q with (q | ⟨o, q⟩) | q
      · exact .inl (.inl (h _ _ q rfl))
      · exact .inl (.inr ⟨o, h _ _ q rfl⟩)
      · exact .inr q) (r.toF h (by simpa only [fixd] using f))
  | _, _, f, .ins q r => .ins (h _ _ q rfl) (r.toF h (by simpa only [fixd] using f))
  | _, _, f, .lst _ _ => by simp [fixd] at f
  | _, _, f, .lat _ _ => by simp [fixd] at f
  | _, _, f, .dic _ => by simp [fixd] at f
  | _, _, f, .err _ _ _ => by simp [fixd] at f
  | _, _, f, .dct _ _ _ => by simp [fixd] at f
  | _, _, f, .dti _ _ _ => by simp [fixd] at f
  | _, _, f, .dat _ _ _ _ => by simp [fixd] at f
  | _, _, f, .cel _ _ => by simp [fixd] at f
theorem RepA.toF (h : ∀ a u, H a = some u → mutk u = false → F a = some u) : ∀ {vs : List V} {ds : List Dt}, fixdA ds = true → RepA K H vs ds → RepA K F vs ds
  | _, _, _, .nil => .nil
  | _, _, f, .cons q r => by
    simp only [fixdA, Bool.and_eq_true] at f
    exact .cons (q.toF h f.1) (r.toF h f.2)
end
theorem Vw.toF (V : Vw Hb Fb F H) : ∀ a u, H a = some u → mutk u = false → F a = some u := fun a u e m => by
  cases hf : F a with
  | none =>
    have := V.mu a u e hf
    rw [m] at this
    cases this
  | some x =>
    have := V.fH _ _ hf
    rw [e] at this
    exact this.symm
/-- the durations that are read by steps -/
def dursD (l1 : List Dt) : List Int := l1.flatMap fun d => match d with
  | .dat _ _ _ xs => xs.flatMap fun y => match y with
    | .lst ss => ss.flatMap fun s => match s with
      | .tup (_ :: .int i :: _) => [i]
      | _ => []
    | _ => []
  | _ => []
def askD (l : Nat) (f p : Int) : Dt := .tup [.int l, .int f, .int p]
/-- a dict of needs that were asked for: each is right -/
def ownOk (l1 l2 ks xs : List Dt) : Prop := (ks.map nk).Nodup ∧ ks.length = xs.length ∧ ∀ (i : Nat) k x, ks[i]? = some k → xs[i]? = some x → ∃ (l : Nat) (f p : Int) (C : Addr) (t : Fq), k = askD l f p ∧ l < 4 ∧ f ∈ dursD l1 ∧ p ∈ dursD l1 ∧ l2[l]? = some (rat C t.1 t.2) ∧ x = rat C (canP (needP f p t)).1 (canP (needP f p t)).2
/-- what a slot holds: data of F, or a list or a dict that may change -/
inductive Mrep (K : PySem.W.Frag) (Hb F H : Hp) : V → Dt → Prop
  | fix {v : V} {d : Dt} : Rep K F v d → Mrep K Hb F H v d
  | lat {p : Addr} {vs : List V} {ds : List Dt} : Hb p = none → F p = none → H p = some (.lst vs) → RepA K F vs ds → Mrep K Hb F H (.ref p) (.lat p ds)
  | dti {p : Addr} {vs : List V} {ks : List Int} {ds : List Dt} : Hb p = none → F p = none → H p = some (.dK (iK ks vs)) → ks.length = ds.length → RepA K F vs ds → Mrep K Hb F H (.ref p) (.dti p ks ds)
  | dat {p : Addr} {w : World} {as : List Addr} {vs : List V} {ks ds : List Dt} : Hb p = none → F p = none → H p = some (DatO w ks as vs p) → ks.length = ds.length → RepA K F (as.map V.ref) ks → RepA K F vs ds → Mrep K Hb F H (.ref p) (.dat p w ks ds)
  /-- an instance whose last part is a dict that may change, and holds what is right -/
  | own {a C dx p : Addr} {w : World} {n1 n2 n3 : Str} {v1 v2 : V} {l1 l2 : List Dt} {as : List Addr} {vs : List V} {ks ds : List Dt} : F a = some (.ins C dx [(n1, v1), (n2, v2), (n3, .ref p)]) → Rep K F v1 (.lst l1) → Rep K F v2 (.lst l2) →
      Hb p = none → F p = none → H p = some (DatO w ks as vs p) → RepA K F (as.map V.ref) ks → RepA K F vs ds → ownOk l1 l2 ks ds → Mrep K Hb F H (.ref a) (.ins C [n1, n2, n3] [.lst l1, .lst l2, .cel p w])
theorem Mrep.rep (V : Vw Hb Fb F H) (m : Mrep K Hb F H v d) : Rep K H v d := by
  have g : Gr F H := V.fH.gr
  cases m with
  | fix r => exact r.mono g
  | lat _ _ h r => exact .lat h (r.mono g)
  | dti _ _ h l r => exact .dti h l (r.mono g)
  | dat _ _ h l r1 r2 => exact .dat h l (r1.mono g) (r2.mono g)
  | own ha q1 q2 _ _ h r1 r2 _ => exact .ins (ns := [_, _, _]) (vs := [_, _, _]) (V.fH _ _ ha) (.cons (q1.mono g) (.cons (q2.mono g) (.cons (.cel h rfl) .nil)))
theorem Mrep.up (m : Mrep K Hb F H v d) (s : Same F F') (t : Same H H') (hn : ∀ a u, H a = some u → F a = none → F' a = none) : Mrep K Hb F' H' v d := by
  have g : Gr F F' := s.gr
  cases m with
  | fix r => exact .fix (r.mono g)
  | lat z n h r => exact .lat z (hn _ _ h n) (t _ _ h) (r.mono g)
  | dti z n h l r => exact .dti z (hn _ _ h n) (t _ _ h) l (r.mono g)
  | dat z n h l r1 r2 => exact .dat z (hn _ _ h n) (t _ _ h) l (r1.mono g) (r2.mono g)
  | own ha q1 q2 z n h r1 r2 k => exact .own (s _ _ ha) (q1.mono g) (q2.mono g) z (hn _ _ h n) (t _ _ h) (r1.mono g) (r2.mono g) k
/-- not the one at p -/
def offm (p : Addr) : Dt → Prop
  | .lat q _ => q ≠ p
  | .dti q _ _ => q ≠ p
  | .dat q _ _ _ => q ≠ p
  | .ins _ _ [_, _, .cel q _] => q ≠ p
  | _ => True
theorem Mrep.put (m : Mrep K Hb F H v d) (h : offm p d) (hp : F p = none) : Mrep K Hb F (upd H p o) v d := by
  cases m with
  | fix r => exact .fix r
  | lat z n h' r => exact .lat z n (by rw [upd_ne h]; exact h') r
  | dti z n h' l r => exact .dti z n (by rw [upd_ne h]; exact h') l r
  | dat z n h' l r1 r2 => exact .dat z n (by rw [upd_ne h]; exact h') l r1 r2
  | own ha q1 q2 z n h' r1 r2 k => exact .own ha q1 q2 z n (by rw [upd_ne h]; exact h') r1 r2 k
theorem Mrep.frz (m : Mrep K Hb F H v d) (hp : F p = none) (h : H p = some o) : Mrep K Hb (upd F p o) H v d := by
  have s : Same F (upd F p o) := same_frz hp
  have g := s.gr
  cases m with
  | fix r => exact .fix (r.mono g)
  | lat zz n h' r =>
    rename_i q ws xs
    by_cases z : q = p
    · subst z
      rw [h] at h'
      cases h'
      exact .fix (.lat upd_same (r.mono g))
    · exact .lat zz (by rw [upd_ne z]; exact n) h' (r.mono g)
  | dti zz n h' l r =>
    rename_i q ws ks xs
    by_cases z : q = p
    · subst z
      rw [h] at h'
      cases h'
      exact .fix (.dti upd_same l (r.mono g))
    · exact .dti zz (by rw [upd_ne z]; exact n) h' l (r.mono g)
  | dat zz n h' l r1 r2 =>
    rename_i q ww as ws ks xs
    by_cases z : q = p
    · subst z
      rw [h] at h'
      cases h'
      exact .fix (.dat upd_same l (r1.mono g) (r2.mono g))
    · exact .dat zz (by rw [upd_ne z]; exact n) h' l (r1.mono g) (r2.mono g)
  | own ha q1 q2 zz n h' r1 r2 k =>
    rename_i a0 C0 dx0 q ww m1 m2 m3 v1 v2 l1 l2 as ws ks xs
    by_cases z : q = p
    · subst z
      rw [h] at h'
      cases h'
      exact .fix (.ins (ns := [_, _, _]) (vs := [_, _, _]) (s _ _ ha) (.cons (q1.mono g) (.cons (q2.mono g) (.cons (.cel upd_same rfl) .nil))))
    · exact .own (s _ _ ha) (q1.mono g) (q2.mono g) zz (by rw [upd_ne z]; exact n) h' (r1.mono g) (r2.mono g) k
end
structure Mls (K : PySem.W.Frag) (Hb F H : Hp) (σ : L2.St) (ρ : List (Option Dt)) : Prop where
  len : σ.length = ρ.length
  val : ∀ (i : Nat) (d : Dt), ρ[i]? = some (some d) → ∃ v, σ[i]? = some (some v) ∧ Mrep K Hb F H v d
section
variable {K : PySem.W.Frag} {Hb Fb F F' H H' : Hp} {p : Addr} {o : HO} {v : V} {d : Dt} {σ : L2.St} {ρ : List (Option Dt)}
theorem Mls.slots (m : Mls K Hb F H σ ρ) (V : Vw Hb Fb F H) : Slots K H σ ρ := ⟨m.len, fun i d e => let ⟨v, h, r⟩ := m.val i d e; ⟨v, h, r.rep V⟩⟩
theorem Mls.up (m : Mls K Hb F H σ ρ) (s : Same F F') (t : Same H H') (hn : ∀ a u, H a = some u → F a = none → F' a = none) : Mls K Hb F' H' σ ρ := ⟨m.len, fun i d e => let ⟨v, h, r⟩ := m.val i d e; ⟨v, h, r.up s t hn⟩⟩
theorem Mls.frz (m : Mls K Hb F H σ ρ) (hp : F p = none) (h : H p = some o) : Mls K Hb (upd F p o) H σ ρ := ⟨m.len, fun i d e => let ⟨v, h', r⟩ := m.val i d e; ⟨v, h', r.frz hp h⟩⟩
theorem Mls.set (m : Mls K Hb F H σ ρ) (r : Mrep K Hb F H v d) (j : Nat) : Mls K Hb F H (σ.set j (some v)) (ρ.set j (some d)) := by
  refine ⟨by rw [List.length_set, List.length_set, m.len], fun i e h => ?_⟩
  by_cases hj : j = i
  · subst hj
    by_cases hl : j < ρ.length
    · rw [List.getElem?_set_self hl] at h
      cases h
      exact ⟨v, List.getElem?_set_self (by rw [m.len]; exact hl), r⟩
    · rw [List.getElem?_eq_none (by rw [List.length_set]; omega)] at h
      cases h
  · rw [List.getElem?_set_ne hj] at h
    obtain ⟨u, hu, q⟩ := m.val i e h
    exact ⟨u, by rw [List.getElem?_set_ne hj]; exact hu, q⟩
/-- the other slots are off p -/
def Offm (p : Addr) (ρ : List (Option Dt)) (j : Nat) : Prop := ∀ (i : Nat) (d : Dt), i ≠ j → ρ[i]? = some (some d) → offm p d
def offmL (p : Addr) (j : Nat) : Nat → List (Option Dt) → Prop
  | _, [] => True
  | n, o :: r => (n ≠ j → ∀ d, o = some d → offm p d) ∧ offmL p j (n + 1) r
theorem offm_of {j : Nat} : ∀ {ρ : List (Option Dt)} {n : Nat}, offmL p j n ρ → ∀ (i : Nat) (d : Dt), i + n ≠ j → ρ[i]? = some (some d) → offm p d
  | [], _, _, i, d, _, e => by simp at e
  | o :: r, n, h, 0, d, hi, e => h.1 (by omega) d (by simpa using e)
  | o :: r, n, h, i + 1, d, hi, e => offm_of h.2 i d (by omega) (by simpa using e)
theorem Offm.mk {j : Nat} (h : offmL p j 0 ρ) : Offm p ρ j := fun i d hi e => offm_of h i d (by omega) e
/-- the object at p, in slot j, is another one -/
theorem Mls.put {j : Nat} {d' : Dt} (m : Mls K Hb F H σ ρ) (hn : Offm p ρ j) (hp : F p = none) (hs : σ[j]? = some (some v)) (r : Mrep K Hb F (upd H p o) v d') : Mls K Hb F (upd H p o) σ (ρ.set j (some d')) := by
  refine ⟨by rw [List.length_set]; exact m.len, fun i e h => ?_⟩
  by_cases hj : j = i
  · subst hj
    by_cases hl : j < ρ.length
    · rw [List.getElem?_set_self hl] at h
      cases h
      exact ⟨v, hs, r⟩
    · rw [List.getElem?_eq_none (by rw [List.length_set]; omega)] at h
      cases h
  · rw [List.getElem?_set_ne hj] at h
    obtain ⟨u, hu, q⟩ := m.val i e h
    exact ⟨u, hu, q.put (hn i e (Ne.symm hj) h) hp⟩
end
end Bf
namespace Bf
open PySem PySem.Spec PyProof.Rows L2
/-! ## Statements of defs with lists and dicts of their own -/
/-- what may still be changed -/
def Lo (Hb F H : Hp) (L : List Addr) : Prop := ∀ p ∈ L, Hb p = none ∧ F p = none ∧ ∃ o, H p = some o
structure Pm where
  nx : List (Option Dt) → List Addr → Prop := fun _ _ => False
  rt : Dt → Prop := fun _ => False
  bk : List (Option Dt) → List Addr → Prop := fun _ _ => False
  ct : List (Option Dt) → List Addr → Prop := fun _ _ => False
  /-- what the slots hold where the def returns -/
  rl : List (Option Dt) → List Addr → Prop := fun _ _ => True
structure Fx (K : PySem.W.Frag) (Hb Fb : Hp) (P : Pm) (D : Ends) (F0 : Hp) : Prop where
  nx : ∀ (σ : L2.St) ρ L F H, Same F0 F → Vw Hb Fb F H → Lo Hb F H L → Mls K Hb F H σ ρ → P.nx ρ L → D.nx σ H
  rt : ∀ v d F H, Same F0 F → Vw Hb Fb F H → Rep K F v d → P.rt d → (∃ (σ : L2.St) (ρ : List (Option Dt)) (L : List Addr), Lo Hb F H L ∧ Mls K Hb F H σ ρ ∧ P.rl ρ L) → D.rt v H
  bk : ∀ (σ : L2.St) ρ L F H, Same F0 F → Vw Hb Fb F H → Lo Hb F H L → Mls K Hb F H σ ρ → P.bk ρ L → D.bk σ H
  ct : ∀ (σ : L2.St) ρ L F H, Same F0 F → Vw Hb Fb F H → Lo Hb F H L → Mls K Hb F H σ ρ → P.ct ρ L → D.ct σ H
def Sm (K : PySem.W.Frag) (Hb Fb : Hp) (L : List Addr) (ts : TS) (ρ : List (Option Dt)) (P : Pm) : Prop := ∀ (D : Ends) (σ : L2.St) (F H : Hp), Vw Hb Fb F H → Lo Hb F H L → Mls K Hb F H σ ρ → Fx K Hb Fb P D F → ts D σ H
/-- an expression that comes to data that stay -/
def Ef (K : PySem.W.Frag) (Hb Fb : Hp) (L : List Addr) (ρ : List (Option Dt)) (te : TE) (Φ : Dt → Prop) : Prop := ∀ (σ : L2.St) (F H : Hp), Vw Hb Fb F H → Lo Hb F H L → Mls K Hb F H σ ρ → ∀ Q : VK,
  (∀ v d F' H', Same F F' → Vw Hb Fb F' H' → Lo Hb F' H' L → Mls K Hb F' H' σ ρ → Rep K F' v d → Φ d → Q v H') → te σ H Q
section
variable {K : PySem.W.Frag} {Hb Fb F F' H H' : Hp} {L L' : List Addr} {p : Addr} {o : HO} {v : V} {d x : Dt} {σ : L2.St} {ρ : List (Option Dt)} {P : Pm} {te tl : TE} {ta : TA} {tt c : TT} {t u w : TS} {D : Ends} {Φ Ψ : Dt → Prop} {j : Nat} {xs ys ds : List Dt}
theorem Fx.up (f : Fx K Hb Fb P D F) (s : Same F F') : Fx K Hb Fb P D F' :=
  ⟨fun σ ρ L G H t => f.nx σ ρ L G H (s.trans t), fun v d G H t => f.rt v d G H (s.trans t), fun σ ρ L G H t => f.bk σ ρ L G H (s.trans t), fun σ ρ L G H t => f.ct σ ρ L G H (s.trans t)⟩
theorem Lo.sub (h : Lo Hb F H L) (s : ∀ p ∈ L', p ∈ L) : Lo Hb F H L' := fun p q => h p (s p q)
/-! expressions -/
theorem Ef.weak (h : Ef K Hb Fb L ρ te Φ) (w : ∀ d, Φ d → Ψ d) : Ef K Hb Fb L ρ te Ψ := fun σ F H V l m Q q => h σ F H V l m Q fun v d F' H' s V' l' m' r p => q v d F' H' s V' l' m' r (w d p)
end
end Bf
namespace Bf
open PySem PySem.Spec PyProof.Rows L2
section
variable {K : PySem.W.Frag} {Hb Fb F F' H H' : Hp} {L L' : List Addr} {p : Addr} {o : HO} {v : V} {d x : Dt} {σ : L2.St} {ρ : List (Option Dt)} {P : Pm} {te tl tk : TE} {ta : TA} {tt c : TT} {t u w : TS} {D : Ends} {Φ Ψ : Dt → Prop} {j : Nat} {xs ys ds : List Dt} {ks : List Int}
/-! statements -/
theorem SqT.same {a : Addr} {vs : List V} (s : Same F H) (h : SqT K F a vs) : SqT K H a vs := s.gr.sqT h
theorem SqL.same {a : Addr} {vs : List V} (s : Same F H) (h : SqL K F a vs) : SqL K H a vs := s.gr.sqL h
/-! loops -/
end
end Bf
namespace Bf
open PySem PySem.Spec PyProof.Rows L2
/-! ## Dicts with ints as keys, that grow -/
def setI {α : Type} : List Int → List α → Int → α → List α
  | k :: ks, x :: xs, i, y => if k = i then y :: xs else x :: setI ks xs i y
  | _, xs, _, y => xs ++ [y]
section
variable {K : PySem.W.Frag} {Hb Fb F F' H H' : Hp} {L L' : List Addr} {p : Addr} {o : HO} {v : V} {d x : Dt} {σ : L2.St} {ρ : List (Option Dt)} {P : Pm} {te tl tk td ty : TE} {ta : TA} {tt c : TT} {t u w : TS} {D : Ends} {Φ Ψ : Dt → Prop} {j : Nat} {xs ys ds : List Dt} {ks : List Int} {S S1 S2 : Sta} {i : Int}
/-! ### promises -/
end
end Bf
namespace Bf
open PySem PySem.Spec PyProof.Rows L2
end Bf
namespace Bf
open PySem PySem.Spec PyProof.Rows L2
/-! ## Dicts that grow, their keys tuples (of tuples) -/
/-- fit for parts of keys, to a depth -/
def kyB : Nat → Dt → Bool
  | _, .non => true
  | _, .bl _ => true
  | _, .int _ => true
  | _, .str _ => true
  | n + 1, .tup xs => xs.all (kyB n)
  | _, _ => false
def kyT : Dt → Bool
  | .tup xs => xs.all (kyB 5)
  | _ => false
section
variable {X : Cx} {pins : List (Addr × Obj)} {σ : L2.St} {H : Hp} {s : Shared}
/-! look-ups -/
/-! a new entry -/
/-! {} -/
/-! list(d) -/
/-! {k: v} -/
end
end Bf
namespace Bf
open PySem PySem.Spec PyProof.Rows L2
/-! ## growing dicts with tuples as keys, over data -/
section
variable {K : PySem.W.Frag} {Hb Fb F F' H H' : Hp} {L L' : List Addr} {p : Addr} {o : HO} {v : V} {d x q : Dt} {σ : L2.St} {ρ : List (Option Dt)} {P : Pm} {te tl tk td ty tv : TE} {ta : TA} {tt c : TT} {t u : TS} {D : Ends} {Φ Ψ : Dt → Prop} {j : Nat} {xs ys ds ks : List Dt} {S S1 S2 : Sta} {w : World} {tw : TS}
end
/-! ### keys by a code of their own -/
section
variable {κ α : Type} [DecidableEq κ]
structure Enc (enc : κ → Dt) : Prop where
  inj : ∀ a b, nk (enc a) = nk (enc b) → a = b
  ky : ∀ a, kyT (enc a) = true
def lkG : List κ → List α → κ → Option α
  | k :: ks, x :: xs, q => if k = q then some x else lkG ks xs q
  | _, _, _ => none
def keyG (ks : List κ) (q : κ) : List κ := if q ∈ ks then ks else ks ++ [q]
def setG : List κ → List α → κ → α → List α
  | k :: ks, x :: xs, q, y => if k = q then y :: xs else x :: setG ks xs q y
  | _, xs, _, y => xs ++ [y]
variable {enc : κ → Dt} {f : α → Dt}
theorem keyG_nodup {ks : List κ} {i : κ} (h : ks.Nodup) : (keyG ks i).Nodup := by
  unfold keyG
  split
  · exact h
  · rename_i m
    refine List.nodup_append.mpr ⟨h, by simp, fun a ha b hb => ?_⟩
    rw [List.mem_singleton.mp hb]
    exact fun z => m (z ▸ ha)
theorem mem_keyG {ks : List κ} {i j : κ} : j ∈ keyG ks i ↔ j ∈ ks ∨ j = i := by
  unfold keyG
  by_cases m : i ∈ ks
  · rw [if_pos m]
    exact ⟨.inl, fun h => h.elim id fun e => e ▸ m⟩
  · rw [if_neg m]
    simp
theorem setG_len {q : κ} {y : α} : ∀ {ks : List κ} {xs : List α}, ks.length = xs.length → (keyG ks q).length = (setG ks xs q y).length
  | [], [], _ => by simp [keyG, setG]
  | [], _ :: _, h => by simp at h
  | _ :: _, [], h => by simp at h
  | k :: ks, x :: xs, h => by
    have ih := setG_len (q := q) (y := y) (ks := ks) (xs := xs) (by simpa using h)
    unfold keyG at ih ⊢
    by_cases e : k = q
    · subst e
      simp only [setG, if_true, List.mem_cons, true_or]
      simpa using h
    · simp only [setG, if_neg e, List.length_cons, ← ih]
      have e' : ¬ q = k := fun z => e z.symm
      simp only [List.mem_cons, e', false_or]
      split <;> simp
theorem lkG_set {q j : κ} {y : α} : ∀ {ks : List κ} {xs : List α}, ks.length = xs.length → lkG (keyG ks q) (setG ks xs q y) j = if j = q then some y else lkG ks xs j
  | [], [], _ => by
    simp only [keyG, List.not_mem_nil, if_false, List.nil_append, setG, lkG]
    by_cases e : q = j
    · simp [e]
    · have : ¬ j = q := fun z => e z.symm
      simp [e, this]
  | [], _ :: _, h => by simp at h
  | _ :: _, [], h => by simp at h
  | k :: ks, x :: xs, h => by
    have hl : ks.length = xs.length := by simpa using h
    by_cases e : k = q
    · subst e
      have : keyG (k :: ks) k = k :: ks := by simp [keyG]
      rw [this]
      simp only [setG, if_true, lkG]
      by_cases z : k = j
      · simp [z]
      · have : ¬ j = k := fun q => z q.symm
        simp [z, this]
    · have hk : keyG (k :: ks) q = k :: keyG ks q := by
        unfold keyG
        by_cases m : q ∈ ks
        · simp [m]
        · have : ¬ q = k := fun z => e z.symm
          simp [m, this]
      rw [hk]
      simp only [setG, if_neg e, lkG]
      by_cases z : k = j
      · subst z
        simp [e]
      · rw [if_neg z, if_neg z, lkG_set hl]
theorem lkG_none {q : κ} : ∀ {ks : List κ} {xs : List α}, ks.length = xs.length → (lkG ks xs q = none ↔ q ∉ ks)
  | [], _, _ => by simp [lkG]
  | _ :: _, [], h => by simp at h
  | k :: ks, x :: xs, h => by
    by_cases e : k = q
    · simp [lkG, e]
    · have := lkG_none (q := q) (show ks.length = xs.length by simpa using h)
      simp only [lkG, if_neg e, this, List.mem_cons, not_or]
      exact ⟨fun h => ⟨fun z => e z.symm, h⟩, fun h => h.2⟩
end
end Bf
namespace Bf
/-! ## A search by length: what leads on, the first way to something wrong -/
section
variable {κ μ : Type} [DecidableEq κ]
/-- what leads on from a place: a move, where to, whether this is wrong -/
abbrev Mv (κ μ : Type) := μ × κ × Bool
variable (mv : κ → List (Mv κ μ))
abbrev Pt (κ μ : Type) := List μ × κ
def exT (x : Pt κ μ) : List (Pt κ μ) := ((mv x.2).filter fun m => !m.2.2).map fun m => (x.1 ++ [m.1], m.2.1)
def wrT (x : Pt κ μ) : List (List μ) := ((mv x.2).filter fun m => m.2.2).map fun m => x.1 ++ [m.1]
/-- all ways of so many moves, none of them wrong -/
def paths (b : κ) : Nat → List (Pt κ μ)
  | 0 => [([], b)]
  | k + 1 => (paths b k).flatMap (exT mv)
def wrongs (b : κ) (k : Nat) : List (List μ) := (paths mv b k).flatMap (wrT mv)
/-- one of each new place -/
def pst (s : List κ × List (Pt κ μ)) (x : Pt κ μ) : List κ × List (Pt κ μ) := if x.2 ∈ s.1 then s else (s.1 ++ [x.2], s.2 ++ [x])
def prn (V : List κ) (xs : List (Pt κ μ)) : List κ × List (Pt κ μ) := xs.foldl pst (V, [])
/-- the search as far as k: V was visited ahead of it, W is visited now, R are the ways that go on -/
structure Sch (b : κ) (k : Nat) (W : List κ) (R : List (Pt κ μ)) : Prop where
  ex : ∃ V, R = (prn V (paths mv b k)).2 ∧ W = (prn V (paths mv b k)).1 ∧ (∀ p ∈ V, ∀ m ∈ mv p, m.2.2 = false → m.2.1 ∈ W) ∧ ∀ p ∈ V, ∀ m ∈ mv p, m.2.2 = false
  no : ∀ j, j < k → wrongs mv b j = []
  nd : W.Nodup
end
/-- as many as there are numbers for them -/
theorem nodup_lt : ∀ (N : Nat) (l : List Nat), l.Nodup → (∀ x ∈ l, x < N) → l.length ≤ N
  | 0, l, _, h => by
    cases l with
    | nil => exact Nat.le_refl _
    | cons x l => exact absurd (h x List.mem_cons_self) (Nat.not_lt_zero x)
  | N + 1, l, hn, h => by
    have h1 := nodup_lt N (l.filter fun x => decide (x ≠ N)) (hn.filter _) fun x hx => by
      obtain ⟨a, b⟩ := List.mem_filter.mp hx
      have := h x a
      have := of_decide_eq_true b
      omega
    have h2 : (l.filter fun x => !decide (x ≠ N)).length ≤ 1 := by
      have hs : ∀ x ∈ l.filter (fun x => !decide (x ≠ N)), x = N := fun x hx => by simpa using (List.mem_filter.mp hx).2
      have hd := hn.filter (fun x => !decide (x ≠ N))
      match e : l.filter (fun x => !decide (x ≠ N)) with
      | [] => simp
      | [_] => simp
      | a :: c :: r =>
        rw [e] at hs hd
        have e1 := hs a (by simp)
        have e2 := hs c (by simp)
        simp [e1, e2] at hd
    have h3 : l.length = (l.filter fun x => decide (x ≠ N)).length + (l.filter fun x => !decide (x ≠ N)).length := by
      clear h1 h2 h hn
      induction l with
      | nil => rfl
      | cons x l ih =>
        by_cases c : x = N
        · simp [c] at ih ⊢; omega
        · simp [c] at ih ⊢; omega
    omega
end Bf
namespace Bf
/-! ## The least of the greatest needs on all ways: what a search with one dict a round comes to -/
/-- a total order, told by what is less -/
structure TotLt {Q : Type} (lt : Q → Q → Bool) : Prop where
  irr : ∀ a, lt a a = false
  tr : ∀ a b c, lt a b = true → lt b c = true → lt a c = true
  tot : ∀ a b, lt a b = false → lt b a = false → a = b
section
variable {κ Q : Type} [DecidableEq κ] {lt : Q → Q → Bool} (T : TotLt lt) (mv : κ → List (Q × κ)) (fin : κ → Bool) (sts : List κ) (q0 : Q)
theorem TotLt.asy {lt : Q → Q → Bool} (T : TotLt lt) {a b : Q} (h : lt a b = true) : lt b a = false := by
  cases e : lt b a with
  | false => rfl
  | true =>
    have := T.tr _ _ _ h e
    rw [T.irr] at this
    cases this
/-- not less: ≤ the other way round -/
theorem TotLt.le_tr {lt : Q → Q → Bool} (T : TotLt lt) {a b c : Q} (h1 : lt b a = false) (h2 : lt c b = false) : lt c a = false := by
  cases e : lt c a with
  | false => rfl
  | true =>
    cases e2 : lt a b with
    | true => rw [T.tr _ _ _ e e2] at h2; cases h2
    | false =>
      have := T.tot _ _ e2 h1
      subst this
      rw [e] at h2
      cases h2
/-- the greater one of a need and what was needed before -/
def gre (lt : Q → Q → Bool) (need r : Q) : Q := if lt r need = true then need else r
/-- a way of so many moves to a place, with the greatest need on it -/
def Pth : Nat → κ → Q → Prop
  | 0, s, q => s ∈ sts ∧ q = q0
  | k + 1, s, q => ∃ p r n, Pth k p r ∧ (n, s) ∈ mv p ∧ q = gre lt n r
/-- the dict of a round: its places, each with a need -/
abbrev Rd (κ Q : Type) := List (κ × Q)
def lkR : Rd κ Q → κ → Option Q
  | [], _ => none
  | (k, q) :: d, s => if k = s then some q else lkR d s
def putR (lt : Q → Q → Bool) (d : Rd κ Q) (s : κ) (g : Q) : Rd κ Q := match lkR d s with
  | none => d ++ [(s, g)]
  | some q => if lt g q = true then d.map fun x => if x.1 = s then (s, g) else x else d
theorem lkR_app (d : Rd κ Q) (s t : κ) (g : Q) : lkR (d ++ [(s, g)]) t = (lkR d t).orElse fun _ => if s = t then some g else none := by
  induction d with
  | nil => rfl
  | cons x d ih =>
    obtain ⟨k, q⟩ := x
    show (if k = t then some q else lkR (d ++ [(s, g)]) t) = (if k = t then some q else lkR d t).orElse _
    by_cases e : k = t
    · rw [if_pos e, if_pos e]; rfl
    · rw [if_neg e, if_neg e, ih]
theorem lkR_map (d : Rd κ Q) (s t : κ) (g : Q) : lkR (d.map fun x => if x.1 = s then (s, g) else x) t = (lkR d t).map fun q => if s = t then g else q := by
  induction d with
  | nil => rfl
  | cons x d ih =>
    obtain ⟨k, q⟩ := x
    rw [List.map_cons]
    by_cases e : k = s
    · subst e
      rw [if_pos rfl]
      show (if k = t then some g else lkR _ t) = (if k = t then some q else lkR d t).map _
      by_cases e2 : k = t
      · rw [if_pos e2, if_pos e2, Option.map_some, if_pos e2]
      · rw [if_neg e2, if_neg e2, ih]
    · rw [if_neg e]
      show (if k = t then some q else lkR _ t) = (if k = t then some q else lkR d t).map _
      by_cases e2 : k = t
      · rw [if_pos e2, if_pos e2, Option.map_some, if_neg (fun z => e (e2.trans z.symm))]
      · rw [if_neg e2, if_neg e2, ih]
/-- the dict keeps the least -/
theorem lkR_put (d : Rd κ Q) (s t : κ) (g : Q) : lkR (putR lt d s g) t = if s = t then (match lkR d t with | none => some g | some q => some (if lt g q = true then g else q)) else lkR d t := by
  unfold putR
  by_cases e : s = t
  · subst e
    rw [if_pos rfl]
    cases h : lkR d s with
    | none => rw [lkR_app, h, if_pos rfl]; rfl
    | some q =>
      show lkR (if lt g q = true then d.map fun x => if x.1 = s then (s, g) else x else d) s = some (if lt g q = true then g else q)
      by_cases c : lt g q = true
      · rw [if_pos c, if_pos c, lkR_map, h, Option.map_some, if_pos rfl]
      · rw [if_neg c, if_neg c, h]
  · rw [if_neg e]
    cases h : lkR d s with
    | none =>
      show lkR (d ++ [(s, g)]) t = _
      rw [lkR_app, if_neg e]
      cases lkR d t <;> rfl
    | some q =>
      show lkR (if lt g q = true then d.map fun x => if x.1 = s then (s, g) else x else d) t = _
      by_cases c : lt g q = true
      · rw [if_pos c, lkR_map]
        cases lkR d t with
        | none => rfl
        | some r => rw [Option.map_some, if_neg e]
      · rw [if_neg c]
/-- what a dict says is the least of what is told of a place -/
def LeastR (lt : Q → Q → Bool) (S : κ → Q → Prop) (d : Rd κ Q) : Prop := ∀ s, match lkR d s with
  | none => ∀ q, ¬ S s q
  | some q => S s q ∧ ∀ r, S s r → lt r q = false
theorem LeastR.put {S : κ → Q → Prop} {d : Rd κ Q} (T : TotLt lt) (h : LeastR lt S d) (s : κ) (g : Q) : LeastR lt (fun t q => S t q ∨ (t = s ∧ q = g)) (putR lt d s g) := by
  intro t
  rw [lkR_put]
  have ht := h t
  by_cases e : s = t
  · subst e
    rw [if_pos rfl]
    cases c : lkR d s with
    | none =>
      rw [c] at ht
      exact ⟨.inr ⟨rfl, rfl⟩, fun r hr => by
        rcases hr with hr | ⟨_, rfl⟩
        · exact absurd hr (ht r)
        · exact T.irr r⟩
    | some q =>
      rw [c] at ht
      obtain ⟨h1, h2⟩ := ht
      show (_ ∧ _)
      by_cases z : lt g q = true
      · rw [if_pos z]
        exact ⟨.inr ⟨rfl, rfl⟩, fun r hr => by
          rcases hr with hr | ⟨_, rfl⟩
          · exact T.le_tr (T.asy z) (h2 r hr)
          · exact T.irr r⟩
      · rw [if_neg z]
        exact ⟨.inl h1, fun r hr => by
          rcases hr with hr | ⟨_, rfl⟩
          · exact h2 r hr
          · exact Bool.eq_false_iff.mpr z⟩
  · rw [if_neg e]
    cases c : lkR d t with
    | none =>
      rw [c] at ht
      exact fun q hq => hq.elim (ht q) fun ⟨z, _⟩ => e z.symm
    | some q =>
      rw [c] at ht
      exact ⟨.inl ht.1, fun r hr => hr.elim (ht.2 r) fun ⟨z, _⟩ => absurd z.symm e⟩
theorem LeastR.to {S S' : κ → Q → Prop} {d : Rd κ Q} (h : LeastR lt S d) (e : ∀ s q, S s q ↔ S' s q) : LeastR lt S' d := fun s => by
  have hs := h s
  cases c : lkR d s with
  | none => rw [c] at hs; exact fun q hq => hs q ((e s q).mpr hq)
  | some q => rw [c] at hs; exact ⟨(e s q).mp hs.1, fun r hr => hs.2 r ((e s r).mpr hr)⟩
theorem lkR_none : ∀ {d : Rd κ Q} {s : κ}, lkR d s = none → s ∉ d.map (·.1)
  | [], _, _ => by simp
  | (k, r) :: d, s, h => by
    by_cases e : k = s
    · rw [show lkR ((k, r) :: d) s = some r from if_pos e] at h; cases h
    · rw [show lkR ((k, r) :: d) s = lkR d s from if_neg e] at h
      rw [List.map_cons, List.mem_cons, not_or]
      exact ⟨fun z => e z.symm, lkR_none h⟩
theorem nodup_put {d : Rd κ Q} (h : (d.map (·.1)).Nodup) (s : κ) (g : Q) : ((putR lt d s g).map (·.1)).Nodup := by
  unfold putR
  cases c : lkR d s with
  | none =>
    show ((d ++ [(s, g)]).map (·.1)).Nodup
    rw [List.map_append]
    refine List.nodup_append.mpr ⟨h, by simp, fun a ha b hb e => ?_⟩
    rw [show b = s from List.mem_singleton.mp hb] at e
    exact lkR_none c (e ▸ ha)
  | some q =>
    show ((if lt g q = true then d.map fun x => if x.1 = s then (s, g) else x else d).map (·.1)).Nodup
    by_cases z : lt g q = true
    · rw [if_pos z, List.map_map]
      have : ((fun x : κ × Q => x.1) ∘ fun x : κ × Q => if x.1 = s then (s, g) else x) = fun x => x.1 := by
        funext x
        show (if x.1 = s then (s, g) else x).1 = x.1
        by_cases e : x.1 = s
        · rw [if_pos e, e]
        · rw [if_neg e]
      rw [this]
      exact h
    · rw [if_neg z]; exact h
/-- as far as some round -/
def LimTo (K : Nat) : Option Q → Prop
  | none => ∀ k s q, k < K → Pth mv sts q0 (lt := lt) k s q → fin s = false
  | some q => (∃ k s, k < K ∧ Pth mv sts q0 (lt := lt) k s q ∧ fin s = true) ∧ ∀ k s r, k < K → Pth mv sts q0 (lt := lt) k s r → fin s = true → lt r q = false
/-! ### the loop -/
structure LimI (lt : Q → Q → Bool) (K : Nat) (l : Option Q) (d : Rd κ Q) : Prop where
  to : LimTo mv fin sts q0 (lt := lt) K l
  le : LeastR lt (Pth mv sts q0 (lt := lt) K) d
  nd : (d.map (·.1)).Nodup
end
/-! ### two such searches side by side -/
section
variable {κ κ' Q : Type} {lt : Q → Q → Bool} {mvA : κ → List (Q × κ)} {mvB : κ' → List (Q × κ')} {finA : κ → Bool} {finB : κ' → Bool} {stA : List κ} {stB : List κ'} {q0 : Q}
/-- what the second one can, the first one can too, at no greater need -/
structure Half (R : κ → κ' → Prop) (lt : Q → Q → Bool) (mvA : κ → List (Q × κ)) (mvB : κ' → List (Q × κ')) (finA : κ → Bool) (finB : κ' → Bool) (stA : List κ) (stB : List κ') : Prop where
  st : ∀ b ∈ stB, ∃ a ∈ stA, R a b
  mv : ∀ a b, R a b → ∀ m ∈ mvB b, ∃ n ∈ mvA a, n.1 = m.1 ∧ R n.2 m.2
  fin : ∀ a b, R a b → finB b = true → finA a = true
theorem Half.pth {R : κ → κ' → Prop} (h : Half R lt mvA mvB finA finB stA stB) : ∀ {k : Nat} {b : κ'} {q : Q}, Pth mvB stB q0 (lt := lt) k b q → ∃ a, Pth mvA stA q0 (lt := lt) k a q ∧ R a b
  | 0, b, q, ⟨hb, e⟩ => by
    obtain ⟨a, ha, hr⟩ := h.st b hb
    exact ⟨a, ⟨ha, e⟩, hr⟩
  | k + 1, b, q, ⟨p, r, n, hp, hm, e⟩ => by
    obtain ⟨a, ha, hr⟩ := h.pth hp
    obtain ⟨m, hm', e1, hr'⟩ := h.mv a p hr _ hm
    exact ⟨m.2, ⟨a, r, m.1, ha, hm', by rw [e1]; exact e⟩, hr'⟩
end
end Bf
namespace Bf
open PySem PySem.Spec PyProof.Rows L2
/-! ## Stands of a receiver, and what leads on from them -/
instance : DecidableEq Site := fun x y => decidable_of_iff (x.k = y.k ∧ x.rest = y.rest ∧ x.o = y.o) (by cases x; cases y; simp)
/-- a step: the bit that is settled, the duration, the place behind -/
abbrev Stp := Option Int × Int × Site
def stepOf (x : Option Int) (s : Site) : Stp := (x, s.rest.headD 0, ⟨s.k, s.rest.tail, s.o⟩)
def stepsS (T : Tab) (s : Site) : List Stp := if decide (s.k = T.b) && decide (s.rest = []) then [] else if s.rest ≠ [] then [stepOf none s] else [stepOf (some 0) (T.sett s 0), stepOf (some 1) (T.sett s 1)]
structure Stn where
  ix : Nat
  lw : Nat
  le : Bool
  a : Site
  b : Site
deriving DecidableEq
def Stn.d (s : Stn) : Dt := .tup [.int s.ix, .int s.lw, .bl s.le, s.a.d, s.b.d]
abbrev Rcv := List (Tab × Fq)
def tabAt (rc : Rcv) (i : Nat) : Tab := match rc[i]? with
  | some x => x.1
  | none => .ha 1 1
def tolAt (rc : Rcv) (i : Nat) : Fq := match rc[i]? with
  | some x => x.2
  | none => (0, 1)
/-- the bit of the other one is the same, or less -/
def bitLe (le : Bool) (x y : Option Int) : Bool := le || decide (y = x) || (match x, y with
  | some a, some b => decide (b < a)
  | _, _ => false)
def ledN (s : Stn) (x y : Stp) : Stn := ⟨s.ix, s.lw, s.le || !decide (y.1 = x.1), x.2.2, y.2.2⟩
def mv3 (rc : Rcv) (s : Stn) : List (Fq × Stn × Stp × Stp) := (stepsS (tabAt rc s.ix) s.a).flatMap fun x => ((stepsS (tabAt rc s.lw) s.b).filter fun y => bitLe s.le x.1 y.1).map fun y => (canP (needP x.2.1 y.2.1 (tolAt rc s.lw)), ledN s x y, x, y)
def mvN (rc : Rcv) (s : Stn) : List (Fq × Stn) := (mv3 rc s).map fun m => (m.1, m.2.1)
def finN (rc : Rcv) (s : Stn) : Bool := s.le && (stepsS (tabAt rc s.ix) s.a).isEmpty && (stepsS (tabAt rc s.lw) s.b).isEmpty
def stsN (rc : Rcv) : List Stn := (List.range rc.length).flatMap fun i => (List.range (i + 1)).map fun j => ⟨i, j, decide (j < i), (tabAt rc i).beg, (tabAt rc j).beg⟩
/-! ### there are few moves: each reads a duration -/
def mesS (T : Tab) (s : Site) : Nat := s.rest.length + 3 * (T.b - s.k).toNat
theorem sett_k (T : Tab) (s : Site) (bit : Int) : (T.sett s bit).k = s.k + 1 := by cases T <;> rfl
theorem step_less {T : Tab} {s : Site} {x : Stp} (hk : s.k ≤ T.b) (h : x ∈ stepsS T s) : x.2.2.k ≤ T.b ∧ mesS T x.2.2 < mesS T s := by
  unfold stepsS at h
  by_cases e : (decide (s.k = T.b) && decide (s.rest = [])) = true
  · rw [if_pos e] at h; cases h
  · rw [if_neg e] at h
    by_cases r : s.rest ≠ []
    · rw [if_pos r] at h
      rw [List.mem_singleton.mp h]
      refine ⟨hk, ?_⟩
      show s.rest.tail.length + 3 * (T.b - s.k).toNat < s.rest.length + 3 * (T.b - s.k).toNat
      have : 0 < s.rest.length := List.length_pos_iff.mpr r
      rw [List.length_tail]
      omega
    · rw [if_neg r] at h
      have r' : s.rest = [] := Classical.byContradiction r
      have hlt : s.k < T.b := by
        rcases Int.lt_or_eq_of_le hk with z | z
        · exact z
        · rw [decide_eq_true z, decide_eq_true r'] at e
          exact absurd rfl e
      have key : ∀ bit, (stepOf (some bit) (T.sett s bit)).2.2.k ≤ T.b ∧ mesS T (stepOf (some bit) (T.sett s bit)).2.2 < mesS T s := fun bit => by
        have h1 := (part_len (T := T) (o := s.o) (bit := bit) (l := decide (s.k + 1 = T.b))).2
        rw [← sett_rest] at h1
        have h0 := List.length_pos_iff.mpr (sett_ne T s bit)
        refine ⟨by show (T.sett s bit).k ≤ T.b; rw [sett_k]; omega, ?_⟩
        show (T.sett s bit).rest.tail.length + 3 * (T.b - (T.sett s bit).k).toNat < s.rest.length + 3 * (T.b - s.k).toNat
        rw [sett_k, List.length_tail, r']
        show _ < 0 + _
        omega
      rcases List.mem_cons.mp h with rfl | h
      · exact key 0
      · rw [List.mem_singleton.mp h]; exact key 1
/-! ### all durations multiplied -/
def Tab.mul (g : Int) : Tab → Tab
  | .ha u b => .ha (u * g) b
  | .pa h z1 z2 o1 o2 s b => .pa (h.map (· * g)) (z1 * g) (z2 * g) (o1 * g) (o2 * g) (s * g) b
def Site.mul (g : Int) (s : Site) : Site := ⟨s.k, s.rest.map (· * g), s.o⟩
def Stn.mul (g : Int) (s : Stn) : Stn := ⟨s.ix, s.lw, s.le, s.a.mul g, s.b.mul g⟩
def inR (rc : Rcv) (s : Stn) : Prop := s.ix < rc.length ∧ s.lw < rc.length
theorem inR_sts {rc : Rcv} {s : Stn} (h : s ∈ stsN rc) : inR rc s := by
  obtain ⟨i, hi, h⟩ := List.mem_flatMap.mp h
  obtain ⟨j, hj, rfl⟩ := List.mem_map.mp h
  have := List.mem_range.mp hi
  have := List.mem_range.mp hj
  exact ⟨by assumption, by show j < rc.length; omega⟩
end Bf
namespace Bf
open PySem PySem.Spec PyProof.Rows L2
/-! ## Frames bit by bit -/
/-! ### legs -/
/-! ### the least of some offers, by key -/
/-! ### how far off -/
theorem le_tr {a b c : Fq} (ha : okQ a) (hb : okQ b) (hc : okQ c) (h1 : lessP b a = false) (h2 : lessP c b = false) : lessP c a = false := by
  cases e : lessP c a with
  | false => rfl
  | true =>
    have := less_trans (a := c) (b := a) (c := b) hc ha hb e h1
    rw [h2] at this
    cases this
end Bf
namespace Bf
open PySem PySem.Spec PyProof.Rows L2
/-! ## tuples of ints by their order -/
section
variable {K : PySem.W.Frag} {mg : Str → Option Value} {Hb Fb : Hp} {C fI pN gN pD gD : Addr} {L : List Addr} {S S1 S2 : Sta} {ρ : List (Option Dt)} {P : Pm} {te ta tb : TE} {tas : TA} {t : TS} {ds : List Dt} {d : Dt} {j : Nat}
/-! ### greatest_off from an index on -/
end
end Bf
namespace Bf
open PySem PySem.Spec PyProof.Rows L2
/-! ## legs_of -/
theorem dur_okS {x : Int} (h : dur x) : okS x := ⟨h.1, Int.le_trans h.2 (by decide)⟩
theorem part_okS {T : Tab} (hT : T.ok) {o : Str} {bit : Int} {l : Bool} : ∀ x ∈ T.part o bit l, okS x := by
  cases T with
  | ha u b =>
    have hu := hT.1
    have h1 : okS u := dur_okS hu
    have h2 : okS (2 * u) := ⟨by have := hu.1; omega, by have := hu.2; omega⟩
    intro x hx
    simp only [Tab.part, haS, haP] at hx
    repeat' split at hx
    all_goals simp only [List.cons_append, List.nil_append, List.mem_cons, List.not_mem_nil, or_false] at hx
    all_goals first | (rcases hx with rfl | rfl | rfl <;> first | exact h1 | exact h2) | (rcases hx with rfl | rfl <;> first | exact h1 | exact h2) | (subst hx; first | exact h1 | exact h2)
  | pa h z1 z2 o1 o2 st b =>
    intro x hx
    simp only [Tab.part] at hx
    rcases List.mem_append.mp hx with hx | hx
    · split at hx <;> simp only [List.mem_cons, List.not_mem_nil, or_false] at hx <;> rcases hx with rfl | rfl
      · exact dur_okS hT.2.2.2.2.1
      · exact dur_okS hT.2.2.2.2.2.1
      · exact dur_okS hT.2.2.1
      · exact dur_okS hT.2.2.2.1
    · split at hx
      · obtain rfl := List.mem_singleton.mp hx
        exact dur_okS hT.2.2.2.2.2.2.2.1
      · cases hx
theorem fix_tI (ns : List Int) : fixd (tI ns) = true := by
  show fixdA _ = true
  rw [fixdA_all]
  intro x hx
  obtain ⟨i, _, rfl⟩ := List.mem_map.mp hx
  rfl
theorem fix_tab (T : Tab) : fixd T.d = true := by
  cases T with
  | ha => rfl
  | pa h z1 z2 o1 o2 s b =>
    show fixdA _ = true
    rw [fixdA_all]
    intro x hx
    simp only [List.mem_cons, List.not_mem_nil, or_false] at hx
    rcases hx with rfl | rfl | rfl | rfl | rfl | rfl
    · rfl
    · exact fix_tI h
    · exact fix_tI [z1, z2]
    · exact fix_tI [o1, o2]
    · rfl
    · rfl
section
variable {K : PySem.W.Frag} {Hb Fb : Hp} {C : Addr} {L : List Addr} {S : Sta} {ρ : List (Option Dt)} {P : Pm} {te ta tb : TE} {t : TS} {ds : List Dt} {d : Dt} {j : Nat} {T : Tab} {size : Nat}
end
end Bf
namespace Bf
open PySem PySem.Spec PyProof.Rows L2
/-! ## the order of words -/
/-! ## equal fractions have the same lowest terms -/
theorem can_eq {a b : Fq} (ha : okQ a) (hb : okQ b) (h1 : lessP a b = false) (h2 : lessP b a = false) : canP a = canP b := by
  have e : a.1 * b.2 = b.1 * a.2 := by
    have := of_decide_eq_false h1
    have := of_decide_eq_false h2
    omega
  obtain ⟨a1, a2⟩ := a
  obtain ⟨b1, b2⟩ := b
  obtain ⟨p0, _, p1, _⟩ := ha
  obtain ⟨q0, _, q1, _⟩ := hb
  simp only at e p0 p1 q0 q1
  obtain ⟨m1, rfl⟩ := Int.eq_ofNat_of_zero_le p0
  obtain ⟨m2, rfl⟩ := Int.eq_ofNat_of_zero_le (show (0 : Int) ≤ a2 by omega)
  obtain ⟨n1, rfl⟩ := Int.eq_ofNat_of_zero_le q0
  obtain ⟨n2, rfl⟩ := Int.eq_ofNat_of_zero_le (show (0 : Int) ≤ b2 by omega)
  have en : m1 * n2 = n1 * m2 := by exact_mod_cast e
  have hm2 : 0 < m2 := by omega
  have hn2 : 0 < n2 := by omega
  have g1 : 0 < Nat.gcd m1 m2 := Nat.gcd_pos_of_pos_right _ hm2
  have g2 : 0 < Nat.gcd n1 n2 := Nat.gcd_pos_of_pos_right _ hn2
  obtain ⟨x1, hx1⟩ := Nat.gcd_dvd_left m1 m2
  obtain ⟨x2, hx2⟩ := Nat.gcd_dvd_right m1 m2
  obtain ⟨y1, hy1⟩ := Nat.gcd_dvd_left n1 n2
  obtain ⟨y2, hy2⟩ := Nat.gcd_dvd_right n1 n2
  have cx : Nat.Coprime x1 x2 := by
    have := Nat.coprime_div_gcd_div_gcd (m := m1) (n := m2) g1
    rwa [show m1 / Nat.gcd m1 m2 = x1 from Nat.div_eq_of_eq_mul_right g1 hx1, show m2 / Nat.gcd m1 m2 = x2 from Nat.div_eq_of_eq_mul_right g1 hx2] at this
  have cy : Nat.Coprime y1 y2 := by
    have := Nat.coprime_div_gcd_div_gcd (m := n1) (n := n2) g2
    rwa [show n1 / Nat.gcd n1 n2 = y1 from Nat.div_eq_of_eq_mul_right g2 hy1, show n2 / Nat.gcd n1 n2 = y2 from Nat.div_eq_of_eq_mul_right g2 hy2] at this
  have hx20 : 0 < x2 := by
    rcases Nat.eq_zero_or_pos x2 with z | z
    · rw [z, Nat.mul_zero] at hx2; omega
    · exact z
  have hy20 : 0 < y2 := by
    rcases Nat.eq_zero_or_pos y2 with z | z
    · rw [z, Nat.mul_zero] at hy2; omega
    · exact z
  have ee : x1 * y2 = y1 * x2 := by
    have : Nat.gcd m1 m2 * Nat.gcd n1 n2 * (x1 * y2) = Nat.gcd m1 m2 * Nat.gcd n1 n2 * (y1 * x2) := by
      calc Nat.gcd m1 m2 * Nat.gcd n1 n2 * (x1 * y2) = (Nat.gcd m1 m2 * x1) * (Nat.gcd n1 n2 * y2) := by ac_rfl
        _ = m1 * n2 := by rw [← hx1, ← hy2]
        _ = n1 * m2 := en
        _ = (Nat.gcd n1 n2 * y1) * (Nat.gcd m1 m2 * x2) := by rw [← hy1, ← hx2]
        _ = Nat.gcd m1 m2 * Nat.gcd n1 n2 * (y1 * x2) := by ac_rfl
    exact Nat.eq_of_mul_eq_mul_left (Nat.mul_pos g1 g2) this
  have d1 : x2 ∣ y2 := cx.symm.dvd_of_dvd_mul_left (by rw [ee]; exact Nat.dvd_mul_left _ _)
  have d2 : y2 ∣ x2 := cy.symm.dvd_of_dvd_mul_left (by rw [← ee]; exact Nat.dvd_mul_left _ _)
  have e2 : x2 = y2 := Nat.dvd_antisymm d1 d2
  have e1 : x1 = y1 := by
    rw [e2] at ee
    exact Nat.eq_of_mul_eq_mul_right hy20 ee
  have f1 : ((m1 : Int) / ((Nat.gcd m1 m2 : Nat) : Int)) = (x1 : Int) := by
    rw [← Int.natCast_ediv, Nat.div_eq_of_eq_mul_right g1 hx1]
  have f2 : ((m2 : Int) / ((Nat.gcd m1 m2 : Nat) : Int)) = (x2 : Int) := by
    rw [← Int.natCast_ediv, Nat.div_eq_of_eq_mul_right g1 hx2]
  have f3 : ((n1 : Int) / ((Nat.gcd n1 n2 : Nat) : Int)) = (y1 : Int) := by
    rw [← Int.natCast_ediv, Nat.div_eq_of_eq_mul_right g2 hy1]
  have f4 : ((n2 : Int) / ((Nat.gcd n1 n2 : Nat) : Int)) = (y2 : Int) := by
    rw [← Int.natCast_ediv, Nat.div_eq_of_eq_mul_right g2 hy2]
  unfold canP
  simp only [Int.natAbs_natCast]
  rw [f1, f2, f3, f4, e1, e2]
/-! ## what nearL tells -/
/-! ## the least tolerance, bit by bit -/
/-! ## the least word, bit by bit -/
end Bf
namespace Bf
/-! ## Fractions in lowest terms are in a total order -/
def okB (q : Fq) : Bool := decide (0 ≤ q.1) && decide (q.1 < 2 ^ 90) && decide (1 ≤ q.2) && decide (q.2 < 2 ^ 90) && decide (canP q = q)
theorem okB_iff {q : Fq} : okB q = true ↔ okQ q ∧ canP q = q := by
  unfold okB okQ
  simp only [Bool.and_eq_true, decide_eq_true_eq]
  constructor
  · rintro ⟨⟨⟨⟨a, b⟩, c⟩, d⟩, e⟩
    exact ⟨⟨a, b, c, d⟩, e⟩
  · rintro ⟨⟨a, b, c, d⟩, e⟩
    exact ⟨⟨⟨⟨a, b⟩, c⟩, d⟩, e⟩
def lexQ (a b : Fq) : Bool := decide (a.1 < b.1) || (decide (a.1 = b.1) && decide (a.2 < b.2))
/-- less, made total: what is no fraction in lowest terms comes behind -/
def ltQ (a b : Fq) : Bool := if okB a = true then (if okB b = true then lessP a b else true) else (if okB b = true then false else lexQ a b)
/-! ### more ways, or less needs: no greater limit -/
section
variable {κ κ' Q : Type} {lt : Q → Q → Bool} {mvA : κ → List (Q × κ)} {mvB : κ' → List (Q × κ')} {finA : κ → Bool} {finB : κ' → Bool} {stA : List κ} {stB : List κ'} {q0 : Q}
structure HalfLe (R : κ → κ' → Prop) (lt : Q → Q → Bool) (mvA : κ → List (Q × κ)) (mvB : κ' → List (Q × κ')) (finA : κ → Bool) (finB : κ' → Bool) (stA : List κ) (stB : List κ') : Prop where
  st : ∀ b ∈ stB, ∃ a ∈ stA, R a b
  mv : ∀ a b, R a b → ∀ m ∈ mvB b, ∃ n ∈ mvA a, lt m.1 n.1 = false ∧ R n.2 m.2
  fin : ∀ a b, R a b → finB b = true → finA a = true
theorem gre_both {lt : Q → Q → Bool} (T : TotLt lt) {n m a b : Q} (h1 : lt m n = false) (h2 : lt b a = false) : lt (gre lt m b) (gre lt n a) = false := by
  have e1 : lt b (gre lt m b) = false ∨ True := .inr trivial
  unfold gre
  by_cases c1 : lt b m = true
  · rw [if_pos c1]
    by_cases c2 : lt a n = true
    · rw [if_pos c2]; exact h1
    · rw [if_neg c2]; exact T.le_tr h2 (T.asy c1)
  · rw [if_neg c1]
    by_cases c2 : lt a n = true
    · rw [if_pos c2]; exact T.le_tr h1 (Bool.eq_false_iff.mpr c1)
    · rw [if_neg c2]; exact h2
theorem HalfLe.pth {R : κ → κ' → Prop} (T : TotLt lt) (h : HalfLe R lt mvA mvB finA finB stA stB) : ∀ {k : Nat} {b : κ'} {q : Q}, Pth mvB stB q0 (lt := lt) k b q → ∃ a r, Pth mvA stA q0 (lt := lt) k a r ∧ lt q r = false ∧ R a b
  | 0, b, q, ⟨hb, e⟩ => by
    obtain ⟨a, ha, hr⟩ := h.st b hb
    exact ⟨a, q, ⟨ha, e⟩, T.irr q, hr⟩
  | k + 1, b, q, ⟨p, r, n, hp, hm, e⟩ => by
    obtain ⟨a, r', ha, hle, hr⟩ := h.pth T hp
    obtain ⟨m, hm', e1, hr'⟩ := h.mv a p hr _ hm
    exact ⟨m.2, gre lt m.1 r', ⟨a, r', m.1, ha, hm', rfl⟩, by rw [e]; exact gre_both T e1 hle, hr'⟩
end
end Bf
namespace Bf
/-! ## With a greater tolerance the limit is no greater -/
theorem can_idem {p : Fq} (h : okQ p) : canP (canP p) = canP p := by
  have hs : lessP p p = false := by unfold lessP; exact decide_eq_false (by omega)
  exact can_eq (okQ_can h) h (by rw [less_canL h]; exact hs) (by rw [less_canR h]; exact hs)
theorem okB_can {p : Fq} (h : okQ p) : okB (canP p) = true := okB_iff.mpr ⟨okQ_can h, can_idem h⟩
theorem needP_1 {f p : Int} {t : Fq} : (needP f p t).1 = (if (0 : Int) < p * (t.2 - t.1) - f * t.2 then (p * (t.2 - t.1) - f * t.2 : Int) else if (0 : Int) < f * t.2 - p * (t.2 + t.1) then (f * t.2 - p * (t.2 + t.1) : Int) else 0) := rfl
theorem max3 (A B : Int) (h : 0 < A → B ≤ A) : A ≤ (if 0 < A then A else if 0 < B then B else 0) ∧ B ≤ (if 0 < A then A else if 0 < B then B else 0) ∧ 0 ≤ (if 0 < A then A else if 0 < B then B else 0) ∧ ((if 0 < A then A else if 0 < B then B else 0) = A ∨ (if 0 < A then A else if 0 < B then B else 0) = B ∨ (if 0 < A then A else if 0 < B then B else 0) = 0) := by
  by_cases a : 0 < A
  · rw [if_pos a]
    exact ⟨Int.le_refl A, h a, Int.le_of_lt a, .inl rfl⟩
  · rw [if_neg a]
    by_cases b : 0 < B
    · rw [if_pos b]
      exact ⟨by omega, Int.le_refl B, Int.le_of_lt b, .inr (.inl rfl)⟩
    · rw [if_neg b]
      exact ⟨by omega, by omega, Int.le_refl 0, .inr (.inr rfl)⟩
theorem need_max {f p : Int} {t : Fq} (hp : 0 ≤ p) (t0 : 0 ≤ t.1) : p * (t.2 - t.1) - f * t.2 ≤ (needP f p t).1 ∧ f * t.2 - p * (t.2 + t.1) ≤ (needP f p t).1 ∧ 0 ≤ (needP f p t).1 ∧ ((needP f p t).1 = p * (t.2 - t.1) - f * t.2 ∨ (needP f p t).1 = f * t.2 - p * (t.2 + t.1) ∨ (needP f p t).1 = 0) := by
  rw [needP_1]
  refine max3 _ _ fun h => ?_
  have hpp : p * (t.2 - t.1) ≤ p * (t.2 + t.1) := Int.mul_le_mul_of_nonneg_left (by omega) hp
  omega
theorem need_okQ {f p : Int} {t : Fq} (hf : okS f) (hp : okS p) (ht : okT t) : okQ (needP f p t) := by
  obtain ⟨f1, f2⟩ := hf
  obtain ⟨p1, p2⟩ := hp
  obtain ⟨t0, t1, t2⟩ := ht
  have a1 : 0 ≤ p * (t.2 - t.1) := Int.mul_nonneg (by omega) (by omega)
  have a2 : p * (t.2 - t.1) ≤ 2000000 * 1000 := Int.mul_le_mul p2 (by omega) (by omega) (by decide)
  have b1 : 0 ≤ p * (t.2 + t.1) := Int.mul_nonneg (by omega) (by omega)
  have c1 : 1 ≤ f * t.2 := by have := Int.mul_pos (show 0 < f by omega) (show 0 < t.2 by omega); omega
  have c2 : f * t.2 ≤ 2000000 * 1000 := Int.mul_le_mul f2 t2 (by omega) (by decide)
  have h90 : (2000000 * 1000 : Int) < 2 ^ 90 := by decide
  obtain ⟨_, _, m3, m4⟩ := need_max (f := f) (p := p) (t := t) (by omega) t0
  refine ⟨m3, ?_, c1, by show f * t.2 < 2 ^ 90; omega⟩
  rcases m4 with e | e | e <;> rw [e] <;> omega
/-! ### durations on the way -/
def siteR (s : Site) : Prop := ∀ x ∈ s.rest, okS x
theorem beg_R {T : Tab} (hT : T.ok) : siteR T.beg := by
  cases T with
  | ha u b =>
    intro x hx
    rw [show x = u from List.mem_singleton.mp hx]
    obtain ⟨h1, h2⟩ := hT.1
    exact ⟨h1, by omega⟩
  | pa h z1 z2 o1 o2 s b =>
    intro x hx
    obtain ⟨h1, h2⟩ := hT.2.1 x hx
    exact ⟨h1, by omega⟩
theorem step_R {T : Tab} {s : Site} {x : Stp} (hT : T.ok) (hs : siteR s) (h : x ∈ stepsS T s) : okS x.2.1 ∧ siteR x.2.2 := by
  have key : ∀ (b : Option Int) (s : Site), siteR s → s.rest ≠ [] → okS (stepOf b s).2.1 ∧ siteR (stepOf b s).2.2 := fun b s hs hr => by
    obtain ⟨k, r, o⟩ := s
    cases r with
    | nil => exact absurd rfl hr
    | cons y r => exact ⟨hs y List.mem_cons_self, fun z hz => hs z (List.mem_cons_of_mem _ hz)⟩
  have hset : ∀ bit, siteR (T.sett s bit) := fun bit z hz => by
    rw [sett_rest] at hz
    exact part_okS hT z hz
  unfold stepsS at h
  split at h
  · cases h
  · split at h
    · rename_i hr
      rw [List.mem_singleton.mp h]
      exact key _ s hs hr
    · rcases List.mem_cons.mp h with rfl | h
      · exact key _ _ (hset 0) (sett_ne T s 0)
      · rw [List.mem_singleton.mp h]; exact key _ _ (hset 1) (sett_ne T s 1)
def rcvOk (rc : Rcv) : Prop := ∀ x ∈ rc, x.1.ok ∧ okT x.2
theorem at_ok {rc : Rcv} (h : rcvOk rc) {i : Nat} (hi : i < rc.length) : (tabAt rc i).ok ∧ okT (tolAt rc i) := by
  unfold tabAt tolAt
  rw [List.getElem?_eq_getElem hi]
  exact h _ (List.getElem_mem hi)
def stnR (rc : Rcv) (s : Stn) : Prop := inR rc s ∧ siteR s.a ∧ siteR s.b
end Bf
namespace Bf
open PySem PySem.Spec PyProof.Rows L2
/-! ## How many stands there are -/
def restL : Tab → List (List Int)
  | .ha u _ => [[], [u], [u, u]]
  | .pa _ _ z2 _ o2 st _ => [[], [z2], [o2], [st], [z2, st], [o2, st]]
def oL : Tab → List Str
  | .ha _ _ => ["pulse", "gap"]
  | .pa .. => [""]
def begL (T : Tab) : List (List Int) := (List.range (T.beg.rest.length + 1)).map fun i => T.beg.rest.drop i
def siteL (T : Tab) : List Site := ((begL T).map fun r => ⟨0, r, T.beg.o⟩) ++ (List.range 8).flatMap fun k : Nat => (oL T).flatMap fun o => (restL T).map fun r => ⟨(k : Int) + 1, r, o⟩
theorem siteL_len {T : Tab} (hT : T.ok) : (siteL T).length ≤ 53 := by
  cases T with
  | ha u b => exact (by decide : (50 : Nat) ≤ 53)
  | pa h z1 z2 o1 o2 st b =>
    have hh : h.length ≤ 4 := by rcases hT.1 with e | e | e <;> omega
    unfold siteL begL
    rw [List.length_append, List.length_map, List.length_map, List.length_range]
    show h.length + 1 + 48 ≤ 53
    omega
theorem mem_late {T : Tab} {k : Nat} {r : List Int} {o : Str} (hk : k < 8) (ho : o ∈ oL T) (hr : r ∈ restL T) : (⟨(k : Int) + 1, r, o⟩ : Site) ∈ siteL T :=
  List.mem_append_right _ (List.mem_flatMap.mpr ⟨k, List.mem_range.mpr hk, List.mem_flatMap.mpr ⟨o, ho, List.mem_map.mpr ⟨r, hr, rfl⟩⟩⟩)
theorem beg_o (T : Tab) : T.beg.o ∈ oL T := by cases T <;> simp [Tab.beg, oL]
theorem mem_siteL {T : Tab} {s : Site} (h : s ∈ siteL T) : 0 ≤ s.k ∧ s.o ∈ oL T ∧ ((s.k = 0 ∧ ∃ i, s.rest = T.beg.rest.drop i ∧ s.o = T.beg.o) ∨ ∃ k : Nat, k < 8 ∧ s.k = (k : Int) + 1 ∧ s.rest ∈ restL T) := by
  rcases List.mem_append.mp h with h | h
  · obtain ⟨r, hr, rfl⟩ := List.mem_map.mp h
    obtain ⟨i, _, rfl⟩ := List.mem_map.mp hr
    exact ⟨Int.le_refl 0, beg_o T, .inl ⟨rfl, i, rfl, rfl⟩⟩
  · obtain ⟨k, hk, h⟩ := List.mem_flatMap.mp h
    obtain ⟨o, ho, h⟩ := List.mem_flatMap.mp h
    obtain ⟨r, hr, rfl⟩ := List.mem_map.mp h
    exact ⟨by show 0 ≤ (k : Int) + 1; omega, ho, .inr ⟨k, List.mem_range.mp hk, rfl, hr⟩⟩
theorem beg_L (T : Tab) : T.beg ∈ siteL T := by
  refine List.mem_append_left _ (List.mem_map.mpr ⟨T.beg.rest, List.mem_map.mpr ⟨0, List.mem_range.mpr (by omega), rfl⟩, ?_⟩)
  cases T <;> rfl
theorem tail_restL {T : Tab} {r : List Int} (h : r ∈ restL T) : r.tail ∈ restL T := by
  cases T with
  | ha u b =>
    simp only [restL, List.mem_cons, List.not_mem_nil, or_false] at h ⊢
    rcases h with rfl | rfl | rfl <;> simp
  | pa hd z1 z2 o1 o2 st b =>
    simp only [restL, List.mem_cons, List.not_mem_nil, or_false] at h ⊢
    rcases h with rfl | rfl | rfl | rfl | rfl | rfl <;> simp
theorem sett_L {T : Tab} {s : Site} (ho : s.o ∈ oL T) (bit : Int) : (T.sett s bit).rest.tail ∈ restL T ∧ (T.sett s bit).o ∈ oL T := by
  cases T with
  | ha u b =>
    have hp : ((haP u bit s.o).1 = [2 * u] ∨ (haP u bit s.o).1 = [u, u]) ∧ ((haP u bit s.o).2 = "pulse" ∨ (haP u bit s.o).2 = "gap") := by
      unfold haP
      split
      · refine ⟨.inl rfl, ?_⟩
        show ohS s.o = "pulse" ∨ ohS s.o = "gap"
        unfold ohS
        split
        · exact .inr rfl
        · exact .inl rfl
      · refine ⟨.inr rfl, ?_⟩
        simpa [oL] using ho
    have hs : ∀ l, (haS u bit s.o l).1.tail ∈ restL (.ha u b) ∧ (haS u bit s.o l).2 ∈ oL (.ha u b) := fun l => by
      unfold haS
      split
      · refine ⟨?_, by simp [oL]⟩
        show ((haP u bit s.o).1 ++ [u]).tail ∈ _
        rcases hp.1 with e | e <;> rw [e] <;> simp [restL]
      · refine ⟨?_, ?_⟩
        · rcases hp.1 with e | e <;> rw [e] <;> simp [restL]
        · simpa [oL] using hp.2
    exact hs _
  | pa hd z1 z2 o1 o2 st b =>
    refine ⟨?_, by simp [oL, Tab.sett]⟩
    show ((if bit = 1 then [o1, o2] else [z1, z2]) ++ (if decide (s.k + 1 = b) = true then [st] else [])).tail ∈ _
    split <;> split <;> simp [restL]
theorem step_L {T : Tab} (hT : T.ok) {s : Site} {x : Stp} (hs : s ∈ siteL T) (hk : s.k ≤ T.b) (h : x ∈ stepsS T s) : x.2.2 ∈ siteL T := by
  obtain ⟨k0, ho, hc⟩ := mem_siteL hs
  have hb := (Tab.b1 hT).2
  unfold stepsS at h
  by_cases e : (decide (s.k = T.b) && decide (s.rest = [])) = true
  · rw [if_pos e] at h; cases h
  · rw [if_neg e] at h
    by_cases r : s.rest ≠ []
    · rw [if_pos r] at h
      rw [List.mem_singleton.mp h]
      show (⟨s.k, s.rest.tail, s.o⟩ : Site) ∈ siteL T
      rcases hc with ⟨e0, i, er, eo⟩ | ⟨k, hk8, ek, hr⟩
      · rw [e0, er, eo, List.tail_drop]
        refine List.mem_append_left _ (List.mem_map.mpr ⟨_, List.mem_map.mpr ⟨i + 1, List.mem_range.mpr ?_, rfl⟩, rfl⟩)
        rw [er] at r
        have : i < T.beg.rest.length := by
          rcases Nat.lt_or_ge i T.beg.rest.length with z | z
          · exact z
          · exact absurd (List.drop_eq_nil_of_le z) r
        omega
      · rw [ek]
        exact mem_late hk8 ho (tail_restL hr)
    · rw [if_neg r] at h
      have r' : s.rest = [] := Classical.byContradiction r
      have hlt : s.k < T.b := by
        rcases Int.lt_or_eq_of_le hk with z | z
        · exact z
        · rw [decide_eq_true z, decide_eq_true r'] at e
          exact absurd rfl e
      have key : ∀ bit, (stepOf (some bit) (T.sett s bit)).2.2 ∈ siteL T := fun bit => by
        obtain ⟨h1, h2⟩ := sett_L (T := T) ho bit
        obtain ⟨k, ek⟩ := Int.eq_ofNat_of_zero_le k0
        show (⟨(T.sett s bit).k, (T.sett s bit).rest.tail, (T.sett s bit).o⟩ : Site) ∈ siteL T
        rw [sett_k, ek]
        exact mem_late (by omega) h2 h1
      rcases List.mem_cons.mp h with rfl | h
      · exact key 0
      · rw [List.mem_singleton.mp h]; exact key 1
/-- all stands that may be, for a receiver -/
def stnL (rc : Rcv) : List Stn := (List.range rc.length).flatMap fun i => (List.range rc.length).flatMap fun j => [false, true].flatMap fun l => (siteL (tabAt rc i)).flatMap fun a => (siteL (tabAt rc j)).map fun b => ⟨i, j, l, a, b⟩
def stnG (rc : Rcv) (s : Stn) : Prop := inR rc s ∧ s.a ∈ siteL (tabAt rc s.ix) ∧ s.a.k ≤ (tabAt rc s.ix).b ∧ s.b ∈ siteL (tabAt rc s.lw) ∧ s.b.k ≤ (tabAt rc s.lw).b
theorem stnG_L {rc : Rcv} {s : Stn} (h : stnG rc s) : s ∈ stnL rc := by
  obtain ⟨⟨h1, h2⟩, h3, _, h4, _⟩ := h
  exact List.mem_flatMap.mpr ⟨s.ix, List.mem_range.mpr h1, List.mem_flatMap.mpr ⟨s.lw, List.mem_range.mpr h2, List.mem_flatMap.mpr ⟨s.le, by cases s.le <;> simp, List.mem_flatMap.mpr ⟨s.a, h3, List.mem_map.mpr ⟨s.b, h4, rfl⟩⟩⟩⟩⟩
theorem stnG_mv {rc : Rcv} (hr : rcvOk rc) {s : Stn} (h : stnG rc s) {m : Fq × Stn} (hm : m ∈ mvN rc s) : stnG rc m.2 := by
  obtain ⟨hi, ha, hak, hb, hbk⟩ := h
  obtain ⟨m3, h3, rfl⟩ := List.mem_map.mp hm
  obtain ⟨x, hx, h3⟩ := List.mem_flatMap.mp h3
  obtain ⟨y, hy, rfl⟩ := List.mem_map.mp h3
  have hy := (List.mem_filter.mp hy).1
  exact ⟨hi, step_L (at_ok hr hi.1).1 ha hak hx, (step_less hak hx).1, step_L (at_ok hr hi.2).1 hb hbk hy, (step_less hbk hy).1⟩
theorem stnG_sts {rc : Rcv} (hr : rcvOk rc) {s : Stn} (h : s ∈ stsN rc) : stnG rc s := by
  have hi := inR_sts h
  obtain ⟨i, _, h⟩ := List.mem_flatMap.mp h
  obtain ⟨j, _, rfl⟩ := List.mem_map.mp h
  have hb : ∀ i, i < rc.length → (tabAt rc i).beg.k ≤ (tabAt rc i).b := fun i hi => by
    have := (Tab.b1 (at_ok hr hi).1).1
    have : (tabAt rc i).beg.k = 0 := by cases tabAt rc i <;> rfl
    omega
  exact ⟨hi, beg_L _, hb _ hi.1, beg_L _, hb _ hi.2⟩
theorem flat_le {α β : Type} {f : α → List β} {c : Nat} : ∀ {l : List α}, (∀ x ∈ l, (f x).length ≤ c) → (l.flatMap f).length ≤ l.length * c
  | [], _ => by simp
  | x :: l, h => by
    rw [List.flatMap_cons, List.length_append, List.length_cons, Nat.succ_mul]
    have := flat_le (l := l) fun y hy => h y (List.mem_cons_of_mem _ hy)
    have := h x List.mem_cons_self
    omega
theorem stnL_len {rc : Rcv} (hr : rcvOk rc) (hn : rc.length ≤ 4) : (stnL rc).length ≤ 89888 := by
  have h1 : ∀ i ∈ List.range rc.length, (siteL (tabAt rc i)).length ≤ 53 := fun i hi => siteL_len (at_ok hr (List.mem_range.mp hi)).1
  have h2 : (stnL rc).length ≤ rc.length * (rc.length * (2 * (53 * 53))) := by
    unfold stnL
    refine Nat.le_trans (flat_le (c := rc.length * (2 * (53 * 53))) fun i hi => ?_) (by rw [List.length_range]; exact Nat.le_refl _)
    refine Nat.le_trans (flat_le (c := 2 * (53 * 53)) fun j hj => ?_) (by rw [List.length_range]; exact Nat.le_refl _)
    refine Nat.le_trans (flat_le (c := 53 * 53) fun l _ => ?_) (Nat.le_refl _)
    refine Nat.le_trans (flat_le (c := 53) fun a _ => ?_) (Nat.mul_le_mul_right _ (h1 i hi))
    rw [List.length_map]
    exact h1 j hj
  have h3 : rc.length * (rc.length * (2 * (53 * 53))) ≤ 4 * (4 * (2 * (53 * 53))) := Nat.mul_le_mul hn (Nat.mul_le_mul hn (Nat.le_refl _))
  omega
/-- a list of such stands without any twice is short -/
theorem stands_short {rc : Rcv} (hr : rcvOk rc) (hn : rc.length ≤ 4) {W : List Stn} (hW : W.Nodup) (h : ∀ s ∈ W, stnG rc s) : W.length ≤ 89888 := by
  have : ∀ (W L : List Stn), W.Nodup → (∀ s ∈ W, s ∈ L) → W.length ≤ L.length := by
    intro W
    induction W with
    | nil => exact fun L _ _ => Nat.zero_le _
    | cons s W ih =>
      intro L hn hs
      obtain ⟨h1, h2⟩ := List.nodup_cons.mp hn
      have hm : s ∈ L := hs s List.mem_cons_self
      have h3 := ih (L.erase s) h2 fun t ht => by
        have : t ≠ s := fun z => h1 (z ▸ ht)
        exact (List.mem_erase_of_ne this).mpr (hs t (List.mem_cons_of_mem _ ht))
      have h4 := List.length_erase_of_mem hm
      have h5 := List.length_pos_of_mem hm
      rw [List.length_cons]
      omega
  exact Nat.le_trans (this W (stnL rc) hW fun s hs => stnG_L (h s hs)) (stnL_len hr hn)
end Bf
namespace Bf
open PySem PySem.Spec PyProof.Rows L2
/-! ## What holds on all ways of a receiver -/
theorem mv_ok {rc : Rcv} (hr : rcvOk rc) {s : Stn} (h : stnR rc s) {m : Fq × Stn} (hm : m ∈ mvN rc s) : okB m.1 = true ∧ stnR rc m.2 := by
  obtain ⟨hi, ha, hb⟩ := h
  obtain ⟨m3, h3, rfl⟩ := List.mem_map.mp hm
  obtain ⟨x, hx, h3⟩ := List.mem_flatMap.mp h3
  obtain ⟨y, hy, rfl⟩ := List.mem_map.mp h3
  have hy := (List.mem_filter.mp hy).1
  obtain ⟨x1, x2⟩ := step_R (at_ok hr hi.1).1 ha hx
  obtain ⟨y1, y2⟩ := step_R (at_ok hr hi.2).1 hb hy
  exact ⟨okB_can (need_okQ x1 y1 (at_ok hr hi.2).2), hi, x2, y2⟩
end Bf
namespace Bf
open PySem PySem.Spec PyProof.Rows L2
/-! ## Walks over one table: what is read, what is settled -/
def bitL : Option Int → List Int
  | none => []
  | some b => [b]
/-- from a place over these durations, with these bits settled, to a place -/
def Wlk (T : Tab) : Site → List Int → List Int → Site → Prop
  | s, [], ws, s' => ws = [] ∧ s' = s
  | s, f :: fs, ws, s' => ∃ x ∈ stepsS T s, x.2.1 = f ∧ ∃ ws', ws = bitL x.1 ++ ws' ∧ Wlk T x.2.2 fs ws' s'
end Bf
namespace Bf
open PySem PySem.Spec PyProof.Rows L2
/-! ## TwoW walks side by side -/
/-- the first list of bits is less: the same ahead, then 0 instead of 1 -/
def Lss (vs ws : List Int) : Prop := ∃ p a b, vs = p ++ 0 :: a ∧ ws = p ++ 1 :: b
theorem Lss.app {vs ws : List Int} (h : Lss vs ws) (xs ys : List Int) : Lss (vs ++ xs) (ws ++ ys) := by
  obtain ⟨p, a, b, rfl, rfl⟩ := h
  exact ⟨p, a ++ xs, b ++ ys, by simp, by simp⟩
/-- the greatest of the needs, one after the other -/
def mostN (t : Fq) (fs gs : List Int) : Fq := (fs.zip gs).foldl (fun q p => gre ltQ (canP (needP p.1 p.2 t)) q) (0, 1)
/-- a way is two walks -/
structure TwoW (rc : Rcv) (k : Nat) (s : Stn) (q : Fq) (fs gs ws vs : List Int) : Prop where
  inr : inR rc s
  le : s.lw ≤ s.ix
  fl : fs.length = k
  gl : gs.length = k
  a : Wlk (tabAt rc s.ix) (tabAt rc s.ix).beg fs ws s.a
  b : Wlk (tabAt rc s.lw) (tabAt rc s.lw).beg gs vs s.b
  q : q = mostN (tolAt rc s.lw) fs gs
  lt : s.lw < s.ix → s.le = true
  eq : s.lw = s.ix → s.le = false → ws = vs ∧ s.a = s.b
  ls : s.lw = s.ix → s.le = true → Lss vs ws
end Bf
namespace Bf
open PySem PySem.Spec PyProof.Rows L2
/-! ## Two walks are a way -/
theorem Lss.cons {b : Int} {vs ws : List Int} (h : Lss (b :: vs) (b :: ws)) : Lss vs ws := by
  obtain ⟨p, x, y, e1, e2⟩ := h
  cases p with
  | nil =>
    cases e1
    cases e2
  | cons z p =>
    cases e1
    cases e2
    exact ⟨p, x, y, rfl, rfl⟩
end Bf
namespace Bf
open PySem PySem.Spec PyProof.Rows L2
/-! ## The limit, by pairs of sendings -/
def isWrd (T : Tab) (v : List Int) : Prop := (v.length : Int) = T.b ∧ ∀ x ∈ v, x = 0 ∨ x = 1
/-- the sending (j, w) is ahead of (i, v), and their frames are as long -/
structure PairOk (rc : Rcv) (i j : Nat) (v w : List Int) : Prop where
  ir : i < rc.length
  le : j ≤ i
  vi : isWrd (tabAt rc i) v
  wj : isWrd (tabAt rc j) w
  len : ((tabAt rc i).frame v).length = ((tabAt rc j).frame w).length
  lt : j < i ∨ Lss w v
end Bf
namespace Bf
/-! ## The same fraction, however it is written -/
end Bf
namespace Bf
open PySem PySem.Spec PyProof.Rows L2
/-! ## The greatest need, as the law adds it up -/
end Bf
namespace Bf
open PySem PySem.Spec PyProof.Rows L2
/-! ## Methods whose promises speak of data; a dict by a comprehension, its keys tuples; a dict's truth -/
section
variable {X : Cx} {k : Nat} {f C : Addr} {fd : FuncData} {ps : List Str} {sp : Sp} {dvs : List V} {ds : List Value} {E : XK} {m : Str} {pos apos : Pos} {e o : Expr} {es : List Expr} {ta : TE} {t : TA}
end
/-! the truth of a dict whose keys are tuples -/
section
variable {prog : Program} {w : World} {K : Type} [DecidableEq K] {knd : HeapKind prog w K} {A : Around} {E : Value → Shared → Prop} {s : Shared}
end
section
variable {X : Cx} {pins : List (Addr × Obj)} {σ : L2.St} {H : Hp} {s : Shared}
end
/-! {k: v for x in xs}, the keys tuples -/
section
variable {X : Cx}
end
end Bf
namespace Bf
open PySem PySem.Spec PyProof.Rows L2
/-! ## {x: c for x in xs} over data; the truth of a dict; methods of an instance whose cache grows -/
section
variable {K : PySem.W.Frag} {Hb Fb F F' H H' : Hp} {L L' : List Addr} {p : Addr} {o : HO} {v : V} {d x q : Dt} {σ : L2.St} {ρ : List (Option Dt)} {P : Pm} {te tl tk td ty tv : TE} {ta : TA} {tt c : TT} {t u : TS} {D : Ends} {Φ Ψ : Dt → Prop} {j : Nat} {xs ys ds ks keys : List Dt} {S S1 S2 : Sta} {w : World} {tw : TS}
end
end Bf
namespace Bf
open PySem PySem.Spec PyProof.Rows L2
/-! ## Promises of methods of an instance whose cache grows -/
/-- the instance stands in F, its dict in H holds what is right -/
def Cch (K : PySem.W.Frag) (F H : Hp) (C : Addr) (w : World) (p : Addr) (l1 l2 : List Dt) (v : V) : Prop := ∃ (a dx : Addr) (v1 v2 : V) (as : List Addr) (vs : List V) (ks ds : List Dt), v = .ref a ∧ F a = some (.ins C dx [("_steps", v1), ("_tolerances", v2), ("_needs", .ref p)]) ∧ Rep K F v1 (.lst l1) ∧ Rep K F v2 (.lst l2) ∧
  H p = some (DatO w ks as vs p) ∧ RepA K F (as.map V.ref) ks ∧ RepA K F vs ds ∧ ownOk l1 l2 ks ds
section
variable {K : PySem.W.Frag} {Hb Fb F F' H H' F1 F2 H1 H2 : Hp} {L L' : List Addr} {p C : Addr} {o : HO} {v v0 : V} {d x q : Dt} {σ : L2.St} {ρ : List (Option Dt)} {P : Pm} {te tl tk td ty tv : TE} {ta : TA} {tt c : TT} {t u : TS} {D : Ends} {Φ Ψ : Dt → Prop} {j n : Nat} {xs ys ds ks keys l1 l2 : List Dt} {S S1 S2 : Sta} {w : World} {tw : TS} {E : XK} {m : Str}
/-- the instance of before, the dict of now -/
theorem Cch.back (c : Cch K F H C w p l1 l2 v) (c' : Cch K F' H' C w p l1 l2 v0) (s : Same F F') : Cch K F' H' C w p l1 l2 v := by
  obtain ⟨a, dx, v1, v2, _, _, _, _, rfl, e1, r1, r2, _⟩ := c
  obtain ⟨_, _, _, _, as, vs, ks, ds, _, _, _, _, e2, ra, rb, k⟩ := c'
  exact ⟨a, dx, v1, v2, as, vs, ks, ds, rfl, s _ _ e1, r1.mono s.gr, r2.mono s.gr, e2, ra, rb, k⟩
end
end Bf
namespace Bf
open PySem PySem.Spec PyProof.Rows L2
/-! ## One moment on -/
inductive Sy where
  | short
  | toggle
  | same (k : Int)
def Sy.d : Sy → Dt
  | .short => .tup [.str "short"]
  | .toggle => .tup [.str "toggle"]
  | .same k => .tup [.str "same", .int k]
def Sy.n : Sy → Str
  | .short => "short"
  | .toggle => "toggle"
  | .same _ => "same"
def Sy.ok : Sy → Prop
  | .same k => 0 ≤ k ∧ k ≤ 9
  | _ => True
inductive Mo where
  | rest
  | press (b : Int) (h : Bool)
  | hold (h : Bool)
def Mo.d : Mo → Dt
  | .rest => .tup [.str "rest"]
  | .press b h => .tup [.str "press", .int b, .bl h]
  | .hold h => .tup [.str "hold", .bl h]
def Mo.n : Mo → Str
  | .rest => "rest"
  | .press _ _ => "press"
  | .hold _ => "hold"
/-- a frame is heard -/
def Mo.hd : Mo → Bool
  | .press _ h => h
  | .hold h => h
  | .rest => false
structure La where
  b : Int
  m : Int
  age : Int
  th : Bool
def La.d (l : La) : Dt := .tup [.int l.b, .int l.m, .int l.age, .bl l.th]
def laD : Option La → Dt
  | none => .non
  | some l => l.d
def boD : Option Int → Dt
  | none => .non
  | some b => .int b
structure St1 where
  bo : Option Int
  mr : Int
  la : Option La
def St1.d (s : St1) : Dt := .tup [boD s.bo, .int s.mr, laD s.la]
section
variable {K : PySem.W.Frag} {S S1 S2 : Sta} {ds : List Dt} {ρ : List (Option Dt)} {d : Dt} {te : TE}
end
end Bf
namespace Bf
open PySem PySem.Spec PyProof.Rows L2
/-! ## A row of moments -/
section
variable {K : PySem.W.Frag} {S : Sta} {ds : List Dt} {o : Out} {E : XK} {CS CN CR p : Addr}
end
end Bf
namespace Bf
open PySem PySem.Spec PyProof.Rows L2
instance : DecidableEq La := fun x y => decidable_of_iff (x.b = y.b ∧ x.m = y.m ∧ x.age = y.age ∧ x.th = y.th) (by cases x; cases y; simp)
instance : DecidableEq St1 := fun x y => decidable_of_iff (x.bo = y.bo ∧ x.mr = y.mr ∧ x.la = y.la) (by cases x; cases y; simp)
instance : DecidableEq Mo := fun x y => match x, y with
  | .rest, .rest => isTrue rfl
  | .press b h, .press b' h' => decidable_of_iff (b = b' ∧ h = h') (by simp)
  | .hold h, .hold h' => decidable_of_iff (h = h') (by simp)
  | .rest, .press _ _ => isFalse (fun e => by cases e)
  | .rest, .hold _ => isFalse (fun e => by cases e)
  | .press _ _, .rest => isFalse (fun e => by cases e)
  | .press _ _, .hold _ => isFalse (fun e => by cases e)
  | .hold _, .rest => isFalse (fun e => by cases e)
  | .hold _, .press _ _ => isFalse (fun e => by cases e)
/-! ## Places of the search: a state, a spell -/
structure Spl where
  lo : Nat
  pa : Nat
deriving DecidableEq
def Spl.d (s : Spl) : Dt := .tup [.int s.lo, .int s.pa]
abbrev Plc := St1 × Spl
/-- where a frame that goes on may come, a press came -/
def plOk (p : Plc) : Prop := p.2.pa = 0 → p.1.bo.isSome = true
/-! ### finitely many -/
def plU (lost : Nat) (p : Plc) : Prop := (∀ b, p.1.bo = some b → 0 ≤ b ∧ b < 4) ∧ (p.1.mr = 0 ∨ p.1.mr = 1) ∧ (∀ l, p.1.la = some l → 0 ≤ l.b ∧ l.b < 4 ∧ (l.m = 0 ∨ l.m = 1) ∧ 0 ≤ l.age ∧ l.age ≤ 10) ∧ p.2.lo ≤ lost ∧ p.2.pa ≤ 7
def codeL : Option La → Nat
  | none => 0
  | some l => 1 + (((l.b.toNat * 2 + l.m.toNat) * 11 + l.age.toNat) * 2 + (if l.th = true then 1 else 0))
def codeB : Option Int → Nat
  | none => 0
  | some b => b.toNat + 1
def codeP (p : Plc) : Nat := (((codeB p.1.bo * 2 + p.1.mr.toNat) * 200 + codeL p.1.la) * 6 + p.2.lo) * 8 + p.2.pa
theorem codeL_lt {lost : Nat} {p : Plc} (h : plU lost p) : codeL p.1.la < 200 := by
  obtain ⟨_, _, h3, _⟩ := h
  cases e : p.1.la with
  | none => decide
  | some l =>
    obtain ⟨a1, a2, a3, a4, a5⟩ := h3 l e
    show 1 + (((l.b.toNat * 2 + l.m.toNat) * 11 + l.age.toNat) * 2 + (if l.th = true then 1 else 0)) < 200
    split <;> omega
theorem codeB_lt {lost : Nat} {p : Plc} (h : plU lost p) : codeB p.1.bo < 5 := by
  cases e : p.1.bo with
  | none => decide
  | some b =>
    have := h.1 b e
    show b.toNat + 1 < 5
    omega
theorem code_lt {lost : Nat} {p : Plc} (hl : lost ≤ 5) (h : plU lost p) : codeP p < 96000 := by
  have h1 := codeL_lt h
  have h2 := codeB_lt h
  obtain ⟨_, hm, _, h4, h5⟩ := h
  unfold codeP
  omega
theorem code_inj {lost : Nat} {p q : Plc} (hl : lost ≤ 5) (hp : plU lost p) (hq : plU lost q) (e : codeP p = codeP q) : p = q := by
  have p1 := codeL_lt hp
  have q1 := codeL_lt hq
  have p2 := codeB_lt hp
  have q2 := codeB_lt hq
  obtain ⟨⟨bo, mr, la⟩, ⟨lo, pa⟩⟩ := p
  obtain ⟨⟨bo', mr', la'⟩, ⟨lo', pa'⟩⟩ := q
  obtain ⟨a1, a2, a3, a4, a5⟩ := hp
  obtain ⟨b1, b2, b3, b4, b5⟩ := hq
  simp only [codeP] at *
  have e1 : codeB bo = codeB bo' ∧ mr.toNat = mr'.toNat ∧ codeL la = codeL la' ∧ lo = lo' ∧ pa = pa' := by omega
  obtain ⟨c1, c2, c3, rfl, rfl⟩ := e1
  have d1 : bo = bo' := by
    cases bo with
    | none => cases bo' with
      | none => rfl
      | some b => simp [codeB] at c1
    | some a => cases bo' with
      | none => simp [codeB] at c1
      | some b =>
        have := a1 a rfl
        have := b1 b rfl
        simp only [codeB] at c1
        congr 1
        omega
  have d2 : mr = mr' := by omega
  have d3 : la = la' := by
    cases la with
    | none => cases la' with
      | none => rfl
      | some l => simp [codeL] at c3; omega
    | some l => cases la' with
      | none => simp [codeL] at c3
      | some l' =>
        obtain ⟨x1, x2, x3, x4, x5⟩ := a3 l rfl
        obtain ⟨y1, y2, y3, y4, y5⟩ := b3 l' rfl
        obtain ⟨lb, lm, lage, lth⟩ := l
        obtain ⟨lb', lm', lage', lth'⟩ := l'
        simp only [codeL] at *
        have : lb = lb' ∧ lm = lm' ∧ lage = lage' ∧ lth = lth' := by
          cases lth <;> cases lth' <;> simp only [if_true, Bool.false_eq_true, if_false] at c3 <;> refine ⟨?_, ?_, ?_, ?_⟩ <;> first | rfl | omega
        obtain ⟨rfl, rfl, rfl, rfl⟩ := this
        rfl
  rw [d1, d2, d3]
theorem places_few {lost : Nat} {W : List Plc} (hl : lost ≤ 5) (hn : W.Nodup) (h : ∀ p ∈ W, plU lost p) : W.length ≤ 96000 := by
  have := nodup_lt 96000 (W.map codeP) ?_ fun x hx => ?_
  · simpa using this
  · refine (List.Pairwise.and_mem.mp hn).map _ ?_
    rintro a b ⟨ha, hb, hne⟩ e
    exact hne (code_inj hl (h a ha) (h b hb) e)
  · obtain ⟨p, hp, rfl⟩ := List.mem_map.mp hx
    exact code_lt hl (h p hp)
/-! ### as keys -/
end Bf
namespace Bf
open PySem PySem.Spec PyProof.Rows L2
section
variable {K : PySem.W.Frag} {S S1 : Sta} {ρ : List (Option Dt)} {te : TE} {ta : TA} {j : Nat} {vs : List Nat}
end
/-! ## spell_behind, moments_of, moves_from -/
section
variable {K : PySem.W.Frag} {Hb Fb : Hp} {S : Sta} {ds : List Dt} {d : Dt}
end
end Bf
namespace Bf
open PySem PySem.Spec PyProof.Rows L2
/-! ## Such methods by their bodies; defs that hand back something new; the class Ways -/
/-- what is known of the class -/
structure WayT (K : PySem.W.Frag) (mg : Str → Option Value) (C fI : Addr) : Prop where
  cl : Cls K C
  mK : Mk K C fI
  n1 : NoAttr K C "_steps"
  n2 : NoAttr K C "_tolerances"
  n3 : NoAttr K C "_needs"
  gC : mg "Ways" = some (.ref C)
/-- a method of it, as the text has it -/
structure WayM (K : PySem.W.Frag) (C : Addr) (x qual : Str) (st : Stmt) (f : Addr) (fd : FuncData) (ps : List Str) : Prop where
  fn : Fun K x qual st f fd
  me : Meth K C x f
  b : Binds K fd ps []
section
variable {K : PySem.W.Frag} {Hb Fb F F' H H' : Hp} {L L' : List Addr} {p C : Addr} {o : HO} {v : V} {d x q : Dt} {σ : L2.St} {ρ : List (Option Dt)} {P : Pm} {te tl tk td ty tv : TE} {ta : TA} {tt c : TT} {t u : TS} {D : Ends} {Φ Ψ : Dt → Prop} {j n : Nat} {xs ys ds ks keys l1 l2 : List Dt} {S S1 S2 : Sta} {w : World} {tw : TS} {E : XK} {m : Str}
theorem Ef.to {y : Dt} (h : Ef K Hb Fb L ρ te (Eq x)) (e : x = y) : Ef K Hb Fb L ρ te (Eq y) := e ▸ h
end
section
variable {Pg : Program} {w : World} {K : PySem.W.Frag} {mg : Str → Option Value} {base : Heap} {x qual : Str} {st : Stmt} {f C : Addr} {fd : FuncData} {N ps : List Str} {k n : Nat}
end
end Bf
namespace Bf
open PySem PySem.Spec PyProof.Rows L2
/-! ## What a Ways holds -/
theorem fix_rtD (C : Addr) (n m : Int) : fixd (rat C n m) = true := by simp [rat, fixd, fixdA]
structure SlOk (T : Tab) (ks : List Site) : Prop where
  nd : ks.Nodup
  beg : T.beg ∈ ks
  cl : ∀ s ∈ ks, ∀ x ∈ stepsS T s, x.2.2 ∈ ks
  ok : ∀ s ∈ ks, s ∈ siteL T ∧ s.k ≤ T.b ∧ siteR s
abbrev Sls := List (Addr × List Site)
def slA (sl : Sls) (i : Nat) : Addr × List Site := sl.getD i (0, [])
structure WOk (rc : Rcv) (sl : Sls) : Prop where
  ok : rcvOk rc
  n4 : rc.length ≤ 4
  st : ∀ i, i < rc.length → SlOk (tabAt rc i) (slA sl i).2
/-- a stand whose places are known -/
structure stnK (rc : Rcv) (sl : Sls) (s : Stn) : Prop where
  i : s.ix < rc.length
  l : s.lw < rc.length
  a : s.a ∈ (slA sl s.ix).2
  b : s.b ∈ (slA sl s.lw).2
  eq : s.le = false → s.ix = s.lw ∧ s.a = s.b
section
variable {K : PySem.W.Frag} {mg : Str → Option Value} {Hb Fb F F' H H' : Hp} {L L' : List Addr} {p C CR fI : Addr} {o : HO} {v : V} {d x y q : Dt} {σ : L2.St} {ρ : List (Option Dt)} {P : Pm} {te tl tk td ty tv tb : TE} {ta : TA} {tt c : TT} {t u : TS} {D : Ends} {Φ Ψ : Dt → Prop} {i j n : Nat} {xs ys ds keys l1 l2 : List Dt} {S S1 S2 : Sta} {w : World} {tw : TS} {E : XK} {m : Str}
/-! ### is_final -/
end
end Bf
namespace Bf
open PySem PySem.Spec PyProof.Rows L2
/-! ## wrong_row -/
def goodP (lost : Nat) (p : Plc) : Prop := plU lost p ∧ plOk p
/-- the dict of rows: keys, and a row for each -/
structure Rws (lost : Nat) (W : List Plc) (vals : List (List Mo)) (xs : List (Pt Plc Mo)) : Prop where
  len : W.length = vals.length
  nd : W.Nodup
  good : ∀ p ∈ W, goodP lost p
  at_ : ∀ x ∈ xs, lkG W vals x.2 = some x.1
theorem Rws.few {lost : Nat} {W : List Plc} {vals : List (List Mo)} {xs : List (Pt Plc Mo)} (h : Rws lost W vals xs) (hl : lost ≤ 5) : W.length ≤ 96000 := places_few hl h.nd fun p hp => (h.good p hp).1
theorem lkG_mem {κ α : Type} [DecidableEq κ] {ks : List κ} {xs : List α} {q : κ} {y : α} (hl : ks.length = xs.length) (h : lkG ks xs q = some y) : q ∈ ks := Classical.byContradiction fun n => by
  rw [(lkG_none hl).mpr n] at h
  cases h
theorem Rws.put {lost : Nat} {W : List Plc} {vals : List (List Mo)} {xs : List (Pt Plc Mo)} {p : Plc} {r : List Mo} (h : Rws lost W vals xs) (hp : goodP lost p) (hn : p ∉ W) : Rws lost (keyG W p) (setG W vals p r) ((r, p) :: xs) := by
  refine ⟨setG_len h.len, keyG_nodup h.nd, fun q hq => ?_, fun x hx => ?_⟩
  · rcases mem_keyG.mp hq with hq | rfl
    · exact h.good q hq
    · exact hp
  · rw [lkG_set h.len]
    rcases List.mem_cons.mp hx with rfl | hx
    · exact if_pos rfl
    · have := lkG_mem h.len (h.at_ x hx)
      rw [if_neg (fun z : x.2 = p => hn (z ▸ this))]
      exact h.at_ x hx
theorem Rws.sub {lost : Nat} {W : List Plc} {vals : List (List Mo)} {xs ys : List (Pt Plc Mo)} (h : Rws lost W vals xs) (s : ∀ y ∈ ys, y ∈ xs) : Rws lost W vals ys := ⟨h.len, h.nd, h.good, fun x hx => h.at_ x (s x hx)⟩
section
variable {K : PySem.W.Frag} {Hb Fb : Hp} {S : Sta} {ds : List Dt} {d : Dt} {w : World} {pn CS CN : Addr} {P : Pm}
end
end Bf
namespace Bf
open PySem PySem.Spec PyProof.Rows L2
/-! ## need's promise; moves_from -/
/-- two steps from a place: they are the same, or settle bits -/
theorem steps_two {T : Tab} {s : Site} {x y : Stp} (hx : x ∈ stepsS T s) (hy : y ∈ stepsS T s) : (x.1 = y.1 → x = y) ∧ (x.1 ≠ y.1 → ∃ a b, x.1 = some a ∧ y.1 = some b) := by
  unfold stepsS at hx hy
  split at hx
  · cases hx
  · rename_i h
    rw [if_neg h] at hy
    split at hx
    · rename_i h2
      rw [if_pos h2] at hy
      rw [List.mem_singleton.mp hx, List.mem_singleton.mp hy]
      exact ⟨fun _ => rfl, fun z => absurd rfl z⟩
    · rename_i h2
      rw [if_neg h2] at hy
      simp only [List.mem_cons, List.not_mem_nil, or_false] at hx hy
      rcases hx with rfl | rfl <;> rcases hy with rfl | rfl
      · exact ⟨fun _ => rfl, fun z => absurd rfl z⟩
      · exact ⟨fun z => (by cases (show (some (0 : Int)) = some 1 from z)), fun _ => ⟨0, 1, rfl, rfl⟩⟩
      · exact ⟨fun z => (by cases (show (some (1 : Int)) = some 0 from z)), fun _ => ⟨1, 0, rfl, rfl⟩⟩
      · exact ⟨fun _ => rfl, fun z => absurd rfl z⟩
theorem stnK_led {rc : Rcv} {sl : Sls} {s : Stn} {x y : Stp} (hW : WOk rc sl) (h : stnK rc sl s) (hx : x ∈ stepsS (tabAt rc s.ix) s.a) (hy : y ∈ stepsS (tabAt rc s.lw) s.b) : stnK rc sl (ledN s x y) := by
  refine ⟨h.i, h.l, (hW.st _ h.i).cl _ h.a _ hx, (hW.st _ h.l).cl _ h.b _ hy, fun e => ?_⟩
  have e1 : s.le = false ∧ y.1 = x.1 := by
    have e' : (s.le || !decide (y.1 = x.1)) = false := e
    simpa using e'
  obtain ⟨h1, h2⟩ := h.eq e1.1
  refine ⟨h1, ?_⟩
  rw [← h1, ← h2] at hy
  have := (steps_two hx hy).1 e1.2.symm
  show x.2.2 = y.2.2
  rw [this]
section
variable {K : PySem.W.Frag} {mg : Str → Option Value} {Hb Fb F F' H H' : Hp} {L L' : List Addr} {p C CR fI : Addr} {o : HO} {v : V} {d q : Dt} {σ : L2.St} {ρ : List (Option Dt)} {P : Pm} {te tl tk td ty tv tb : TE} {ta : TA} {tt c : TT} {t u : TS} {D : Ends} {Φ Ψ : Dt → Prop} {i j n : Nat} {xs ys ds keys l1 l2 : List Dt} {S S1 S2 : Sta} {w : World} {tw : TS} {E : XK} {m : Str}
end
end Bf
namespace Bf
open PySem PySem.Spec PyProof.Rows L2
/-! ## need: its own cache, read by hand -/
section
variable {K : PySem.W.Frag} {mg : Str → Option Value} {C CR fI : Addr} {w : World}
end
end Bf
namespace Bf
open PySem PySem.Spec PyProof.Rows L2
/-! ## steps_by_place -/
section
variable {K : PySem.W.Frag} {Hb Fb F F' H H' : Hp} {L L' : List Addr} {p : Addr} {o : HO} {v : V} {d q : Dt} {σ : L2.St} {ρ : List (Option Dt)} {P : Pm} {te tl : TE} {w : TS} {j : Nat} {xs ys ds : List Dt} {S : Sta} {vs : List Nat}
end
theorem fix_map {α : Type} {f : α → Dt} (h : ∀ x, fixd (f x) = true) (xs : List α) : fixdA (xs.map f) = true := fixdA_all.mpr fun y hy => by
  obtain ⟨x, _, rfl⟩ := List.mem_map.mp hy
  exact h x
section
variable {K : PySem.W.Frag} {Hb Fb : Hp} {ds : List Dt} {Φ : Dt → Prop} {w : World}
end
end Bf
namespace Bf
open PySem PySem.Spec PyProof.Rows L2
/-! ## Expressions over F alone: what they come to is new, or of F -/
def Ex (K : PySem.W.Frag) (ρ : List (Option Dt)) (te : TE) (Φ : Dt → Prop) : Prop := ∀ (σ : L2.St) (F H : Hp), Same F H → (∀ a o, H a = some o → F a = none → mutk o = true) → Slots K F σ ρ → ∀ Q : VK, (∀ v d F' H', Vw H F F' H' → Rep K F' v d → Φ d → Q v H') → te σ H Q
section
variable {K : PySem.W.Frag} {Hb Fb F F' H H' H2 F2 : Hp} {L : List Addr} {p : Addr} {o : HO} {v : V} {d : Dt} {σ : L2.St} {ρ : List (Option Dt)} {te tl : TE} {ta : TA} {j j1 j2 i n : Nat} {ds : List Dt} {Φ Ψ : Dt → Prop} {E : XK}
end
end Bf
namespace Bf
open PySem PySem.Spec PyProof.Rows L2
/-! ## start_stands; Ways(receiver) -/
theorem fix_rcD (C : Addr) (rc : Rcv) : fixd (rcD C rc) = true := by
  show fixdA (rc.map (prD C)) = true
  exact fix_map (fun x => by simp [prD, fixd, fixdA, fix_tab, fix_rtD]) _
section
variable {K : PySem.W.Frag} {mg : Str → Option Value} {Hb Fb F F' H H' A B : Hp} {L L' : List Addr} {p C CR CB fI x : Addr} {o : HO} {v : V} {d q : Dt} {σ : L2.St} {ρ : List (Option Dt)} {P : Pm} {te tl : TE} {t w' : TS} {j j1 j2 i n : Nat} {xs ys ds : List Dt} {S : Sta} {w : World} {Φ : Dt → Prop} {E : XK}
/-! ### Ways(receiver) -/
mutual
/-- instances are ratios, nothing may change -/
def offI : Dt → Bool
  | .non => true
  | .bl _ => true
  | .int _ => true
  | .str _ => true
  | .raw _ => true
  | .lst xs => offIA xs
  | .tup xs => offIA xs
  | .ins _ ns xs => decide (ns = (["_num", "_den"] : List Str)) && decide (xs.length = 2) && offIA xs
  | .dat _ _ ks xs => offIA ks && offIA xs
  | _ => false
def offIA : List Dt → Bool
  | [] => true
  | x :: xs => offI x && offIA xs
end
def notRat (fs : List (Str × V)) : Prop := ∀ v r, fs ≠ (("_num" : Str), v) :: r
theorem ne_ins {dx : Addr} {fs : List (Str × V)} {a : Addr} (hx : A x = some (.ins C dx fs)) (ha : A a = some o) (h : ∀ C dx fs, o ≠ .ins C dx fs) : a ≠ x := fun z => by
  rw [z, hx] at ha
  exact h _ _ _ (Option.some.inj ha).symm
theorem ne_rat {dx dx' C' a : Addr} {fs : List (Str × V)} {ns : List Str} {vs : List V} (hx : A x = some (.ins C dx fs)) (hfs : notRat fs) (q : A a = some (.ins C' dx' (ns.zip vs))) (h1 : ns = (["_num", "_den"] : List Str)) (h2 : vs.length = 2) : a ≠ x := fun z => by
  subst h1
  rw [z, hx] at q
  match vs, h2 with
  | [v1, v2], _ =>
    cases q
    exact hfs _ _ rfl
section
variable {dx : Addr} {fs : List (Str × V)}
mutual
theorem Rep.skip (hx : A x = some (.ins C dx fs)) (hfs : notRat fs) (h : ∀ a o, a ≠ x → A a = some o → B a = some o) : ∀ {v : V} {d : Dt}, offI d = true → Rep K A v d → Rep K B v d
  | _, _, _, .non => .non
  | _, _, _, .bl b => .bl b
  | _, _, _, .int i => .int i
  | _, _, _, .str x => .str x
  | _, _, _, .raw v => .raw v
  | _, _, f, .lst q r => .lst (by
      rcases q with (q | ⟨o, q⟩) | q
      · exact .inl (.inl (h _ _ (ne_ins hx q fun _ _ _ z => nomatch z) q))
      · exact .inl (.inr ⟨o, h _ _ (ne_ins hx q fun _ _ _ z => nomatch z) q⟩)
      · exact .inr q) (r.skip hx hfs h (by simpa only [offI] using f))
  | _, _, f, .tup q r => .tup (by
      rcases q with (q | ⟨o, q⟩) | q
      · exact .inl (.inl (h _ _ (ne_ins hx q fun _ _ _ z => nomatch z) q))
      · exact .inl (.inr ⟨o, h _ _ (ne_ins hx q fun _ _ _ z => nomatch z) q⟩)
      · exact .inr q) (r.skip hx hfs h (by simpa only [offI] using f))
  | _, _, f, .ins q r => .ins (h _ _ (ne_rat hx hfs q (by
      simp only [offI, Bool.and_eq_true, decide_eq_true_eq] at f
      exact f.1.1) (by
      simp only [offI, Bool.and_eq_true, decide_eq_true_eq] at f
      exact r.len.trans f.1.2)) q) (r.skip hx hfs h (by
      simp only [offI, Bool.and_eq_true, decide_eq_true_eq] at f
      exact f.2))
  | _, _, f, .dat q l r1 r2 => by
    simp only [offI, Bool.and_eq_true] at f
    exact .dat (h _ _ (ne_ins hx q fun _ _ _ z => nomatch (show HO.ext _ = HO.ins _ _ _ from z)) q) l (r1.skip hx hfs h f.1) (r2.skip hx hfs h f.2)
  | _, _, f, .lat _ _ => by simp [offI] at f
  | _, _, f, .dic _ => by simp [offI] at f
  | _, _, f, .err _ _ _ => by simp [offI] at f
  | _, _, f, .dct _ _ _ => by simp [offI] at f
  | _, _, f, .dti _ _ _ => by simp [offI] at f
  | _, _, f, .cel _ _ => by simp [offI] at f
theorem RepA.skip (hx : A x = some (.ins C dx fs)) (hfs : notRat fs) (h : ∀ a o, a ≠ x → A a = some o → B a = some o) : ∀ {vs : List V} {ds : List Dt}, offIA ds = true → RepA K A vs ds → RepA K B vs ds
  | _, _, _, .nil => .nil
  | _, _, f, .cons q r => by
    simp only [offIA, Bool.and_eq_true] at f
    exact .cons (q.skip hx hfs h f.1) (r.skip hx hfs h f.2)
end
end
end
end Bf
namespace Bf
open PySem PySem.Spec PyProof.Rows L2
/-! ## Ways(receiver), by hand -/
section
variable {K : PySem.W.Frag} {mg : Str → Option Value} {C CR fI : Addr} {w : World}
end
end Bf
namespace Bf
open PySem PySem.Spec PyProof.Rows L2
/-! ## one_move_on -/
abbrev RdN := Rd Stn Fq
/-- a dict of stands that are known, with needs in lowest terms -/
structure rdOk (rc : Rcv) (sl : Sls) (d : RdN) : Prop where
  nd : (d.map (·.1)).Nodup
  ok : ∀ x ∈ d, okB x.2 = true ∧ stnK rc sl x.1
theorem rdOk.put {rc : Rcv} {sl : Sls} {d : RdN} {s : Stn} {g : Fq} (h : rdOk rc sl d) (hs : stnK rc sl s) (hg : okB g = true) : rdOk rc sl (putR ltQ d s g) := by
  refine ⟨nodup_put h.nd s g, fun x hx => ?_⟩
  unfold putR at hx
  cases e : lkR d s with
  | none =>
    rw [e] at hx
    rcases List.mem_append.mp hx with hx | hx
    · exact h.ok x hx
    · rw [List.mem_singleton.mp hx]; exact ⟨hg, hs⟩
  | some q =>
    rw [e] at hx
    simp only at hx
    split at hx
    · obtain ⟨y, hy, rfl⟩ := List.mem_map.mp hx
      by_cases z : y.1 = s
      · rw [if_pos z]; exact ⟨hg, hs⟩
      · rw [if_neg z]; exact h.ok y hy
    · exact h.ok x hx
theorem stnK_G {rc : Rcv} {sl : Sls} {s : Stn} (hW : WOk rc sl) (h : stnK rc sl s) : stnG rc s ∧ stnR rc s := by
  have a := (hW.st _ h.i).ok _ h.a
  have b := (hW.st _ h.l).ok _ h.b
  exact ⟨⟨⟨h.i, h.l⟩, a.1, a.2.1, b.1, b.2.1⟩, ⟨h.i, h.l⟩, a.2.2, b.2.2⟩
theorem rdOk.few {rc : Rcv} {sl : Sls} {d : RdN} (hW : WOk rc sl) (h : rdOk rc sl d) : d.length ≤ 89888 := by
  have := stands_short hW.ok hW.n4 h.nd fun s hs => by
    obtain ⟨x, hx, rfl⟩ := List.mem_map.mp hs
    exact (stnK_G hW (h.ok x hx).2).1
  rwa [List.length_map] at this
theorem mv3_K {rc : Rcv} {sl : Sls} {s : Stn} {m : Fq × Stn × Stp × Stp} (hW : WOk rc sl) (h : stnK rc sl s) (hm : m ∈ mv3 rc s) : okB m.1 = true ∧ stnK rc sl m.2.1 := by
  refine ⟨(mv_ok hW.ok (stnK_G hW h).2 (m := (m.1, m.2.1)) (List.mem_map.mpr ⟨m, hm, rfl⟩)).1, ?_⟩
  obtain ⟨x, hx, hm⟩ := List.mem_flatMap.mp hm
  obtain ⟨y, hy, rfl⟩ := List.mem_map.mp hm
  exact stnK_led hW h hx (List.mem_filter.mp hy).1
section
variable {K : PySem.W.Frag} {mg : Str → Option Value} {Hb Fb : Hp} {L : List Addr} {p C CR fI : Addr} {ρ : List (Option Dt)} {te tb : TE} {ds l1 l2 : List Dt} {S S1 S2 : Sta} {w : World} {Φ : Dt → Prop} {a b : Fq}
end
end Bf
namespace Bf
open PySem PySem.Spec PyProof.Rows L2
/-! ## least_to_final, limit_of -/
theorem sts_K {rc : Rcv} {sl : Sls} (hW : WOk rc sl) {s : Stn} (h : s ∈ stsN rc) : stnK rc sl s := by
  obtain ⟨i, hi, h⟩ := List.mem_flatMap.mp h
  obtain ⟨j, hj, rfl⟩ := List.mem_map.mp h
  have hi := List.mem_range.mp hi
  have hj := List.mem_range.mp hj
  refine ⟨hi, by show j < rc.length; omega, (hW.st i hi).beg, (hW.st j (by omega)).beg, fun e => ?_⟩
  have e' : decide (j < i) = false := e
  have : i = j := by have := of_decide_eq_false e'; omega
  subst this
  exact ⟨rfl, rfl⟩
section
variable {K : PySem.W.Frag} {mg : Str → Option Value} {Hb Fb : Hp} {L : List Addr} {p C CR fI : Addr} {ρ : List (Option Dt)} {te tb : TE} {ds l1 l2 : List Dt} {S S1 S2 : Sta} {w : World} {Φ : Dt → Prop} {a b : Fq}
end
end Bf
namespace Bf
open PySem PySem.Spec PyProof.Rows L2
/-! ## The law's own limit: the least need of all pairs of sendings, one after another -/
/-! ### the order of sendings -/
end Bf
namespace Bf
open PySem PySem.Spec PyProof.Rows L2
/-! ## A tolerance below the limit, and at most all tolerances: each burst within it is read right -/
end Bf
namespace Bf
open PySem PySem.Spec PyProof.Rows L2
/-! ## limit_of, by hand: a Ways that nobody else holds -/
section
variable {K : PySem.W.Frag} {C CR CB : Addr} {w : World}
end
end Bf
namespace Bf
open PySem PySem.Spec PyProof.Rows L2
/-! ## least_off, least_word, nearest -/
section
variable {K : PySem.W.Frag} {Hb Fb : Hp} {C : Addr} {L : List Addr} {S : Sta} {ρ : List (Option Dt)} {P : Pm} {te ta tb : TE} {t : TS} {ds : List Dt} {d : Dt} {j : Nat} {T : Tab} {bs : List Fq}
end
end Bf
namespace Bf
open PySem PySem.Spec PyProof.Rows L2
section
variable {K : PySem.W.Frag} {Hb Fb : Hp} {C : Addr} {L : List Addr} {S : Sta} {ρ : List (Option Dt)} {P : Pm} {te ta tb : TE} {t : TS} {ds : List Dt} {d : Dt} {j : Nat} {T : Tab} {bs : List Fq}
end
end Bf
namespace Bf
open PySem PySem.Spec PyProof.Rows L2
/-! ## reads, by least_word -/
section
variable {K : PySem.W.Frag} {mg : Str → Option Value} {C CB CR : Addr} {S : Sta} {ds : List Dt} {d : Dt} {o : Out} {E : XK}
end
end Bf
namespace Bf
open PySem PySem.Spec PyProof.Rows L2
/-! ## drawn receivers of so many tables at most, their tolerances' parts below 100 -/
def prB (p : Tab × Fq) : Prop := prQ p ∧ p.2.2 ≤ 100
theorem prB_mk {T : Tab} {n m : Int} (hT : T.ok) (h0 : 0 ≤ n) (h1 : n < m) (h2 : m ≤ 100) : prB (T, n / (Nat.gcd n.natAbs m.natAbs : Nat), m / (Nat.gcd n.natAbs m.natAbs : Nat)) :=
  ⟨prQ_mk hT h0 h1 (by omega), Int.le_trans (Int.ediv_le_self _ (by omega)) h2⟩
section
variable {K : PySem.W.Frag} {a : Addr} {c : CT} {cs : List Int} {n : Nat} {ds : List Dt} {C : Addr}
end
end Bf
namespace Bf
open PySem PySem.Spec PyProof.Rows L2
/-! ## Bursts and tables, all multiplied: read alike, as near -/
section
variable {g : Int} {bs : List Fq} (hg : 0 < g) (hb : ∀ b ∈ bs, okQ (b.1 * g, b.2))
end
end Bf
namespace Bf
open PySem PySem.Spec PyProof.Rows L2
/-! ## What the first tables read, all of them read; the nearest word and what a table alone reads -/
end Bf
namespace Bf
open PySem PySem.Spec PyProof.Rows L2
/-! ## Loops over pairs, over range(a, b); defs that refuse no table that is right -/
section
variable {K : PySem.W.Frag} {S S1 S2 SF SB : Sta} {L : List Addr} {ρ : List (Option Dt)} {P : Po} {tl te ta tb : TE} {t : TS} {tas : TA} {ds : List Dt} {d : Dt} {j j1 j2 : Nat} {C CB CT : Addr} {Φ : Dt → Prop}
/-! ### one limit is at most the other -/
end
end Bf
namespace Bf
open PySem PySem.Spec PyProof.Rows L2
/-! ## _law_most, _law_sendings -/
section
variable {K : PySem.W.Frag} {mg : Str → Option Value} {Hb Fb F F' H H' A B : Hp} {L L' : List Addr} {p C CR CB fI x : Addr} {o : HO} {v : V} {d q : Dt} {σ : L2.St} {ρ : List (Option Dt)} {P : Pm} {te tl : TE} {t w' : TS} {j j1 j2 i n : Nat} {xs ys ds : List Dt} {S : Sta} {w : World} {Φ : Dt → Prop} {E : XK}
end
end Bf
namespace Bf
open PySem PySem.Spec PyProof.Rows L2
/-! ## _law_words as a new list, _law_sendings -/
section
variable {K : PySem.W.Frag} {Hb Fb : Hp} {ds : List Dt} {d : Dt} {C : Addr}
end
end Bf
namespace Bf
open PySem PySem.Spec PyProof.Rows L2
/-! ## _law_limit -/
section
variable {K : PySem.W.Frag} {S SB : Sta} {L : List Addr} {ρ : List (Option Dt)} {P : Po} {tl : TE} {t : TS}
end
section
variable {K : PySem.W.Frag} {S S1 S2 SF SB : Sta} {L : List Addr} {ρ : List (Option Dt)} {P : Po} {tl te ta tb : TE} {t : TS} {tas : TA} {ds : List Dt} {d : Dt} {j j1 j2 : Nat} {C CB CT : Addr} {Φ : Dt → Prop}
end

section
variable {K : PySem.W.Frag} {S : Sta} {ds : List Dt} {d : Dt} {C : Addr} {P : Po}
end
end Bf
namespace Bf
open PySem PySem.Spec PyProof.Rows L2
/-! ## least_tolerance, margin_of -/
section
variable {K : PySem.W.Frag} {S S1 S2 : Sta} {ρ : List (Option Dt)} {ta tb : TE} {ds : List Dt} {d : Dt} {C : Addr} {a b : Fq}
end
end Bf
namespace Bf
open PySem PySem.Spec PyProof.Rows L2
/-! ## The law of reading -/
def T1 : Tab := .pa [] 1 1 1 3 1 1
def T2 : Tab := .ha 2 1
section
variable {K : PySem.W.Frag} {a : Addr} {c : CT} {cs : List Int} {C CB : Addr}
end
end Bf
namespace Bf
open PySem PySem.Spec PyProof.Rows L2
/-! ## x * y by an own method: both of the same class -/
section
variable {K : PySem.W.Frag} {mg : Str → Option Value} {C fI pN gN pD gD : Addr} {S S1 S2 : Sta} {ρ : List (Option Dt)} {te ta tb : TE} {ds : List Dt} {d : Dt} {n m i j : Int}
end
end Bf
namespace Bf
open PySem PySem.Spec PyProof.Rows L2
/-! ## Durations multiplied: the law's own defs -/
/-- a duration, or a tuple of them -/
inductive DurD : Dt → Prop where
  | one {n : Int} (h : okS n) : DurD (.int n)
  | more {ns : List Int} (h : ∀ n ∈ ns, okS n) (hl : ns.length ≤ 1000) : DurD (tI ns)
def Tab.small (g : Int) : Tab → Bool
  | .ha u _ => decide (u * g < 100000)
  | .pa h z1 z2 o1 o2 s _ => ((h ++ [z1, z2] ++ [o1, o2] ++ [s]).filter fun x => decide (99999 < x * g)).isEmpty
section
variable {K : PySem.W.Frag} {S S1 : Sta} {ρ : List (Option Dt)} {ta tb : TE} {ds : List Dt} {d x : Dt} {g : Int} {E : XK} {T : Tab}
end
end Bf
namespace Bf
open PySem PySem.Spec PyProof.Rows L2
/-! ## _law_moved: bursts of small numbers, that can be multiplied -/
section
variable {K : PySem.W.Frag} {a : Addr} {c : CT} {cs : List Int} {n : Nat} {ds : List Dt} {C : Addr}
end
end Bf
namespace Bf
open PySem PySem.Spec PyProof.Rows L2 PySem.SeqAt
/-! ## x == y of tuples of the same things that hold ratios -/
section
variable {X : Cx} {C q : Addr} {qd : FuncData}
end
section
variable {K : PySem.W.Frag} {S : Sta} {C : Addr}
end
end Bf
namespace Bf
open PySem PySem.Spec PyProof.Rows L2
/-! ## What the law of what is safe wants beside: loops and comprehensions that draw -/
section
variable {K : PySem.W.Frag} {S SF SB : Sta} {L : List Addr} {ρ : List (Option Dt)} {P : Po} {te tl : TE} {t : TS} {vs : List Nat} {j : Nat}
end
/-! ## No duration of a frame is longer than two parts -/
/-! ## The law's limit is a fraction of small numbers -/
end Bf
namespace Bf
open PySem PySem.Spec PyProof.Rows L2
/-! ## Drawn receivers whose tolerances are in lowest terms -/
def prC (p : Tab × Fq) : Prop := prB p ∧ canP p.2 = p.2
def rcC (rc : List (Tab × Fq)) : Prop := 1 ≤ rc.length ∧ rc.length ≤ 4 ∧ ∀ p ∈ rc, prC p
theorem prC_mk {T : Tab} {n m : Int} (hT : T.ok) (h0 : 0 ≤ n) (h1 : n < m) (h2 : m ≤ 100) : prC (T, n / (Nat.gcd n.natAbs m.natAbs : Nat), m / (Nat.gcd n.natAbs m.natAbs : Nat)) :=
  ⟨prB_mk hT h0 h1 h2, can_idem (p := (n, m)) ⟨h0, by show n < _; omega, by show 1 ≤ m; omega, by show m < _; omega⟩⟩
def recC (C : Addr) (ds : List Dt) (d : Dt) : Prop := ∃ rc, rcC rc ∧ d = rcD C rc
abbrev p__law_receiverC (K : PySem.W.Frag) (C : Addr) : Sp := spD K 2 (fun ds => ∃ k0 mm : Int, ds = [.int k0, .int mm] ∧ 1 ≤ k0 ∧ k0 ≤ 4 ∧ 1 ≤ mm ∧ mm ≤ 8) (recC C) 180
section
variable {K : PySem.W.Frag} {a : Addr} {c : CT} {cs : List Int} {n : Nat} {ds : List Dt} {C : Addr}
theorem so__law_receiverC (hc : cs ≠ []) (hn : n + 180 ≤ 1000000) (hp : ∃ k0 mm : Int, ds = [.int k0, .int mm] ∧ 1 ≤ k0 ∧ k0 ≤ 4 ∧ 1 ≤ mm ∧ mm ≤ 8) :
    So K (DW K a c cs n) (DW K a c cs (n + 180)) [] (t__law_receiver K C) (startD 7 (.raw (.ref a) :: ds)) { nx := fun _ => recC C ds .non, rt := recC C ds } := by
  obtain ⟨k0, mm, rfl, k01, k04, mm1, mm8⟩ := hp
  refine so_setD (ev_tup ea_nil (by decide)) ?_
  refine so_seq (M := fun ρ' => ∃ rc y4 y5 y6, ρ' = [some (.raw (.ref a)), some (.int k0), some (.int mm), some (rcD C rc), y4, y5, y6] ∧ rcC rc) ?_ fun ρ' hM => ?_
  · refine so_forRE (S1 := DW K a c cs (n + 1)) (Ψ := fun k => 1 ≤ k ∧ k ≤ 4) ?_ fun k ⟨k1, k4⟩ => ?_
    · intro σ H i s Q q
      exact ea_consP (ev_addP (Θ := fun d => ∃ k : Nat, d = .int k ∧ 1 ≤ k ∧ k ≤ 4) ev_int (ev__law_next (ea_cons (ev_var rfl) (ea_cons (ev_var rfl) ea_nil)) hc (by omega) (by omega) (by omega)) fun y ⟨r, e, r0, r1⟩ => ⟨r, e, (1 + r).toNat, by rw [Int.toNat_of_nonneg (by omega)], by omega, by omega⟩) ea_nil σ H i s Q fun vs ds H' g i' r ⟨x, xs, e, ⟨k, ek, k1, k4⟩, e2⟩ => q vs ds H' g i' r ⟨k, by rw [e, ek, ← e2], k1, k4⟩
    -- from here on the count is known
    refine so_forR (n := k) (Z := fun i => DW K a c cs (n + 1 + 44 * i)) (ea_cons ev_int ea_nil) (by omega) (fun i hi => dw_le (by omega)) (fun i hi => dw_le (by omega))
      (fun i ρ' => ∃ rc y4 y5 y6, ρ' = [some (.raw (.ref a)), some (.int k0), some (.int mm), some (rcD C rc), y4, y5, y6] ∧ rc.length = i ∧ ∀ p ∈ rc, prC p) ⟨[], none, none, none, rfl, rfl, fun _ h => nomatch h⟩ (fun t ρ' ht hJ => ?_) fun ρ' hJ => ?_
    · obtain ⟨rc, y4, y5, y6, rfl, hlen, hrc⟩ := hJ
      refine so_set (ev__law_table (n := n + 1 + 44 * t) (ea_cons (ev_var rfl) (ea_cons (ev_var rfl) ea_nil)) hc (by omega) mm1 mm8) fun d hd => ?_
      obtain ⟨T, hT, rfl, _⟩ := hd
      refine so_seqG (S1 := DW K a c cs (n + 1 + 44 * t + 42)) (M := fun ρ' => ∃ T' : Tab, T'.ok ∧ ρ' = [some (.raw (.ref a)), some (.int k0), some (.int mm), some (rcD C rc), some (.int t), some T'.d, y6]) (dw_le (by omega)) ?_ fun ρ' hM => ?_
      · refine so_if0 (S1 := DW K a c cs (n + 1 + 44 * t + 41)) (Φb := fun b => b = true → rc ≠ []) (et_andS (S1 := DW K a c cs (n + 1 + 44 * t + 40)) (a := !(rc.map (prD C)).isEmpty) (et_test (ev_op (ev_var rfl) (ev_tup ea_nil (by decide)) rv_neT0)) (dw_le (by omega)) (fun _ z => nomatch z) fun e => ?_) (fun e => ?_) fun _ => so_next (dw_le (by omega)) ⟨T, hT, rfl⟩
        · refine (et_testP (Φb := fun _ => True) (ev_opP (ev__law_next (n := n + 1 + 44 * t + 40) (ea_cons (ev_var rfl) (ea_cons ev_int ea_nil)) hc (by omega) (by decide) (by decide)) ev_int fun x y hx' ey => by
            obtain ⟨k, rfl, _⟩ := hx'
            subst ey
            exact fun H v u i r1 r2 Q q => rv_gt H v u i r1 r2 Q fun v' d' H' g i' r e => q v' d' H' g i' r ⟨_, e.symm, trivial⟩)).weak fun b _ _ z => ?_
          rw [z] at e
          cases e
        · obtain ⟨init, p, rfl⟩ : ∃ init p, rc = init ++ [p] := ⟨_, _, (List.dropLast_concat_getLast (e rfl)).symm⟩
          have hp := hrc p (by simp)
          have hl : Ev K (DW K a c cs (n + 1 + 44 * t + 41)) (DW K a c cs (n + 1 + 44 * t + 41)) [some (.raw (.ref a)), some (.int k0), some (.int mm), some (rcD C (init ++ [p])), some (.int t), some T.d, y6] (tOp (rIx K) (tOp (rIx K) (tVar 3) (tUn rNegI (tC (.int 1)))) (tC (.int 0))) (Eq p.1.d) :=
            ev_ixT (xs := [p.1.d, rat C p.2.1 p.2.2]) (ev_ixT (xs := (init ++ [p]).map (prD C)) (d := prD C p) (ev_var rfl) (ev_neg ev_int) (by rw [List.map_append]; exact atI_last _ _)) ev_int (atI_nat (j := 0) rfl)
          refine so_set0 ((ev_callD (ds := [p.1.d]) (n := n + 1 + 44 * t + 41) (ea_cons (ev_var rfl) (ea_cons hl ea_nil)) rfl ⟨p.1, hp.1.1.1, rfl⟩ hc (by omega)).weak fun d h => h) (dw_le (by omega)) fun d hd => ?_
          obtain ⟨T', hT', rfl⟩ := hd
          exact ⟨T', hT', rfl⟩
      · obtain ⟨T', hT', rfl⟩ := hM
        refine so_set (ev__law_next (n := n + 1 + 44 * t + 42) (ea_cons (ev_var rfl) (ea_cons ev_int ea_nil)) hc (by omega) (by decide) (by decide)) fun d hd => ?_
        obtain ⟨ab, rfl, ab0, ab1⟩ := hd
        refine so_set0 (S1 := DW K a c cs (n + 1 + 44 * t + 44)) (ev_opP (Θ := fun d => ∃ p, prC p ∧ d = rcD C (rc ++ [p])) (ev_var (d := rcD C rc) rfl)
          (ev_tupP (ea_consP (ev_tupP (ea_consP (ev_var (d := T'.d) rfl) (ea_consP (ev_mkratP (Φ := fun x y => 0 ≤ x ∧ x < y ∧ y ≤ 100) (S1 := DW K a c cs (n + 1 + 44 * t + 44)) (fun σ H i s Q q => ea_consP (ev_var (d := .int ab) rfl) (ea_consP (ev_addP (Θ := fun d => ∃ y, d = .int y ∧ ab < y ∧ y ≤ 100) (ev_op (ev_var rfl) ev_int rv_add) (ev__law_next (n := n + 1 + 44 * t + 43) (ea_cons (ev_var rfl) (ea_cons ev_int ea_nil)) hc (by omega) (by decide) (by decide)) fun y ⟨r, e, r0, r1⟩ => ⟨r, e, _, rfl, by omega, by omega⟩) ea_nil) σ H i s Q fun vs ds H' g i' r ⟨x, xs, e, ex, y, ys, e2, ⟨z, ez, z0, z1⟩, e3⟩ => q vs ds H' g i' r ⟨ab, z, by rw [e, e2, ← ex, ez, ← e3], ab0, z0, by omega⟩) fun x y ⟨h0, h1, h2⟩ => ⟨h0, by omega, Nat.lt_of_le_of_lt (show y.natAbs ≤ 1000 by omega) (by decide)⟩) ea_nil)) fun l ⟨x, xs, e, _, y, ys, e2, _, e3⟩ => by rw [e, e2, ← e3]; show 2 ≤ sizeLine; decide) ea_nil) fun l ⟨x, xs, e, _, e2⟩ => by rw [e, ← e2]; show 1 ≤ sizeLine; decide) fun x y ex hy => ?_) (dw_le (by omega)) fun d hd => ?_
        · obtain ⟨l, rfl, d1, l1, rfl, ⟨l2, rfl, x1, l3, rfl, rfl, y1, l4, rfl, ⟨nx, mx, ⟨h0, h1, h2⟩, rfl⟩, rfl⟩, rfl⟩ := hy
          subst ex
          refine fun H v u i r1 r2 Q q => rv_catT (by simp only [List.length_map, List.length_cons, List.length_nil]; exact Nat.le_trans (show rc.length + 1 ≤ 6 by omega) (by decide)) H v u i r1 r2 Q fun v' d' H' g i' r e => q v' d' H' g i' r ⟨_, prC_mk hT' h0 h1 h2, ?_⟩
          rw [← e]
          show _ = Dt.tup ((rc ++ [_]).map (prD C))
          rw [List.map_append]
          rfl
        · obtain ⟨p, hp, rfl⟩ := hd
          refine ⟨rc ++ [p], _, _, _, rfl, by rw [List.length_append, hlen]; rfl, fun q hq => ?_⟩
          rcases List.mem_append.mp hq with hq | hq
          · exact hrc q hq
          · rw [List.mem_singleton.mp hq]; exact hp
    · obtain ⟨rc, y4, y5, y6, rfl, hlen, hrc⟩ := hJ
      exact ⟨rc, y4, y5, y6, rfl, by omega, by omega, hrc⟩
  · obtain ⟨rc, y4, y5, y6, rfl, hrc⟩ := hM
    exact so_retD (ev_var rfl) (Sta.Le.refl _) ⟨rc, hrc, rfl⟩
end
/-! ## The least tolerance -/
/-! ## need_ratio, is_safe, _law_least -/
section
variable {K : PySem.W.Frag} {mg : Str → Option Value} {C CR CB fI pN gN pD gD : Addr} {S S1 S2 : Sta} {ρ : List (Option Dt)} {ta tb : TE} {ds : List Dt} {d : Dt} {a b : Fq} {E : XK}
end
/-! ## _law_item -/
section
variable {K : PySem.W.Frag} {a : Addr} {c : CT} {cs : List Int} {n : Nat} {ds : List Dt} {C : Addr}
end
end Bf
namespace Bf
open PySem PySem.Spec PyProof.Rows L2
/-! ## what each call refuses, ahead of all else: the rest of each def isn't reached -/
def r_refT (CB C : Addr) (n : Nat) (ds : List Dt) (o : Out) : Prop := ∃ d ds', ds = d :: ds' ∧ ds'.length + 1 = n ∧ plRt C d ∧ (tabPart d).isNon = false ∧ o = .er CB "part" (tabPart d)
abbrev p_refT (K : PySem.W.Frag) (CB C : Addr) (n : Nat) : Sp := spX K n (r_refT CB C n)
def r_refR (C CR : Addr) (n : Nat) (ds : List Dt) (o : Out) : Prop := ∃ d ds' x, ds = d :: ds' ∧ ds'.length + 1 = n ∧ vR C d ∧ rcvO CR d = .er CR "place" x ∧ o = .er CR "place" x
abbrev p_refR (K : PySem.W.Frag) (C CR : Addr) (n : Nat) : Sp := spX K n (r_refR C CR n)
def r_nrat17 (CBR C : Addr) (ds : List Dt) (o : Out) : Prop := ∃ y, ds = [y] ∧ okRt C y ∧ o = if isRatD y = true then .ok y else .er CBR "given" y
abbrev p_need_ratio17 (K : PySem.W.Frag) (CBR C : Addr) : Sp := spX K 1 (r_nrat17 CBR C)
def r_nearest17 (CB CBB C : Addr) (ds : List Dt) (o : Out) : Prop := r_refT CB C 2 ds o ∨ ∃ d y, ds = [d, y] ∧ plRt C d ∧ (tabPart d).isNon = true ∧ bvR C y ∧ isBu y = false ∧ o = .er CBB "given" y
abbrev p_nearest17 (K : PySem.W.Frag) (CB CBB C : Addr) : Sp := spX K 2 (r_nearest17 CB CBB C)
def r_reads17 (CR CBB C : Addr) (ds : List Dt) (o : Out) : Prop := r_refR C CR 2 ds o ∨ ∃ d y, ds = [d, y] ∧ vR C d ∧ rcvO CR d = .ok d ∧ bvR C y ∧ isBu y = false ∧ o = .er CBB "given" y
abbrev p_reads17 (K : PySem.W.Frag) (CR CBB C : Addr) : Sp := spX K 2 (r_reads17 CR CBB C)
def r_taken17 (CR CBR C : Addr) (ds : List Dt) (o : Out) : Prop := r_refR C CR 2 ds o ∨ ∃ d y, ds = [d, y] ∧ vR C d ∧ rcvO CR d = .ok d ∧ okRt C y ∧ isRatD y = false ∧ o = .er CBR "given" y
abbrev p_taken17 (K : PySem.W.Frag) (CR CBR C : Addr) : Sp := spX K 2 (r_taken17 CR CBR C)
def r_check17 (CR CBR CBP C : Addr) (ds : List Dt) (o : Out) : Prop := r_refR C CR 3 ds o ∨ (∃ d y p, ds = [d, y, p] ∧ vR C d ∧ rcvO CR d = .ok d ∧ okRt C y ∧ isRatD y = false ∧ o = .er CBR "given" y) ∨
  ∃ d y, ds = [d, y, .non] ∧ vR C d ∧ rcvO CR d = .ok d ∧ okRt C y ∧ isRatD y = true ∧ o = .er CBP "part" (.str "form")
abbrev p_check17 (K : PySem.W.Frag) (CR CBR CBP C : Addr) : Sp := spX K 3 (r_check17 CR CBR CBP C)
def r_burst17 (CBB C : Addr) (ds : List Dt) (o : Out) : Prop := ∃ y, ds = [y] ∧ bvR C y ∧ isBu y = false ∧ o = .er CBB "given" y
abbrev p_burst17 (K : PySem.W.Frag) (CBB C : Addr) : Sp := spX K 1 (r_burst17 CBB C)
/-! the readings -/
abbrev t_refT (K : PySem.W.Frag) (CB C : Addr) (E : XK) : TS := (tStop (tDrop (tCall (p_need_tableR K CB C) [] E (tCons (tVar 0) tNil))))
abbrev t_frame_of17 (K : PySem.W.Frag) (CB CW C : Addr) (E : XK) : TS := (tStop (tIfS (tNot (tB (tCall (p_refT K CB C 2) [] E (tCons (tVar 0) (tCons (tVar 1) tNil))))) (tRaiseB CW "given" (fun cls d _ H => E cls d H) (tCons (tVar 1) tNil)) tNext))
abbrev t_steps_of17 (K : PySem.W.Frag) (CB C : Addr) (E : XK) : TS := (tStop (tIfS (tB (tCall (p_refT K CB C 2) [] E (tCons (tVar 0) (tCons (tVar 1) tNil)))) (tRet (tLst tNil)) tNext))
abbrev t_nearest17 (K : PySem.W.Frag) (CB CBB C : Addr) (E : XK) : TS := (tSeq (tDrop (tCall (p_need_tableR K CB C) [] E (tCons (tVar 0) tNil)))
    (tStop (tDrop (tCall (p_need_burstX K CBB C) [] E (tCons (tVar 1) tNil)))))
abbrev t_refR (K : PySem.W.Frag) (C CR : Addr) (E : XK) : TS := (tStop (tDrop (tCall (p_need_receiver K C CR) [] E (tCons (tVar 0) tNil))))
abbrev t_reads17 (K : PySem.W.Frag) (CR CBB C : Addr) (E : XK) : TS := (tSeq (tDrop (tCall (p_need_receiver K C CR) [] E (tCons (tVar 0) tNil)))
    (tStop (tDrop (tCall (p_need_burstX K CBB C) [] E (tCons (tVar 1) tNil)))))
abbrev t_taken17 (K : PySem.W.Frag) (CR CBR C : Addr) (E : XK) : TS := (tSeq (tDrop (tCall (p_need_receiver K C CR) [] E (tCons (tVar 0) tNil)))
    (tStop (tDrop (tCall (p_need_ratio17 K CBR C) [] E (tCons (tVar 1) tNil)))))
abbrev t_check17 (K : PySem.W.Frag) (CR CBR CBP C : Addr) (E : XK) : TS := (tSeq (tDrop (tCall (p_need_receiver K C CR) [] E (tCons (tVar 0) tNil)))
    (tSeq (tDrop (tCall (p_need_ratio17 K CBR C) [] E (tCons (tVar 1) tNil)))
    (tSeq (tIfS (tB (tCall (p_begins_withR K C) [] E0 (tCons (tVar 2) (tCons (tC (.str "safe")) (tCons (tC (.int 2)) tNil))))) tNever (tIfS (tB (tCall (p_begins_withR K C) [] E0 (tCons (tVar 2) (tCons (tC (.str "taken")) (tCons (tC (.int 4)) tNil))))) tNever (tAsg (tC (.str "form")) (gName 3))))
    (tStop (tIfS (tTest (tOp rNoNo (tVar 3) (tC .non))) (tRaiseB CBP "part" (fun cls d _ H => E cls d H) (tCons (tVar 3) tNil)) tNext)))))
abbrev t_margin_of17 (K : PySem.W.Frag) (C CR : Addr) (E : XK) : TS := (tStop (tAsg (tCall (p_refR K C CR 1) [] E (tCons (tVar 0) tNil)) (gName 1)))
abbrev t_burst17 (K : PySem.W.Frag) (CBB C : Addr) (E : XK) : TS := (tStop (tDrop (tCall (p_need_burstX K CBB C) [] E (tCons (tVar 0) tNil))))
abbrev t_need_ratio17 (K : PySem.W.Frag) (CBR C : Addr) (E : XK) : TS := (tSeq (tIfS (tNot (tB (tCB (rIsi K) (tCons (tVar 0) (tCons (tC (.ref C)) tNil))))) (tRaiseB CBR "given" (fun cls d _ H => E cls d H) (tCons (tVar 0) tNil)) tNext)
    (tRet (tVar 0)))
section
variable {K : PySem.W.Frag} {mg : Str → Option Value} {C CB CW CBB CBR CBP CR fI pN gN pD gD : Addr} {S SB SF S1 : Sta} {L : List Addr} {ρ : List (Option Dt)} {P : Po} {ds : List Dt} {d : Dt} {o : Out} {E : XK} {n N : Nat} {te : TE} {w t u : TS}
theorem so_drop0R (h : EvR K S ρ te) : Sg K S SB SF L (tDrop te) ρ P := fun D σ B H b i s ft => h σ H i s _
theorem so_if0R {c : TT} (h : EvRT K S ρ c) : Sg K S SB SF L (tIfS c t u) ρ P := fun D σ B H b i s ft => h σ H i s _
theorem er_callI {f : Str} {x : Dt} {R : Dt → Out → Prop} {C' : Addr} (ha : Ev K S S1 ρ te (Eq d)) (hp : R d (.er C' f x)) (hw : XW K S1 C' f x E) : EvR K S ρ (tCall (spI K R) [] E (tCons te tNil)) := fun σ H i s Q =>
  ha σ H i s _ fun v d' H1 g1 i1 r1 p1 => by
    subst p1
    exact ⟨v, d, .er C' f x, rfl, r1, hp, fun a u H2 sm ea ru => hw a u H2 (S1.st i1 sm) ea ru⟩
theorem er_needT (h : ρ[0]? = some (some d)) (hd : plRt C d) (ht : (tabPart d).isNon = false) (hw : XW K S CB "part" (tabPart d) E) : EvR K S ρ (tCall (p_need_tableR K CB C) [] E (tCons (tVar 0) tNil)) :=
  er_callX (R := r_ntR CB C) (ea_cons (ev_var h) ea_nil) rfl ⟨d, rfl, hd, by rw [ntO, if_neg (by rw [ht]; decide)]⟩ hw
theorem so_refT (hl : ds.length = n) (hp : r_refT CB C n ds o) (hw : ∀ C' f d, o = .er C' f d → XW K S C' f d E) : So K S S [] (t_refT K CB C E) (startD N ds) (PO o) := by
  obtain ⟨d, ds', rfl, _, hd, ht, rfl⟩ := hp
  exact so_stop (so_drop0R (er_needT rfl hd ht (hw _ _ _ rfl)))
theorem so_frame_of17 (hp : r_refT CB C 2 ds o) (hw : ∀ C' f d, o = .er C' f d → XW K S C' f d E) : So K S S [] (t_frame_of17 K CB CW C E) (startD N ds) (PO o) := by
  obtain ⟨d, ds', rfl, hl, hd, ht, rfl⟩ := hp
  match ds', hl with
  | [x], _ => exact so_stop (so_if0R (er_not (er_B (er_callX (R := r_refT CB C 2) (ea_cons (ev_var rfl) (ea_cons (ev_var rfl) ea_nil)) rfl ⟨d, [x], rfl, rfl, hd, ht, rfl⟩ (hw _ _ _ rfl)))))
theorem so_steps_of17 (hp : r_refT CB C 2 ds o) (hw : ∀ C' f d, o = .er C' f d → XW K S C' f d E) : So K S S [] (t_steps_of17 K CB C E) (startD N ds) (PO o) := by
  obtain ⟨d, ds', rfl, hl, hd, ht, rfl⟩ := hp
  match ds', hl with
  | [x], _ => exact so_stop (so_if0R (er_B (er_callX (R := r_refT CB C 2) (ea_cons (ev_var rfl) (ea_cons (ev_var rfl) ea_nil)) rfl ⟨d, [x], rfl, rfl, hd, ht, rfl⟩ (hw _ _ _ rfl))))
theorem er_needB {y : Dt} {i : Nat} (h : ρ[i]? = some (some y)) (hy : bvR C y) (hb : isBu y = false) (hw : XW K S CBB "given" y E) : EvR K S ρ (tCall (p_need_burstX K CBB C) [] E (tCons (tVar i) tNil)) :=
  er_callX (R := r_nbuX CBB C) (ea_cons (ev_var h) ea_nil) rfl ⟨y, hy, rfl, by rw [if_neg (by rw [hb]; decide)]⟩ hw
theorem er_needQ {y : Dt} {i : Nat} (h : ρ[i]? = some (some y)) (hy : okRt C y) (hb : isRatD y = false) (hw : XW K S CBR "given" y E) : EvR K S ρ (tCall (p_need_ratio17 K CBR C) [] E (tCons (tVar i) tNil)) :=
  er_callX (R := r_nrat17 CBR C) (ea_cons (ev_var h) ea_nil) rfl ⟨y, rfl, hy, by rw [if_neg (by rw [hb]; decide)]⟩ hw
theorem so_nearest17 (hp : r_nearest17 CB CBB C ds o) (hw : ∀ C' f d, o = .er C' f d → XW K S C' f d E) : So K S S [] (t_nearest17 K CB CBB C E) (startD N ds) (PO o) := by
  rcases hp with ⟨d, ds', rfl, _, hd, ht, rfl⟩ | ⟨d, y, rfl, hd, ht, hy, hb, rfl⟩
  · exact so_dropR (er_needT rfl hd ht (hw _ _ _ rfl))
  · refine so_drop (ev_callX (R := r_ntR CB C) (d := d) (ea_cons (ev_var rfl) ea_nil) rfl ⟨d, rfl, hd, by rw [ntO, if_pos ht]⟩) (so_stop (so_drop0R (er_needB rfl hy hb (hw _ _ _ rfl))))
theorem er_needR {x : Dt} (h : ρ[0]? = some (some d)) (hd : vR C d) (ht : rcvO CR d = .er CR "place" x) (hw : XW K S CR "place" x E) : EvR K S ρ (tCall (p_need_receiver K C CR) [] E (tCons (tVar 0) tNil)) :=
  er_callI (R := r_nr C CR) (ev_var h) ⟨hd, ht.symm⟩ hw
theorem ev_needR (h : ρ[0]? = some (some d)) (hd : vR C d) (ht : rcvO CR d = .ok d) : Ev K S S ρ (tCall (p_need_receiver K C CR) [] E (tCons (tVar 0) tNil)) (Eq d) := ev_callI (R := r_nr C CR) (ev_var h) ⟨hd, ht.symm⟩
theorem so_refR (hp : r_refR C CR n ds o) (hw : ∀ C' f d, o = .er C' f d → XW K S C' f d E) : So K S S [] (t_refR K C CR E) (startD N ds) (PO o) := by
  obtain ⟨d, ds', x, rfl, _, hd, ht, rfl⟩ := hp
  exact so_stop (so_drop0R (er_needR rfl hd ht (hw _ _ _ rfl)))
theorem so_reads17 (hp : r_reads17 CR CBB C ds o) (hw : ∀ C' f d, o = .er C' f d → XW K S C' f d E) : So K S S [] (t_reads17 K CR CBB C E) (startD N ds) (PO o) := by
  rcases hp with ⟨d, ds', x, rfl, _, hd, ht, rfl⟩ | ⟨d, y, rfl, hd, ht, hy, hb, rfl⟩
  · exact so_dropR (er_needR rfl hd ht (hw _ _ _ rfl))
  · exact so_drop (ev_needR rfl hd ht) (so_stop (so_drop0R (er_needB rfl hy hb (hw _ _ _ rfl))))
theorem so_taken17 (hp : r_taken17 CR CBR C ds o) (hw : ∀ C' f d, o = .er C' f d → XW K S C' f d E) : So K S S [] (t_taken17 K CR CBR C E) (startD N ds) (PO o) := by
  rcases hp with ⟨d, ds', x, rfl, _, hd, ht, rfl⟩ | ⟨d, y, rfl, hd, ht, hy, hb, rfl⟩
  · exact so_dropR (er_needR rfl hd ht (hw _ _ _ rfl))
  · exact so_drop (ev_needR rfl hd ht) (so_stop (so_drop0R (er_needQ rfl hy hb (hw _ _ _ rfl))))
theorem so_check17 (hp : r_check17 CR CBR CBP C ds o) (hw : ∀ C' f d, o = .er C' f d → XW K S C' f d E) : So K S S [] (t_check17 K CR CBR CBP C E) (startD 4 ds) (PO o) := by
  rcases hp with ⟨d, ds', x, rfl, _, hd, ht, rfl⟩ | ⟨d, y, p, rfl, hd, ht, hy, hb, rfl⟩ | ⟨d, y, rfl, hd, ht, hy, hb, rfl⟩
  · exact so_dropR (er_needR rfl hd ht (hw _ _ _ rfl))
  · exact so_drop (ev_needR rfl hd ht) (so_dropR (er_needQ rfl hy hb (hw _ _ _ rfl)))
  · refine so_drop (ev_needR rfl hd ht) (so_drop (ev_callX (R := r_nrat17 CBR C) (d := y) (ea_cons (ev_var rfl) ea_nil) rfl ⟨y, rfl, hy, by rw [if_pos hb]⟩) ?_)
    refine so_ifF ((et_B (ev_begins_withR (ev_var rfl) (.inl rfl) (by decide))).to rfl) (so_ifF ((et_B (ev_begins_withR (ev_var rfl) (.inl rfl) (by decide))).to rfl) ?_)
    exact so_setD ev_str (so_stop (so_if0T ((et_test (ev_op (ev_var rfl) ev_non rv_noNo)).to rfl) (so_raise0B (ev_var rfl) (hw _ _ _ rfl))))
theorem so_margin_of17 (hp : r_refR C CR 1 ds o) (hw : ∀ C' f d, o = .er C' f d → XW K S C' f d E) : So K S S [] (t_margin_of17 K C CR E) (startD N ds) (PO o) := by
  obtain ⟨d, ds', x, rfl, hl, hd, ht, rfl⟩ := hp
  match ds', hl with
  | [], _ => exact so_stop (so_set0R (er_callX (R := r_refR C CR 1) (ea_cons (ev_var rfl) ea_nil) rfl ⟨d, [], x, rfl, rfl, hd, ht, rfl⟩ (hw _ _ _ rfl)))
theorem so_burst17 (hp : r_burst17 CBB C ds o) (hw : ∀ C' f d, o = .er C' f d → XW K S C' f d E) : So K S S [] (t_burst17 K CBB C E) (startD N ds) (PO o) := by
  obtain ⟨y, rfl, hy, hb, rfl⟩ := hp
  exact so_stop (so_drop0R (er_needB rfl hy hb (hw _ _ _ rfl)))
theorem so_need_ratio17 (T : RatT K mg C fI pN gN pD gD) (hp : r_nrat17 CBR C ds o) (hw : ∀ C' f d, o = .er C' f d → XW K S C' f d E) : So K S S [] (t_need_ratio17 K CBR C E) (startD 1 ds) (PO o) := by
  obtain ⟨y, rfl, hy, rfl⟩ := hp
  have h1 : Ev K S S [some y] (tCB (rIsi K) (tCons (tVar 0) (tCons (tC (.ref C)) tNil))) (Eq (.bl (isRatD y))) := ev_isRat T (ev_var rfl) hy
  by_cases hb : isRatD y = true
  · rw [if_pos hb] at hw ⊢
    exact so_ifF (et_notT ((et_B h1).to hb)) (so_skip (so_retD (ev_var rfl) (Sta.Le.refl S) rfl))
  · rw [if_neg hb] at hw ⊢
    exact so_ifT (et_notF ((et_B h1).to (by simpa using hb))) (so_raise1B (ev_var rfl) (hw _ _ _ rfl))
end
end Bf
namespace Bf
open PySem PySem.Spec PyProof.Rows L2
/-! ## an object that is no pair of a table and a tolerance -/
def Tab.xs : Tab → List Dt
  | .ha u b => [.str "halves", .int u, .int b]
  | .pa h z1 z2 o1 o2 s b => [.str "pairs", tI h, tI [z1, z2], tI [o1, o2], .int s, .int b]
theorem Tab.d_xs (T : Tab) : T.d = .tup T.xs := by cases T <;> rfl
theorem Tab.len (T : Tab) : T.xs.length = 3 ∨ T.xs.length = 6 := by
  cases T
  · exact .inl rfl
  · exact .inr rfl
section
variable {K : PySem.W.Frag} {a : Addr} {c : CT} {cs : List Int} {n : Nat} {ds : List Dt} {C : Addr}
end
end Bf
namespace Bf
open PySem PySem.Spec PyProof.Rows L2
/-! ## Lists: three new ones, one made anew among loose ones, a list times a number -/
section
variable {K : PySem.W.Frag} {S S1 S2 SB SF : Sta} {L : List Addr} {ρ : List (Option Dt)} {P : Po} {te tb : TE} {ta : TA} {w : TS} {xs : List Dt} {d : Dt}
/-- [..] * n -/
theorem RepA.repN {H : Hp} {vs : List V} {ds : List Dt} (r : RepA K H vs ds) : ∀ n : Nat, RepA K H (List.replicate n vs).flatten (List.replicate n ds).flatten
  | 0 => .nil
  | n + 1 => by
    rw [List.replicate_succ, List.replicate_succ, List.flatten_cons, List.flatten_cons]
    exact r.app (r.repN n)
theorem ev_repL {n : Nat} (ha : EvA K S S1 ρ ta (Eq xs)) (hz : xs.length ≤ 1000) (hb : Ev K S1 S2 ρ tb (Eq (.int n))) (hn : n ≤ 1000) : Ev K S S2 ρ (tOp rRep (tLst ta) tb) (Eq (.lst (List.replicate n xs).flatten)) := fun σ H i s Q q =>
  ha σ H i s _ fun vs ds H1 g1 i1 r1 e => by
    subst e
    have hl := r1.len
    have hsz : (1000000 : Nat) ≤ sizeLine := by decide
    refine ⟨by omega, fun p hp => ?_⟩
    have sm : Same H1 (upd H1 p (.lst vs)) := same_new hp
    refine hb σ _ (S1.st i1 sm) ((s.mono g1).mono sm.gr) _ fun u d' H2 g2 i2 r2 e => ?_
    subst e
    obtain rfl := r2.intI
    have hp2 : H2 p = some (.lst vs) := g2 _ _ upd_same rfl
    have hm : vs.length * n ≤ 1000 * 1000 := Nat.mul_le_mul (by omega) hn
    refine ⟨p, n, vs, rfl, rfl, hp2, by omega, by omega, by rw [Int.toNat_natCast]; omega, fun p' hp' => ?_⟩
    have sm2 := same_new (o := .lst (List.replicate (n : Int).toNat vs).flatten) hp'
    rw [Int.toNat_natCast] at *
    exact q _ _ _ ((g1.trans sm.gr).trans (g2.trans sm2.gr)) (S2.st i2 sm2) (.lst (SqL.of upd_same) (((r1.mono sm.gr).mono (g2.trans sm2.gr)).repN n)) rfl
end
end Bf
namespace Bf
open PySem PySem.Spec PyProof.Rows L2
/-! ## The law's tally goes with the states -/
def lastI (sy : Sy) (nu me : Int) (i : Int) (he : List (Int × Int × Int)) : Option La → Prop
  | none => he = [] ∧ me = -1
  | some l => ∃ hs k0 m0, he = hs ++ [(k0, l.b, m0)] ∧ 0 ≤ me ∧ 0 ≤ k0 ∧ k0 < i ∧ l.th = decide (me = nu) ∧ (sy = .toggle → l.m = m0) ∧ ∀ k, sy = .same k → (l.age = i - 1 - k0 ∧ i - 1 - k0 ≤ k + 1) ∨ (l.age = k + 1 ∧ k + 1 ≤ i - 1 - k0)
structure TI (sy : Sy) (s : St1) (i : Int) (he : List (Int × Int × Int)) (nu me : Int) : Prop where
  n0 : -1 ≤ nu
  n1 : nu < i
  m0 : -1 ≤ me
  m1 : me ≤ nu
  bo : s.bo.isSome = true ↔ 0 ≤ nu
  mr : sy = .toggle → s.mr = nu % 2
  la : lastI sy nu me i he s.la
section
variable {sy : Sy} {s : St1} {i : Nat} {he : List (Int × Int × Int)} {nu me : Int} {mo : Mo}
end
end Bf
namespace Bf
open PySem PySem.Spec PyProof.Rows L2
def Sy.isT : Sy → Bool
  | .toggle => true
  | _ => false
section
variable {K : PySem.W.Frag} {S S' SB : Sta} {ds : List Dt} {d : Dt} {p q r : Addr} {sy : Sy} {mos : List Mo} {mo : Mo} {i : Nat}
end
end Bf
namespace Bf
open PySem PySem.Spec PyProof.Rows L2
/-! ## Rows of up to forty moments -/
section
variable {K : PySem.W.Frag} {a : Addr} {c : CT} {cs : List Int} {n : Nat} {ds : List Dt}
end
end Bf
namespace Bf
open PySem PySem.Spec PyProof.Rows L2
/-! ## [k for k, b in pairs], [k for k in range(n) if ..], k in a list -/
section
variable {K : PySem.W.Frag} {S S1 : Sta} {ρ : List (Option Dt)} {te tl : TE} {ta : TA} {tt : TT} {vs : List Nat} {j j2 : Nat}
end
end Bf
namespace Bf
open PySem PySem.Spec PyProof.Rows L2
/-! ## A def of draws that makes lambdas -/
def spDT (K : PySem.W.Frag) (T : List (Addr × Str)) (nargs : Nat) (pre : List Dt → Prop) (Φ : List Dt → Dt → Prop) (cost : Nat) : Sp := fun vs H Q _ => ∃ a c cs n ds ws, c.tb = T ∧ vs = .ref a :: ws ∧ RepA K H ws ds ∧ ds.length = nargs ∧ pre ds ∧ cs ≠ [] ∧ n + cost ≤ 1000000 ∧ (DW K a c cs n).I H ∧
  ∀ v d H', Gr H H' → (DW K a c cs (n + cost)).I H' → Rep K H' v d → Φ ds d → Q v H'
section
variable {K : PySem.W.Frag} {S : Sta} {ρ : List (Option Dt)} {a : Addr} {c : CT} {cs : List Int} {n : Nat}
theorem ev_callDT {T : List (Addr × Str)} {t : TA} {ds : List Dt} {k cost : Nat} {pre : List Dt → Prop} {Φ : List Dt → Dt → Prop} {E : XK} (hT : c.tb = T) (ha : EvA K S (DW K a c cs n) ρ t (Eq (.raw (.ref a) :: ds))) (hn : ds.length = k) (hp : pre ds) (hc : cs ≠ []) (hb : n + cost ≤ 1000000) :
    Ev K S (DW K a c cs (n + cost)) ρ (tCall (spDT K T k pre Φ cost) [] E t) (Φ ds) := fun σ H i s Q q =>
  ha σ H i s _ fun vs ds' H1 g1 i1 r1 p1 => by
    subst p1
    rw [List.append_nil]
    cases r1 with
    | cons r0 r1 =>
      obtain rfl := r0.rawI
      exact ⟨a, c, cs, n, ds, _, hT, rfl, r1, hn, hp, hc, hb, i1, fun v d H' g i' r p => q v d H' (g1.trans g) i' r p⟩
end
section
variable {K : PySem.W.Frag} {a : Addr} {c : CT} {cs : List Int} {n : Nat} {ds : List Dt} {t : Ten}
end
end Bf
namespace Bf
open PySem PySem.Spec PyProof.Rows L2
/-! ## an object that is no table, and the part that is due -/
def badO (odd : Dt) (p : Str) : Prop := plD odd ∧ tabPart odd = .str p
def badR (_ : List Dt) (d : Dt) : Prop := ∃ odd p, d = .tup [odd, .str p] ∧ badO odd p
abbrev p__law_bad_table (K : PySem.W.Frag) : Sp := spD K 1 (fun ds => ∃ T : Tab, T.ok ∧ ds = [T.d]) badR 2
abbrev t__law_bad_table (K : PySem.W.Frag) : TS := (tSeq (tIfS (tTest (tOp rEq (tCall (p__law_next K) [] E0 (tCons (tVar 0) (tCons (tC (.int 4)) tNil))) (tC (.int 0)))) (tRet (tTup (tCons (tCall (p__law_pick K) [] E0 (tCons (tVar 0) (tCons (tLst (tCons (tC .non) (tCons (tTup tNil) (tCons (tC (.str "halves")) (tCons (tCB (rLstO K) (tCons (tVar 1) tNil)) (tCons (tC (.int 5)) (tCons (tTup (tCons (tC (.str "pairs")) (tCons (tC (.int 1)) (tCons (tC (.int 1)) tNil)))) tNil))))))) tNil))) (tCons (tC (.str "form")) tNil)))) tNext)
    (tSeq (tAsg (tOp rAddI (tCall (p__law_next K) [] E0 (tCons (tVar 0) (tCons (tOp rSubI (tCB (rLen K) (tCons (tVar 1) tNil)) (tC (.int 1))) tNil))) (tC (.int 1))) (gName 2))
    (tSeq (tAsg (tOp (rIx K) (tOp (rIxL K) (tLst (tCons (tLst (tCons (tC (.str "unit")) (tCons (tC (.str "bits")) tNil))) (tCons (tLst (tCons (tC (.str "header")) (tCons (tC (.str "zero")) (tCons (tC (.str "one")) (tCons (tC (.str "stop")) (tCons (tC (.str "bits")) tNil)))))) tNil))) (tCB rInt1 (tCons (tOp rEq (tCB (rLen K) (tCons (tVar 1) tNil)) (tC (.int 6))) tNil))) (tOp rSubI (tVar 2) (tC (.int 1)))) (gName 3))
    (tRet (tTup (tCons (tOp (rCatA K) (tOp (rCatA K) (tSl (rSlA K) (tVar 1) tNoPart (tPart (tVar 2))) (tTup (tCons (tC .non) tNil))) (tSl (rSlA K) (tVar 1) (tPart (tOp rAddI (tVar 2) (tC (.int 1)))) tNoPart)) (tCons (tVar 3) tNil)))))))
def partsN (n : Nat) : List Dt := if n = 6 then [.str "header", .str "zero", .str "one", .str "stop", .str "bits"] else [.str "unit", .str "bits"]
def spoilD (T : Tab) (at0 : Int) : Dt := .tup (cutD T.xs none (some at0) ++ [.non] ++ cutD T.xs (some (at0 + 1)) none)
theorem spoil_ok {T : Tab} (h : T.ok) {at0 : Int} (h1 : 1 ≤ at0) (h2 : at0 < T.xs.length) : ∃ p : Str, atI (partsN T.xs.length) (at0 - 1) = some (.str p) ∧ badO (spoilD T at0) p := by
  have hp : plD T.d := ⟨pl_tab T, plSA_tab h⟩
  have hsub : plD (spoilD T at0) := by
    have hpx := pl_tup (show pl (.tup T.xs) = true by rw [← T.d_xs]; exact hp.1)
    have hsx : ∀ x ∈ T.xs, plS x = true := List.all_eq_true.mp (hp.2 T.xs T.d_xs)
    have hm : ∀ y ∈ (cutD T.xs none (some at0) ++ [.non] ++ cutD T.xs (some (at0 + 1)) none), y ∈ T.xs ∨ y = .non := fun y hy => by
      rcases List.mem_append.mp hy with hy | hy
      · rcases List.mem_append.mp hy with hy | hy
        · exact .inl (cutD_sub hy)
        · exact .inr (List.mem_singleton.mp hy)
      · exact .inl (cutD_sub hy)
    refine ⟨?_, fun xs e => ?_⟩
    · unfold spoilD pl
      refine plA_all.mpr fun y hy => ?_
      rcases hm y hy with z | rfl
      · exact hpx y z
      · rfl
    · unfold spoilD at e
      cases e
      refine List.all_eq_true.mpr fun y hy => ?_
      rcases hm y hy with z | rfl
      · exact hsx y z
      · rfl
  cases T with
  | ha u b =>
    have h2 : at0 < 3 := h2
    have : at0 = 1 ∨ at0 = 2 := by omega
    rcases this with rfl | rfl
    · exact ⟨"unit", atI_nat (j := 0) rfl, hsub, rfl⟩
    · refine ⟨"bits", atI_nat (j := 1) rfl, hsub, ?_⟩
      show (if !isWF (.int u) 1 99999 then Dt.str "unit" else .str "bits") = _
      rw [isWF_int h.1.1 h.1.2]; rfl
  | pa hh z1 z2 o1 o2 s b =>
    obtain ⟨l1, l2, l3, l4, l5, l6, l7, l8, l9, l10⟩ := h
    have h2 : at0 < 6 := h2
    have hA : areD (tI hh) = true := areD_tI l2
    have hL : len024 (tI hh) = true := by
      show decide (((hh.map Dt.int).length : Int) ∈ [(0 : Int), 2, 4]) = true
      rw [List.length_map]
      rcases l1 with e | e | e <;> rw [e] <;> decide
    have hz : isPG (tI [z1, z2]) = true := isPG_two l3 l4
    have ho : isPG (tI [o1, o2]) = true := isPG_two l5 l6
    have hn : PyData.eqv (py (tI [o1, o2])) (py (tI [z1, z2])) = false := by
      rw [eqv2]
      by_cases e : o1 = z1
      · rw [decide_eq_true e, Bool.true_and]
        exact decide_eq_false fun e2 => l7 ⟨e, e2⟩
      · rw [decide_eq_false e, Bool.false_and]
    have hs : isWF (.int s) 1 99999 = true := isWF_int l8.1 l8.2
    have : at0 = 1 ∨ at0 = 2 ∨ at0 = 3 ∨ at0 = 4 ∨ at0 = 5 := by omega
    rcases this with rfl | rfl | rfl | rfl | rfl
    · exact ⟨"header", atI_nat (j := 0) rfl, hsub, rfl⟩
    · refine ⟨"zero", atI_nat (j := 1) rfl, hsub, ?_⟩
      show (if !(areD (tI hh) && len024 (tI hh)) then Dt.str "header" else .str "zero") = _
      rw [hA, hL]; rfl
    · refine ⟨"one", atI_nat (j := 2) rfl, hsub, ?_⟩
      show (if !(areD (tI hh) && len024 (tI hh)) then Dt.str "header" else if !isPG (tI [z1, z2]) then .str "zero" else .str "one") = _
      rw [hA, hL, hz]; rfl
    · refine ⟨"stop", atI_nat (j := 3) rfl, hsub, ?_⟩
      show (if !(areD (tI hh) && len024 (tI hh)) then Dt.str "header" else if !isPG (tI [z1, z2]) then .str "zero" else if !isPG (tI [o1, o2]) || PyData.eqv (py (tI [o1, o2])) (py (tI [z1, z2])) then .str "one" else .str "stop") = _
      rw [hA, hL, hz, ho, hn]; rfl
    · refine ⟨"bits", atI_nat (j := 4) rfl, hsub, ?_⟩
      show (if !(areD (tI hh) && len024 (tI hh)) then Dt.str "header" else if !isPG (tI [z1, z2]) then .str "zero" else if !isPG (tI [o1, o2]) || PyData.eqv (py (tI [o1, o2])) (py (tI [z1, z2])) then .str "one" else if !isWF (.int s) 1 99999 then .str "stop" else .str "bits") = _
      rw [hA, hL, hz, ho, hn, hs]; rfl
theorem bad_form {d : Dt} (h : plD d) (h1 : bwD d "pairs" 6 = false) (h2 : bwD d "halves" 3 = false) : badO d "form" := ⟨h, by rw [tabPart, if_neg (by rw [h1]; decide), if_neg (by rw [h2]; decide)]⟩
section
variable {K : PySem.W.Frag} {a : Addr} {c : CT} {cs : List Int} {n : Nat} {ds : List Dt}
theorem so__law_bad_table (hc : cs ≠ []) (hn : n + 2 ≤ 1000000) (hp : ∃ T : Tab, T.ok ∧ ds = [T.d]) :
    So K (DW K a c cs n) (DW K a c cs (n + 2)) [] (t__law_bad_table K) (startD 4 (.raw (.ref a) :: ds)) { nx := fun _ => badR ds .non, rt := badR ds } := by
  obtain ⟨T, hT, rfl⟩ := hp
  have t1 : ∀ {n : Nat}, n ≤ 10 → n ≤ sizeLine := fun h => Nat.le_trans h (by decide)
  have e1 : ∀ {S : Sta} {y2 y3 : Option Dt}, Ev K S S [some (.raw (.ref a)), some T.d, y2, y3] (tVar 1) (Eq (.tup T.xs)) := fun {S y2 y3} => (ev_var (d := T.d) rfl).to T.d_xs
  refine so_if (S1 := DW K a c cs (n + 1)) (Φb := fun _ => True) (et_testP (ev_opP (Θ := fun d => ∃ k, d = .bl k ∧ True) (ev__law_next (n := n) (ea_cons (ev_var rfl) (ea_cons ev_int ea_nil)) hc (by omega) (by decide) (by decide)) ev_int fun x y ⟨r, e, _⟩ e2 => ?_)) (fun _ => ?_) fun _ => so_skip ?_
  · subst e e2
    exact fun H v u i r1 r2 Q q => rv_eqI H v u i r1 r2 Q fun v' d' H' g i' r e => q v' d' H' g i' r ⟨_, e.symm, trivial⟩
  · refine so_ret1 (ev_tupP (ea_twoP (ev__law_pick (n := n + 1) (xs := [.non, .tup [], .str "halves", .lst T.xs, .int 5, .tup [.str "pairs", .int 1, .int 1]]) (ea_cons (ev_var rfl) (ea_cons (ev_lst (ea_cons ev_non (ea_cons (ev_tup ea_nil (t1 (by decide))) (ea_cons ev_str (ea_cons (ev_cb (ea_cons e1 ea_nil) rc_lstT) (ea_cons ev_int (ea_cons (ev_tup (ea_cons ev_str (ea_cons ev_int (ea_cons ev_int ea_nil))) (t1 (by decide))) ea_nil)))))) (t1 (by show 6 ≤ 10; decide))) ea_nil)) hc (by omega) (by simp) (by show 6 ≤ 100000; decide)) ev_str) fun l ⟨x, y, e, _⟩ => by rw [e]; exact t1 (by show 2 ≤ 10; decide)) (dw_le (by omega)) fun d hd => ?_
    obtain ⟨l, rfl, odd, y, rfl, ho, rfl⟩ := hd
    refine ⟨odd, "form", rfl, ?_⟩
    have hpl : pl (.lst T.xs) = true := by
      have := (pl_tab T)
      rw [T.d_xs] at this
      unfold pl at this ⊢
      exact this
    simp only [List.mem_cons, List.not_mem_nil, or_false] at ho
    rcases ho with rfl | rfl | rfl | rfl | rfl | rfl
    · exact bad_form ⟨rfl, fun xs e => by cases e⟩ rfl rfl
    · exact bad_form ⟨rfl, fun xs e => by cases e; rfl⟩ rfl rfl
    · exact bad_form ⟨rfl, fun xs e => by cases e⟩ rfl rfl
    · exact bad_form ⟨hpl, fun xs e => by cases e⟩ rfl rfl
    · exact bad_form ⟨rfl, fun xs e => by cases e⟩ rfl rfl
    · exact bad_form ⟨rfl, fun xs e => by cases e; rfl⟩ rfl rfl
  · have hl := T.len
    have hlen : ∀ {S : Sta} {y2 y3 : Option Dt}, Ev K S S [some (.raw (.ref a)), some T.d, y2, y3] (tCB (rLen K) (tCons (tVar 1) tNil)) (Eq (.int T.xs.length)) := fun {S y2 y3} => ev_lenT e1
    refine so_set (S1 := DW K a c cs (n + 2)) (Φ := fun d => ∃ r : Int, d = .int r ∧ 1 ≤ r ∧ r < T.xs.length) (ev_opP (ev__law_next (n := n + 1) (m := (T.xs.length : Int) - 1) (ea_cons (ev_var rfl) (ea_cons (ev_op hlen ev_int rv_sub) ea_nil)) hc (by omega) (by omega) (Nat.lt_of_le_of_lt (show _ ≤ 8 by omega) (by decide))) ev_int fun x y ⟨r, e, r0, r1⟩ e2 => by
      subst e e2
      exact fun H v u i q1 q2 Q q => rv_add H v u i q1 q2 Q fun v' d' H' g i' r' e => q v' d' H' g i' r' ⟨r + 1, e.symm, by omega, by omega⟩) fun d hd => ?_
    obtain ⟨r, rfl, r1, r2⟩ := hd
    obtain ⟨p, hp, hb⟩ := spoil_ok hT r1 r2
    refine so_setD (S1 := DW K a c cs (n + 2)) (d := .str p) (ev_ixL (S1 := DW K a c cs (n + 2)) (xs := partsN T.xs.length) ?_ (ev_op (ev_var rfl) ev_int rv_sub) hp) ?_
    · refine ev_op (S1 := DW K a c cs (n + 2)) (x := .lst [.lst [.str "unit", .str "bits"], .lst [.str "header", .str "zero", .str "one", .str "stop", .str "bits"]]) (y := .int (if decide ((T.xs.length : Int) = 6) = true then 1 else 0)) (ev_lst (ea_cons (ev_lst (ea_cons ev_str (ea_cons ev_str ea_nil)) (t1 (by decide))) (ea_cons (ev_lst (ea_cons ev_str (ea_cons ev_str (ea_cons ev_str (ea_cons ev_str (ea_cons ev_str ea_nil))))) (t1 (by decide))) ea_nil)) (t1 (by decide))) (ev_cb (ea_cons (ev_op hlen ev_int rv_eqI) ea_nil) rc_intB) (rv_ixL ?_)
      unfold partsN
      rcases hl with e | e
      · rw [e]; exact atI_nat (j := 0) rfl
      · rw [e]; exact atI_nat (j := 1) rfl
    · refine so_retD (ev_tup (ds := [spoilD T r, .str p]) (ea_cons (ev_op (ev_op (ev_slT e1 eo_none (eo_some (ev_var rfl))) (ev_tup (ea_cons ev_non ea_nil) (t1 (by decide))) (rv_catT ?_)) (ev_slT e1 (eo_some (ev_op (ev_var rfl) ev_int rv_add)) eo_none) (rv_catT ?_)) (ea_cons (ev_var rfl) ea_nil)) (t1 (by show 2 ≤ 10; decide))) (dw_le (by omega)) ⟨_, _, rfl, hb⟩
      · have := cutD_le T.xs none (some r)
        exact Nat.le_trans (show (cutD T.xs none (some r)).length + 1 ≤ 20 by omega) (by decide)
      · have h1 := cutD_le T.xs none (some r)
        have h2 := cutD_le T.xs (some (r + 1)) none
        rw [List.length_append, List.length_singleton]
        exact Nat.le_trans (show (cutD T.xs none (some r)).length + 1 + (cutD T.xs (some (r + 1)) none).length ≤ 20 by omega) (by decide)
end
end Bf
namespace Bf
open PySem PySem.Spec PyProof.Rows L2
/-! ## all that take a table, all that take a receiver: what is said of each -/
/-- a call that refuses what is no table -/
def RefT (K : PySem.W.Frag) (CB C : Addr) (t : XK → TE) : Prop := ∀ (S : Sta) (ρ : List (Option Dt)) (d : Dt) (E : XK), ρ[0]? = some (some d) → plRt C d → (tabPart d).isNon = false → XW K S CB "part" (tabPart d) E → EvR K S ρ (t E)
def RefR (K : PySem.W.Frag) (C CR : Addr) (t : XK → TE) : Prop := ∀ (S : Sta) (ρ : List (Option Dt)) (d x : Dt) (E : XK), ρ[0]? = some (some d) → vR C d → rcvO CR d = .er CR "place" x → XW K S CR "place" x E → EvR K S ρ (t E)
section
variable {K : PySem.W.Frag} {CB CBB CBR CBP CR C : Addr}
theorem refT_1 : RefT K CB C (fun E => tCall (p_refT K CB C 1) [] E (tCons (tVar 0) tNil)) := fun S ρ d E h hd ht hw => er_callX (R := r_refT CB C 1) (ea_cons (ev_var h) ea_nil) rfl ⟨d, [], rfl, rfl, hd, ht, rfl⟩ hw
theorem refT_2 : RefT K CB C (fun E => tCall (p_refT K CB C 2) [] E (tCons (tVar 0) (tCons (tC .non) tNil))) := fun S ρ d E h hd ht hw => er_callX (R := r_refT CB C 2) (ea_cons (ev_var h) (ea_cons ev_non ea_nil)) rfl ⟨d, [.non], rfl, rfl, hd, ht, rfl⟩ hw
theorem refT_n : RefT K CB C (fun E => tCall (p_nearest17 K CB CBB C) [] E (tCons (tVar 0) (tCons (tC .non) tNil))) := fun S ρ d E h hd ht hw => er_callX (R := r_nearest17 CB CBB C) (ea_cons (ev_var h) (ea_cons ev_non ea_nil)) rfl (.inl ⟨d, [.non], rfl, rfl, hd, ht, rfl⟩) hw
theorem refR_1 : RefR K C CR (fun E => tCall (p_refR K C CR 1) [] E (tCons (tVar 0) tNil)) := fun S ρ d x E h hd ht hw => er_callX (R := r_refR C CR 1) (ea_cons (ev_var h) ea_nil) rfl ⟨d, [], x, rfl, rfl, hd, ht, rfl⟩ hw
theorem refR_2 : RefR K C CR (fun E => tCall (p_refR K C CR 2) [] E (tCons (tVar 0) (tCons (tC .non) tNil))) := fun S ρ d x E h hd ht hw => er_callX (R := r_refR C CR 2) (ea_cons (ev_var h) (ea_cons ev_non ea_nil)) rfl ⟨d, [.non], x, rfl, rfl, hd, ht, rfl⟩ hw
theorem refR_r : RefR K C CR (fun E => tCall (p_reads17 K CR CBB C) [] E (tCons (tVar 0) (tCons (tC .non) tNil))) := fun S ρ d x E h hd ht hw => er_callX (R := r_reads17 CR CBB C) (ea_cons (ev_var h) (ea_cons ev_non ea_nil)) rfl (.inl ⟨d, [.non], x, rfl, rfl, hd, ht, rfl⟩) hw
theorem refR_t : RefR K C CR (fun E => tCall (p_taken17 K CR CBR C) [] E (tCons (tVar 0) (tCons (tC .non) tNil))) := fun S ρ d x E h hd ht hw => er_callX (R := r_taken17 CR CBR C) (ea_cons (ev_var h) (ea_cons ev_non ea_nil)) rfl (.inl ⟨d, [.non], x, rfl, rfl, hd, ht, rfl⟩) hw
theorem refR_c : RefR K C CR (fun E => tCall (p_check17 K CR CBR CBP C) [] E (tCons (tVar 0) (tCons (tC .non) (tCons (tC .non) tNil)))) := fun S ρ d x E h hd ht hw => er_callX (R := r_check17 CR CBR CBP C) (ea_cons (ev_var h) (ea_cons ev_non (ea_cons ev_non ea_nil))) rfl (.inl ⟨d, [.non, .non], x, rfl, rfl, hd, ht, rfl⟩) hw
end
/-- a def that makes lambdas, and says True -/
def spTr (K : PySem.W.Frag) (T : List (Addr × Str)) (n : Nat) (pre : List Dt → Prop) : Sp := fun vs H Q _ => ∃ ds, RepA K H vs ds ∧ ds.length = n ∧ pre ds ∧ LamX.Tabs T H ∧ ∀ H', LamX.ExtN H H' → LamX.Tabs T H' → Q (.bl true) H'
theorem ev_callTr {K : PySem.W.Frag} {S S1 : Sta} {ρ : List (Option Dt)} {T : List (Addr × Str)} {n : Nat} {pre : List Dt → Prop} {t : TA} {ds : List Dt} {E : XK} (hT : TabS S1 T) (ha : EvA K S S1 ρ t (Eq ds)) (hn : ds.length = n) (hp : pre ds) : Ev K S S1 ρ (tCall (spTr K T n pre) [] E t) (Eq (.bl true)) := fun σ H i s Q q =>
  ha σ H i s _ fun vs ds' H1 g1 i1 r1 e => by
    subst e
    rw [List.append_nil]
    exact ⟨ds, r1, hn, hp, hT.has _ i1, fun H2 e2 t2 => q _ _ H2 (g1.trans (extN_gr e2)) (hT.on _ _ i1 e2 t2) (.bl true) rfl⟩
theorem gd_tw17 {m : Nat} {s : Str} {d : Dt} (hs : gd m (.str s) = true) (h : gd m d = true) : gd (m + 1) (.tup [.str s, d]) = true := by
  show (gd m (.str s) && (gd m d && true) && decide (2 ≤ 10)) = true
  rw [hs, h]
  rfl
theorem gd_part17 (d : Dt) : gd 3 (tabPart d) = true := by
  have hP : ∀ xs, gd 3 (wrongP xs) = true := fun xs => by
    unfold wrongP
    split
    · repeat' split
      all_goals decide +kernel
    · rfl
  have hH : ∀ xs, gd 3 (wrongH xs) = true := fun xs => by
    unfold wrongH
    split
    · repeat' split
      all_goals decide +kernel
    · rfl
  unfold tabPart
  split
  · cases d with
    | tup xs => exact hP xs
    | _ => rfl
  · split
    · cases d with
      | tup xs => exact hH xs
      | _ => rfl
    · decide +kernel
def preOT (C : Addr) (ds : List Dt) : Prop := ∃ odd p, ds = [odd, .str p] ∧ plRt C odd ∧ tabPart odd = .str p
def dueOk (x : Dt) : Prop := x = .non ∨ ∃ i : Nat, x = .int i ∧ i < 1000
def preOR (C CR : Addr) (ds : List Dt) : Prop := ∃ odd x, ds = [odd, x] ∧ vR C odd ∧ rcvO CR odd = .er CR "place" x ∧ dueOk x
abbrev p__law_of_table (K : PySem.W.Frag) (_ C : Addr) (T : List (Addr × Str)) : Sp := spTr K T 2 (preOT C)
abbrev p__law_of_receiver (K : PySem.W.Frag) (CR C : Addr) (T : List (Addr × Str)) : Sp := spTr K T 2 (preOR C CR)
section
variable {K : PySem.W.Frag} {CB CR C : Addr} {t : Ten} {L G Pt : List Addr} {T : List (Addr × Str)} {ls : List LamI} {H : Hp} {vs : List V} {ds : List Dt} {Q : VK} {N : List Str}
theorem lamO_er {S0 : Unit} {tl : XK → TE} {σ : L2.St} {ρ : List (Option Dt)} {Cc : Addr} {f : Str} {d : Dt} (s : Slots K H σ ρ) (h : ∀ (S : Sta) (E : XK), XW K S Cc f d E → EvR K S ρ (tl E)) : LamO K H (fun E H' Q' => tl E σ H' Q') (.er Cc f d) := fun E H2 Q2 s2 q2 =>
  h (staSame H2) E (fun a v H3 i ha rv => q2 a v H3 i ha rv) σ H2 (Same.refl H2) (s.mono s2.gr) Q2
theorem rg_er {i : Nat} {Cc : Addr} {d : Dt} (hL : Cc ∈ L) (hi : i < 10) (hT : IsTen K t Cc i) (hG : fldN i = "given" → Cc ∈ G) (hP : fldN i = "part" → Cc ∈ Pt) : RG K t L G Pt (.er Cc (fldN i) d) (.tup [.str (nameN i), d]) := ⟨Cc, i, d, hL, hi, hT, hG, hP, rfl, rfl⟩
theorem tl_table (hN : N.length = 4) (r : RepA K H vs ds) (hp : preOT C ds) (hls : ∀ l ∈ ls, RefT K CB C l.t) (hT : LamX.Tabs T H) (hL : CB ∈ L) (hten : IsTen K t CB 1) (hP : CB ∈ Pt) (q : ∀ H', LamX.ExtN H H' → LamX.Tabs T H' → Q (.bl true) H') :
    tLams K T ls (RG K t L G Pt) 2 1 "table" { nx := fun _ H' => Q .non H', rt := Q } (L2.start N vs) H := by
  obtain ⟨odd, p, rfl, hd, htp⟩ := hp
  have s : Slots K H (L2.start N vs) (startD N.length [odd, .str p]) := slots_start r
  rw [hN] at s
  have hg : gd 3 (.str p) = true := by rw [← htp]; exact gd_part17 odd
  refine ⟨hT, _, .str p, s, rfl, by show 2 < 4; decide, gd_cmp (gd_tw17 (by decide +kernel) hg) (by decide), fun l hl a => ⟨.er CB "part" (.str p), fun H1 e1 => ?_, rg_er (i := 1) hL (by decide) hten (fun z => absurd z (by decide)) fun _ => hP⟩, q⟩
  have s1 : Slots K H1 ((L2.start N vs).set 2 (some (V.ref a))) ((startD 4 [odd, .str p]).set 2 (some (.raw (.ref a)))) := (s.mono (extN_gr e1)).set (.raw _) 2
  exact lamO_er (S0 := ()) s1 fun S E hw => hls l hl S _ odd E rfl hd (by rw [htp]; rfl) (by rw [htp]; exact hw)
theorem tl_receiver (hN : N.length = 4) (r : RepA K H vs ds) (hp : preOR C CR ds) (hls : ∀ l ∈ ls, RefR K C CR l.t) (hT : LamX.Tabs T H) (hL : CR ∈ L) (hten : IsTen K t CR 4) (q : ∀ H', LamX.ExtN H H' → LamX.Tabs T H' → Q (.bl true) H') :
    tLams K T ls (RG K t L G Pt) 2 1 "receiver" { nx := fun _ H' => Q .non H', rt := Q } (L2.start N vs) H := by
  obtain ⟨odd, x, rfl, hd, hro, hx⟩ := hp
  have s : Slots K H (L2.start N vs) (startD N.length [odd, x]) := slots_start r
  rw [hN] at s
  have hg : gd 3 x = true := by
    rcases hx with rfl | ⟨i, rfl, hi⟩
    · rfl
    · exact decide_eq_true (show (i : Int).natAbs < 10 ^ 12 by omega)
  refine ⟨hT, _, x, s, rfl, by show 2 < 4; decide, gd_cmp (gd_tw17 (by decide +kernel) hg) (by decide), fun l hl a => ⟨.er CR "place" x, fun H1 e1 => ?_, rg_er (i := 4) hL (by decide) hten (fun z => absurd z (by decide)) fun z => absurd z (by decide)⟩, q⟩
  have s1 : Slots K H1 ((L2.start N vs).set 2 (some (V.ref a))) ((startD 4 [odd, x]).set 2 (some (.raw (.ref a)))) := (s.mono (extN_gr e1)).set (.raw _) 2
  exact lamO_er (S0 := ()) s1 fun S E hw => hls l hl S _ odd x E rfl hd hro hw
end
end Bf
namespace Bf
open PySem PySem.Spec PyProof.Rows L2
/-! ## stands that are led to at a tolerance, and from where: a search with what waits -/
abbrev Og := Option (Stn × Stp × Stp)
abbrev Cb := List (Stn × Og)
/-- a need is no greater than a tolerance, if there is one -/
def okTol (t : Option Fq) (q : Fq) : Bool := match t with
  | none => true
  | some t => !lessP t q
abbrev Mv3 := Fq × Stn × Stp × Stp
def sucO (s : Stn) (m : Mv3) : Stn × Og := (m.2.1, some (s, m.2.2.1, m.2.2.2))
def sucL (rc : Rcv) (t : Option Fq) (s : Stn) : Cb := ((mv3 rc s).filter fun m => okTol t m.1).map (sucO s)
/-- a way from a start to a stand: its pairs of steps -/
inductive WayS (rc : Rcv) (t : Option Fq) : Stn → List (Stp × Stp) → Prop
  | st {s : Stn} : s ∈ stsN rc → WayS rc t s []
  | mv {s : Stn} {w : List (Stp × Stp)} {m : Mv3} : WayS rc t s w → m ∈ mv3 rc s → okTol t m.1 = true → WayS rc t m.2.1 (w ++ [(m.2.2.1, m.2.2.2)])
def Led (rc : Rcv) (t : Option Fq) (s : Stn) : Prop := ∃ w, WayS rc t s w
def orgOk (rc : Rcv) (t : Option Fq) (d : Cb) (x : Stn × Og) : Prop := (x.2 = none ∧ x.1 ∈ stsN rc) ∨ ∃ p m, p ∈ d.map (·.1) ∧ m ∈ mv3 rc p ∧ okTol t m.1 = true ∧ x = sucO p m
/-- one turn of the search, and what it comes to by turns: what it finds is determined -/
def cbS (rc : Rcv) (t : Option Fq) (q : Cb × Cb) : Cb × Cb := match q.2.getLast? with
  | none => q
  | some x => if x.1 ∈ q.1.map (·.1) then (q.1, q.2.dropLast) else (q.1 ++ [x], q.2.dropLast ++ sucL rc t x.1)
def cbN (rc : Rcv) (t : Option Fq) : Nat → Cb × Cb
  | 0 => ([], (stsN rc).map fun s => (s, none))
  | n + 1 => cbS rc t (cbN rc t n)
structure CbI (rc : Rcv) (t : Option Fq) (d wt : Cb) : Prop where
  rn : ∃ n, cbN rc t n = (d, wt)
  nd : (d.map (·.1)).Nodup
  st : ∀ s ∈ stsN rc, s ∈ d.map (·.1) ∨ s ∈ wt.map (·.1)
  sc : ∀ s ∈ d.map (·.1), ∀ x ∈ sucL rc t s, x.1 ∈ d.map (·.1) ∨ x.1 ∈ wt.map (·.1)
  og : ∀ i x, d[i]? = some x → orgOk rc t (d.take i) x
  ow : ∀ x ∈ wt, orgOk rc t d x
  wl : ∀ i x, wt[i]? = some x → i + 4 * mesS (tabAt rc x.1.ix) x.1.a ≤ 128
section
variable {rc : Rcv} {t : Option Fq} {d wt : Cb} {s : Stn} {x : Stn × Og}
theorem orgOk.mono {d' : Cb} (h : orgOk rc t d x) (hs : ∀ s ∈ d.map (·.1), s ∈ d'.map (·.1)) : orgOk rc t d' x := h.imp id fun ⟨p, m, h1, h2⟩ => ⟨p, m, hs p h1, h2⟩
theorem sucL_mem {y : Stn × Og} : y ∈ sucL rc t s ↔ ∃ m, m ∈ mv3 rc s ∧ okTol t m.1 = true ∧ sucO s m = y := by
  unfold sucL
  rw [List.mem_map]
  constructor
  · rintro ⟨m, h, e⟩
    have := List.mem_filter.mp h
    exact ⟨m, this.1, this.2, e⟩
  · rintro ⟨m, h1, h2, e⟩
    exact ⟨m, List.mem_filter.mpr ⟨h1, h2⟩, e⟩
theorem WayS.G (hr : rcvOk rc) {w : List (Stp × Stp)} (h : WayS rc t s w) : stnG rc s := by
  induction h with
  | st h => exact stnG_sts hr h
  | @mv s w m _ hm _ ih => exact stnG_mv hr ih (m := (m.1, m.2.1)) (List.mem_map.mpr ⟨m, hm, rfl⟩)
theorem WayS.K {sl : Sls} (hW : WOk rc sl) {w : List (Stp × Stp)} (h : WayS rc t s w) : stnK rc sl s := by
  induction h with
  | st h => exact sts_K hW h
  | mv _ hm _ ih => exact (mv3_K hW ih hm).2
theorem CbI.led (h : CbI rc t d wt) : ∀ (n i : Nat) (x : Stn × Og), i < n → d[i]? = some x → Led rc t x.1
  | 0, _, _, hn, _ => absurd hn (Nat.not_lt_zero _)
  | n + 1, i, x, hn, e => by
    rcases h.og i x e with ⟨_, h1⟩ | ⟨p, m, h1, h2, h3, rfl⟩
    · exact ⟨[], .st h1⟩
    · obtain ⟨y, hy, rfl⟩ := List.mem_map.mp h1
      obtain ⟨j, hj, ej⟩ := List.getElem_of_mem hy
      have hji : j < i := by rw [List.length_take] at hj; omega
      have ej' : d[j]? = some y := by
        rw [List.getElem_take] at ej
        rw [← ej]
        exact List.getElem?_eq_getElem _
      obtain ⟨w, hw⟩ := CbI.led h n j y (by omega) ej'
      exact ⟨_, .mv hw h2 h3⟩
theorem CbI.ledK (h : CbI rc t d wt) (hs : s ∈ d.map (·.1)) : Led rc t s := by
  obtain ⟨y, hy, rfl⟩ := List.mem_map.mp hs
  obtain ⟨j, hj, ej⟩ := List.getElem_of_mem hy
  exact h.led (j + 1) j y (Nat.lt_succ_self _) (by rw [← ej]; exact List.getElem?_eq_getElem _)
theorem CbI.few (hr : rcvOk rc) (h4 : rc.length ≤ 4) (h : CbI rc t d wt) : d.length ≤ 89888 := by
  have := stands_short hr h4 h.nd fun s hs => let ⟨_, hw⟩ := h.ledK hs; hw.G hr
  rwa [List.length_map] at this
theorem CbI.short (h : CbI rc t d wt) : wt.length ≤ 129 := by
  rcases Nat.lt_or_ge 129 wt.length with hl | hl
  · have := h.wl 129 (wt[129]) (List.getElem?_eq_getElem hl)
    omega
  · exact hl
theorem CbI.skip (h : CbI rc t d (wt ++ [x])) (hm : x.1 ∈ d.map (·.1)) : CbI rc t d wt where
  rn := by
    obtain ⟨n, e⟩ := h.rn
    refine ⟨n + 1, ?_⟩
    show cbS rc t (cbN rc t n) = _
    rw [e]
    unfold cbS
    simp only [List.getLast?_append, List.getLast?_singleton, Option.some_or, List.dropLast_concat]
    rw [if_pos hm]
  nd := h.nd
  st s hs := by
    rcases h.st s hs with z | z
    · exact .inl z
    · rw [List.map_append] at z
      rcases List.mem_append.mp z with z | z
      · exact .inr z
      · rw [List.mem_singleton.mp z]; exact .inl hm
  sc s hs y hy := by
    rcases h.sc s hs y hy with z | z
    · exact .inl z
    · rw [List.map_append] at z
      rcases List.mem_append.mp z with z | z
      · exact .inr z
      · rw [List.mem_singleton.mp z]; exact .inl hm
  og := h.og
  ow y hy := h.ow y (List.mem_append_left _ hy)
  wl i y e := h.wl i y (by rw [List.getElem?_append_left (List.getElem?_eq_some_iff.mp e).1]; exact e)
theorem cbN_stay {n : Nat} (e : cbN rc t n = (d, [])) : ∀ k, cbN rc t (n + k) = (d, [])
  | 0 => e
  | k + 1 => by
    show cbS rc t (cbN rc t (n + k)) = _
    rw [cbN_stay e k]
    rfl
/-- what the search finds is determined -/
theorem CbI.uniq {d' : Cb} (h : CbI rc t d []) (h' : CbI rc t d' []) : d = d' := by
  obtain ⟨n, e⟩ := h.rn
  obtain ⟨m, e'⟩ := h'.rn
  have a := cbN_stay e m
  have b := cbN_stay e' n
  rw [Nat.add_comm, b] at a
  exact (Prod.mk.inj a).1.symm
/-- the way by which a stand was first reached -/
inductive OgW (d : Cb) : Stn → List (Stp × Stp) → Prop
  | st {s : Stn} : (s, none) ∈ d → OgW d s []
  | mv {s p : Stn} {x : Stp × Stp} {w : List (Stp × Stp)} : (s, some (p, x)) ∈ d → OgW d p w → OgW d s (w ++ [x])
theorem og_uniq (hn : (d.map (·.1)).Nodup) {o o' : Og} (h : (s, o) ∈ d) (h' : (s, o') ∈ d) : o = o' := by
  induction d with
  | nil => cases h
  | cons y d ih =>
    obtain ⟨h1, h2⟩ := List.nodup_cons.mp hn
    rcases List.mem_cons.mp h with e | e <;> rcases List.mem_cons.mp h' with e' | e'
    · rw [← e] at e'; exact ((Prod.mk.inj e').2).symm
    · exact absurd (List.mem_map.mpr ⟨_, e', by rw [← e]⟩) h1
    · exact absurd (List.mem_map.mpr ⟨_, e, by rw [← e']⟩) h1
    · exact ih h2 e e'
theorem OgW.uniq (hn : (d.map (·.1)).Nodup) {w w' : List (Stp × Stp)} (h : OgW d s w) (h' : OgW d s w') : w = w' := by
  induction h generalizing w' with
  | st h => cases h' with
    | st _ => rfl
    | mv h2 _ => cases og_uniq hn h h2
  | mv h _ ih => cases h' with
    | st h2 => cases og_uniq hn h h2
    | mv h2 h3 =>
      cases og_uniq hn h h2
      rw [ih h3]
theorem CbI.done (h : CbI rc t d []) : s ∈ d.map (·.1) ↔ Led rc t s := by
  constructor
  · exact h.ledK
  · rintro ⟨w, hw⟩
    induction hw with
    | st hs => exact (h.st _ hs).resolve_right fun z => nomatch z
    | @mv s w m _ hm ht ih => exact (h.sc _ ih (sucO s m) (sucL_mem.mpr ⟨m, hm, ht, rfl⟩)).resolve_right fun z => nomatch z
end
end Bf
namespace Bf
open PySem PySem.Spec PyProof.Rows L2
/-! ## stands_led_to -/
def cbK (d : Cb) : List Dt := (d.map (·.1)).map Stn.d
section
variable {K : PySem.W.Frag} {mg : Str → Option Value} {Hb Fb F H : Hp} {L : List Addr} {p C CR fI : Addr} {σ : L2.St} {ρ : List (Option Dt)} {P : Pm} {te tb : TE} {tw : TS} {ds xs l1 l2 : List Dt} {S S1 S2 : Sta} {w : World} {Φ : Dt → Prop} {j : Nat} {d : Dt}
end
end Bf
namespace Bf
open PySem PySem.Spec PyProof.Rows L2
/-! ## way_to, word_along, paper_of_way -/
/-- the bits that are settled by steps -/
def bitsA (l : List Stp) : List Dt := (l.filterMap (·.1)).map Dt.int
def paperW (CR : Addr) (rc : Rcv) (s : Stn) (way : List (Stp × Stp)) : Dt := .tup [.str "taken", .tup [.int s.ix, .tup (bitsA (way.map (·.1)))], .tup [.int s.lw, .tup (bitsA (way.map (·.2)))], .tup (way.map fun x => ratP CR (nearA x.1.2.1 x.2.2.1 (tolAt rc s.lw)))]
section
variable {K : PySem.W.Frag} {mg : Str → Option Value} {Hb Fb F H : Hp} {L : List Addr} {p C CR fI : Addr} {σ : L2.St} {ρ : List (Option Dt)} {P : Pm} {te tb tl : TE} {tw : TS} {ds xs l1 l2 : List Dt} {S S1 S2 : Sta} {w : World} {Φ : Dt → Prop} {j j2 : Nat} {d : Dt} {vs : List Nat}
/-! ### way_to -/
/-! ### word_along, paper_of_way -/
end
end Bf
namespace Bf
open PySem PySem.Spec PySem.W PySem.Calls PyProof.Rows PySem.HandSPX Builtin Builtin.ObjectAttr
/-! ## Own errors over any base, made by place or by keyword -/
/-- a built-in base of own errors -/
structure BaseOf (B newId initId : String) (bmB : List Value) (rf : List Value → Bool) : Prop where
  F : ExcBaseFacts B newId initId bmB
  X : KxsFacts B initId
  con : ∀ (Y : String) (l : List Value), rf l = true → l.contains (.type Y) = bmB.contains (.type Y)
  ne : ∀ l : List Value, rf l = true → l.isEmpty = false
  pass : ∀ (me : Value) (l : List Value), rf l = true → refuseLoop me "__setattr__" l = pure ()
  ref : ∀ (c : Addr) (l : List Value), rf (.ref c :: l) = rf l
  obj : bmB.contains (.type "object") = true
structure ErrTxt (B newId initId : String) (rf : List Value → Bool) (prog : Program) (K : Frag) (f : Str) (C fI : Addr) : Prop where
  cls : ∃ nm q N bs bm sn sub ab col dd k0 k1 k2 k3 k5, K.lookup C = some (excClassObj nm q C N bs bm true sn sub ab col dd k0 k1 k2 k3 k5 newId) ∧ rf bm = true
  sa : findIn K (.ref C) "__setattr__" = some (some (.builtin "object.__setattr__"))
  noN : findIn K (.ref C) f = some none
  iC : findIn K (.ref C) "__init__" = some (some (.ref fI))
  tC : typeIn K (.ref fI) = some (.type "function")
  sup : ks_superIn K C C "__init__" = some (some (.builtin initId))
  sub : subIn K (.ref C) (.type B) = some true
  self : mroIn K C (.ref C) = some true
  st : nsIn K cStatics "thirdparty.any" = some none
  fn : ∃ (oc ccl cl : Value) (od cdd cld : Option Addr) (doc pm ct : Value) (an : Option Addr) (osl ccs csl : Array (Option Value)) (qual t : Str) (p1 p2 : Pos) (q : Nat → Pos) (cc cda : Addr) (vs : Array Value) (file : Str) (tf : Tok),
    K.lookup fI = some ⟨oc, od, .func (fnX "__init__" qual (xA f p1 p2) (xB f t q) (xS f) [("__class__", cc)] .none .none doc pm an (.ref cda) ct), osl⟩ ∧ codeIn K (.ref cda) qual = true ∧ K.lookup cc = some ⟨cl, cld, .cell (some (.ref C)), csl⟩ ∧
    K.lookup cda = some ⟨ccl, cdd, .fields vs, ccs⟩ ∧ vs[2]? = some (.str file tf) ∧ ((prog.main.file : Str) == file) = true ∧ xCall t q ∧
    ∀ (s : Shared) (a b : Value), (BindsTo s (fnX "__init__" qual (xA f p1 p2) (xB f t q) (xS f) [("__class__", cc)] .none .none doc pm an (.ref cda) ct) ⟨[a, b], []⟩ [(("self" : Str), a), (f, b)] ∧ BindsTo s (fnX "__init__" qual (xA f p1 p2) (xB f t q) (xS f) [("__class__", cc)] .none .none doc pm an (.ref cda) ct) ⟨[a], [(f, b)]⟩ [(("self" : Str), a), (f, b)])
section
variable {B newId initId : String} {bmB : List Value} {rf : List Value → Bool} {prog : Program} {w : World} {A : Around} {R : Result → Shared → Prop} {h0 : Heap} {gn : Array GenState} {dw : Drawn} {tk0 : Nat} {o0 : OsState}
end
section
variable {B newId initId : String} {bmB : List Value} {rf : List Value → Bool} {prog : Program} {w : World} {A : Around} {E : Value → Shared → Prop} {R : Result → Shared → Prop} {s : Shared} {K : Frag} {mg mb : Str → Option Value} {C fI : Addr} {f : Str}
end
section
variable {M : Model} {A : Around} {E : Value → Shared → Prop} {h : Heap} {gn : Array GenState} {dw : Drawn} {tk0 : Nat} {o0 : OsState} {nm qn : Str} {C N : Addr} {bs bm bmB : List Value} {hd : Bool} {sn : List Str} {sb : List Value} {ab : Bool} {col : Option Bool} {dd : Option Addr} {k0 k1 k2 k3 k5 : Option Value} {B newId initId : String} {ps : List Value} {kws : List (Str × Value)}
end
section
variable {prog : Program} {w : World} {A : Around} {E : Value → Shared → Prop} {R : Result → Shared → Prop} {h : Heap} {gn : Array GenState} {dw : Drawn} {tk0 : Nat} {o0 : OsState} {nm qn : Str} {C N fI : Addr} {bs bm bmB : List Value} {hd : Bool} {sn : List Str} {sb : List Value} {ab : Bool} {col : Option Bool} {dd : Option Addr} {k0 k1 k2 k3 k5 : Option Value} {B newId initId : String} {ps : List Value} {kws : List (Str × Value)}
end
section
variable {B newId initId : String} {bmB : List Value} {rf : List Value → Bool} {prog : Program} {w : World} {A : Around} {R : Result → Shared → Prop} {s : Shared} {K : Frag} {mg mb : Str → Option Value} {C fI : Addr} {f : Str}
end
end Bf
namespace Bf
open PySem PySem.Spec PyProof.Rows L2
/-! ## Errors as values: made by place or by keyword -/
section
variable {P : Program} {w : World} {fs ex : List Addr} {H : Hp} {h h' : Heap} {a b : Addr} {o u : HO}
end
/-- what is known of the class at C, an own error over any base -/
structure ErrCls (B newId initId : String) (bmB : List Value) (rf : List Value → Bool) (prog : Program) (K : PySem.W.Frag) (mg : Str → Option Value) (x f : Str) (C fI : Addr) : Prop where
  O : BaseOf B newId initId bmB rf
  T : ErrTxt B newId initId rf prog K f C fI
  gC : mg x = some (.ref C)
  kC : PySem.W.keepIn K (.ref C) = true
  ms : mg "super" = none
  top : (prog.main.scope.names.lookup ("super" : Str)).isSome = false
  fn : f ≠ "self" ∧ f ≠ "super" ∧ f ≠ "__class__" ∧ f ≠ "__debug__"
section
variable {X : Cx} {B newId initId : String} {bmB : List Value} {rf : List Value → Bool} {C fI : Addr} {x f : Str}
end
/-! ### isinstance of an error, any class -/
inductive RelC : V → Value → Prop
  | own (C : Addr) : RelC (.ref C) (.ref C)
  | ty (n : String) : RelC (.ty n) (.type n)
section
variable {K : PySem.W.Frag} {S S1 : Sta} {ρ : List (Option Dt)} {te : TE} {ta : TA} {d : Dt} {C : Addr} {f : Str} {b : Bool} {y : V} {y' : Value}
end
/-! ### new lists that are not sys.modules -/
section
variable {K : PySem.W.Frag} {S S1 S2 : Sta} {ρ : List (Option Dt)} {te tb : TE} {ta : TA} {xs ys : List Dt}
end
/-! ### repr of a list that holds empty dicts -/
section
variable {K : PySem.W.Frag} {S : Sta} {d : Dt}
end
end Bf
namespace Bf
open PySem PySem.Spec PyProof.Rows L2
/-! ## taken -/
theorem WayS.steps {rc : Rcv} {sl : Sls} {t : Option Fq} {s : Stn} {way : List (Stp × Stp)} (hW : WOk rc sl) (h : WayS rc t s way) : ∀ x ∈ way, okS x.1.2.1 ∧ okS x.2.2.1 := by
  induction h with
  | st _ => exact fun _ z => nomatch z
  | @mv s w m h1 hm _ ih =>
    intro x hx
    rcases List.mem_append.mp hx with hx | hx
    · exact ih x hx
    · rw [List.mem_singleton.mp hx]
      have hs := h1.K hW
      obtain ⟨x1, hx1, hm⟩ := List.mem_flatMap.mp hm
      obtain ⟨y, hy, rfl⟩ := List.mem_map.mp hm
      have hg := (stnK_G hW hs).2
      exact ⟨(step_R (at_ok hW.ok hs.i).1 hg.2.1 hx1).1, (step_R (at_ok hW.ok hs.l).1 hg.2.2 (List.mem_filter.mp hy).1).1⟩
/-- what a paper says -/
def PaperI (CR : Addr) (rc : Rcv) (t : Fq) (e : Dt) : Prop := (∃ ks : List Stn, ks.Nodup ∧ (∀ s, s ∈ ks ↔ Led rc (some t) s) ∧ (∀ s ∈ ks, finN rc s = false) ∧ e = .tup [.str "safe", .tup (ks.map Stn.d)]) ∨ ∃ s way, WayS rc (some t) s way ∧ finN rc s = true ∧ e = paperW CR rc s way
/-- what a paper says, determined: the first final stand, and the way by which it was first reached -/
def PaperD (CR : Addr) (rc : Rcv) (t : Fq) (e : Dt) : Prop := ∃ d : Cb, CbI rc (some t) d [] ∧ (((∀ s ∈ d.map (·.1), finN rc s = false) ∧ e = .tup [.str "safe", .tup (cbK d)]) ∨ ∃ i s way, (d.map (·.1))[i]? = some s ∧ (∀ s' ∈ (d.map (·.1)).take i, finN rc s' = false) ∧ finN rc s = true ∧ WayS rc (some t) s way ∧ OgW d s way ∧ e = paperW CR rc s way)
theorem PaperD.I {CR : Addr} {rc : Rcv} {t : Fq} {e : Dt} (h : PaperD CR rc t e) : PaperI CR rc t e := by
  obtain ⟨d, hI, ⟨hf, rfl⟩ | ⟨i, s, way, _, _, hf, hw, _, rfl⟩⟩ := h
  · exact .inl ⟨d.map (·.1), hI.nd, fun s => hI.done, hf, rfl⟩
  · exact .inr ⟨s, way, hw, hf, rfl⟩
theorem PaperD.uniq {CR : Addr} {rc : Rcv} {t : Fq} {e e' : Dt} (h : PaperD CR rc t e) (h' : PaperD CR rc t e') : e = e' := by
  obtain ⟨d, hI, h⟩ := h
  obtain ⟨d', hI', h'⟩ := h'
  obtain rfl := hI.uniq hI'
  rcases h with ⟨hf, rfl⟩ | ⟨i, s, way, hi, hb, hf, hw, ho, rfl⟩ <;> rcases h' with ⟨hf', rfl⟩ | ⟨i', s', way', hi', hb', hf', hw', ho', rfl⟩
  · rfl
  · have := hf _ (List.mem_of_getElem? hi')
    rw [hf'] at this; cases this
  · have := hf' _ (List.mem_of_getElem? hi)
    rw [hf] at this; cases this
  · have hl := (List.getElem?_eq_some_iff.mp hi).1
    have hl' := (List.getElem?_eq_some_iff.mp hi').1
    have tk : ∀ {i j : Nat} {s : Stn}, (d.map (·.1))[i]? = some s → i < j → s ∈ (d.map (·.1)).take j := fun {i j s} e hij => by
      refine List.mem_of_getElem? (i := i) ?_
      rw [List.getElem?_take, if_pos hij, e]
    have : i = i' := by
      rcases Nat.lt_trichotomy i i' with z | z | z
      · have := hb' _ (tk hi z)
        rw [hf] at this; cases this
      · exact z
      · have := hb _ (tk hi' z)
        rw [hf'] at this; cases this
    subst this
    rw [hi] at hi'
    cases hi'
    rw [ho.uniq hI.nd ho']
section
variable {K : PySem.W.Frag} {mg : Str → Option Value} {Hb Fb F H : Hp} {L : List Addr} {p C CR CB CBR fI : Addr} {w : World} {ds : List Dt} {d : Dt}
end
end Bf
namespace Bf
open PySem PySem.Spec PyProof.Rows L2 PySem.SeqAt
/-! ## a list != [], whatever it holds -/
end Bf
namespace Bf
open PySem PySem.Spec PyProof.Rows L2
/-! ## defs by Sm that hand back a new list; start_stands so -/
section
variable {K : PySem.W.Frag} {mg : Str → Option Value} {Hb Fb F F' H H' A B : Hp} {L L' : List Addr} {p C CR CB fI x : Addr} {o : HO} {v : V} {d q : Dt} {σ : L2.St} {ρ : List (Option Dt)} {P : Pm} {te tl : TE} {t w' : TS} {j j1 j2 i n : Nat} {xs ys ds : List Dt} {S : Sta} {w : World} {Φ : Dt → Prop} {E : XK}
end
end Bf
namespace Bf
open PySem PySem.Spec PyProof.Rows L2
/-! ## the law's own: steps, starts, what leads on, is_final -/
theorem WayS.R {rc : Rcv} {t : Option Fq} {s : Stn} {way : List (Stp × Stp)} (hr : rcvOk rc) (h : WayS rc t s way) : stnR rc s ∧ (s.le = false → s.ix = s.lw ∧ s.a = s.b) := by
  induction h with
  | @st s h =>
    have hi := inR_sts h
    obtain ⟨i, hi', h⟩ := List.mem_flatMap.mp h
    obtain ⟨j, hj, rfl⟩ := List.mem_map.mp h
    refine ⟨⟨hi, beg_R (at_ok hr hi.1).1, beg_R (at_ok hr hi.2).1⟩, fun e => ?_⟩
    have e' : decide (j < i) = false := e
    have hj := List.mem_range.mp hj
    have : i = j := by have := of_decide_eq_false e'; omega
    subst this
    exact ⟨rfl, rfl⟩
  | @mv s w m _ hm _ ih =>
    obtain ⟨hR, hE⟩ := ih
    refine ⟨(mv_ok hr hR (m := (m.1, m.2.1)) (List.mem_map.mpr ⟨m, hm, rfl⟩)).2, fun e => ?_⟩
    obtain ⟨x, hx, hm⟩ := List.mem_flatMap.mp hm
    obtain ⟨y, hy, rfl⟩ := List.mem_map.mp hm
    have e1 : s.le = false ∧ y.1 = x.1 := by
      have e' : (s.le || !decide (y.1 = x.1)) = false := e
      simpa using e'
    obtain ⟨h1, h2⟩ := hE e1.1
    have hy := (List.mem_filter.mp hy).1
    rw [← h1, ← h2] at hy
    have := (steps_two hx hy).1 e1.2.symm
    subst this
    exact ⟨h1, rfl⟩
section
variable {K : PySem.W.Frag} {mg : Str → Option Value} {Hb Fb F F' H H' A B : Hp} {L L' : List Addr} {p C CR CB fI x : Addr} {o : HO} {v : V} {d q : Dt} {σ : L2.St} {ρ : List (Option Dt)} {P : Pm} {te tl : TE} {t w' tw : TS} {j j1 j2 i n : Nat} {xs ys ds : List Dt} {S : Sta} {w : World} {Φ : Dt → Prop} {E : XK}
end
end Bf
namespace Bf
open PySem PySem.Spec PyProof.Rows L2
/-! ## _law_led -/
section
variable {K : PySem.W.Frag} {mg : Str → Option Value} {Hb Fb F F' H H' A B : Hp} {L L' : List Addr} {p C CR CB fI x : Addr} {o : HO} {v : V} {d q : Dt} {σ : L2.St} {ρ : List (Option Dt)} {P : Pm} {te tl : TE} {t w' tw : TS} {j j1 j2 i n : Nat} {xs ys ds : List Dt} {S : Sta} {w : World} {Φ : Dt → Prop} {E : XK}
end
end Bf
namespace Bf
open PySem PySem.Spec PyProof.Rows L2
/-! ## _law_is_final, _law_stands -/
section
variable {K : PySem.W.Frag} {mg : Str → Option Value} {Hb Fb F F' H H' A B : Hp} {L L' : List Addr} {p C CR CB fI x : Addr} {o : HO} {v : V} {d q : Dt} {σ : L2.St} {ρ : List (Option Dt)} {P : Pm} {te tl : TE} {t w' tw : TS} {j j1 j2 i n : Nat} {xs ys ds : List Dt} {S : Sta} {w : World} {Φ : Dt → Prop} {E : XK}
end
end Bf
namespace Bf
open PySem PySem.Spec PyProof.Rows L2
/-! ## [k for k in a dict with tuples as keys if ..], the dict locked -/
section
variable {X : Cx} {pins : List (Addr × Obj)} {σ : L2.St} {H : Hp} {s : Shared}
end
section
variable {P : Program} {w : World} {K : PySem.W.Frag} {tg : Expr} {d : Addr} {o : Obj} {es : Array DictEntry} {ep : Nat}
end
/-! data that hold no list and no dict stay, whatever happens to a dict -/
mutual
def noD : Dt → Bool
  | .non => true
  | .bl _ => true
  | .int _ => true
  | .str _ => true
  | .raw _ => true
  | .tup xs => noDA xs
  | .ins _ _ xs => noDA xs
  | _ => false
def noDA : List Dt → Bool
  | [] => true
  | x :: xs => noD x && noDA xs
end
mutual
theorem noD_fix : ∀ {d : Dt}, fixd d = true → noD d = true
  | .non, _ => rfl
  | .bl _, _ => rfl
  | .int _, _ => rfl
  | .str _, _ => rfl
  | .raw _, _ => rfl
  | .tup xs, h => by simp only [noD]; exact noDA_fix (by simpa only [fixd] using h)
  | .ins _ _ xs, h => by simp only [noD]; exact noDA_fix (by simpa only [fixd] using h)
  | .lst _, h => by simp [fixd] at h
  | .dic .., h => by simp [fixd] at h
  | .lat .., h => by simp [fixd] at h
  | .err .., h => by simp [fixd] at h
  | .dct .., h => by simp [fixd] at h
  | .dti .., h => by simp [fixd] at h
  | .dat .., h => by simp [fixd] at h
  | .cel .., h => by simp [fixd] at h
theorem noDA_fix : ∀ {xs : List Dt}, fixdA xs = true → noDA xs = true
  | [], _ => rfl
  | x :: xs, h => by
    simp only [fixdA, Bool.and_eq_true] at h
    simp only [noDA, noD_fix h.1, noDA_fix h.2, Bool.and_self]
end
section
variable {K : PySem.W.Frag} {A B : Hp} {q : Addr}
/-- at q stands a dict with tuples as keys, perhaps locked -/
def DatAt (A : Hp) (q : Addr) : Prop := (∃ f, A q = some (.ext f)) ∨ ∃ o f, A q = some (.frz o (.ext f))
theorem DatAt.ne (h : DatAt A q) {a : Addr} {o : HO} (e : A a = some o) (n1 : ∀ f, o ≠ .ext f) (n2 : ∀ ob f, o ≠ .frz ob (.ext f)) : a ≠ q := fun z => by
  rw [z] at e
  rcases h with ⟨f, h⟩ | ⟨ob, f, h⟩
  · rw [e] at h; exact n1 _ (Option.some.inj h)
  · rw [e] at h; exact n2 _ _ (Option.some.inj h)
mutual
theorem Rep.aside (hq : DatAt A q) (h : ∀ a o, a ≠ q → A a = some o → B a = some o) : ∀ {v : V} {d : Dt}, noD d = true → Rep K A v d → Rep K B v d
  | _, _, _, .non => .non
  | _, _, _, .bl b => .bl b
  | _, _, _, .int i => .int i
  | _, _, _, .str x => .str x
  | _, _, _, .raw v => .raw v
  | _, _, f, .tup q' r => .tup (by
      rcases q' with (q' | ⟨o, q'⟩) | q'
      · exact .inl (.inl (h _ _ (hq.ne q' (fun _ z => nomatch z) fun _ _ z => nomatch z) q'))
      · exact .inl (.inr ⟨o, h _ _ (hq.ne q' (fun _ z => nomatch z) fun _ _ z => by cases z) q'⟩)
      · exact .inr q') (r.aside hq h (by simpa only [noD] using f))
  | _, _, f, .ins q' r => .ins (h _ _ (hq.ne q' (fun _ z => nomatch z) fun _ _ z => nomatch z) q') (r.aside hq h (by simpa only [noD] using f))
  | _, _, f, .lst _ _ => by simp [noD] at f
  | _, _, f, .dat _ _ _ _ => by simp [noD] at f
  | _, _, f, .lat _ _ => by simp [noD] at f
  | _, _, f, .dic _ => by simp [noD] at f
  | _, _, f, .err _ _ _ => by simp [noD] at f
  | _, _, f, .dct _ _ _ => by simp [noD] at f
  | _, _, f, .dti _ _ _ => by simp [noD] at f
  | _, _, f, .cel _ _ => by simp [noD] at f
theorem RepA.aside (hq : DatAt A q) (h : ∀ a o, a ≠ q → A a = some o → B a = some o) : ∀ {vs : List V} {ds : List Dt}, noDA ds = true → RepA K A vs ds → RepA K B vs ds
  | _, _, _, .nil => .nil
  | _, _, f, .cons q' r => by
    simp only [noDA, Bool.and_eq_true] at f
    exact .cons (q'.aside hq h f.1) (r.aside hq h f.2)
end
end
end Bf
namespace Bf
open PySem PySem.Spec PyProof.Rows L2
/-! ## len(a dict with tuples as keys), dict(pairs) so -/
section
variable {X : Cx}
end
section
variable {K : PySem.W.Frag} {S S1 S2 SB SF : Sta} {L : List Addr} {ρ : List (Option Dt)} {td ty te ta tb : TE} {tt : TT} {ks xs ys : List Dt} {q d d0 : Dt} {p : Addr} {w : World} {tw : TS} {P : Po} {i j b : Nat} {vs : List Nat}
mutual
theorem noD_nol : ∀ {d : Dt}, noD d = true → nol d = true
  | .non, _ => rfl
  | .bl _, _ => rfl
  | .int _, _ => rfl
  | .str _, _ => rfl
  | .raw _, h => by first | rfl | simp [nol]
  | .tup xs, h => by simp only [nol]; exact noDA_nol (by simpa only [noD] using h)
  | .ins _ _ xs, h => by simp only [nol]; exact noDA_nol (by simpa only [noD] using h)
  | .lst _, h => by simp [noD] at h
  | .dic .., h => by simp [noD] at h
  | .lat .., h => by simp [noD] at h
  | .err .., h => by simp [noD] at h
  | .dct .., h => by simp [noD] at h
  | .dti .., h => by simp [noD] at h
  | .dat .., h => by simp [noD] at h
  | .cel .., h => by simp [noD] at h
theorem noDA_nol : ∀ {xs : List Dt}, noDA xs = true → nolA xs = true
  | [], _ => rfl
  | x :: xs, h => by
    simp only [noDA, Bool.and_eq_true] at h
    simp only [nolA, noD_nol h.1, noDA_nol h.2, Bool.and_self]
end
end
end Bf
namespace Bf
open PySem PySem.Spec PyProof.Rows L2
/-! ## wrong further arguments -/
def preFR (C : Addr) (ds : List Dt) : Prop := ∃ rc, rcOk rc ∧ ds = [rcD C rc]
abbrev p__law_further_right (K : PySem.W.Frag) (TL : List (Addr × Str)) (C : Addr) : Sp := spDT K TL 1 (preFR C) (fun _ d => d = .bl true) 1
abbrev lamS17 (K : PySem.W.Frag) (TL : List (Addr × Str)) (t : Ten) (L G Pt : List Addr) (te : XK → TE) : TE := LamX.tLam TL (TTs K (RG K t L G Pt)) te
abbrev t__law_further_right (K : PySem.W.Frag) (TL : List (Addr × Str)) (t : Ten) (L G Pt : List Addr) (C : Addr) : TS := (tSeq (tAsg (tTup (tCons (tCall (p__law_pick K) [] E0 (tCons (tVar 0) (tCons (tLst (tCons (tC .non) (tCons (tC (.int 0)) (tCons (tC (.int 1)) (tCons (tC (.str "1/2")) (tCons (tC (.bl true)) (tCons (tTup (tCons (tC (.int 1)) (tCons (tC (.int 2)) tNil))) tNil))))))) tNil))) (tCons (tOp (rIx K) (tOp (rIx K) (tVar 1) (tC (.int 0))) (tC (.int 1))) tNil))) (gTup K 2 (gCons (gName 2) (gCons (gName 3) gNil))))
    (tSeq (tAsg (tLst (tCons (lamS17 K TL t L G Pt (fun E => (tCall (p_taken17 K t.receiver t.ratio C) [] E (tCons (tVar 1) (tCons (tVar 2) tNil))))) tNil)) (gName 4))
    (tSeq (tDrop (tBM K "list" rAppend (tVar 4) (tCons (lamS17 K TL t L G Pt (fun E => (tCall (p_check17 K t.receiver t.ratio t.paper C) [] E (tCons (tVar 1) (tCons (tVar 2) (tCons (tC .non) tNil)))))) tNil)))
    (tSeq (tDrop (tBM K "list" rAppend (tVar 4) (tCons (lamS17 K TL t L G Pt (fun E => (tCall (p_taken17 K t.receiver t.ratio C) [] E (tCons (tVar 1) (tCons (tVar 2) tNil))))) tNil)))
    (tSeq (tDrop (tBM K "list" rAppend (tVar 4) (tCons (lamS17 K TL t L G Pt (fun E => (tCall (p_check17 K t.receiver t.ratio t.paper C) [] E (tCons (tVar 1) (tCons (tVar 3) (tCons (tC .non) tNil)))))) tNil)))
    (tSeq (tDrop (tBM K "list" rAppend (tVar 4) (tCons (lamS17 K TL t L G Pt (fun E => (tCall (p_reads17 K t.receiver t.burst C) [] E (tCons (tVar 1) (tCons (tVar 2) tNil))))) tNil)))
    (tSeq (tDrop (tBM K "list" rAppend (tVar 4) (tCons (lamS17 K TL t L G Pt (fun E => (tCall (p_nearest17 K t.table t.burst C) [] E (tCons (tOp (rIx K) (tOp (rIx K) (tVar 1) (tC (.int 0))) (tC (.int 0))) (tCons (tVar 2) tNil))))) tNil)))
    (tSeq (tDrop (tBM K "list" rAppend (tVar 4) (tCons (lamS17 K TL t L G Pt (fun E => (tCall (p_burst17 K t.burst C) [] E (tCons (tVar 2) tNil)))) tNil)))
    (tRet (tOp (rEqD K) (tVar 4) (tOp (rCatS K) (tOp (rCatS K) (tOp rRep (tLst (tCons (tTup (tCons (tC (.str "ratio")) (tCons (tVar 2) tNil))) tNil)) (tC (.int 3))) (tLst (tCons (tTup (tCons (tC (.str "paper")) (tCons (tC (.str "form")) tNil))) tNil))) (tOp rRep (tLst (tCons (tTup (tCons (tC (.str "burst")) (tCons (tVar 2) tNil))) tNil)) (tC (.int 3))))))))))))))
def nones17 : List Dt := [.non, .int 0, .int 1, .str "1/2", .bl true, .tup [.int 1, .int 2]]
/-- the classes that may be told -/
structure TenOk (K : PySem.W.Frag) (t : Ten) (L G Pt : List Addr) : Prop where
  r : IsTen K t t.ratio 0
  rl : t.ratio ∈ L
  rg : t.ratio ∈ G
  b : IsTen K t t.burst 3
  bl : t.burst ∈ L
  bg : t.burst ∈ G
  p : IsTen K t t.paper 6
  pl : t.paper ∈ L
  pp : t.paper ∈ Pt
section
variable {K : PySem.W.Frag} {a : Addr} {c : CT} {cs : List Int} {n : Nat} {ds : List Dt} {t : Ten} {L G Pt : List Addr} {C : Addr}
theorem so__law_further_right (O : TenOk K t L G Pt) (hc : cs ≠ []) (hn : n + 1 ≤ 1000000) (hp : preFR C ds) :
    So K (DW K a c cs n) (DW K a c cs (n + 1)) [] (t__law_further_right K c.tb t L G Pt C) (startD 5 (.raw (.ref a) :: ds)) { nx := fun _ => False, rt := Eq (.bl true) } := by
  obtain ⟨rc, hrc, rfl⟩ := hp
  have t1 : ∀ {n : Nat}, n ≤ 10 → n ≤ sizeLine := fun h => Nat.le_trans h (by decide)
  have hv : vR C (rcD C rc) := vR_rc hrc.2.2
  have hro : rcvO t.receiver (rcD C rc) = .ok (rcD C rc) := rcvO_ok hrc
  have hnol : nol (rcD C rc) = true := noD_nol (noD_fix (fix_rcD C rc))
  obtain ⟨h1, h4, hall⟩ := hrc
  match rc, h1, hv, hro, hnol, hall with
  | (T0, na, nb) :: rc', _, hv, hro, hnol, hall =>
  have hT0 : T0.ok := (hall _ List.mem_cons_self).1
  generalize hR : rcD C ((T0, na, nb) :: rc') = R at hv hro hnol ⊢
  have e1 : ∀ {S : Sta} {ρ : List (Option Dt)}, ρ[1]? = some (some R) → Ev K S S ρ (tOp (rIx K) (tVar 1) (tC (.int 0))) (Eq (.tup [T0.d, rat C na nb])) := fun {S ρ} h => ev_ixT (xs := prD C (T0, na, nb) :: rc'.map (prD C)) ((ev_var h).to hR.symm) ev_int (atI_nat (j := 0) rfl)
  refine so_unpP (is := [2, 3]) (n := 2) (S1 := DW K a c cs (n + 1)) (Φ := fun d => ∃ l, d = .tup l ∧ ∃ x y, l = [x, y] ∧ x ∈ nones17 ∧ y = rat C na nb) (ev_tupP (ea_twoP (ev__law_pick (n := n) (xs := nones17) (ea_c (ev_var rfl) (ea_c (ev_lst (ea_c ev_non (ea_c ev_int (ea_c ev_int (ea_c ev_str (ea_c ev_bl (ea_c (ev_tup (ea_cons ev_int (ea_cons ev_int ea_nil)) (t1 (by decide))) ea_nil)))))) (t1 (by show 6 ≤ 10; decide))) ea_nil)) hc (by omega) (by simp [nones17]) (by show 6 ≤ 100000; decide))
      ((ev_ixT (e1 rfl) ev_int (atI_nat (j := 1) rfl)).weak fun d e => e.symm)) fun l ⟨x, y, e, _⟩ => by rw [e]; exact t1 (by show 2 ≤ 10; decide)) rfl (fun d ⟨l, e, x, y, e2, _⟩ => ⟨l, e, by rw [e2]; rfl, by rw [e2]; rfl⟩) fun xs hx => ?_
  obtain ⟨l, e, nn, sh, rfl, hnone, rfl⟩ := hx
  cases e
  have hn' : okN nn = true ∧ isRatD nn = false ∧ isBu nn = false ∧ nol nn = true ∧ gd 2 nn = true := by
    have ha : nones17.all (fun d => okN d && !isRatD d && !isBu d && nol d && gd 2 d) = true := by decide +kernel
    have := List.all_eq_true.mp ha nn hnone
    simp only [Bool.and_eq_true, Bool.not_eq_true'] at this
    exact ⟨this.1.1.1.1, this.1.1.1.2, this.1.1.2, this.1.2, this.2⟩
  obtain ⟨n1, n2, n3, n4, n5⟩ := hn'
  have hok : okRt C nn := .inl n1
  have hbv : bvR C nn := ⟨hok, fun xs e => by
    subst e
    simp only [nones17, List.mem_cons, List.not_mem_nil, or_false] at hnone
    rcases hnone with e | e | e | e | e | e <;> first | cases e | skip
    exact ⟨by show 2 ≤ 100000; decide, fun x hx => by
      simp only [List.mem_cons, List.not_mem_nil, or_false] at hx
      rcases hx with rfl | rfl <;> exact .inl rfl⟩⟩
  refine so_re (ρ' := [some (.raw (.ref a)), some R, some nn, some (rat C na nb), none]) rfl ?_
  let D := DW K a c cs (n + 1)
  let A1 : Dt := .tup [.str "ratio", nn]
  let A2 : Dt := .tup [.str "paper", .str "form"]
  let A3 : Dt := .tup [.str "burst", nn]
  have rA1 : RG K t L G Pt (.er t.ratio "given" nn) A1 := rg_er (i := 0) O.rl (by decide) O.r (fun _ => O.rg) fun z => absurd z (by decide)
  have rA2 : RG K t L G Pt (.er t.paper "part" (.str "form")) A2 := rg_er (i := 6) O.pl (by decide) O.p (fun z => absurd z (by decide)) fun _ => O.pp
  have rA3 : RG K t L G Pt (.er t.burst "given" nn) A3 := rg_er (i := 3) O.bl (by decide) O.b (fun _ => O.bg) fun z => absurd z (by decide)
  have m1 : ∀ {ρ : List (Option Dt)}, ρ[1]? = some (some R) → ρ[2]? = some (some nn) → Ev K D D ρ (lamS17 K c.tb t L G Pt (fun E => tCall (p_taken17 K t.receiver t.ratio C) [] E (tCons (tVar 1) (tCons (tVar 2) tNil)))) (Eq A1) := fun {ρ} h1 h2 =>
    ev_lamX (ds := [R, nn]) (o := .er t.ratio "given" nn) dw_tab (fun S' => ea_cons (ev_var h1) (ea_cons (ev_var h2) ea_nil)) rfl (.inr ⟨R, nn, rfl, hv, hro, hok, n2, rfl⟩) rA1
  have m2 : ∀ {ρ : List (Option Dt)}, ρ[1]? = some (some R) → ρ[2]? = some (some nn) → Ev K D D ρ (lamS17 K c.tb t L G Pt (fun E => tCall (p_check17 K t.receiver t.ratio t.paper C) [] E (tCons (tVar 1) (tCons (tVar 2) (tCons (tC .non) tNil))))) (Eq A1) := fun {ρ} h1 h2 =>
    ev_lamX (ds := [R, nn, .non]) (o := .er t.ratio "given" nn) dw_tab (fun S' => ea_cons (ev_var h1) (ea_cons (ev_var h2) (ea_cons ev_non ea_nil))) rfl (.inr (.inl ⟨R, nn, .non, rfl, hv, hro, hok, n2, rfl⟩)) rA1
  have m3 : ∀ {ρ : List (Option Dt)}, ρ[1]? = some (some R) → ρ[3]? = some (some (rat C na nb)) → Ev K D D ρ (lamS17 K c.tb t L G Pt (fun E => tCall (p_check17 K t.receiver t.ratio t.paper C) [] E (tCons (tVar 1) (tCons (tVar 3) (tCons (tC .non) tNil))))) (Eq A2) := fun {ρ} h1 h2 =>
    ev_lamX (ds := [R, rat C na nb, .non]) (o := .er t.paper "part" (.str "form")) dw_tab (fun S' => ea_cons (ev_var h1) (ea_cons (ev_var h2) (ea_cons ev_non ea_nil))) rfl (.inr (.inr ⟨R, rat C na nb, rfl, hv, hro, .inr ⟨_, _, rfl⟩, rfl, rfl⟩)) rA2
  have m4 : ∀ {ρ : List (Option Dt)}, ρ[1]? = some (some R) → ρ[2]? = some (some nn) → Ev K D D ρ (lamS17 K c.tb t L G Pt (fun E => tCall (p_reads17 K t.receiver t.burst C) [] E (tCons (tVar 1) (tCons (tVar 2) tNil)))) (Eq A3) := fun {ρ} h1 h2 =>
    ev_lamX (ds := [R, nn]) (o := .er t.burst "given" nn) dw_tab (fun S' => ea_cons (ev_var h1) (ea_cons (ev_var h2) ea_nil)) rfl (.inr ⟨R, nn, rfl, hv, hro, hbv, n3, rfl⟩) rA3
  have m5 : ∀ {ρ : List (Option Dt)}, ρ[1]? = some (some R) → ρ[2]? = some (some nn) → Ev K D D ρ (lamS17 K c.tb t L G Pt (fun E => tCall (p_nearest17 K t.table t.burst C) [] E (tCons (tOp (rIx K) (tOp (rIx K) (tVar 1) (tC (.int 0))) (tC (.int 0))) (tCons (tVar 2) tNil)))) (Eq A3) := fun {ρ} h1 h2 =>
    ev_lamX (ds := [T0.d, nn]) (o := .er t.burst "given" nn) dw_tab (fun S' => ea_cons (ev_ixT (e1 h1) ev_int (atI_nat (j := 0) rfl)) (ea_cons (ev_var h2) ea_nil)) rfl (.inr ⟨T0.d, nn, rfl, plRt_tab hT0, by rw [wrong_ok hT0]; rfl, hbv, n3, rfl⟩) rA3
  have m6 : ∀ {ρ : List (Option Dt)}, ρ[2]? = some (some nn) → Ev K D D ρ (lamS17 K c.tb t L G Pt (fun E => tCall (p_burst17 K t.burst C) [] E (tCons (tVar 2) tNil))) (Eq A3) := fun {ρ} h2 =>
    ev_lamX (ds := [nn]) (o := .er t.burst "given" nn) dw_tab (fun S' => ea_cons (ev_var h2) ea_nil) rfl ⟨nn, rfl, hbv, n3, rfl⟩ rA3
  have nA1 : nol A1 = true := by show (nol (.str "ratio") && (nol nn && true)) = true; rw [n4]; rfl
  have nA2 : nol A2 = true := rfl
  have nA3 : nol A3 = true := by show (nol (.str "burst") && (nol nn && true)) = true; rw [n4]; rfl
  refine so_newB (S1 := D) (SF := D) (xs := [A1]) (en_lst (ea_cons (m1 rfl rfl) ea_nil) (t1 (by show 1 ≤ 10; decide))) fun p' _ => ?_
  have hoff : ∀ xs : List Dt, offL p' 4 0 [some (.raw (.ref a)), some R, some nn, some (rat C na nb), some (.lat p' xs)] := fun xs => by
    simp only [offL]
    exact ⟨fun _ d e => by cases e; rfl, fun _ d e => by cases e; exact offOk_nol hnol, fun _ d e => by cases e; exact offOk_nol n4, fun _ d e => by cases e; rfl, fun e => absurd rfl e, trivial⟩
  have hlo : LooseP D D p' := fun iB g hp e k => dw_loose iB g hp e k
  have hx : ∀ xs : List Dt, (∀ x ∈ xs, x = A1 ∨ x = A2 ∨ x = A3) → nolA xs = true := fun xs h => nolA_all.mpr fun x hx => by
    rcases h x hx with rfl | rfl | rfl
    · exact nA1
    · exact nA2
    · exact nA3
  refine so_appP (p := p') (d := A1) List.mem_cons_self hlo rfl (hx _ (by simp)) (Offs.mk (hoff _)) (by show 1 < 100000; decide) (m2 rfl rfl) nA1 ?_
  refine so_appP (p := p') (d := A1) List.mem_cons_self hlo rfl (hx _ (by simp)) (Offs.mk (hoff _)) (by show 2 < 100000; decide) (m1 rfl rfl) nA1 ?_
  refine so_appP (p := p') (d := A2) List.mem_cons_self hlo rfl (hx _ (by simp)) (Offs.mk (hoff _)) (by show 3 < 100000; decide) (m3 rfl rfl) nA2 ?_
  refine so_appP (p := p') (d := A3) List.mem_cons_self hlo rfl (hx _ (by simp)) (Offs.mk (hoff _)) (by show 4 < 100000; decide) (m4 rfl rfl) nA3 ?_
  refine so_appP (p := p') (d := A3) List.mem_cons_self hlo rfl (hx _ (by simp)) (Offs.mk (hoff _)) (by show 5 < 100000; decide) (m5 rfl rfl) nA3 ?_
  refine so_appP (p := p') (d := A3) List.mem_cons_self hlo rfl (hx _ (by simp)) (Offs.mk (hoff _)) (by show 6 < 100000; decide) (m6 rfl) nA3 ?_
  have hcm : cmpOk (.lst [A1, A1, A1, A2, A3, A3, A3]) = true := by
    have g1 : gd 3 A1 = true := gd_tw17 (by decide +kernel) n5
    have g2 : gd 3 A2 = true := by decide +kernel
    have g3 : gd 3 A3 = true := gd_tw17 (by decide +kernel) n5
    refine gd_cmp (n := 4) ?_ (by decide)
    show (gd 3 A1 && (gd 3 A1 && (gd 3 A1 && (gd 3 A2 && (gd 3 A3 && (gd 3 A3 && (gd 3 A3 && true)))))) && decide (7 ≤ 10)) = true
    rw [g1, g2, g3]; rfl
  have r1 : ∀ {S : Sta} {ρ : List (Option Dt)} (s : Str), ρ[2]? = some (some nn) → Ev K S S ρ (tOp rRep (tLst (tCons (tTup (tCons (tC (.str s)) (tCons (tVar 2) tNil))) tNil)) (tC (.int 3))) (Eq (.lst [.tup [.str s, nn], .tup [.str s, nn], .tup [.str s, nn]])) := fun {S ρ} s h2 =>
    ev_repL (n := 3) (xs := [.tup [.str s, nn]]) (ea_cons (ev_tup (ea_cons ev_str (ea_cons (ev_var h2) ea_nil)) (t1 (by show 2 ≤ 10; decide))) ea_nil) (by show 1 ≤ 1000; decide) ev_int (by decide)
  refine so_fast (so_retD ((ev_op (ev_lat (ev_var rfl)) (ev_op (ev_op (r1 "ratio" rfl) (ev_lst (ea_cons (ev_tup (ea_cons ev_str (ea_cons ev_str ea_nil)) (t1 (by show 2 ≤ 10; decide))) ea_nil) (t1 (by show 1 ≤ 10; decide))) (rv_catL (t1 (by show 4 ≤ 10; decide)))) (r1 "burst" rfl) (rv_catL (t1 (by show 7 ≤ 10; decide)))) (rv_eqD hcm hcm)).to (by show Dt.bl (PyData.eqv (py (.lst [A1, A1, A1, A2, A3, A3, A3])) (py (.lst [A1, A1, A1, A2, A3, A3, A3]))) = _; rw [cmp_refl hcm])) (Sta.Le.refl _) rfl)
end
end Bf
namespace Bf
open PySem PySem.Spec PyProof.Rows L2
/-! ## the lambdas of a def's list, as the text has them -/
def lam0 (st : Stmt) (t : XK → TE) : LamI := match st with
  | .Assign _ (.List [.Lambda p b s _] _) _ => ⟨p, b, s, t⟩
  | st => ⟨defArgs st, .Name "" ⟨0, 0, 0, 0⟩, defScope st, t⟩
def lamA (st : Stmt) (t : XK → TE) : LamI := match st with
  | .Expr (.Call _ [.Lambda p b s _] _ _) _ => ⟨p, b, s, t⟩
  | st => ⟨defArgs st, .Name "" ⟨0, 0, 0, 0⟩, defScope st, t⟩
theorem lam0_t (st : Stmt) (t : XK → TE) : (lam0 st t).t = t := by unfold lam0; split <;> rfl
theorem lamA_t (st : Stmt) (t : XK → TE) : (lamA st t).t = t := by unfold lamA; split <;> rfl
theorem lam_none {X : Cx} {k : Nat} : ∀ l ∈ ([] : List LamI), LamOk X k l := fun _ h => nomatch h
theorem lam_all {X : Cx} {k : Nat} {l : LamI} {ls : List LamI} (h : LamOk X k l) (hs : ∀ l ∈ ls, LamOk X k l) : ∀ m ∈ l :: ls, LamOk X k m := fun m hm => by
  rcases List.mem_cons.mp hm with z | z
  · rw [z]; exact h
  · exact hs m z
theorem ref_0 {P : (XK → TE) → Prop} {st : Stmt} {t : XK → TE} {ls : List LamI} (h : P t) (hs : ∀ l ∈ ls, P l.t) : ∀ m ∈ lam0 st t :: ls, P m.t := fun m hm => by
  rcases List.mem_cons.mp hm with z | z
  · rw [z, lam0_t]; exact h
  · exact hs m z
theorem ref_A {P : (XK → TE) → Prop} {st : Stmt} {t : XK → TE} {ls : List LamI} (h : P t) (hs : ∀ l ∈ ls, P l.t) : ∀ m ∈ lamA st t :: ls, P m.t := fun m hm => by
  rcases List.mem_cons.mp hm with z | z
  · rw [z, lamA_t]; exact h
  · exact hs m z
end Bf
namespace Bf
open PySem PySem.Spec PyProof.Rows L2
/-! ## The law of further tables -/
theorem cutD_take {xs : List Dt} {m : Nat} (h : m ≤ xs.length) : cutD xs none (some (m : Int)) = xs.take m := by
  unfold cutD
  have h1 : HT.sIx xs.length 0 none = 0 := rfl
  have h2 : HT.sIx xs.length xs.length (some (m : Int)) = m := by
    unfold HT.sIx
    simp only
    rw [if_neg (by omega)]
    omega
  rw [h1, h2, Nat.sub_zero, List.drop_zero]
section
variable {K : PySem.W.Frag} {S S1 S2 : Sta} {ρ : List (Option Dt)} {te ta tb : TE} {a : Addr} {c : CT} {cs : List Int} {C CB : Addr} {P : Po}
end
end Bf
namespace Bf
open PySem PySem.Spec PyProof.Rows L2
/-! ## the law of k17 -/
abbrev p_law17 (cs : List (Addr × Addr)) (K : PySem.W.Frag) : Sp := spLawT cs K
abbrev u_law17 (K : PySem.W.Frag) (TL : List (Addr × Str)) (t : Ten) (C : Addr) : TS := (tSeq (tAsg (tCall (p__law_receiverC K C) [] E0 (tCons (tVar 1) (tCons (tC (.int 4)) (tCons (tC (.int 3)) tNil)))) (gName 3))
    (tSeq (tAsg (tCall (p__law_next K) [] E0 (tCons (tVar 1) (tCons (tCB (rLen K) (tCons (tVar 3) tNil)) tNil))) (gName 4))
    (tSeq (tAsg (tCall (p__law_bad_table K) [] E0 (tCons (tVar 1) (tCons (tOp (rIx K) (tOp (rIx K) (tVar 3) (tVar 4)) (tC (.int 0))) tNil))) (gTup K 2 (gCons (gName 5) (gCons (gName 6) gNil))))
    (tSeq (tIfS (tOr (tNot (tB (tCall (p__law_of_table K t.table C TL) [] E0 (tCons (tVar 5) (tCons (tVar 6) tNil))))) (tNot (tB (tCall (p__law_further_right K TL C) [] E0 (tCons (tVar 1) (tCons (tVar 3) tNil)))))) (tRet (tC (.bl false))) tNext)
    (tSeq (tAsg (tOp (rCatA K) (tOp (rCatA K) (tSl (rSlA K) (tVar 3) tNoPart (tPart (tVar 4))) (tTup (tCons (tTup (tCons (tVar 5) (tCons (tMake C (spRI C) [.int 1] E0 (tCons (tC (.int 0)) tNil)) tNil))) tNil))) (tSl (rSlA K) (tVar 3) (tPart (tOp rAddI (tVar 4) (tC (.int 1)))) tNoPart)) (gName 7))
    (tIfS (tOr (tNot (tB (tCall (p__law_of_receiver K t.receiver C TL) [] E0 (tCons (tVar 7) (tCons (tVar 4) tNil))))) (tNot (tB (tCall (p__law_of_receiver K t.receiver C TL) [] E0 (tCons (tCall (p__law_pick K) [] E0 (tCons (tVar 1) (tCons (tLst (tCons (tC .non) (tCons (tTup tNil) (tCons (tLst tNil) (tCons (tC (.int 5)) (tCons (tC (.str "x")) tNil)))))) tNil))) (tCons (tC .non) tNil)))))) (tRet (tC (.bl false))) tNext))))))
abbrev r_law17 (K : PySem.W.Frag) (TL : List (Addr × Str)) (t : Ten) (C : Addr) : TS := (tSeq (tFor (iRng1 (tCons (tC (.int 4)) tNil)) (gName 2) (u_law17 K TL t C))
    (tRet (tC (.bl true))))
abbrev t_law17 (K : PySem.W.Frag) (TL : List (Addr × Str)) (t : Ten) (C : Addr) : TS := (tSeq (tAsg (tCall (spBT K) [] E0 (tCons (tVar 0) tNil)) (gName 1))
    (r_law17 K TL t C))
theorem et_orF17 {K : PySem.W.Frag} {S S1 S2 : Sta} {ρ : List (Option Dt)} {c d : TT} (ha : EvT K S S1 ρ c (Eq false)) (hb : EvT K S1 S2 ρ d (Eq false)) : EvT K S S2 ρ (tOr c d) (Eq false) := fun σ H i s Q q =>
  ha σ H i s _ fun b H1 g1 i1 e => by
    subst e
    rw [if_neg Bool.false_ne_true]
    exact hb σ H1 i1 (s.mono g1) Q fun b H2 g2 i2 e => q b H2 (g1.trans g2) i2 e
theorem prOk_17 {p : Tab × Fq} (h : prC p) : prOk p := prQ_pr h.1.1
theorem cutD_drop17 {xs : List Dt} {m : Nat} (h : m ≤ xs.length) : cutD xs (some (m : Int)) none = xs.drop m := by
  unfold cutD
  have e : HT.sIx xs.length 0 (some (m : Int)) = m := by
    show (if (m : Int) < 0 then ((m : Int) + (xs.length : Int)).toNat else min (m : Int).toNat xs.length) = _
    rw [if_neg (by omega), Int.toNat_natCast, Nat.min_eq_left h]
  rw [e, HT.sIx_none]
  exact List.take_of_length_le (by rw [List.length_drop]; exact Nat.le_refl _)
def spoilR (C : Addr) (rc : List (Tab × Int × Int)) (k : Nat) (odd : Dt) : List Dt := (rc.map (prD C)).take k ++ [.tup [odd, rat C 0 1]] ++ (rc.map (prD C)).drop (k + 1)
section
variable {C CR : Addr} {rc : List (Tab × Int × Int)} {k : Nat} {odd : Dt} {p : Str}
theorem spoilR_ok (h : rcOk rc) (hk : k < rc.length) (hb : badO odd p) : vR C (.tup (spoilR C rc k odd)) ∧ rcvO CR (.tup (spoilR C rc k odd)) = .er CR "place" (.int k) := by
  obtain ⟨h1, h4, hall⟩ := h
  have hlen : (spoilR C rc k odd).length = rc.length := by
    unfold spoilR
    rw [List.length_append, List.length_append, List.length_take, List.length_drop, List.length_map, List.length_singleton]
    omega
  have hno : pairB (.tup [odd, rat C 0 1]) = false := by
    show ((tabPart odd).isNon && _) = false
    rw [hb.2]; rfl
  refine ⟨⟨.inl rfl, fun xs e x hx => ?_⟩, ?_⟩
  · cases e
    unfold spoilR at hx
    rcases List.mem_append.mp hx with hx | hx
    · rcases List.mem_append.mp hx with hx | hx
      · obtain ⟨q, hq, rfl⟩ := List.mem_map.mp (List.mem_of_mem_take hx)
        exact elR_pr (hall q hq)
      · rw [List.mem_singleton.mp hx]
        exact ⟨.inl rfl, fun a b e => by cases e; exact ⟨.inl hb.1, .inr ⟨_, _, rfl⟩⟩⟩
    · obtain ⟨q, hq, rfl⟩ := List.mem_map.mp (List.mem_of_mem_drop hx)
      exact elR_pr (hall q hq)
  · have hf : (spoilR C rc k odd).findIdx? (fun x => !pairB x) = some k := by
      unfold spoilR
      rw [List.append_assoc, List.findIdx?_append]
      have e1 : ((rc.map (prD C)).take k).findIdx? (fun x => !pairB x) = none := by
        rw [List.findIdx?_eq_none_iff]
        intro x hx
        obtain ⟨q, hq, rfl⟩ := List.mem_map.mp (List.mem_of_mem_take hx)
        rw [pairB_pr (hall q hq)]; rfl
      rw [e1, List.singleton_append, List.findIdx?_cons, hno]
      show some (0 + ((rc.map (prD C)).take k).length) = some k
      rw [List.length_take, List.length_map, Nat.zero_add, Nat.min_eq_left (Nat.le_of_lt hk)]
    show (if 1 ≤ (spoilR C rc k odd).length ∧ (spoilR C rc k odd).length ≤ 4 then (match (spoilR C rc k odd).findIdx? (fun x => !pairB x) with | none => Out.ok (.tup (spoilR C rc k odd)) | some i => .er CR "place" (.int i)) else .er CR "place" .non) = _
    rw [hlen, if_pos ⟨h1, h4⟩, hf]
end
theorem ev_callTrP {K : PySem.W.Frag} {S S1 : Sta} {ρ : List (Option Dt)} {T : List (Addr × Str)} {n : Nat} {pre : List Dt → Prop} {t : TA} {Φl : List Dt → Prop} {E : XK} (hT : TabS S1 T) (ha : EvA K S S1 ρ t Φl) (hp : ∀ ds, Φl ds → ds.length = n ∧ pre ds) : Ev K S S1 ρ (tCall (spTr K T n pre) [] E t) (Eq (.bl true)) := fun σ H i s Q q =>
  ha σ H i s _ fun vs ds H1 g1 i1 r1 e => by
    rw [List.append_nil]
    exact ⟨ds, r1, (hp ds e).1, (hp ds e).2, hT.has _ i1, fun H2 e2 t2 => q _ _ H2 (g1.trans (extN_gr e2)) (hT.on _ _ i1 e2 t2) (.bl true) rfl⟩
section
variable {K : PySem.W.Frag} {a : Addr} {c : CT} {cs : List Int} {n : Nat} {ds : List Dt} {t : Ten} {C : Addr}
theorem so_turn17 {x0 y2 y3 y4 y5 y6 y7 : Option Dt} (hc : cs ≠ []) (hn : n + 185 ≤ 1000000) (P : Po) (hP : ∀ y3 y4 y5 y6 y7, P.nx [x0, some (.raw (.ref a)), y2, y3, y4, y5, y6, y7]) :
    So K (DW K a c cs n) (DW K a c cs (n + 185)) [] (u_law17 K c.tb t C) [x0, some (.raw (.ref a)), y2, y3, y4, y5, y6, y7] P := by
  have t1 : ∀ {n : Nat}, n ≤ 10 → n ≤ sizeLine := fun h => Nat.le_trans h (by decide)
  refine so_set (S1 := DW K a c cs (n + 180)) (Φ := fun d => ∃ rc, rcOk rc ∧ d = rcD C rc) (Ev.weak (ev_callD (n := n) (cost := 180) (k := 2) (Φ := recC C) (pre := fun ds => ∃ k0 mm : Int, ds = [.int k0, .int mm] ∧ 1 ≤ k0 ∧ k0 ≤ 4 ∧ 1 ≤ mm ∧ mm ≤ 8) (ds := [.int 4, .int 3]) (ea_cons (ev_var rfl) (ea_cons ev_int (ea_cons ev_int ea_nil))) rfl ⟨4, 3, rfl, by decide, by decide, by decide, by decide⟩ hc (by omega)) fun d ⟨rc, h, e⟩ => ⟨rc, ⟨h.1, h.2.1, fun p hp => prOk_17 (h.2.2 p hp)⟩, e⟩) fun d hd => ?_
  obtain ⟨rc, hrc, rfl⟩ := hd
  obtain ⟨h1, h4, hall⟩ := hrc
  refine so_re (ρ' := [x0, some (.raw (.ref a)), y2, some (rcD C rc), y4, y5, y6, y7]) rfl ?_
  refine so_set (S1 := DW K a c cs (n + 181)) (ev__law_next (n := n + 180) (m := (rc.length : Int)) (ea_cons (ev_var rfl) (ea_cons ((ev_lenT (xs := rc.map (prD C)) (ev_var rfl)).to (by rw [List.length_map])) ea_nil)) hc (by omega) (by omega) (Nat.lt_of_le_of_lt (show _ ≤ 8 by omega) (by decide))) fun d hd => ?_
  obtain ⟨r, rfl, r0, r1⟩ := hd
  obtain ⟨k, rfl⟩ : ∃ k : Nat, r = k := Int.eq_ofNat_of_zero_le r0
  have hk : k < rc.length := by omega
  obtain ⟨q, hq⟩ : ∃ q, rc[k]? = some q := ⟨_, List.getElem?_eq_getElem hk⟩
  obtain ⟨T, na, nb⟩ := q
  have hT : T.ok := (hall _ (List.mem_of_getElem? hq)).1
  refine so_re (ρ' := [x0, some (.raw (.ref a)), y2, some (rcD C rc), some (.int k), y5, y6, y7]) rfl ?_
  have eat : Ev K (DW K a c cs (n + 181)) (DW K a c cs (n + 181)) [x0, some (.raw (.ref a)), y2, some (rcD C rc), some (.int k), y5, y6, y7] (tOp (rIx K) (tOp (rIx K) (tVar 3) (tVar 4)) (tC (.int 0))) (Eq T.d) :=
    ev_ixT (xs := [T.d, rat C na nb]) (ev_ixT (xs := rc.map (prD C)) (ev_var rfl) (ev_var rfl) (atI_nat (j := k) (by rw [List.getElem?_map, hq]; rfl))) ev_int (atI_nat (j := 0) rfl)
  refine so_unpP (is := [5, 6]) (n := 2) (S1 := DW K a c cs (n + 183)) (Φ := badR [T.d]) (ev_callD (n := n + 181) (cost := 2) (k := 1) (Φ := badR) (pre := fun ds => ∃ T : Tab, T.ok ∧ ds = [T.d]) (ds := [T.d]) (ea_cons (ev_var rfl) (ea_cons eat ea_nil)) rfl ⟨T, hT, rfl⟩ hc (by omega)) rfl (fun d ⟨odd, p, e, _⟩ => ⟨_, e, rfl, rfl⟩) fun xs hx => ?_
  obtain ⟨odd, p, e, hb⟩ := hx
  cases e
  refine so_re (ρ' := [x0, some (.raw (.ref a)), y2, some (rcD C rc), some (.int k), some odd, some (.str p), y7]) rfl ?_
  let ρ5 : List (Option Dt) := [x0, some (.raw (.ref a)), y2, some (rcD C rc), some (.int k), some odd, some (.str p), y7]
  have tA : Ev K (DW K a c cs (n + 183)) (DW K a c cs (n + 183)) ρ5 (tCall (p__law_of_table K t.table C c.tb) [] E0 (tCons (tVar 5) (tCons (tVar 6) tNil))) (Eq (.bl true)) :=
    ev_callTr (pre := preOT C) (ds := [odd, .str p]) dw_tab (ea_cons (ev_var rfl) (ea_cons (ev_var rfl) ea_nil)) rfl ⟨odd, p, rfl, .inl hb.1, hb.2⟩
  have tB : Ev K (DW K a c cs (n + 183)) (DW K a c cs (n + 184)) ρ5 (tCall (p__law_further_right K c.tb C) [] E0 (tCons (tVar 1) (tCons (tVar 3) tNil))) (Eq (.bl true)) :=
    (ev_callDT (n := n + 183) (k := 1) (cost := 1) (pre := preFR C) (Φ := fun _ d => d = .bl true) (ds := [rcD C rc]) rfl (ea_cons (ev_var rfl) (ea_cons (ev_var rfl) ea_nil)) rfl ⟨rc, ⟨h1, h4, hall⟩, rfl⟩ hc (by omega)).weak fun d e => Eq.symm e
  refine so_ifF (S1 := DW K a c cs (n + 184)) (et_orF17 (et_notT (et_B tA)) (et_notT (et_B tB))) (so_skip ?_)
  have hs := spoilR_ok (C := C) (CR := t.receiver) ⟨h1, h4, hall⟩ hk hb
  have hlk : k ≤ (rc.map (prD C)).length := by rw [List.length_map]; omega
  have hlk1 : k + 1 ≤ (rc.map (prD C)).length := by rw [List.length_map]; omega
  refine so_setD (S1 := DW K a c cs (n + 184)) (d := .tup (spoilR C rc k odd)) ((ev_op (S1 := DW K a c cs (n + 184)) (ev_op (S1 := DW K a c cs (n + 184)) (ev_slT (xs := rc.map (prD C)) (ev_var rfl) eo_none (eo_some (ev_var rfl))) (ev_tup (ea_cons (ev_tup (ea_cons (ev_var rfl) (ea_cons (ev_mkrat1 (C := C) (ea_cons ev_int ea_nil) (by decide)) ea_nil)) (t1 (by show 2 ≤ 10; decide))) ea_nil) (t1 (by show 1 ≤ 10; decide))) (rv_catT ?_)) (ev_slT (xs := rc.map (prD C)) (ev_var rfl) (eo_some (ev_op (ev_var rfl) ev_int rv_add)) eo_none) (rv_catT ?_)).to ?_) ?_
  · have h1 := cutD_le (rc.map (prD C)) none (some (k : Int))
    rw [List.length_map] at h1
    exact Nat.le_trans (show (cutD (rc.map (prD C)) none (some (k : Int))).length + 1 ≤ 20 by omega) (by decide)
  · have h1 := cutD_le (rc.map (prD C)) none (some (k : Int))
    have h2 := cutD_le (rc.map (prD C)) (some ((k : Int) + 1)) none
    rw [List.length_map] at h1 h2
    rw [List.length_append, List.length_singleton]
    exact Nat.le_trans (show (cutD (rc.map (prD C)) none (some (k : Int))).length + 1 + (cutD (rc.map (prD C)) (some ((k : Int) + 1)) none).length ≤ 20 by omega) (by decide)
  · have e2 : ((k : Int) + 1) = ((k + 1 : Nat) : Int) := by omega
    rw [e2, cutD_take hlk, cutD_drop17 hlk1]
    rfl
  refine so_re (ρ' := [x0, some (.raw (.ref a)), y2, some (rcD C rc), some (.int k), some odd, some (.str p), some (.tup (spoilR C rc k odd))]) rfl ?_
  let ρ7 : List (Option Dt) := [x0, some (.raw (.ref a)), y2, some (rcD C rc), some (.int k), some odd, some (.str p), some (.tup (spoilR C rc k odd))]
  have tC : Ev K (DW K a c cs (n + 184)) (DW K a c cs (n + 184)) ρ7 (tCall (p__law_of_receiver K t.receiver C c.tb) [] E0 (tCons (tVar 7) (tCons (tVar 4) tNil))) (Eq (.bl true)) :=
    ev_callTr (pre := preOR C t.receiver) (ds := [.tup (spoilR C rc k odd), .int k]) dw_tab (ea_cons (ev_var rfl) (ea_cons (ev_var rfl) ea_nil)) rfl ⟨_, _, rfl, hs.1, hs.2, .inr ⟨k, rfl, by omega⟩⟩
  have tD : Ev K (DW K a c cs (n + 184)) (DW K a c cs (n + 185)) ρ7 (tCall (p__law_of_receiver K t.receiver C c.tb) [] E0 (tCons (tCall (p__law_pick K) [] E0 (tCons (tVar 1) (tCons (tLst (tCons (L2.tC .non) (tCons (tTup tNil) (tCons (tLst tNil) (tCons (L2.tC (.int 5)) (tCons (L2.tC (.str "x")) tNil)))))) tNil))) (tCons (L2.tC .non) tNil))) (Eq (.bl true)) := by
    refine ev_callTrP (pre := preOR C t.receiver) dw_tab (ea_twoP (ev__law_pick (n := n + 184) (xs := [.non, .tup [], .lst [], .int 5, .str "x"]) (ea_c (ev_var rfl) (ea_c (ev_lst (ea_c ev_non (ea_c (ev_tup ea_nil (t1 (by decide))) (ea_c (ev_lst ea_nil (t1 (by decide))) (ea_c ev_int (ea_c ev_str ea_nil))))) (t1 (by show 5 ≤ 10; decide))) ea_nil)) hc (by omega) (by simp) (by show 5 ≤ 100000; decide)) ev_non) fun ds hd => ?_
    obtain ⟨x, y, rfl, hx, rfl⟩ := hd
    refine ⟨rfl, x, .non, rfl, ?_, ?_, .inl rfl⟩
    · simp only [List.mem_cons, List.not_mem_nil, or_false] at hx
      rcases hx with rfl | rfl | rfl | rfl | rfl <;> exact ⟨.inl rfl, fun xs e => by cases e <;> exact fun z hz => nomatch hz⟩
    · simp only [List.mem_cons, List.not_mem_nil, or_false] at hx
      rcases hx with rfl | rfl | rfl | rfl | rfl <;> rfl
  exact so_if0F (S1 := DW K a c cs (n + 185)) (et_orF17 (et_notT (et_B tC)) (et_notT (et_B tD))) (so_next (dw_le (by omega)) (hP _ _ _ _ _))
theorem so_law17 {x0 : Option Dt} (hc : cs ≠ []) : So K (DW K a c cs 0) (DW K a c cs 740) [] (r_law17 K c.tb t C) [x0, some (.raw (.ref a)), none, none, none, none, none, none] { rt := Eq (.bl true) } := by
  refine so_seq (M := fun ρ' => True) (so_forR (n := 4) (Z := fun i => DW K a c cs (185 * i)) (ea_cons ev_int ea_nil) (by decide) (fun i hi => dw_le (by omega)) (fun i hi => dw_le (by omega)) (fun i ρ' => ∃ y2 y3 y4 y5 y6 y7, ρ' = [x0, some (.raw (.ref a)), y2, y3, y4, y5, y6, y7]) ⟨_, _, _, _, _, _, rfl⟩ (fun ti ρ' hi hJ => ?_) fun ρ' h => trivial) fun ρ' hM => ?_
  · obtain ⟨y2, y3, y4, y5, y6, y7, rfl⟩ := hJ
    exact so_turn17 (n := 185 * ti) hc (by omega) _ fun _ _ _ _ _ => ⟨_, _, _, _, _, _, rfl⟩
  · exact so_retD ev_bl (Sta.Le.refl _) rfl
end
end Bf
namespace Bf
open PySem PySem.Spec PyProof.Rows L2
/-! ### the text -/
def topS (i : Nat) : Stmt := PySem.Challenge.pw_beamframes_k17_refused_in_order.main.body.getD i (.Pass ⟨0, 0, 0, 0⟩)
abbrev s_is_whole : Stmt := topS 16
abbrev s_is_whole_from : Stmt := topS 17
abbrev s_need_table : Stmt := topS 23
abbrev s_is_word : Stmt := topS 24
abbrev s_words_of : Stmt := topS 25
abbrev s_begins_with : Stmt := topS 27
abbrev s_wrong_part_of_pairs : Stmt := topS 28
abbrev s_wrong_part_of_halves : Stmt := topS 29
abbrev s_is_duration : Stmt := topS 30
abbrev s_are_durations : Stmt := topS 31
abbrev s_is_pulse_and_gap : Stmt := topS 32
abbrev s_is_bit_count : Stmt := topS 33
abbrev s_frame_of : Stmt := topS 35
abbrev s_word_of : Stmt := topS 36
abbrev s_begin_of : Stmt := topS 37
abbrev s_is_end : Stmt := topS 38
abbrev s_steps_of : Stmt := topS 39
abbrev s_need_ratio : Stmt := topS 51
abbrev s_is_below_one : Stmt := topS 52
abbrev s_need_burst : Stmt := topS 55
abbrev s_nearest : Stmt := topS 56
abbrev s_is_burst : Stmt := topS 57
abbrev s_is_above_zero : Stmt := topS 58
abbrev s_need_receiver : Stmt := topS 69
abbrev s_reads : Stmt := topS 70
abbrev s_is_sending : Stmt := topS 71
abbrev s_is_pair : Stmt := topS 73
abbrev s_is_table_with_tolerance : Stmt := topS 74
abbrev s_is_table : Stmt := topS 75
abbrev s_start_stands : Stmt := topS 78
abbrev s_taken : Stmt := topS 79
abbrev s_check_taken : Stmt := topS 80
abbrev s_limit_of : Stmt := topS 94
abbrev s_is_safe : Stmt := topS 95
abbrev s_margin_of : Stmt := topS 96
abbrev s_table_text : Stmt := topS 101
abbrev s_burst_text : Stmt := topS 102
abbrev s__law_begin : Stmt := topS 104
abbrev s__law_next : Stmt := topS 105
abbrev s__law_pick : Stmt := topS 106
abbrev s__law_size : Stmt := topS 107
abbrev s__law_table : Stmt := topS 108
abbrev s__law_like : Stmt := topS 109
abbrev s__law_receiver : Stmt := topS 110
abbrev s__law_fault : Stmt := topS 111
abbrev s__law_said : Stmt := topS 112
abbrev s__law_bad_table : Stmt := topS 113
abbrev s__law_of_table : Stmt := topS 114
abbrev s__law_of_receiver : Stmt := topS 115
abbrev s__law_further_right : Stmt := topS 116
abbrev s_law : Stmt := topS 117
theorem sc_is_whole : FnScope ["thing"] ["thing"] (defScope s_is_whole) := ⟨rfl, rfl, rfl, by decide +kernel, rfl, by decide +kernel, by decide +kernel⟩
theorem sc_is_whole_from : FnScope ["thing", "low", "high"] ["thing", "low", "high"] (defScope s_is_whole_from) := ⟨rfl, rfl, rfl, by decide +kernel, rfl, by decide +kernel, by decide +kernel⟩
theorem sc_need_table : FnScope ["thing", "wrong"] ["thing"] (defScope s_need_table) := ⟨rfl, rfl, rfl, by decide +kernel, rfl, by decide +kernel, by decide +kernel⟩
theorem sc_is_word : FnScope ["table", "thing", "bit"] ["table", "thing"] (defScope s_is_word) := ⟨rfl, rfl, rfl, by decide +kernel, rfl, by decide +kernel, by decide +kernel⟩
theorem sc_words_of : FnScope ["table", "words", "_", "word", "bit"] ["table"] (defScope s_words_of) := ⟨rfl, rfl, rfl, by decide +kernel, rfl, by decide +kernel, by decide +kernel⟩
theorem sc_begins_with : FnScope ["thing", "name", "size"] ["thing", "name", "size"] (defScope s_begins_with) := ⟨rfl, rfl, rfl, by decide +kernel, rfl, by decide +kernel, by decide +kernel⟩
theorem sc_wrong_part_of_pairs : FnScope ["thing", "header", "zero", "one", "stop", "bits"] ["thing"] (defScope s_wrong_part_of_pairs) := ⟨rfl, rfl, rfl, by decide +kernel, rfl, by decide +kernel, by decide +kernel⟩
theorem sc_wrong_part_of_halves : FnScope ["thing"] ["thing"] (defScope s_wrong_part_of_halves) := ⟨rfl, rfl, rfl, by decide +kernel, rfl, by decide +kernel, by decide +kernel⟩
theorem sc_is_duration : FnScope ["thing"] ["thing"] (defScope s_is_duration) := ⟨rfl, rfl, rfl, by decide +kernel, rfl, by decide +kernel, by decide +kernel⟩
theorem sc_are_durations : FnScope ["thing", "part"] ["thing"] (defScope s_are_durations) := ⟨rfl, rfl, rfl, by decide +kernel, rfl, by decide +kernel, by decide +kernel⟩
theorem sc_is_pulse_and_gap : FnScope ["thing"] ["thing"] (defScope s_is_pulse_and_gap) := ⟨rfl, rfl, rfl, by decide +kernel, rfl, by decide +kernel, by decide +kernel⟩
theorem sc_is_bit_count : FnScope ["thing"] ["thing"] (defScope s_is_bit_count) := ⟨rfl, rfl, rfl, by decide +kernel, rfl, by decide +kernel, by decide +kernel⟩
theorem sc_frame_of : FnScope ["table", "word", "frame", "at", "bit"] ["table", "word"] (defScope s_frame_of) := ⟨rfl, rfl, rfl, by decide +kernel, rfl, by decide +kernel, by decide +kernel⟩
theorem sc_word_of : FnScope ["table", "frame", "part", "word"] ["table", "frame"] (defScope s_word_of) := ⟨rfl, rfl, rfl, by decide +kernel, rfl, by decide +kernel, by decide +kernel⟩
theorem sc_begin_of : FnScope ["table"] ["table"] (defScope s_begin_of) := ⟨rfl, rfl, rfl, by decide +kernel, rfl, by decide +kernel, by decide +kernel⟩
theorem sc_is_end : FnScope ["table", "place", "known", "rest", "_"] ["table", "place"] (defScope s_is_end) := ⟨rfl, rfl, rfl, by decide +kernel, rfl, by decide +kernel, by decide +kernel⟩
theorem sc_steps_of : FnScope ["table", "place", "bit"] ["table", "place"] (defScope s_steps_of) := ⟨rfl, rfl, rfl, by decide +kernel, rfl, by decide +kernel, by decide +kernel⟩
theorem sc_need_ratio : FnScope ["thing"] ["thing"] (defScope s_need_ratio) := ⟨rfl, rfl, rfl, by decide +kernel, rfl, by decide +kernel, by decide +kernel⟩
theorem sc_is_below_one : FnScope ["thing"] ["thing"] (defScope s_is_below_one) := ⟨rfl, rfl, rfl, by decide +kernel, rfl, by decide +kernel, by decide +kernel⟩
theorem sc_need_burst : FnScope ["thing"] ["thing"] (defScope s_need_burst) := ⟨rfl, rfl, rfl, by decide +kernel, rfl, by decide +kernel, by decide +kernel⟩
theorem sc_nearest : FnScope ["table", "burst", "tolerance"] ["table", "burst"] (defScope s_nearest) := ⟨rfl, rfl, rfl, by decide +kernel, rfl, by decide +kernel, by decide +kernel⟩
theorem sc_is_burst : FnScope ["thing", "item"] ["thing"] (defScope s_is_burst) := ⟨rfl, rfl, rfl, by decide +kernel, rfl, by decide +kernel, by decide +kernel⟩
theorem sc_is_above_zero : FnScope ["thing"] ["thing"] (defScope s_is_above_zero) := ⟨rfl, rfl, rfl, by decide +kernel, rfl, by decide +kernel, by decide +kernel⟩
theorem sc_need_receiver : FnScope ["thing", "index", "pair"] ["thing"] (defScope s_need_receiver) := ⟨rfl, rfl, rfl, by decide +kernel, rfl, by decide +kernel, by decide +kernel⟩
theorem sc_reads : FnScope ["receiver", "burst", "index", "table", "tolerance", "word"] ["receiver", "burst"] (defScope s_reads) := ⟨rfl, rfl, rfl, by decide +kernel, rfl, by decide +kernel, by decide +kernel⟩
theorem sc_is_sending : FnScope ["receiver", "thing"] ["receiver", "thing"] (defScope s_is_sending) := ⟨rfl, rfl, rfl, by decide +kernel, rfl, by decide +kernel, by decide +kernel⟩
theorem sc_is_pair : FnScope ["thing"] ["thing"] (defScope s_is_pair) := ⟨rfl, rfl, rfl, by decide +kernel, rfl, by decide +kernel, by decide +kernel⟩
theorem sc_is_table_with_tolerance : FnScope ["thing"] ["thing"] (defScope s_is_table_with_tolerance) := ⟨rfl, rfl, rfl, by decide +kernel, rfl, by decide +kernel, by decide +kernel⟩
theorem sc_is_table : FnScope ["thing"] ["thing"] (defScope s_is_table) := ⟨rfl, rfl, rfl, by decide +kernel, rfl, by decide +kernel, by decide +kernel⟩
theorem sc_start_stands : FnScope ["receiver", "begins", "table", "_", "stands", "index", "begin", "lower"] ["receiver"] (defScope s_start_stands) := ⟨rfl, rfl, rfl, by decide +kernel, rfl, by decide +kernel, by decide +kernel⟩
theorem sc_taken : FnScope ["receiver", "tolerance", "ways", "came_by", "stand"] ["receiver", "tolerance"] (defScope s_taken) := ⟨rfl, rfl, rfl, by decide +kernel, rfl, by decide +kernel, by decide +kernel⟩
theorem sc_check_taken : FnScope ["receiver", "tolerance", "paper", "wrong"] ["receiver", "tolerance", "paper"] (defScope s_check_taken) := ⟨rfl, rfl, rfl, by decide +kernel, rfl, by decide +kernel, by decide +kernel⟩
theorem sc_limit_of : FnScope ["receiver"] ["receiver"] (defScope s_limit_of) := ⟨rfl, rfl, rfl, by decide +kernel, rfl, by decide +kernel, by decide +kernel⟩
theorem sc_is_safe : FnScope ["receiver", "tolerance", "limit"] ["receiver", "tolerance"] (defScope s_is_safe) := ⟨rfl, rfl, rfl, by decide +kernel, rfl, by decide +kernel, by decide +kernel⟩
theorem sc_margin_of : FnScope ["receiver", "limit", "least"] ["receiver"] (defScope s_margin_of) := ⟨rfl, rfl, rfl, by decide +kernel, rfl, by decide +kernel, by decide +kernel⟩
theorem sc_table_text : FnScope ["table", "words", "name", "header", "zero", "one", "stop", "bits", "word"] ["table"] (defScope s_table_text) := ⟨rfl, rfl, rfl, by decide +kernel, rfl, by decide +kernel, by decide +kernel⟩
theorem sc_burst_text : FnScope ["burst", "item"] ["burst"] (defScope s_burst_text) := ⟨rfl, rfl, rfl, by decide +kernel, rfl, by decide +kernel, by decide +kernel⟩
theorem sc__law_begin : FnScope ["script"] ["script"] (defScope s__law_begin) := ⟨rfl, rfl, rfl, by decide +kernel, rfl, by decide +kernel, by decide +kernel⟩
theorem sc__law_next : FnScope ["draw", "many", "cell", "cells", "number", "k"] ["draw", "many"] (defScope s__law_next) := ⟨rfl, rfl, rfl, by decide +kernel, rfl, by decide +kernel, by decide +kernel⟩
theorem sc__law_pick : FnScope ["draw", "some"] ["draw", "some"] (defScope s__law_pick) := ⟨rfl, rfl, rfl, by decide +kernel, rfl, by decide +kernel, by decide +kernel⟩
theorem sc__law_size : FnScope ["draw", "low", "high"] ["draw"] (defScope s__law_size) := ⟨rfl, rfl, rfl, by decide +kernel, rfl, by decide +kernel, by decide +kernel⟩
theorem sc__law_table : FnScope ["draw", "most", "bits", "header", "k", "zero", "one"] ["draw", "most"] (defScope s__law_table) := ⟨rfl, rfl, rfl, by decide +kernel, rfl, by decide +kernel, by decide +kernel⟩
theorem sc__law_like : FnScope ["draw", "table", "way", "unit", "name", "header", "zero", "one", "stop", "bits"] ["draw", "table"] (defScope s__law_like) := ⟨rfl, rfl, rfl, by decide +kernel, rfl, by decide +kernel, by decide +kernel⟩
theorem sc__law_receiver : FnScope ["draw", "many", "most", "found", "k", "table", "above"] ["draw", "many", "most"] (defScope s__law_receiver) := ⟨rfl, rfl, rfl, by decide +kernel, rfl, by decide +kernel, by decide +kernel⟩
theorem sc__law_fault : FnScope ["e", "kinds"] ["e"] (defScope s__law_fault) := ⟨rfl, rfl, rfl, by decide +kernel, rfl, by decide +kernel, by decide +kernel⟩
theorem sc__law_said : FnScope ["call", "caught", "found", "e"] ["call"] (defScope s__law_said) := ⟨rfl, rfl, rfl, by decide +kernel, rfl, by decide +kernel, by decide +kernel⟩
theorem sc__law_bad_table : FnScope ["draw", "table", "at", "part"] ["draw", "table"] (defScope s__law_bad_table) := ⟨rfl, rfl, rfl, by decide +kernel, rfl, by decide +kernel, by decide +kernel⟩
theorem sc__law_of_table : FnScope ["odd", "due", "some", "call"] ["odd", "due"] (defScope s__law_of_table) := ⟨rfl, rfl, rfl, by decide +kernel, rfl, by decide +kernel, by decide +kernel⟩
theorem sc__law_of_receiver : FnScope ["odd", "due", "some", "call"] ["odd", "due"] (defScope s__law_of_receiver) := ⟨rfl, rfl, rfl, by decide +kernel, rfl, by decide +kernel, by decide +kernel⟩
theorem sc__law_further_right : FnScope ["draw", "receiver", "none", "share", "told"] ["draw", "receiver"] (defScope s__law_further_right) := ⟨rfl, rfl, rfl, by decide +kernel, rfl, by decide +kernel, by decide +kernel⟩
theorem sc_law : FnScope ["script", "draw", "turn", "receiver", "at", "odd", "due", "spoiled"] ["script"] (defScope s_law) := ⟨rfl, rfl, rfl, by decide +kernel, rfl, by decide +kernel, by decide +kernel⟩
abbrev s_rI : Stmt := clsSt (topS 50) 0
abbrev s_rN : Stmt := clsSt (topS 50) 2
abbrev s_rD : Stmt := clsSt (topS 50) 3
theorem sc_rI : FnScope ["self", "num", "den", "shared"] ["self", "num", "den"] (defScope s_rI) := ⟨rfl, rfl, rfl, by decide +kernel, rfl, by decide +kernel, by decide +kernel⟩
abbrev s_req : Stmt := clsSt (topS 50) 5
theorem sc_rN : FnScope ["self"] ["self"] (defScope s_rN) := ⟨rfl, rfl, rfl, by decide +kernel, rfl, by decide +kernel, by decide +kernel⟩
theorem sc_rD : FnScope ["self"] ["self"] (defScope s_rD) := ⟨rfl, rfl, rfl, by decide +kernel, rfl, by decide +kernel, by decide +kernel⟩
structure Adr where
  a_is_whole : Addr
  d_is_whole : FuncData
  a_is_whole_from : Addr
  d_is_whole_from : FuncData
  a_need_table : Addr
  d_need_table : FuncData
  a_is_word : Addr
  d_is_word : FuncData
  a_words_of : Addr
  d_words_of : FuncData
  a_begins_with : Addr
  d_begins_with : FuncData
  a_wrong_part_of_pairs : Addr
  d_wrong_part_of_pairs : FuncData
  a_wrong_part_of_halves : Addr
  d_wrong_part_of_halves : FuncData
  a_is_duration : Addr
  d_is_duration : FuncData
  a_are_durations : Addr
  d_are_durations : FuncData
  a_is_pulse_and_gap : Addr
  d_is_pulse_and_gap : FuncData
  a_is_bit_count : Addr
  d_is_bit_count : FuncData
  a_frame_of : Addr
  d_frame_of : FuncData
  a_word_of : Addr
  d_word_of : FuncData
  a_begin_of : Addr
  d_begin_of : FuncData
  a_is_end : Addr
  d_is_end : FuncData
  a_steps_of : Addr
  d_steps_of : FuncData
  a_need_ratio : Addr
  d_need_ratio : FuncData
  a_is_below_one : Addr
  d_is_below_one : FuncData
  a_need_burst : Addr
  d_need_burst : FuncData
  a_nearest : Addr
  d_nearest : FuncData
  a_is_burst : Addr
  d_is_burst : FuncData
  a_is_above_zero : Addr
  d_is_above_zero : FuncData
  a_need_receiver : Addr
  d_need_receiver : FuncData
  a_reads : Addr
  d_reads : FuncData
  a_is_sending : Addr
  d_is_sending : FuncData
  a_is_pair : Addr
  d_is_pair : FuncData
  a_is_table_with_tolerance : Addr
  d_is_table_with_tolerance : FuncData
  a_is_table : Addr
  d_is_table : FuncData
  a_start_stands : Addr
  d_start_stands : FuncData
  a_taken : Addr
  d_taken : FuncData
  a_check_taken : Addr
  d_check_taken : FuncData
  a_limit_of : Addr
  d_limit_of : FuncData
  a_is_safe : Addr
  d_is_safe : FuncData
  a_margin_of : Addr
  d_margin_of : FuncData
  a_table_text : Addr
  d_table_text : FuncData
  a_burst_text : Addr
  d_burst_text : FuncData
  a__law_begin : Addr
  d__law_begin : FuncData
  a__law_next : Addr
  d__law_next : FuncData
  a__law_pick : Addr
  d__law_pick : FuncData
  a__law_size : Addr
  d__law_size : FuncData
  a__law_table : Addr
  d__law_table : FuncData
  a__law_like : Addr
  d__law_like : FuncData
  a__law_receiver : Addr
  d__law_receiver : FuncData
  a__law_fault : Addr
  d__law_fault : FuncData
  a__law_said : Addr
  d__law_said : FuncData
  a__law_bad_table : Addr
  d__law_bad_table : FuncData
  a__law_of_table : Addr
  d__law_of_table : FuncData
  a__law_of_receiver : Addr
  d__law_of_receiver : FuncData
  a__law_further_right : Addr
  d__law_further_right : FuncData
  a_law : Addr
  d_law : FuncData
  k__law_of_table : Addr
  t__law_of_table : Addr
  k__law_of_receiver : Addr
  t__law_of_receiver : Addr
  k__law_further_right : Addr
  t__law_further_right : Addr
  c_BadRatio : Addr
  i_BadRatio : Addr
  c_BadTable : Addr
  i_BadTable : Addr
  c_BadWord : Addr
  i_BadWord : Addr
  c_BadBurst : Addr
  i_BadBurst : Addr
  c_BadReceiver : Addr
  i_BadReceiver : Addr
  c_BadNumber : Addr
  i_BadNumber : Addr
  c_BadPaper : Addr
  i_BadPaper : Addr
  c_BadStyle : Addr
  i_BadStyle : Addr
  c_BadRow : Addr
  i_BadRow : Addr
  c_BadText : Addr
  i_BadText : Addr
  a_req : Addr
  d_req : FuncData
  c_Ratio : Addr
  i_Ratio : Addr
  e_Ratio : FuncData
  pn_Ratio : Addr
  gn_Ratio : Addr
  hn_Ratio : FuncData
  pd_Ratio : Addr
  gd_Ratio : Addr
  hd_Ratio : FuncData
structure Txt (K : PySem.W.Frag) (mg : Str → Option Value) (A : Adr) : Prop where
  b_BadRatio : BadCls PySem.Challenge.pw_beamframes_k17_refused_in_order K mg "BadRatio" "given" A.c_BadRatio A.i_BadRatio
  b_BadTable : BadCls PySem.Challenge.pw_beamframes_k17_refused_in_order K mg "BadTable" "part" A.c_BadTable A.i_BadTable
  b_BadWord : BadCls PySem.Challenge.pw_beamframes_k17_refused_in_order K mg "BadWord" "given" A.c_BadWord A.i_BadWord
  b_BadBurst : BadCls PySem.Challenge.pw_beamframes_k17_refused_in_order K mg "BadBurst" "given" A.c_BadBurst A.i_BadBurst
  b_BadReceiver : BadCls PySem.Challenge.pw_beamframes_k17_refused_in_order K mg "BadReceiver" "place" A.c_BadReceiver A.i_BadReceiver
  b_BadNumber : BadCls PySem.Challenge.pw_beamframes_k17_refused_in_order K mg "BadNumber" "given" A.c_BadNumber A.i_BadNumber
  b_BadPaper : BadCls PySem.Challenge.pw_beamframes_k17_refused_in_order K mg "BadPaper" "part" A.c_BadPaper A.i_BadPaper
  b_BadStyle : BadCls PySem.Challenge.pw_beamframes_k17_refused_in_order K mg "BadStyle" "given" A.c_BadStyle A.i_BadStyle
  b_BadRow : BadCls PySem.Challenge.pw_beamframes_k17_refused_in_order K mg "BadRow" "moment" A.c_BadRow A.i_BadRow
  b_BadText : BadCls PySem.Challenge.pw_beamframes_k17_refused_in_order K mg "BadText" "word" A.c_BadText A.i_BadText
  r_Ratio : RatT K mg A.c_Ratio A.i_Ratio A.pn_Ratio A.gn_Ratio A.pd_Ratio A.gd_Ratio
  g_Ratio : RatG K A.c_Ratio A.gn_Ratio A.hn_Ratio A.gd_Ratio A.hd_Ratio
  g_fi : L2.FunD K "__init__" "Ratio.__init__" (defArgs s_rI) (defBody s_rI) (defScope s_rI) [.int 1] [] A.i_Ratio A.e_Ratio
  m_gcd : mg "gcd" = some (.builtin "math.gcd")
  o_eq : RatM K A.c_Ratio "__eq__" "Ratio.__eq__" s_req A.a_req A.d_req
  o_ne : PySem.W.findIn K (.ref A.c_Ratio) "__ne__" = some (some (.builtin "object.__ne__"))
  f_is_whole : Cal K mg "is_whole" s_is_whole ["thing"] A.a_is_whole A.d_is_whole
  f_is_whole_from : Cal K mg "is_whole_from" s_is_whole_from ["thing", "low", "high"] A.a_is_whole_from A.d_is_whole_from
  f_need_table : Cal K mg "need_table" s_need_table ["thing"] A.a_need_table A.d_need_table
  f_is_word : Cal K mg "is_word" s_is_word ["table", "thing"] A.a_is_word A.d_is_word
  f_words_of : Cal K mg "words_of" s_words_of ["table"] A.a_words_of A.d_words_of
  f_begins_with : Cal K mg "begins_with" s_begins_with ["thing", "name", "size"] A.a_begins_with A.d_begins_with
  f_wrong_part_of_pairs : Cal K mg "wrong_part_of_pairs" s_wrong_part_of_pairs ["thing"] A.a_wrong_part_of_pairs A.d_wrong_part_of_pairs
  f_wrong_part_of_halves : Cal K mg "wrong_part_of_halves" s_wrong_part_of_halves ["thing"] A.a_wrong_part_of_halves A.d_wrong_part_of_halves
  f_is_duration : Cal K mg "is_duration" s_is_duration ["thing"] A.a_is_duration A.d_is_duration
  f_are_durations : Cal K mg "are_durations" s_are_durations ["thing"] A.a_are_durations A.d_are_durations
  f_is_pulse_and_gap : Cal K mg "is_pulse_and_gap" s_is_pulse_and_gap ["thing"] A.a_is_pulse_and_gap A.d_is_pulse_and_gap
  f_is_bit_count : Cal K mg "is_bit_count" s_is_bit_count ["thing"] A.a_is_bit_count A.d_is_bit_count
  f_frame_of : Cal K mg "frame_of" s_frame_of ["table", "word"] A.a_frame_of A.d_frame_of
  f_word_of : Cal K mg "word_of" s_word_of ["table", "frame"] A.a_word_of A.d_word_of
  f_begin_of : Cal K mg "begin_of" s_begin_of ["table"] A.a_begin_of A.d_begin_of
  f_is_end : Cal K mg "is_end" s_is_end ["table", "place"] A.a_is_end A.d_is_end
  f_steps_of : Cal K mg "steps_of" s_steps_of ["table", "place"] A.a_steps_of A.d_steps_of
  f_need_ratio : Cal K mg "need_ratio" s_need_ratio ["thing"] A.a_need_ratio A.d_need_ratio
  f_is_below_one : Cal K mg "is_below_one" s_is_below_one ["thing"] A.a_is_below_one A.d_is_below_one
  f_need_burst : Cal K mg "need_burst" s_need_burst ["thing"] A.a_need_burst A.d_need_burst
  f_nearest : Cal K mg "nearest" s_nearest ["table", "burst"] A.a_nearest A.d_nearest
  f_is_burst : Cal K mg "is_burst" s_is_burst ["thing"] A.a_is_burst A.d_is_burst
  f_is_above_zero : Cal K mg "is_above_zero" s_is_above_zero ["thing"] A.a_is_above_zero A.d_is_above_zero
  f_need_receiver : Cal K mg "need_receiver" s_need_receiver ["thing"] A.a_need_receiver A.d_need_receiver
  f_reads : Cal K mg "reads" s_reads ["receiver", "burst"] A.a_reads A.d_reads
  f_is_sending : Cal K mg "is_sending" s_is_sending ["receiver", "thing"] A.a_is_sending A.d_is_sending
  f_is_pair : Cal K mg "is_pair" s_is_pair ["thing"] A.a_is_pair A.d_is_pair
  f_is_table_with_tolerance : Cal K mg "is_table_with_tolerance" s_is_table_with_tolerance ["thing"] A.a_is_table_with_tolerance A.d_is_table_with_tolerance
  f_is_table : Cal K mg "is_table" s_is_table ["thing"] A.a_is_table A.d_is_table
  f_start_stands : Cal K mg "start_stands" s_start_stands ["receiver"] A.a_start_stands A.d_start_stands
  f_taken : Cal K mg "taken" s_taken ["receiver", "tolerance"] A.a_taken A.d_taken
  f_check_taken : Cal K mg "check_taken" s_check_taken ["receiver", "tolerance", "paper"] A.a_check_taken A.d_check_taken
  f_limit_of : Cal K mg "limit_of" s_limit_of ["receiver"] A.a_limit_of A.d_limit_of
  f_is_safe : Cal K mg "is_safe" s_is_safe ["receiver", "tolerance"] A.a_is_safe A.d_is_safe
  f_margin_of : Cal K mg "margin_of" s_margin_of ["receiver"] A.a_margin_of A.d_margin_of
  f_table_text : Cal K mg "table_text" s_table_text ["table"] A.a_table_text A.d_table_text
  f_burst_text : Cal K mg "burst_text" s_burst_text ["burst"] A.a_burst_text A.d_burst_text
  f__law_begin : Cal K mg "_law_begin" s__law_begin ["script"] A.a__law_begin A.d__law_begin
  f__law_next : Cal K mg "_law_next" s__law_next ["draw", "many"] A.a__law_next A.d__law_next
  f__law_pick : Cal K mg "_law_pick" s__law_pick ["draw", "some"] A.a__law_pick A.d__law_pick
  f__law_size : Cal K mg "_law_size" s__law_size ["draw"] A.a__law_size A.d__law_size
  f__law_table : Cal K mg "_law_table" s__law_table ["draw", "most"] A.a__law_table A.d__law_table
  f__law_like : Cal K mg "_law_like" s__law_like ["draw", "table"] A.a__law_like A.d__law_like
  f__law_receiver : Cal K mg "_law_receiver" s__law_receiver ["draw", "many", "most"] A.a__law_receiver A.d__law_receiver
  f__law_fault : Cal K mg "_law_fault" s__law_fault ["e"] A.a__law_fault A.d__law_fault
  f__law_said : Cal K mg "_law_said" s__law_said ["call"] A.a__law_said A.d__law_said
  f__law_bad_table : Cal K mg "_law_bad_table" s__law_bad_table ["draw", "table"] A.a__law_bad_table A.d__law_bad_table
  f__law_of_table : Cal K mg "_law_of_table" s__law_of_table ["odd", "due"] A.a__law_of_table A.d__law_of_table
  f__law_of_receiver : Cal K mg "_law_of_receiver" s__law_of_receiver ["odd", "due"] A.a__law_of_receiver A.d__law_of_receiver
  f__law_further_right : Cal K mg "_law_further_right" s__law_further_right ["draw", "receiver"] A.a__law_further_right A.d__law_further_right
  f_law : Cal K mg "law" s_law ["script"] A.a_law A.d_law
  d__law_of_table__law_of_receiver : A.t__law_of_table ≠ A.t__law_of_receiver
  d__law_of_table__law_further_right : A.t__law_of_table ≠ A.t__law_further_right
  d__law_of_receiver__law_further_right : A.t__law_of_receiver ≠ A.t__law_further_right
  l__law_of_table : FunC K "_law_of_table" "_law_of_table" s__law_of_table A.a__law_of_table A.d__law_of_table (.ref A.k__law_of_table)
  l__law_of_receiver : FunC K "_law_of_receiver" "_law_of_receiver" s__law_of_receiver A.a__law_of_receiver A.d__law_of_receiver (.ref A.k__law_of_receiver)
  l__law_further_right : FunC K "_law_further_right" "_law_further_right" s__law_further_right A.a__law_further_right A.d__law_further_right (.ref A.k__law_further_right)
  m_all : mg "all" = none
  m_bool : mg "bool" = none
  m_enumerate : mg "enumerate" = none
  m_int : mg "int" = none
  m_isinstance : mg "isinstance" = none
  m_len : mg "len" = none
  m_list : mg "list" = none
  m_range : mg "range" = none
  m_str : mg "str" = none
  m_tuple : mg "tuple" = none
  i_BadRatio : IsiC K A.c_BadRatio
  i_BadTable : IsiC K A.c_BadTable
  i_BadBurst : IsiC K A.c_BadBurst
  i_BadReceiver : IsiC K A.c_BadReceiver
  i_BadPaper : IsiC K A.c_BadPaper
  q_BadRatio_BadBurst : PySem.W.exmOne K (.ref A.c_BadRatio) (.ref A.c_BadBurst) = some false
  q_BadRatio_BadNumber : PySem.W.exmOne K (.ref A.c_BadRatio) (.ref A.c_BadNumber) = some false
  q_BadRatio_BadPaper : PySem.W.exmOne K (.ref A.c_BadRatio) (.ref A.c_BadPaper) = some false
  q_BadRatio_BadRatio : PySem.W.exmOne K (.ref A.c_BadRatio) (.ref A.c_BadRatio) = some true
  q_BadRatio_BadReceiver : PySem.W.exmOne K (.ref A.c_BadRatio) (.ref A.c_BadReceiver) = some false
  q_BadRatio_BadRow : PySem.W.exmOne K (.ref A.c_BadRatio) (.ref A.c_BadRow) = some false
  q_BadRatio_BadStyle : PySem.W.exmOne K (.ref A.c_BadRatio) (.ref A.c_BadStyle) = some false
  q_BadRatio_BadTable : PySem.W.exmOne K (.ref A.c_BadRatio) (.ref A.c_BadTable) = some false
  q_BadRatio_BadText : PySem.W.exmOne K (.ref A.c_BadRatio) (.ref A.c_BadText) = some false
  q_BadRatio_BadWord : PySem.W.exmOne K (.ref A.c_BadRatio) (.ref A.c_BadWord) = some false
  q_BadTable_BadBurst : PySem.W.exmOne K (.ref A.c_BadTable) (.ref A.c_BadBurst) = some false
  q_BadTable_BadNumber : PySem.W.exmOne K (.ref A.c_BadTable) (.ref A.c_BadNumber) = some false
  q_BadTable_BadPaper : PySem.W.exmOne K (.ref A.c_BadTable) (.ref A.c_BadPaper) = some false
  q_BadTable_BadRatio : PySem.W.exmOne K (.ref A.c_BadTable) (.ref A.c_BadRatio) = some false
  q_BadTable_BadReceiver : PySem.W.exmOne K (.ref A.c_BadTable) (.ref A.c_BadReceiver) = some false
  q_BadTable_BadRow : PySem.W.exmOne K (.ref A.c_BadTable) (.ref A.c_BadRow) = some false
  q_BadTable_BadStyle : PySem.W.exmOne K (.ref A.c_BadTable) (.ref A.c_BadStyle) = some false
  q_BadTable_BadTable : PySem.W.exmOne K (.ref A.c_BadTable) (.ref A.c_BadTable) = some true
  q_BadTable_BadText : PySem.W.exmOne K (.ref A.c_BadTable) (.ref A.c_BadText) = some false
  q_BadTable_BadWord : PySem.W.exmOne K (.ref A.c_BadTable) (.ref A.c_BadWord) = some false
  q_BadBurst_BadBurst : PySem.W.exmOne K (.ref A.c_BadBurst) (.ref A.c_BadBurst) = some true
  q_BadBurst_BadNumber : PySem.W.exmOne K (.ref A.c_BadBurst) (.ref A.c_BadNumber) = some false
  q_BadBurst_BadPaper : PySem.W.exmOne K (.ref A.c_BadBurst) (.ref A.c_BadPaper) = some false
  q_BadBurst_BadRatio : PySem.W.exmOne K (.ref A.c_BadBurst) (.ref A.c_BadRatio) = some false
  q_BadBurst_BadReceiver : PySem.W.exmOne K (.ref A.c_BadBurst) (.ref A.c_BadReceiver) = some false
  q_BadBurst_BadRow : PySem.W.exmOne K (.ref A.c_BadBurst) (.ref A.c_BadRow) = some false
  q_BadBurst_BadStyle : PySem.W.exmOne K (.ref A.c_BadBurst) (.ref A.c_BadStyle) = some false
  q_BadBurst_BadTable : PySem.W.exmOne K (.ref A.c_BadBurst) (.ref A.c_BadTable) = some false
  q_BadBurst_BadText : PySem.W.exmOne K (.ref A.c_BadBurst) (.ref A.c_BadText) = some false
  q_BadBurst_BadWord : PySem.W.exmOne K (.ref A.c_BadBurst) (.ref A.c_BadWord) = some false
  q_BadReceiver_BadBurst : PySem.W.exmOne K (.ref A.c_BadReceiver) (.ref A.c_BadBurst) = some false
  q_BadReceiver_BadNumber : PySem.W.exmOne K (.ref A.c_BadReceiver) (.ref A.c_BadNumber) = some false
  q_BadReceiver_BadPaper : PySem.W.exmOne K (.ref A.c_BadReceiver) (.ref A.c_BadPaper) = some false
  q_BadReceiver_BadRatio : PySem.W.exmOne K (.ref A.c_BadReceiver) (.ref A.c_BadRatio) = some false
  q_BadReceiver_BadReceiver : PySem.W.exmOne K (.ref A.c_BadReceiver) (.ref A.c_BadReceiver) = some true
  q_BadReceiver_BadRow : PySem.W.exmOne K (.ref A.c_BadReceiver) (.ref A.c_BadRow) = some false
  q_BadReceiver_BadStyle : PySem.W.exmOne K (.ref A.c_BadReceiver) (.ref A.c_BadStyle) = some false
  q_BadReceiver_BadTable : PySem.W.exmOne K (.ref A.c_BadReceiver) (.ref A.c_BadTable) = some false
  q_BadReceiver_BadText : PySem.W.exmOne K (.ref A.c_BadReceiver) (.ref A.c_BadText) = some false
  q_BadReceiver_BadWord : PySem.W.exmOne K (.ref A.c_BadReceiver) (.ref A.c_BadWord) = some false
  q_BadPaper_BadBurst : PySem.W.exmOne K (.ref A.c_BadPaper) (.ref A.c_BadBurst) = some false
  q_BadPaper_BadNumber : PySem.W.exmOne K (.ref A.c_BadPaper) (.ref A.c_BadNumber) = some false
  q_BadPaper_BadPaper : PySem.W.exmOne K (.ref A.c_BadPaper) (.ref A.c_BadPaper) = some true
  q_BadPaper_BadRatio : PySem.W.exmOne K (.ref A.c_BadPaper) (.ref A.c_BadRatio) = some false
  q_BadPaper_BadReceiver : PySem.W.exmOne K (.ref A.c_BadPaper) (.ref A.c_BadReceiver) = some false
  q_BadPaper_BadRow : PySem.W.exmOne K (.ref A.c_BadPaper) (.ref A.c_BadRow) = some false
  q_BadPaper_BadStyle : PySem.W.exmOne K (.ref A.c_BadPaper) (.ref A.c_BadStyle) = some false
  q_BadPaper_BadTable : PySem.W.exmOne K (.ref A.c_BadPaper) (.ref A.c_BadTable) = some false
  q_BadPaper_BadText : PySem.W.exmOne K (.ref A.c_BadPaper) (.ref A.c_BadText) = some false
  q_BadPaper_BadWord : PySem.W.exmOne K (.ref A.c_BadPaper) (.ref A.c_BadWord) = some false
  y_BadRatio_BadBurst : PySem.W.kitOne K (.ref A.c_BadRatio) (.ref A.c_BadBurst) = some false
  y_BadRatio_BadNumber : PySem.W.kitOne K (.ref A.c_BadRatio) (.ref A.c_BadNumber) = some false
  y_BadRatio_BadPaper : PySem.W.kitOne K (.ref A.c_BadRatio) (.ref A.c_BadPaper) = some false
  y_BadRatio_BadRatio : PySem.W.kitOne K (.ref A.c_BadRatio) (.ref A.c_BadRatio) = some true
  y_BadRatio_BadReceiver : PySem.W.kitOne K (.ref A.c_BadRatio) (.ref A.c_BadReceiver) = some false
  y_BadRatio_BadRow : PySem.W.kitOne K (.ref A.c_BadRatio) (.ref A.c_BadRow) = some false
  y_BadRatio_BadStyle : PySem.W.kitOne K (.ref A.c_BadRatio) (.ref A.c_BadStyle) = some false
  y_BadRatio_BadTable : PySem.W.kitOne K (.ref A.c_BadRatio) (.ref A.c_BadTable) = some false
  y_BadRatio_BadWord : PySem.W.kitOne K (.ref A.c_BadRatio) (.ref A.c_BadWord) = some false
  y_BadTable_BadBurst : PySem.W.kitOne K (.ref A.c_BadTable) (.ref A.c_BadBurst) = some false
  y_BadTable_BadNumber : PySem.W.kitOne K (.ref A.c_BadTable) (.ref A.c_BadNumber) = some false
  y_BadTable_BadPaper : PySem.W.kitOne K (.ref A.c_BadTable) (.ref A.c_BadPaper) = some false
  y_BadTable_BadRatio : PySem.W.kitOne K (.ref A.c_BadTable) (.ref A.c_BadRatio) = some false
  y_BadTable_BadReceiver : PySem.W.kitOne K (.ref A.c_BadTable) (.ref A.c_BadReceiver) = some false
  y_BadTable_BadRow : PySem.W.kitOne K (.ref A.c_BadTable) (.ref A.c_BadRow) = some false
  y_BadTable_BadStyle : PySem.W.kitOne K (.ref A.c_BadTable) (.ref A.c_BadStyle) = some false
  y_BadTable_BadTable : PySem.W.kitOne K (.ref A.c_BadTable) (.ref A.c_BadTable) = some true
  y_BadTable_BadWord : PySem.W.kitOne K (.ref A.c_BadTable) (.ref A.c_BadWord) = some false
  y_BadBurst_BadBurst : PySem.W.kitOne K (.ref A.c_BadBurst) (.ref A.c_BadBurst) = some true
  y_BadBurst_BadNumber : PySem.W.kitOne K (.ref A.c_BadBurst) (.ref A.c_BadNumber) = some false
  y_BadBurst_BadPaper : PySem.W.kitOne K (.ref A.c_BadBurst) (.ref A.c_BadPaper) = some false
  y_BadBurst_BadRatio : PySem.W.kitOne K (.ref A.c_BadBurst) (.ref A.c_BadRatio) = some false
  y_BadBurst_BadReceiver : PySem.W.kitOne K (.ref A.c_BadBurst) (.ref A.c_BadReceiver) = some false
  y_BadBurst_BadRow : PySem.W.kitOne K (.ref A.c_BadBurst) (.ref A.c_BadRow) = some false
  y_BadBurst_BadStyle : PySem.W.kitOne K (.ref A.c_BadBurst) (.ref A.c_BadStyle) = some false
  y_BadBurst_BadTable : PySem.W.kitOne K (.ref A.c_BadBurst) (.ref A.c_BadTable) = some false
  y_BadBurst_BadWord : PySem.W.kitOne K (.ref A.c_BadBurst) (.ref A.c_BadWord) = some false
  y_BadReceiver_BadBurst : PySem.W.kitOne K (.ref A.c_BadReceiver) (.ref A.c_BadBurst) = some false
  y_BadReceiver_BadNumber : PySem.W.kitOne K (.ref A.c_BadReceiver) (.ref A.c_BadNumber) = some false
  y_BadReceiver_BadPaper : PySem.W.kitOne K (.ref A.c_BadReceiver) (.ref A.c_BadPaper) = some false
  y_BadReceiver_BadRatio : PySem.W.kitOne K (.ref A.c_BadReceiver) (.ref A.c_BadRatio) = some false
  y_BadReceiver_BadReceiver : PySem.W.kitOne K (.ref A.c_BadReceiver) (.ref A.c_BadReceiver) = some true
  y_BadReceiver_BadRow : PySem.W.kitOne K (.ref A.c_BadReceiver) (.ref A.c_BadRow) = some false
  y_BadReceiver_BadStyle : PySem.W.kitOne K (.ref A.c_BadReceiver) (.ref A.c_BadStyle) = some false
  y_BadReceiver_BadTable : PySem.W.kitOne K (.ref A.c_BadReceiver) (.ref A.c_BadTable) = some false
  y_BadReceiver_BadWord : PySem.W.kitOne K (.ref A.c_BadReceiver) (.ref A.c_BadWord) = some false
  y_BadPaper_BadBurst : PySem.W.kitOne K (.ref A.c_BadPaper) (.ref A.c_BadBurst) = some false
  y_BadPaper_BadNumber : PySem.W.kitOne K (.ref A.c_BadPaper) (.ref A.c_BadNumber) = some false
  y_BadPaper_BadPaper : PySem.W.kitOne K (.ref A.c_BadPaper) (.ref A.c_BadPaper) = some true
  y_BadPaper_BadRatio : PySem.W.kitOne K (.ref A.c_BadPaper) (.ref A.c_BadRatio) = some false
  y_BadPaper_BadReceiver : PySem.W.kitOne K (.ref A.c_BadPaper) (.ref A.c_BadReceiver) = some false
  y_BadPaper_BadRow : PySem.W.kitOne K (.ref A.c_BadPaper) (.ref A.c_BadRow) = some false
  y_BadPaper_BadStyle : PySem.W.kitOne K (.ref A.c_BadPaper) (.ref A.c_BadStyle) = some false
  y_BadPaper_BadTable : PySem.W.kitOne K (.ref A.c_BadPaper) (.ref A.c_BadTable) = some false
  y_BadPaper_BadWord : PySem.W.kitOne K (.ref A.c_BadPaper) (.ref A.c_BadWord) = some false
  c_MOST_BITS : ∃ u, mg "MOST_BITS" = some u ∧ RelV (.int 8) u
  c_MOST_DURATION : ∃ u, mg "MOST_DURATION" = some u ∧ RelV (.int 99999) u
  c_MOST_ITEMS : ∃ u, mg "MOST_ITEMS" = some u ∧ RelV (.int 63) u
  c_MOST_PAIRS : ∃ u, mg "MOST_PAIRS" = some u ∧ RelV (.int 4) u
abbrev PG : Program := PySem.Challenge.pw_beamframes_k17_refused_in_order
section
variable {P : Program} {w : World} {K : PySem.W.Frag} {mg : Str → Option Value} {base : Heap} {A : Adr}
theorem ok_is_whole (T : Txt K mg A) : GOk PG w K mg base 1 A.a_is_whole A.d_is_whole ["thing"] (p_is_whole K) := by
  refine okF T.f_is_whole.fn sc_is_whole (fun cdv AA out s H E hr hg => ⟨t_is_whole K, ?_, fun S hmu ds hl hp => so_is_whole hmu hp⟩)
  exact (pss_one (ps_ret (pe_and (pe_callB call_isi (by rfl) T.m_isinstance (by first | exact PySem.boot_isinstance | exact PyProof.Rows.boot_isinstance | decide +kernel) (pa_cons (pv 0) (pa_cons (pe_bltn (v := .ty "int") (by rfl) T.m_int (by first | exact PySem.boot_int | decide +kernel) rfl) pa_nil))) (pe_one (pe_not (pe_callB call_isi (by rfl) T.m_isinstance (by first | exact PySem.boot_isinstance | exact PyProof.Rows.boot_isinstance | decide +kernel) (pa_cons (pv 0) (pa_cons (pe_bltn (v := .ty "bool") (by rfl) T.m_bool (by first | exact PySem.boot_bool | decide +kernel) rfl) pa_nil))))))))
theorem ratI (T : Txt K mg A) : RatI PG K mg A.i_Ratio A.e_Ratio A.c_Ratio := by
  refine ⟨fun w base => ?_, ?_, ?_⟩
  · refine okGD T.g_fi sc_rI (fun vs H Q E h => ?_) fun cdv AA out s H vs Q E hr hg h => ⟨t_rat_init K, PSs.nox ?_, rd_rat_init T.r_Ratio h⟩
    · obtain ⟨x, dx, n, m, rfl, _⟩ := h
      rfl
    · exact (pss_cons (ps_if (pt_not (PW.pt (pw_and (pt_val (pe_g (G := (ok_is_whole T)) (hb := T.f_is_whole.bp) (hm := T.f_is_whole.gl) (hk := T.f_is_whole.fn.kp) (hr := hr.mono (by decide)) (hgd := hg) (hx := passL) (ha := (pa_cons (pv 1) pa_nil)))) (pw_and (pt_val (pe_g (G := (ok_is_whole T)) (hb := T.f_is_whole.bp) (hm := T.f_is_whole.gl) (hk := T.f_is_whole.fn.kp) (hr := hr.mono (by decide)) (hgd := hg) (hx := passL) (ha := (pa_cons (pv 2) pa_nil)))) (pw_and (pt_cmpR op_ge (pv 1) pe_int (nomark _)) (pw_and1 (pt_cmpR op_ge (pv 2) pe_int (nomark _)))))))) (pss_one ps_never) pss_nil) (pss_cons (ps_set (i := 3) sc_rI.nd rfl (Or.inl rfl) (pe_callBfun cr_gcd rfl T.m_gcd (pa_cons (pv 1) (pa_cons (pv 2) pa_nil)))) (pss_cons (ps_fld (pv 0) (pe_op op_fdivW (pv 1) (pv 3)) rfl) (pss_one (ps_fld (pv 0) (pe_op op_fdivW (pv 2) (pv 3)) rfl)))))
  · obtain ⟨ds, r, b⟩ := T.g_fi.binds1 (ps := ["self", "num", "den"]) 3 1 (by simp) rfl (fun T kV doc pm an cdv ct us its hu hi => match us, hu, its, hi with | [_, _, _], _, [_], _ => ⟨_, rfl, rfl⟩)
    cases r
    exact b
  · exact T.g_fi.binds1 (ps := ["self", "num", "den"]) 2 0 (by simp) rfl (fun T kV doc pm an cdv ct us its hu hi => match us, hu, its, hi with | [_, _], _, [_], _ => ⟨_, rfl, rfl⟩)
theorem ok_begins_with (T : Txt K mg A) : GOk PG w K mg base 1 A.a_begins_with A.d_begins_with ["thing", "name", "size"] (p_begins_withR K A.c_Ratio) := by
  refine okR T.f_begins_with.fn sc_begins_with (fun cdv AA out s H E hr hg => ⟨t_begins_with K, ?_, fun S hmu ds d hl hp => so_begins_withR T.r_Ratio hmu hp⟩)
  exact (pss_cons (ps_if (PW.pt (pw_or (pt_not (pt_val (pe_callB call_isi (by rfl) T.m_isinstance (by first | exact PySem.boot_isinstance | exact PyProof.Rows.boot_isinstance | decide +kernel) (pa_cons (pv 0) (pa_cons (pe_bltn (v := .ty "tuple") (by rfl) T.m_tuple (by first | exact PySem.boot_tuple | decide +kernel) rfl) pa_nil))))) (pw_or1 (pt_cmpR op_ne (pe_callB call_len_seq (by rfl) T.m_len (by first | exact PySem.boot_len | exact PyProof.Rows.boot_len | decide +kernel) (pa_cons (pv 0) pa_nil)) (pv 2) (nomark _))))) (pss_one (ps_ret pe_bl)) pss_nil)
      (pss_one (ps_ret (pe_and (pe_callB call_isi (by rfl) T.m_isinstance (by first | exact PySem.boot_isinstance | exact PyProof.Rows.boot_isinstance | decide +kernel) (pa_cons (pe_ix ix_seq (pv 0) pe_int (fun _ _ => rfl)) (pa_cons (pe_bltn (v := .ty "str") (by rfl) T.m_str (by first | exact PySem.boot_str | decide +kernel) rfl) pa_nil))) (pe_one (pe_cmpR op_eq (pe_ix ix_seq (pv 0) pe_int (fun _ _ => rfl)) (pv 1) (nomark _)))))))
theorem ok_need_ratio (T : Txt K mg A) : GOk PG w K mg base 1 A.a_need_ratio A.d_need_ratio ["thing"] (p_need_ratio17 K A.c_BadRatio A.c_Ratio) := by
  refine okX T.f_need_ratio.fn sc_need_ratio (fun cdv AA out s H E hr hg => ⟨t_need_ratio17 K A.c_BadRatio A.c_Ratio E, ?_, fun S hmu ds o hl hp hw => so_need_ratio17 T.r_Ratio hp hw⟩)
  exact (pss_cons (ps_if (pt_not (pt_val (pe_callB call_isi (by rfl) T.m_isinstance (by first | exact PySem.boot_isinstance | exact PyProof.Rows.boot_isinstance | decide +kernel) (pa_cons (pv 0) (pa_cons (pe_gc (by rfl) ⟨_, T.r_Ratio.gC, (by rfl)⟩) pa_nil))))) (pss_one (ps_raiseB rfl T.b_BadRatio hr (takes_of rfl rfl rfl rfl) (pa_cons (pv 0) pa_nil))) pss_nil)
      (pss_one (ps_ret (pv 0))))
theorem ok_is_pair (T : Txt K mg A) : GOk PG w K mg base 1 A.a_is_pair A.d_is_pair ["thing"] (p_is_pair K A.c_Ratio) := by
  refine okR T.f_is_pair.fn sc_is_pair (fun cdv AA out s H E hr hg => ⟨t_is_pair K, ?_, fun S hmu ds d hl hp => so_is_pair T.r_Ratio hp⟩)
  exact (pss_one (ps_ret (pe_and (pe_callB call_isi (by rfl) T.m_isinstance (by first | exact PySem.boot_isinstance | exact PyProof.Rows.boot_isinstance | decide +kernel) (pa_cons (pv 0) (pa_cons (pe_bltn (v := .ty "tuple") (by rfl) T.m_tuple (by first | exact PySem.boot_tuple | decide +kernel) rfl) pa_nil))) (pe_one (pe_cmpR op_eq (pe_callB call_len_seq (by rfl) T.m_len (by first | exact PySem.boot_len | exact PyProof.Rows.boot_len | decide +kernel) (pa_cons (pv 0) pa_nil)) pe_int (nomark _))))))
theorem ok__law_begin (T : Txt K mg A) : GOk PG w K mg base 1 A.a__law_begin A.d__law_begin ["script"] (spBT K) := by
  refine okG T.f__law_begin.fn sc__law_begin (fun vs H Q E h => ?_) fun cdv AA out s H vs Q E hr hg h => ⟨t__law_begin K, ?_, ?_⟩
  · obtain ⟨s, ns, T', rfl, _⟩ := h
    rfl
  · exact (pss_one (ps_ret (pe_disp (pps_cons pe_str (pe_op op_catS (pv 0) (pe_lst (pa_cons pe_int pa_nil))) (pps_cons pe_str pe_int (pps_cons pe_str pe_int (pps_cons pe_str pe_int pps_nil)))) (by rfl) (by rfl) (fun z => by cases z) (by decide))))
  · obtain ⟨s, ns, T', rfl, hs, hl, hT, q⟩ := h
    exact rd__law_beginT rfl hs hl hT q
theorem ok__law_next (T : Txt K mg A) : GOk PG w K mg base 1 A.a__law_next A.d__law_next ["draw", "many"] (p__law_next K) := by
  refine okD T.f__law_next.fn sc__law_next rfl (fun cdv AA out s H E hr hg => ⟨t__law_next K, ?_, fun a c cs n ds hc hn hl hp => so__law_next hc hn hp⟩)
  exact (pss_cons (ps_if (pt_cmpR op_gt (pe_dget (hu_of hr) (pv 0) pe_str (fun _ _ => rfl)) pe_int (nomark _)) (pss_cons (ps_asg (pe_tup (pa_cons (pe_dget (hu_of hr) (pv 0) pe_str (fun _ _ => rfl)) (pa_cons (pe_op op_fdivW (pe_dget (hu_of hr) (pv 0) pe_str (fun _ _ => rfl)) (pv 1)) pa_nil))) (pg_tup rfl (pgs_cons (pg_name (i := 2) sc__law_next.nd rfl (Or.inl rfl)) (pgs_cons (pg_sub (pv 0) pe_str (set_dict (hu_of hr))) pgs_nil))))
      (pss_one (ps_ret (pe_op op_mod (pv 2) (pv 1))))) pss_nil)
      (pss_cons (ps_set (i := 3) sc__law_next.nd rfl (Or.inl rfl) (pe_dget (hu_of hr) (pv 0) pe_str (fun _ _ => rfl)))
      (pss_cons (ps_set (i := 2) sc__law_next.nd rfl (Or.inl rfl) (pe_ix ix_seq (pv 3) (pe_op op_mod (pe_dget (hu_of hr) (pv 0) pe_str (fun _ _ => rfl)) (pe_callB call_len_seq (by rfl) T.m_len (by first | exact PySem.boot_len | exact PyProof.Rows.boot_len | decide +kernel) (pa_cons (pv 3) pa_nil))) (fun _ _ => rfl)))
      (pss_cons (ps_asg (pe_op op_add (pe_dget (hu_of hr) (pv 0) pe_str (fun _ _ => rfl)) pe_int) (pg_sub (pv 0) pe_str (set_dict (hu_of hr))))
      (pss_cons (ps_if (PW.pt (pw_and (pt_cmpR op_ge (pv 2) (pe_op op_pow pe_int pe_int) (nomark _)) (pw_and1 (pt_cmpR op_le (pe_dget (hu_of hr) (pv 0) pe_str (fun _ _ => rfl)) (pe_callB call_len_seq (by rfl) T.m_len (by first | exact PySem.boot_len | exact PyProof.Rows.boot_len | decide +kernel) (pa_cons (pv 3) pa_nil)) (nomark _))))) (pss_cons (ps_asg (pe_op op_fdivW (pv 2) (pv 1)) (pg_sub (pv 0) pe_str (set_dict (hu_of hr))))
      (pss_one (ps_ret (pe_op op_mod (pv 2) (pv 1))))) pss_nil)
      (pss_cons (ps_asg (pe_op op_add (pe_dget (hu_of hr) (pv 0) pe_str (fun _ _ => rfl)) pe_int) (pg_sub (pv 0) pe_str (set_dict (hu_of hr))))
      (pss_cons (ps_set (i := 4) sc__law_next.nd rfl (Or.inl rfl) (pe_op op_add (pe_op op_mod (pv 2) pe_int) (pe_op op_mulW (pe_op op_mulW pe_int (pe_dget (hu_of hr) (pv 0) pe_str (fun _ _ => rfl))) (pe_dget (hu_of hr) (pv 0) pe_str (fun _ _ => rfl)))))
      (pss_cons (ps_for PassesOwn.never rfl (pi_tup (pe_tup (pa_cons (pe_dget (hu_of hr) (pv 0) pe_str (fun _ _ => rfl)) (pa_cons (pe_dget (hu_of hr) (pv 0) pe_str (fun _ _ => rfl)) pa_nil)))) (pg_name (i := 5) sc__law_next.nd rfl (Or.inl rfl)) (pss_cons (ps_set (i := 4) sc__law_next.nd rfl (Or.inl rfl) (pe_op op_mod (pe_op op_mulW (pe_op op_add (pe_op op_add (pv 4) (pe_op op_mulW pe_int (pv 5))) pe_int) pe_int) pe_int))
      (pss_one (ps_set (i := 4) sc__law_next.nd rfl (Or.inl rfl) (pe_op op_mod (pe_op op_mulW (pv 4) (pe_op op_add pe_int (pe_op op_mulW pe_int (pe_op op_mod (pv 5) pe_int)))) pe_int)))))
      (pss_one (ps_ret (pe_op op_mod (pe_op op_fdivW (pv 4) pe_int) (pv 1))))))))))))
theorem ten_BadRatio (T : Txt K mg A) : IsTen K ⟨A.c_BadRatio, A.c_BadTable, A.c_BadWord, A.c_BadBurst, A.c_BadReceiver, A.c_BadNumber, A.c_BadPaper, A.c_BadStyle, A.c_BadRow, A.c_BadText⟩ A.c_BadRatio 0 := by
  refine ⟨rfl, fun j D hj h => ?_, exmAny_cons_of T.q_BadRatio_BadRatio (exmAny_cons_of T.q_BadRatio_BadTable (exmAny_cons_of T.q_BadRatio_BadWord (exmAny_cons_of T.q_BadRatio_BadBurst (exmAny_cons_of T.q_BadRatio_BadReceiver (exmAny_cons_of T.q_BadRatio_BadNumber (exmAny_cons_of T.q_BadRatio_BadPaper (exmAny_cons_of T.q_BadRatio_BadStyle (exmAny_cons_of T.q_BadRatio_BadRow (exmAny_cons_of T.q_BadRatio_BadText rfl)))))))))⟩
  match j, hj, h with
  | 0, _, h => cases h; exact T.y_BadRatio_BadRatio
  | 1, _, h => cases h; exact T.y_BadRatio_BadTable
  | 2, _, h => cases h; exact T.y_BadRatio_BadWord
  | 3, _, h => cases h; exact T.y_BadRatio_BadBurst
  | 4, _, h => cases h; exact T.y_BadRatio_BadReceiver
  | 5, _, h => cases h; exact T.y_BadRatio_BadNumber
  | 6, _, h => cases h; exact T.y_BadRatio_BadPaper
  | 7, _, h => cases h; exact T.y_BadRatio_BadStyle
  | 8, _, h => cases h; exact T.y_BadRatio_BadRow
  | j + 9, hj, h => omega
theorem ten_BadTable (T : Txt K mg A) : IsTen K ⟨A.c_BadRatio, A.c_BadTable, A.c_BadWord, A.c_BadBurst, A.c_BadReceiver, A.c_BadNumber, A.c_BadPaper, A.c_BadStyle, A.c_BadRow, A.c_BadText⟩ A.c_BadTable 1 := by
  refine ⟨rfl, fun j D hj h => ?_, exmAny_cons_of T.q_BadTable_BadRatio (exmAny_cons_of T.q_BadTable_BadTable (exmAny_cons_of T.q_BadTable_BadWord (exmAny_cons_of T.q_BadTable_BadBurst (exmAny_cons_of T.q_BadTable_BadReceiver (exmAny_cons_of T.q_BadTable_BadNumber (exmAny_cons_of T.q_BadTable_BadPaper (exmAny_cons_of T.q_BadTable_BadStyle (exmAny_cons_of T.q_BadTable_BadRow (exmAny_cons_of T.q_BadTable_BadText rfl)))))))))⟩
  match j, hj, h with
  | 0, _, h => cases h; exact T.y_BadTable_BadRatio
  | 1, _, h => cases h; exact T.y_BadTable_BadTable
  | 2, _, h => cases h; exact T.y_BadTable_BadWord
  | 3, _, h => cases h; exact T.y_BadTable_BadBurst
  | 4, _, h => cases h; exact T.y_BadTable_BadReceiver
  | 5, _, h => cases h; exact T.y_BadTable_BadNumber
  | 6, _, h => cases h; exact T.y_BadTable_BadPaper
  | 7, _, h => cases h; exact T.y_BadTable_BadStyle
  | 8, _, h => cases h; exact T.y_BadTable_BadRow
  | j + 9, hj, h => omega
theorem ten_BadBurst (T : Txt K mg A) : IsTen K ⟨A.c_BadRatio, A.c_BadTable, A.c_BadWord, A.c_BadBurst, A.c_BadReceiver, A.c_BadNumber, A.c_BadPaper, A.c_BadStyle, A.c_BadRow, A.c_BadText⟩ A.c_BadBurst 3 := by
  refine ⟨rfl, fun j D hj h => ?_, exmAny_cons_of T.q_BadBurst_BadRatio (exmAny_cons_of T.q_BadBurst_BadTable (exmAny_cons_of T.q_BadBurst_BadWord (exmAny_cons_of T.q_BadBurst_BadBurst (exmAny_cons_of T.q_BadBurst_BadReceiver (exmAny_cons_of T.q_BadBurst_BadNumber (exmAny_cons_of T.q_BadBurst_BadPaper (exmAny_cons_of T.q_BadBurst_BadStyle (exmAny_cons_of T.q_BadBurst_BadRow (exmAny_cons_of T.q_BadBurst_BadText rfl)))))))))⟩
  match j, hj, h with
  | 0, _, h => cases h; exact T.y_BadBurst_BadRatio
  | 1, _, h => cases h; exact T.y_BadBurst_BadTable
  | 2, _, h => cases h; exact T.y_BadBurst_BadWord
  | 3, _, h => cases h; exact T.y_BadBurst_BadBurst
  | 4, _, h => cases h; exact T.y_BadBurst_BadReceiver
  | 5, _, h => cases h; exact T.y_BadBurst_BadNumber
  | 6, _, h => cases h; exact T.y_BadBurst_BadPaper
  | 7, _, h => cases h; exact T.y_BadBurst_BadStyle
  | 8, _, h => cases h; exact T.y_BadBurst_BadRow
  | j + 9, hj, h => omega
theorem ten_BadReceiver (T : Txt K mg A) : IsTen K ⟨A.c_BadRatio, A.c_BadTable, A.c_BadWord, A.c_BadBurst, A.c_BadReceiver, A.c_BadNumber, A.c_BadPaper, A.c_BadStyle, A.c_BadRow, A.c_BadText⟩ A.c_BadReceiver 4 := by
  refine ⟨rfl, fun j D hj h => ?_, exmAny_cons_of T.q_BadReceiver_BadRatio (exmAny_cons_of T.q_BadReceiver_BadTable (exmAny_cons_of T.q_BadReceiver_BadWord (exmAny_cons_of T.q_BadReceiver_BadBurst (exmAny_cons_of T.q_BadReceiver_BadReceiver (exmAny_cons_of T.q_BadReceiver_BadNumber (exmAny_cons_of T.q_BadReceiver_BadPaper (exmAny_cons_of T.q_BadReceiver_BadStyle (exmAny_cons_of T.q_BadReceiver_BadRow (exmAny_cons_of T.q_BadReceiver_BadText rfl)))))))))⟩
  match j, hj, h with
  | 0, _, h => cases h; exact T.y_BadReceiver_BadRatio
  | 1, _, h => cases h; exact T.y_BadReceiver_BadTable
  | 2, _, h => cases h; exact T.y_BadReceiver_BadWord
  | 3, _, h => cases h; exact T.y_BadReceiver_BadBurst
  | 4, _, h => cases h; exact T.y_BadReceiver_BadReceiver
  | 5, _, h => cases h; exact T.y_BadReceiver_BadNumber
  | 6, _, h => cases h; exact T.y_BadReceiver_BadPaper
  | 7, _, h => cases h; exact T.y_BadReceiver_BadStyle
  | 8, _, h => cases h; exact T.y_BadReceiver_BadRow
  | j + 9, hj, h => omega
theorem ten_BadPaper (T : Txt K mg A) : IsTen K ⟨A.c_BadRatio, A.c_BadTable, A.c_BadWord, A.c_BadBurst, A.c_BadReceiver, A.c_BadNumber, A.c_BadPaper, A.c_BadStyle, A.c_BadRow, A.c_BadText⟩ A.c_BadPaper 6 := by
  refine ⟨rfl, fun j D hj h => ?_, exmAny_cons_of T.q_BadPaper_BadRatio (exmAny_cons_of T.q_BadPaper_BadTable (exmAny_cons_of T.q_BadPaper_BadWord (exmAny_cons_of T.q_BadPaper_BadBurst (exmAny_cons_of T.q_BadPaper_BadReceiver (exmAny_cons_of T.q_BadPaper_BadNumber (exmAny_cons_of T.q_BadPaper_BadPaper (exmAny_cons_of T.q_BadPaper_BadStyle (exmAny_cons_of T.q_BadPaper_BadRow (exmAny_cons_of T.q_BadPaper_BadText rfl)))))))))⟩
  match j, hj, h with
  | 0, _, h => cases h; exact T.y_BadPaper_BadRatio
  | 1, _, h => cases h; exact T.y_BadPaper_BadTable
  | 2, _, h => cases h; exact T.y_BadPaper_BadWord
  | 3, _, h => cases h; exact T.y_BadPaper_BadBurst
  | 4, _, h => cases h; exact T.y_BadPaper_BadReceiver
  | 5, _, h => cases h; exact T.y_BadPaper_BadNumber
  | 6, _, h => cases h; exact T.y_BadPaper_BadPaper
  | 7, _, h => cases h; exact T.y_BadPaper_BadStyle
  | 8, _, h => cases h; exact T.y_BadPaper_BadRow
  | j + 9, hj, h => omega
theorem ok__law_fault (T : Txt K mg A) : GOk PG w K mg base 1 A.a__law_fault A.d__law_fault ["e"] (p__law_faultG K ⟨A.c_BadRatio, A.c_BadTable, A.c_BadWord, A.c_BadBurst, A.c_BadReceiver, A.c_BadNumber, A.c_BadPaper, A.c_BadStyle, A.c_BadRow, A.c_BadText⟩ [A.c_BadRatio, A.c_BadTable, A.c_BadBurst, A.c_BadReceiver, A.c_BadPaper] [A.c_BadRatio, A.c_BadBurst] [A.c_BadTable, A.c_BadPaper]) := by
  refine okR T.f__law_fault.fn sc__law_fault (fun cdv AA out s H E hr hg => ⟨t__law_faultG K ⟨A.c_BadRatio, A.c_BadTable, A.c_BadWord, A.c_BadBurst, A.c_BadReceiver, A.c_BadNumber, A.c_BadPaper, A.c_BadStyle, A.c_BadRow, A.c_BadText⟩ [A.c_BadRatio, A.c_BadTable, A.c_BadBurst, A.c_BadReceiver, A.c_BadPaper] [A.c_BadRatio, A.c_BadBurst] [A.c_BadTable, A.c_BadPaper], ?_, fun S hmu ds d hl hp => so__law_faultG hmu hp⟩)
  exact (pss_cons (ps_set (i := 1) sc__law_fault.nd rfl (Or.inl rfl) (pe_lst (pa_cons (pe_callB (call_isiE (Cs := [A.c_BadRatio, A.c_BadTable, A.c_BadBurst, A.c_BadReceiver, A.c_BadPaper]) (fun C hC => by simp only [List.mem_cons, List.not_mem_nil, or_false] at hC; rcases hC with rfl | rfl | rfl | rfl | rfl <;> first | exact T.i_BadRatio | exact T.i_BadTable | exact T.i_BadBurst | exact T.i_BadReceiver | exact T.i_BadPaper)) (by rfl) T.m_isinstance (by first | exact PySem.boot_isinstance | exact PyProof.Rows.boot_isinstance | decide +kernel) (pa_cons (pv 0) (pa_cons (pe_gc rfl ⟨_, T.b_BadRatio.gC, rfl⟩) pa_nil))) (pa_cons (pe_callB (call_isiE (Cs := [A.c_BadRatio, A.c_BadTable, A.c_BadBurst, A.c_BadReceiver, A.c_BadPaper]) (fun C hC => by simp only [List.mem_cons, List.not_mem_nil, or_false] at hC; rcases hC with rfl | rfl | rfl | rfl | rfl <;> first | exact T.i_BadRatio | exact T.i_BadTable | exact T.i_BadBurst | exact T.i_BadReceiver | exact T.i_BadPaper)) (by rfl) T.m_isinstance (by first | exact PySem.boot_isinstance | exact PyProof.Rows.boot_isinstance | decide +kernel) (pa_cons (pv 0) (pa_cons (pe_gc rfl ⟨_, T.b_BadWord.gC, rfl⟩) pa_nil))) (pa_cons (pe_callB (call_isiE (Cs := [A.c_BadRatio, A.c_BadTable, A.c_BadBurst, A.c_BadReceiver, A.c_BadPaper]) (fun C hC => by simp only [List.mem_cons, List.not_mem_nil, or_false] at hC; rcases hC with rfl | rfl | rfl | rfl | rfl <;> first | exact T.i_BadRatio | exact T.i_BadTable | exact T.i_BadBurst | exact T.i_BadReceiver | exact T.i_BadPaper)) (by rfl) T.m_isinstance (by first | exact PySem.boot_isinstance | exact PyProof.Rows.boot_isinstance | decide +kernel) (pa_cons (pv 0) (pa_cons (pe_gc rfl ⟨_, T.b_BadBurst.gC, rfl⟩) pa_nil))) (pa_cons (pe_callB (call_isiE (Cs := [A.c_BadRatio, A.c_BadTable, A.c_BadBurst, A.c_BadReceiver, A.c_BadPaper]) (fun C hC => by simp only [List.mem_cons, List.not_mem_nil, or_false] at hC; rcases hC with rfl | rfl | rfl | rfl | rfl <;> first | exact T.i_BadRatio | exact T.i_BadTable | exact T.i_BadBurst | exact T.i_BadReceiver | exact T.i_BadPaper)) (by rfl) T.m_isinstance (by first | exact PySem.boot_isinstance | exact PyProof.Rows.boot_isinstance | decide +kernel) (pa_cons (pv 0) (pa_cons (pe_gc rfl ⟨_, T.b_BadNumber.gC, rfl⟩) pa_nil))) pa_nil))))))
      (pss_cons (ps_expr (pe_bm PySem.F.plainAttrs_list PySem.F.slot_list_append PySem.F.type_list_append mt_append (pv 1) (pa_cons (pe_callB (call_isiE (Cs := [A.c_BadRatio, A.c_BadTable, A.c_BadBurst, A.c_BadReceiver, A.c_BadPaper]) (fun C hC => by simp only [List.mem_cons, List.not_mem_nil, or_false] at hC; rcases hC with rfl | rfl | rfl | rfl | rfl <;> first | exact T.i_BadRatio | exact T.i_BadTable | exact T.i_BadBurst | exact T.i_BadReceiver | exact T.i_BadPaper)) (by rfl) T.m_isinstance (by first | exact PySem.boot_isinstance | exact PyProof.Rows.boot_isinstance | decide +kernel) (pa_cons (pv 0) (pa_cons (pe_gc rfl ⟨_, T.b_BadStyle.gC, rfl⟩) pa_nil))) pa_nil)))
      (pss_cons (ps_if (pt_cmpR op_eq (pe_bm PySem.F.plainAttrs_list PySem.F.slot_list_count PySem.F.type_list_count mt_countF (pv 1) (pa_cons pe_bl pa_nil)) pe_int (nomark _)) (pss_one (ps_ret (pe_tup (pa_cons (pe_ix ix_seq (pe_lst (pa_cons pe_str (pa_cons pe_str (pa_cons pe_str (pa_cons pe_str (pa_cons pe_str pa_nil)))))) (pe_bm PySem.F.plainAttrs_list PySem.F.slot_list_index PySem.F.type_list_index mt_index (pv 1) (pa_cons pe_bl pa_nil)) (fun _ _ => rfl)) (pa_cons (pe_kfld (Cs := [A.c_BadRatio, A.c_BadBurst]) (fun C hC => by simp only [List.mem_cons, List.not_mem_nil, or_false] at hC; rcases hC with rfl | rfl <;> first | exact T.b_BadRatio.keepC | exact T.b_BadBurst.keepC) (pv 0)) pa_nil))))) pss_nil)
      (pss_cons (ps_if (pt_val (pe_callB (call_isiTE (Cs := [A.c_BadRatio, A.c_BadTable, A.c_BadBurst, A.c_BadReceiver, A.c_BadPaper]) (fun C hC => by simp only [List.mem_cons, List.not_mem_nil, or_false] at hC; rcases hC with rfl | rfl | rfl | rfl | rfl <;> first | exact T.i_BadRatio | exact T.i_BadTable | exact T.i_BadBurst | exact T.i_BadReceiver | exact T.i_BadPaper)) (by rfl) T.m_isinstance (by first | exact PySem.boot_isinstance | exact PyProof.Rows.boot_isinstance | decide +kernel) (pa_cons (pv 0) (pa_cons (pe_tup (pa_cons (pe_gc rfl ⟨_, T.b_BadTable.gC, rfl⟩) (pa_cons (pe_gc rfl ⟨_, T.b_BadPaper.gC, rfl⟩) pa_nil))) pa_nil)))) (pss_one (ps_ret (pe_tup (pa_cons (pe_ifExp (pt_val (pe_callB (call_isiE (Cs := [A.c_BadRatio, A.c_BadTable, A.c_BadBurst, A.c_BadReceiver, A.c_BadPaper]) (fun C hC => by simp only [List.mem_cons, List.not_mem_nil, or_false] at hC; rcases hC with rfl | rfl | rfl | rfl | rfl <;> first | exact T.i_BadRatio | exact T.i_BadTable | exact T.i_BadBurst | exact T.i_BadReceiver | exact T.i_BadPaper)) (by rfl) T.m_isinstance (by first | exact PySem.boot_isinstance | exact PyProof.Rows.boot_isinstance | decide +kernel) (pa_cons (pv 0) (pa_cons (pe_gc rfl ⟨_, T.b_BadTable.gC, rfl⟩) pa_nil)))) pe_str pe_str) (pa_cons (pe_kfld (Cs := [A.c_BadTable, A.c_BadPaper]) (fun C hC => by simp only [List.mem_cons, List.not_mem_nil, or_false] at hC; rcases hC with rfl | rfl <;> first | exact T.b_BadTable.keepC | exact T.b_BadPaper.keepC) (pv 0)) pa_nil))))) pss_nil)
      (pss_cons (ps_if (pt_val (pe_callB (call_isiE (Cs := [A.c_BadRatio, A.c_BadTable, A.c_BadBurst, A.c_BadReceiver, A.c_BadPaper]) (fun C hC => by simp only [List.mem_cons, List.not_mem_nil, or_false] at hC; rcases hC with rfl | rfl | rfl | rfl | rfl <;> first | exact T.i_BadRatio | exact T.i_BadTable | exact T.i_BadBurst | exact T.i_BadReceiver | exact T.i_BadPaper)) (by rfl) T.m_isinstance (by first | exact PySem.boot_isinstance | exact PyProof.Rows.boot_isinstance | decide +kernel) (pa_cons (pv 0) (pa_cons (pe_gc rfl ⟨_, T.b_BadReceiver.gC, rfl⟩) pa_nil)))) (pss_one (ps_ret (pe_tup (pa_cons pe_str (pa_cons (pe_kfld (Cs := [A.c_BadReceiver]) (fun C hC => by simp only [List.mem_cons, List.not_mem_nil, or_false] at hC; subst hC; exact T.b_BadReceiver.keepC) (pv 0)) pa_nil))))) pss_nil)
      (pss_one (ps_ret (pe_ifExp (pt_val (pe_callB (call_isiE (Cs := [A.c_BadRatio, A.c_BadTable, A.c_BadBurst, A.c_BadReceiver, A.c_BadPaper]) (fun C hC => by simp only [List.mem_cons, List.not_mem_nil, or_false] at hC; rcases hC with rfl | rfl | rfl | rfl | rfl <;> first | exact T.i_BadRatio | exact T.i_BadTable | exact T.i_BadBurst | exact T.i_BadReceiver | exact T.i_BadPaper)) (by rfl) T.m_isinstance (by first | exact PySem.boot_isinstance | exact PyProof.Rows.boot_isinstance | decide +kernel) (pa_cons (pv 0) (pa_cons (pe_gc rfl ⟨_, T.b_BadRow.gC, rfl⟩) pa_nil)))) (pe_tup (pa_cons pe_str (pa_cons (pe_kfld (Cs := [A.c_BadRow]) (fun C hC => by simp only [List.mem_cons, List.not_mem_nil, or_false] at hC; subst hC; exact T.b_BadRow.keepC) (pv 0)) pa_nil))) (pe_tup (pa_cons pe_str (pa_cons (pe_kfld (Cs := [A.c_BadText]) (fun C hC => by simp only [List.mem_cons, List.not_mem_nil, or_false] at hC; subst hC; exact T.b_BadText.keepC) (pv 0)) pa_nil)))))))))))
theorem ok_is_whole_from (T : Txt K mg A) : GOk PG w K mg base 2 A.a_is_whole_from A.d_is_whole_from ["thing", "low", "high"] (p_is_whole_from K) := by
  refine okF T.f_is_whole_from.fn sc_is_whole_from (fun cdv AA out s H E hr hg => ⟨t_is_whole_from K, ?_, fun S hmu ds hl hp => so_is_whole_from hmu hp⟩)
  exact (pss_one (ps_ret (pe_and (pe_g (G := (ok_is_whole T)) (hb := T.f_is_whole.bp) (hm := T.f_is_whole.gl) (hk := T.f_is_whole.fn.kp) (hr := hr.mono (by decide)) (hgd := hg) (hx := passL) (ha := (pa_cons (pv 0) pa_nil))) (pe_one (pe_chain op_le op_le (pv 1) (pv 0) (pv 2))))))
theorem ok__law_pick (T : Txt K mg A) : GOk PG w K mg base 2 A.a__law_pick A.d__law_pick ["draw", "some"] (p__law_pick K) := by
  refine okD T.f__law_pick.fn sc__law_pick rfl (fun cdv AA out s H E hr hg => ⟨t__law_pick K, ?_, fun a c cs n ds hc hn hl hp => so__law_pick hc hn hp⟩)
  exact (pss_one (ps_ret (pe_ix ix_seq (pv 1) (pe_g (G := (ok__law_next T)) (hb := T.f__law_next.bp) (hm := T.f__law_next.gl) (hk := T.f__law_next.fn.kp) (hr := hr.mono (by decide)) (hgd := hg) (hx := passL) (ha := (pa_cons (pv 0) (pa_cons (pe_callB call_len_seq (by rfl) T.m_len (by first | exact PySem.boot_len | exact PyProof.Rows.boot_len | decide +kernel) (pa_cons (pv 1) pa_nil)) pa_nil)))) (fun _ _ => rfl))))
theorem ok__law_like (T : Txt K mg A) : GOk PG w K mg base 2 A.a__law_like A.d__law_like ["draw", "table"] (p__law_like K) := by
  refine okD T.f__law_like.fn sc__law_like rfl (fun cdv AA out s H E hr hg => ⟨t__law_like K, ?_, fun a c cs n ds hc hn hl hp => so__law_like hc hn hp⟩)
  exact (pss_cons (ps_set (i := 2) sc__law_like.nd rfl (Or.inl rfl) (pe_g (G := (ok__law_next T)) (hb := T.f__law_next.bp) (hm := T.f__law_next.gl) (hk := T.f__law_next.fn.kp) (hr := hr.mono (by decide)) (hgd := hg) (hx := passL) (ha := (pa_cons (pv 0) (pa_cons pe_int pa_nil)))))
      (pss_cons (ps_if (pt_cmpR op_eq (pe_ix ix_seq (pv 1) pe_int (fun _ _ => rfl)) pe_str (nomark _)) (pss_cons (ps_set (i := 3) sc__law_like.nd rfl (Or.inl rfl) (pe_ifExp (pt_cmpR op_eq (pv 2) pe_int (nomark _)) (pe_op op_add (pe_op op_mod (pe_ix ix_seq (pv 1) pe_int (fun _ _ => rfl)) pe_int) pe_int) (pe_ix ix_seq (pv 1) pe_int (fun _ _ => rfl))))
      (pss_one (ps_ret (pe_tup (pa_cons (pe_ix ix_seq (pv 1) pe_int (fun _ _ => rfl)) (pa_cons (pv 3) (pa_cons (pe_ifExp (pt_cmpR op_lt (pv 2) pe_int (nomark _)) (pe_ix ix_seq (pv 1) pe_int (fun _ _ => rfl)) (pe_op op_add pe_int (pe_op op_mod (pe_ix ix_seq (pv 1) pe_int (fun _ _ => rfl)) pe_int))) pa_nil))))))) pss_nil)
      (pss_cons (ps_asg (pv 1) (pg_tup rfl (pgs_cons (pg_name (i := 4) sc__law_like.nd rfl (Or.inl rfl)) (pgs_cons (pg_name (i := 5) sc__law_like.nd rfl (Or.inl rfl)) (pgs_cons (pg_name (i := 6) sc__law_like.nd rfl (Or.inl rfl)) (pgs_cons (pg_name (i := 7) sc__law_like.nd rfl (Or.inl rfl)) (pgs_cons (pg_name (i := 8) sc__law_like.nd rfl (Or.inl rfl)) (pgs_cons (pg_name (i := 9) sc__law_like.nd rfl (Or.inl rfl)) pgs_nil))))))))
      (pss_cons (ps_if (pt_cmpR op_eq (pv 2) pe_int (nomark _)) (pss_one (ps_ret (pe_tup (pa_cons (pv 4) (pa_cons (pv 5) (pa_cons (pv 7) (pa_cons (pv 6) (pa_cons (pv 8) (pa_cons (pv 9) pa_nil))))))))) pss_nil)
      (pss_cons (ps_if (pt_cmpR op_eq (pv 2) pe_int (nomark _)) (pss_one (ps_ret (pe_tup (pa_cons (pv 4) (pa_cons (pe_slice sl_tupA (pv 5) po_none (po_some (pe_un un_neg pe_int))) (pa_cons (pv 6) (pa_cons (pv 7) (pa_cons (pv 8) (pa_cons (pv 9) pa_nil))))))))) pss_nil)
      (pss_cons (ps_if (PW.pt (pw_and (pt_cmpR op_eq (pv 2) pe_int (nomark _)) (pw_and1 (pt_cmpR (op_neD hr.units) (pv 6) (pe_tup (pa_cons (pe_ix ix_seq (pv 7) pe_int (fun _ _ => rfl)) (pa_cons (pe_op op_add (pe_op op_mod (pe_ix ix_seq (pv 7) pe_int (fun _ _ => rfl)) pe_int) pe_int) pa_nil))) (nomark _))))) (pss_one (ps_ret (pe_tup (pa_cons (pv 4) (pa_cons (pv 5) (pa_cons (pv 6) (pa_cons (pe_tup (pa_cons (pe_ix ix_seq (pv 7) pe_int (fun _ _ => rfl)) (pa_cons (pe_op op_add (pe_op op_mod (pe_ix ix_seq (pv 7) pe_int (fun _ _ => rfl)) pe_int) pe_int) pa_nil))) (pa_cons (pv 8) (pa_cons (pv 9) pa_nil))))))))) pss_nil)
      (pss_cons (ps_set (i := 8) sc__law_like.nd rfl (Or.inl rfl) (pe_ifExp (pt_cmpR op_eq (pv 2) pe_int (nomark _)) (pe_op op_add (pe_op op_mod (pv 8) pe_int) pe_int) (pv 8)))
      (pss_one (ps_ret (pe_tup (pa_cons (pv 4) (pa_cons (pv 5) (pa_cons (pv 6) (pa_cons (pv 7) (pa_cons (pv 8) (pa_cons (pe_ifExp (pt_cmpR op_lt (pv 2) pe_int (nomark _)) (pv 9) (pe_op op_add pe_int (pe_op op_mod (pv 9) pe_int))) pa_nil))))))))))))))))
theorem ok_is_duration (T : Txt K mg A) : GOk PG w K mg base 3 A.a_is_duration A.d_is_duration ["thing"] (p_is_duration K) := by
  refine okF T.f_is_duration.fn sc_is_duration (fun cdv AA out s H E hr hg => ⟨t_is_duration K, ?_, fun S hmu ds hl hp => so_is_duration hmu hp⟩)
  exact (pss_one (ps_ret (pe_g (G := (ok_is_whole_from T)) (hb := T.f_is_whole_from.bp) (hm := T.f_is_whole_from.gl) (hk := T.f_is_whole_from.fn.kp) (hr := hr.mono (by decide)) (hgd := hg) (hx := passL) (ha := (pa_cons (pv 0) (pa_cons pe_int (pa_cons (pe_gc rfl T.c_MOST_DURATION) pa_nil)))))))
theorem ok_is_bit_count (T : Txt K mg A) : GOk PG w K mg base 3 A.a_is_bit_count A.d_is_bit_count ["thing"] (p_is_bit_count K) := by
  refine okF T.f_is_bit_count.fn sc_is_bit_count (fun cdv AA out s H E hr hg => ⟨t_is_bit_count K, ?_, fun S hmu ds hl hp => so_is_bit_count hmu hp⟩)
  exact (pss_one (ps_ret (pe_g (G := (ok_is_whole_from T)) (hb := T.f_is_whole_from.bp) (hm := T.f_is_whole_from.gl) (hk := T.f_is_whole_from.fn.kp) (hr := hr.mono (by decide)) (hgd := hg) (hx := passL) (ha := (pa_cons (pv 0) (pa_cons pe_int (pa_cons (pe_gc rfl T.c_MOST_BITS) pa_nil)))))))
theorem ok_is_below_one (T : Txt K mg A) : GOk PG w K mg base 3 A.a_is_below_one A.d_is_below_one ["thing"] (p_is_below_one K A.c_Ratio) := by
  refine okR T.f_is_below_one.fn sc_is_below_one (fun cdv AA out s H E hr hg => ⟨t_is_below_one K A.c_Ratio, ?_, fun S hmu ds d hl hp => so_is_below_one T.r_Ratio hp⟩)
  exact (pss_one (ps_ret (pe_and (pe_callB call_isi (by rfl) T.m_isinstance (by first | exact PySem.boot_isinstance | exact PyProof.Rows.boot_isinstance | decide +kernel) (pa_cons (pv 0) (pa_cons (pe_gc (by rfl) ⟨_, T.r_Ratio.gC, (by rfl)⟩) pa_nil))) (pe_one (pe_cmpR op_lt (pe_num T.r_Ratio T.g_Ratio (hr.mono (by decide)) (pv 0)) (pe_den T.r_Ratio T.g_Ratio (hr.mono (by decide)) (pv 0)) (nomark _))))))
theorem ok_is_above_zero (T : Txt K mg A) : GOk PG w K mg base 3 A.a_is_above_zero A.d_is_above_zero ["thing"] (p_is_above_zeroG K A.c_Ratio) := by
  refine okR T.f_is_above_zero.fn sc_is_above_zero (fun cdv AA out s H E hr hg => ⟨t_is_above_zero K A.c_Ratio, ?_, fun S hmu ds d hl hp => so_is_above_zeroG T.r_Ratio hp⟩)
  exact (pss_one (ps_ret (pe_and (pe_callB call_isi (by rfl) T.m_isinstance (by first | exact PySem.boot_isinstance | exact PyProof.Rows.boot_isinstance | decide +kernel) (pa_cons (pv 0) (pa_cons (pe_gc (by rfl) ⟨_, T.r_Ratio.gC, (by rfl)⟩) pa_nil))) (pe_one (pe_cmpR op_gt (pe_num T.r_Ratio T.g_Ratio (hr.mono (by decide)) (pv 0)) pe_int (nomark _))))))
theorem ok__law_size (T : Txt K mg A) : GOk PG w K mg base 3 A.a__law_size A.d__law_size ["draw"] (p__law_size K) := by
  refine okD T.f__law_size.fn sc__law_size rfl (fun cdv AA out s H E hr hg => ⟨t__law_size K, ?_, fun a c cs n ds hc hn hl hp => so__law_size hc hn hp⟩)
  exact (pss_cons (ps_par (i := 1) (j := 2) (by rfl) sc__law_size.nd rfl rfl (by decide) rfl rfl (pa_cons (pe_op op_add pe_int (pe_g (G := (ok__law_next T)) (hb := T.f__law_next.bp) (hm := T.f__law_next.gl) (hk := T.f__law_next.fn.kp) (hr := hr.mono (by decide)) (hgd := hg) (hx := passL) (ha := (pa_cons (pv 0) (pa_cons pe_int pa_nil))))) (pa_cons (pe_op op_add pe_int (pe_g (G := (ok__law_next T)) (hb := T.f__law_next.bp) (hm := T.f__law_next.gl) (hk := T.f__law_next.fn.kp) (hr := hr.mono (by decide)) (hgd := hg) (hx := passL) (ha := (pa_cons (pv 0) (pa_cons pe_int pa_nil))))) pa_nil)) (by rfl))
      (pss_one (ps_ret (pe_g (G := (ok__law_pick T)) (hb := T.f__law_pick.bp) (hm := T.f__law_pick.gl) (hk := T.f__law_pick.fn.kp) (hr := hr.mono (by decide)) (hgd := hg) (hx := passL) (ha := (pa_cons (pv 0) (pa_cons (pe_lst (pa_cons (pv 1) (pa_cons (pv 1) (pa_cons (pe_op op_add (pv 1) pe_int) (pa_cons (pv 2) (pa_cons pe_int (pa_cons pe_int pa_nil))))))) pa_nil)))))))
theorem ok__law_bad_table (T : Txt K mg A) : GOk PG w K mg base 3 A.a__law_bad_table A.d__law_bad_table ["draw", "table"] (p__law_bad_table K) := by
  refine okD T.f__law_bad_table.fn sc__law_bad_table rfl (fun cdv AA out s H E hr hg => ⟨t__law_bad_table K, ?_, fun a c cs n ds hc hn hl hp => so__law_bad_table hc hn hp⟩)
  exact (pss_cons (ps_if (pt_cmpR op_eq (pe_g (G := (ok__law_next T)) (hb := T.f__law_next.bp) (hm := T.f__law_next.gl) (hk := T.f__law_next.fn.kp) (hr := hr.mono (by decide)) (hgd := hg) (hx := passL) (ha := (pa_cons (pv 0) (pa_cons pe_int pa_nil)))) pe_int (nomark _)) (pss_one (ps_ret (pe_tup (pa_cons (pe_g (G := (ok__law_pick T)) (hb := T.f__law_pick.bp) (hm := T.f__law_pick.gl) (hk := T.f__law_pick.fn.kp) (hr := hr.mono (by decide)) (hgd := hg) (hx := passL) (ha := (pa_cons (pv 0) (pa_cons (pe_lst (pa_cons pe_non (pa_cons (pe_tup pa_nil) (pa_cons pe_str (pa_cons (pe_callTy call_list_of (by rfl) T.m_list (by first | exact PySem.boot_list | exact PyProof.Rows.boot_list | decide +kernel) (pa_cons (pv 1) pa_nil)) (pa_cons pe_int (pa_cons (pe_tup (pa_cons pe_str (pa_cons pe_int (pa_cons pe_int pa_nil)))) pa_nil))))))) pa_nil)))) (pa_cons pe_str pa_nil))))) pss_nil)
      (pss_cons (ps_set (i := 2) sc__law_bad_table.nd rfl (Or.inl rfl) (pe_op op_add (pe_g (G := (ok__law_next T)) (hb := T.f__law_next.bp) (hm := T.f__law_next.gl) (hk := T.f__law_next.fn.kp) (hr := hr.mono (by decide)) (hgd := hg) (hx := passL) (ha := (pa_cons (pv 0) (pa_cons (pe_op op_sub (pe_callB call_len_seq (by rfl) T.m_len (by first | exact PySem.boot_len | exact PyProof.Rows.boot_len | decide +kernel) (pa_cons (pv 1) pa_nil)) pe_int) pa_nil)))) pe_int))
      (pss_cons (ps_set (i := 3) sc__law_bad_table.nd rfl (Or.inl rfl) (pe_ix ix_seq (pe_ix ix_list (pe_lst (pa_cons (pe_lst (pa_cons pe_str (pa_cons pe_str pa_nil))) (pa_cons (pe_lst (pa_cons pe_str (pa_cons pe_str (pa_cons pe_str (pa_cons pe_str (pa_cons pe_str pa_nil)))))) pa_nil))) (pe_callTy call_int1 (by rfl) T.m_int (by first | exact PySem.boot_int | exact PyProof.Rows.boot_int | decide +kernel) (pa_cons (pe_cmpR op_eq (pe_callB call_len_seq (by rfl) T.m_len (by first | exact PySem.boot_len | exact PyProof.Rows.boot_len | decide +kernel) (pa_cons (pv 1) pa_nil)) pe_int (nomark _)) pa_nil)) (fun _ _ => rfl)) (pe_op op_sub (pv 2) pe_int) (fun _ _ => rfl)))
      (pss_one (ps_ret (pe_tup (pa_cons (pe_op op_catA (pe_op op_catA (pe_slice sl_tupA (pv 1) po_none (po_some (pv 2))) (pe_tup (pa_cons pe_non pa_nil))) (pe_slice sl_tupA (pv 1) (po_some (pe_op op_add (pv 2) pe_int)) po_none)) (pa_cons (pv 3) pa_nil))))))))
theorem ok_wrong_part_of_halves (T : Txt K mg A) : GOk PG w K mg base 4 A.a_wrong_part_of_halves A.d_wrong_part_of_halves ["thing"] (p_wrong_part_of_halves K) := by
  refine okF T.f_wrong_part_of_halves.fn sc_wrong_part_of_halves (fun cdv AA out s H E hr hg => ⟨t_wrong_part_of_halves K, ?_, fun S hmu ds hl hp => so_wrong_part_of_halves hmu hp⟩)
  exact (pss_cons (ps_if (pt_not (pt_val (pe_g (G := (ok_is_duration T)) (hb := T.f_is_duration.bp) (hm := T.f_is_duration.gl) (hk := T.f_is_duration.fn.kp) (hr := hr.mono (by decide)) (hgd := hg) (hx := passL) (ha := (pa_cons (pe_ix ix_seq (pv 0) pe_int (fun _ _ => rfl)) pa_nil))))) (pss_one (ps_ret pe_str)) pss_nil)
      (pss_cons (ps_if (pt_not (pt_val (pe_g (G := (ok_is_bit_count T)) (hb := T.f_is_bit_count.bp) (hm := T.f_is_bit_count.gl) (hk := T.f_is_bit_count.fn.kp) (hr := hr.mono (by decide)) (hgd := hg) (hx := passL) (ha := (pa_cons (pe_ix ix_seq (pv 0) pe_int (fun _ _ => rfl)) pa_nil))))) (pss_one (ps_ret pe_str)) pss_nil)
      (pss_one (ps_ret pe_non))))
theorem ok_are_durations (T : Txt K mg A) : GOk PG w K mg base 4 A.a_are_durations A.d_are_durations ["thing"] (p_are_durations K) := by
  refine okF T.f_are_durations.fn sc_are_durations (fun cdv AA out s H E hr hg => ⟨t_are_durations K, ?_, fun S hmu ds hl hp => so_are_durations hmu hp⟩)
  exact (pss_one (ps_ret (pe_and (pe_callB call_isi (by rfl) T.m_isinstance (by first | exact PySem.boot_isinstance | exact PyProof.Rows.boot_isinstance | decide +kernel) (pa_cons (pv 0) (pa_cons (pe_bltn (v := .ty "tuple") (by rfl) T.m_tuple (by first | exact PySem.boot_tuple | decide +kernel) rfl) pa_nil))) (pe_one (pe_callB (cr_all rfl) (by rfl) T.m_all (by first | exact PySem.boot_all | exact PyProof.Rows.boot_all | decide +kernel) (pa_cons (pe_lc (own := [("part", 1)]) (g := (gName 1)) (tt := tYes) (te := (tCall (p_is_duration K) [] E0 (tCons (tVar 1) tNil))) rfl sc_are_durations.nd (pi_tup (pv 0)) (blkOk_by (own := [("part", 1)]) (N := ["thing", "part"]) (sc := defScope s_are_durations) (by decide +kernel))  (fun _ _ _ _ _ => (pg_name (i := 1) sc_are_durations.nd rfl (Or.inl rfl))) (fun _ _ _ _ _ => pts_nil)  (fun _ _ _ _ _ => (pe_g (G := (ok_is_duration T)) (hb := T.f_is_duration.bp) (hm := T.f_is_duration.gl) (hk := T.f_is_duration.fn.kp) (hr := hr.mono (by decide)) (hgd := hg) (hx := passL) (ha := (pa_cons (pv 1) pa_nil))))) pa_nil))))))
theorem ok_is_burst (T : Txt K mg A) : GOk PG w K mg base 4 A.a_is_burst A.d_is_burst ["thing"] (p_is_burstG K A.c_Ratio) := by
  refine okR T.f_is_burst.fn sc_is_burst (fun cdv AA out s H E hr hg => ⟨t_is_burstG K A.c_Ratio, ?_, fun S hmu ds d hl hp => so_is_burstG T.r_Ratio hmu hp⟩)
  exact (pss_cons (ps_if (PW.pt (pw_or (pt_not (pt_val (pe_callB call_isi (by rfl) T.m_isinstance (by first | exact PySem.boot_isinstance | exact PyProof.Rows.boot_isinstance | decide +kernel) (pa_cons (pv 0) (pa_cons (pe_bltn (v := .ty "tuple") (by rfl) T.m_tuple (by first | exact PySem.boot_tuple | decide +kernel) rfl) pa_nil))))) (pw_or (pt_cmpR op_gt (pe_callB call_len_seq (by rfl) T.m_len (by first | exact PySem.boot_len | exact PyProof.Rows.boot_len | decide +kernel) (pa_cons (pv 0) pa_nil)) (pe_gc rfl T.c_MOST_ITEMS) (nomark _)) (pw_or1 (pt_cmpR op_eq (pe_op op_mod (pe_callB call_len_seq (by rfl) T.m_len (by first | exact PySem.boot_len | exact PyProof.Rows.boot_len | decide +kernel) (pa_cons (pv 0) pa_nil)) pe_int) pe_int (nomark _)))))) (pss_one (ps_ret pe_bl)) pss_nil)
      (pss_one (ps_ret (pe_callB (cr_all rfl) (by rfl) T.m_all (by first | exact PySem.boot_all | exact PyProof.Rows.boot_all | decide +kernel) (pa_cons (pe_lc (own := [("item", 1)]) (g := (gName 1)) (tt := tYes) (te := (tCall (p_is_above_zeroG K A.c_Ratio) [] E0 (tCons (tVar 1) tNil))) rfl sc_is_burst.nd (pi_tup (pv 0)) (blkOk_by (own := [("item", 1)]) (N := ["thing", "item"]) (sc := defScope s_is_burst) (by decide +kernel))  (fun _ _ _ _ _ => (pg_name (i := 1) sc_is_burst.nd rfl (Or.inl rfl))) (fun _ _ _ _ _ => pts_nil)  (fun _ _ _ _ _ => (pe_g (G := (ok_is_above_zero T)) (hb := T.f_is_above_zero.bp) (hm := T.f_is_above_zero.gl) (hk := T.f_is_above_zero.fn.kp) (hr := hr.mono (by decide)) (hgd := hg) (hx := passL) (ha := (pa_cons (pv 1) pa_nil))))) pa_nil)))))
theorem ok__law_table (T : Txt K mg A) : GOk PG w K mg base 4 A.a__law_table A.d__law_table ["draw", "most"] (p__law_table K) := by
  refine okD T.f__law_table.fn sc__law_table rfl (fun cdv AA out s H E hr hg => ⟨t__law_table K, ?_, fun a c cs n ds hc hn hl hp => so__law_table hc hn hp⟩)
  exact (pss_cons (ps_set (i := 2) sc__law_table.nd rfl (Or.inl rfl) (pe_op op_add pe_int (pe_g (G := (ok__law_next T)) (hb := T.f__law_next.bp) (hm := T.f__law_next.gl) (hk := T.f__law_next.fn.kp) (hr := hr.mono (by decide)) (hgd := hg) (hx := passL) (ha := (pa_cons (pv 0) (pa_cons (pv 1) pa_nil))))))
      (pss_cons (ps_if (pt_cmpR op_eq (pe_g (G := (ok__law_next T)) (hb := T.f__law_next.bp) (hm := T.f__law_next.gl) (hk := T.f__law_next.fn.kp) (hr := hr.mono (by decide)) (hgd := hg) (hx := passL) (ha := (pa_cons (pv 0) (pa_cons pe_int pa_nil)))) pe_int (nomark _)) (pss_one (ps_ret (pe_tup (pa_cons pe_str (pa_cons (pe_g (G := (ok__law_size T)) (hb := T.f__law_size.bp) (hm := T.f__law_size.gl) (hk := T.f__law_size.fn.kp) (hr := hr.mono (by decide)) (hgd := hg) (hx := passL) (ha := (pa_cons (pv 0) pa_nil))) (pa_cons (pv 2) pa_nil)))))) pss_nil)
      (pss_cons (ps_set (i := 3) sc__law_table.nd rfl (Or.inl rfl) (pe_callTy call_tuple_of (by rfl) T.m_tuple (by first | exact PySem.boot_tuple | exact PyProof.Rows.boot_tuple | decide +kernel) (pa_cons (pe_lc (own := [("k", 4)]) (g := (gName 4)) (tt := tYes) (te := (tCall (p__law_size K) [] E0 (tCons (tVar 0) tNil))) rfl sc__law_table.nd (pi_range1 rfl T.m_range (pa_cons (pe_ix ix_list (pe_lst (pa_cons pe_int (pa_cons pe_int (pa_cons pe_int (pa_cons pe_int pa_nil))))) (pe_g (G := (ok__law_next T)) (hb := T.f__law_next.bp) (hm := T.f__law_next.gl) (hk := T.f__law_next.fn.kp) (hr := hr.mono (by decide)) (hgd := hg) (hx := passL) (ha := (pa_cons (pv 0) (pa_cons pe_int pa_nil)))) (fun _ _ => rfl)) pa_nil)) (blkOk_by (own := [("k", 4)]) (N := ["draw", "most", "bits", "header", "k", "zero", "one"]) (sc := defScope s__law_table) (by decide +kernel))  (fun _ _ _ _ _ => (pg_name (i := 4) sc__law_table.nd rfl (Or.inl rfl))) (fun _ _ _ _ _ => pts_nil)  (fun _ _ _ _ _ => (pe_g (G := (ok__law_size T)) (hb := T.f__law_size.bp) (hm := T.f__law_size.gl) (hk := T.f__law_size.fn.kp) (hr := hr.mono (by decide)) (hgd := hg) (hx := passL) (ha := (pa_cons (pv 0) pa_nil))))) pa_nil)))
      (pss_cons (ps_par (i := 5) (j := 6) (by rfl) sc__law_table.nd rfl rfl (by decide) rfl rfl (pa_cons (pe_tup (pa_cons (pe_g (G := (ok__law_size T)) (hb := T.f__law_size.bp) (hm := T.f__law_size.gl) (hk := T.f__law_size.fn.kp) (hr := hr.mono (by decide)) (hgd := hg) (hx := passL) (ha := (pa_cons (pv 0) pa_nil))) (pa_cons (pe_g (G := (ok__law_size T)) (hb := T.f__law_size.bp) (hm := T.f__law_size.gl) (hk := T.f__law_size.fn.kp) (hr := hr.mono (by decide)) (hgd := hg) (hx := passL) (ha := (pa_cons (pv 0) pa_nil))) pa_nil))) (pa_cons (pe_tup (pa_cons (pe_g (G := (ok__law_size T)) (hb := T.f__law_size.bp) (hm := T.f__law_size.gl) (hk := T.f__law_size.fn.kp) (hr := hr.mono (by decide)) (hgd := hg) (hx := passL) (ha := (pa_cons (pv 0) pa_nil))) (pa_cons (pe_g (G := (ok__law_size T)) (hb := T.f__law_size.bp) (hm := T.f__law_size.gl) (hk := T.f__law_size.fn.kp) (hr := hr.mono (by decide)) (hgd := hg) (hx := passL) (ha := (pa_cons (pv 0) pa_nil))) pa_nil))) pa_nil)) (by rfl))
      (pss_cons (ps_if (pt_cmpR (op_eqD hr.units) (pv 6) (pv 5) (nomark _)) (pss_one (ps_set (i := 6) sc__law_table.nd rfl (Or.inl rfl) (pe_tup (pa_cons (pe_ix ix_seq (pv 5) pe_int (fun _ _ => rfl)) (pa_cons (pe_op op_add (pe_op op_add (pe_op op_mod (pe_ix ix_seq (pv 5) pe_int (fun _ _ => rfl)) pe_int) pe_int) (pe_callTy call_int1 (by rfl) T.m_int (by first | exact PySem.boot_int | exact PyProof.Rows.boot_int | decide +kernel) (pa_cons (pe_cmpR op_gt (pe_ix ix_seq (pv 5) pe_int (fun _ _ => rfl)) pe_int (nomark _)) pa_nil))) pa_nil))))) pss_nil)
      (pss_one (ps_ret (pe_tup (pa_cons pe_str (pa_cons (pv 3) (pa_cons (pv 5) (pa_cons (pv 6) (pa_cons (pe_g (G := (ok__law_size T)) (hb := T.f__law_size.bp) (hm := T.f__law_size.gl) (hk := T.f__law_size.fn.kp) (hr := hr.mono (by decide)) (hgd := hg) (hx := passL) (ha := (pa_cons (pv 0) pa_nil))) (pa_cons (pv 2) pa_nil))))))))))))))
theorem ok_is_pulse_and_gap (T : Txt K mg A) : GOk PG w K mg base 5 A.a_is_pulse_and_gap A.d_is_pulse_and_gap ["thing"] (p_is_pulse_and_gap K) := by
  refine okF T.f_is_pulse_and_gap.fn sc_is_pulse_and_gap (fun cdv AA out s H E hr hg => ⟨t_is_pulse_and_gap K, ?_, fun S hmu ds hl hp => so_is_pulse_and_gap hmu hp⟩)
  exact (pss_one (ps_ret (pe_and (pe_g (G := (ok_are_durations T)) (hb := T.f_are_durations.bp) (hm := T.f_are_durations.gl) (hk := T.f_are_durations.fn.kp) (hr := hr.mono (by decide)) (hgd := hg) (hx := passL) (ha := (pa_cons (pv 0) pa_nil))) (pe_one (pe_cmpR op_eq (pe_callB call_len_seq (by rfl) T.m_len (by first | exact PySem.boot_len | exact PyProof.Rows.boot_len | decide +kernel) (pa_cons (pv 0) pa_nil)) pe_int (nomark _))))))
theorem ok_need_burst (T : Txt K mg A) : GOk PG w K mg base 5 A.a_need_burst A.d_need_burst ["thing"] (p_need_burstX K A.c_BadBurst A.c_Ratio) := by
  refine okX T.f_need_burst.fn sc_need_burst (fun cdv AA out s H E hr hg => ⟨t_need_burstX K A.c_BadBurst A.c_Ratio E, ?_, fun S hmu ds o hl hp hw => so_need_burstX hp hw⟩)
  exact (pss_cons (ps_if (pt_not (pt_val (pe_g (G := (ok_is_burst T)) (hb := T.f_is_burst.bp) (hm := T.f_is_burst.gl) (hk := T.f_is_burst.fn.kp) (hr := hr.mono (by decide)) (hgd := hg) (hx := passL) (ha := (pa_cons (pv 0) pa_nil))))) (pss_one (ps_raiseB rfl T.b_BadBurst hr (takes_of rfl rfl rfl rfl) (pa_cons (pv 0) pa_nil))) pss_nil)
      (pss_one (ps_ret (pv 0))))
theorem ok__law_receiver (T : Txt K mg A) : GOk PG w K mg base 5 A.a__law_receiver A.d__law_receiver ["draw", "many", "most"] (p__law_receiverC K A.c_Ratio) := by
  refine okD T.f__law_receiver.fn sc__law_receiver rfl (fun cdv AA out s H E hr hg => ⟨t__law_receiver K A.c_Ratio, ?_, fun a c cs n ds hc hn hl hp => so__law_receiverC hc hn hp⟩)
  exact (pss_cons (ps_set (i := 3) sc__law_receiver.nd rfl (Or.inl rfl) (pe_tup pa_nil))
      (pss_cons (ps_for PassesOwn.never rfl (pi_range1 rfl T.m_range (pa_cons (pe_op op_add pe_int (pe_g (G := (ok__law_next T)) (hb := T.f__law_next.bp) (hm := T.f__law_next.gl) (hk := T.f__law_next.fn.kp) (hr := hr.mono (by decide)) (hgd := hg) (hx := passL) (ha := (pa_cons (pv 0) (pa_cons (pv 1) pa_nil))))) pa_nil)) (pg_name (i := 4) sc__law_receiver.nd rfl (Or.inl rfl)) (pss_cons (ps_set (i := 5) sc__law_receiver.nd rfl (Or.inl rfl) (pe_g (G := (ok__law_table T)) (hb := T.f__law_table.bp) (hm := T.f__law_table.gl) (hk := T.f__law_table.fn.kp) (hr := hr.mono (by decide)) (hgd := hg) (hx := passL) (ha := (pa_cons (pv 0) (pa_cons (pv 2) pa_nil)))))
      (pss_cons (ps_if (PW.pt (pw_and (pt_cmpR (op_neW hr.units) (pv 3) (pe_tup pa_nil) (nomark _)) (pw_and1 (pt_cmpR op_gt (pe_g (G := (ok__law_next T)) (hb := T.f__law_next.bp) (hm := T.f__law_next.gl) (hk := T.f__law_next.fn.kp) (hr := hr.mono (by decide)) (hgd := hg) (hx := passL) (ha := (pa_cons (pv 0) (pa_cons pe_int pa_nil)))) pe_int (nomark _))))) (pss_one (ps_set (i := 5) sc__law_receiver.nd rfl (Or.inl rfl) (pe_g (G := (ok__law_like T)) (hb := T.f__law_like.bp) (hm := T.f__law_like.gl) (hk := T.f__law_like.fn.kp) (hr := hr.mono (by decide)) (hgd := hg) (hx := passL) (ha := (pa_cons (pv 0) (pa_cons (pe_ix ix_seq (pe_ix ix_seq (pv 3) (pe_un un_neg pe_int) (fun _ _ => rfl)) pe_int (fun _ _ => rfl)) pa_nil)))))) pss_nil)
      (pss_cons (ps_set (i := 6) sc__law_receiver.nd rfl (Or.inl rfl) (pe_g (G := (ok__law_next T)) (hb := T.f__law_next.bp) (hm := T.f__law_next.gl) (hk := T.f__law_next.fn.kp) (hr := hr.mono (by decide)) (hgd := hg) (hx := passL) (ha := (pa_cons (pv 0) (pa_cons pe_int pa_nil)))))
      (pss_one (ps_set (i := 3) sc__law_receiver.nd rfl (Or.inl rfl) (pe_op op_catA (pv 3) (pe_tup (pa_cons (pe_tup (pa_cons (pv 5) (pa_cons (pe_mk2 T.r_Ratio (ratI T) (hr.mono (by decide)) hg (pa_cons (pv 6) (pa_cons (pe_op op_add (pe_op op_add (pv 6) pe_int) (pe_g (G := (ok__law_next T)) (hb := T.f__law_next.bp) (hm := T.f__law_next.gl) (hk := T.f__law_next.fn.kp) (hr := hr.mono (by decide)) (hgd := hg) (hx := passL) (ha := (pa_cons (pv 0) (pa_cons pe_int pa_nil))))) pa_nil))) pa_nil))) pa_nil)))))))))
      (pss_one (ps_ret (pv 3)))))
theorem ok_wrong_part_of_pairs (T : Txt K mg A) : GOk PG w K mg base 6 A.a_wrong_part_of_pairs A.d_wrong_part_of_pairs ["thing"] (p_wrong_part_of_pairs K) := by
  refine okF T.f_wrong_part_of_pairs.fn sc_wrong_part_of_pairs (fun cdv AA out s H E hr hg => ⟨t_wrong_part_of_pairs K, ?_, fun S hmu ds hl hp => so_wrong_part_of_pairs hmu hp⟩)
  exact (pss_cons (ps_asg (pe_slice sl_tupA (pv 0) (po_some pe_int) po_none) (pg_tup rfl (pgs_cons (pg_name (i := 1) sc_wrong_part_of_pairs.nd rfl (Or.inl rfl)) (pgs_cons (pg_name (i := 2) sc_wrong_part_of_pairs.nd rfl (Or.inl rfl)) (pgs_cons (pg_name (i := 3) sc_wrong_part_of_pairs.nd rfl (Or.inl rfl)) (pgs_cons (pg_name (i := 4) sc_wrong_part_of_pairs.nd rfl (Or.inl rfl)) (pgs_cons (pg_name (i := 5) sc_wrong_part_of_pairs.nd rfl (Or.inl rfl)) pgs_nil)))))))
      (pss_cons (ps_if (pt_not (PW.pt (pw_and (pt_val (pe_g (G := (ok_are_durations T)) (hb := T.f_are_durations.bp) (hm := T.f_are_durations.gl) (hk := T.f_are_durations.fn.kp) (hr := hr.mono (by decide)) (hgd := hg) (hx := passL) (ha := (pa_cons (pv 1) pa_nil)))) (pw_and1 (pt_cmpR op_in_seq (pe_callB call_len_seq (by rfl) T.m_len (by first | exact PySem.boot_len | exact PyProof.Rows.boot_len | decide +kernel) (pa_cons (pv 1) pa_nil)) (pe_tup (pa_cons pe_int (pa_cons pe_int (pa_cons pe_int pa_nil)))) (by rfl)))))) (pss_one (ps_ret pe_str)) pss_nil)
      (pss_cons (ps_if (pt_not (pt_val (pe_g (G := (ok_is_pulse_and_gap T)) (hb := T.f_is_pulse_and_gap.bp) (hm := T.f_is_pulse_and_gap.gl) (hk := T.f_is_pulse_and_gap.fn.kp) (hr := hr.mono (by decide)) (hgd := hg) (hx := passL) (ha := (pa_cons (pv 2) pa_nil))))) (pss_one (ps_ret pe_str)) pss_nil)
      (pss_cons (ps_if (PW.pt (pw_or (pt_not (pt_val (pe_g (G := (ok_is_pulse_and_gap T)) (hb := T.f_is_pulse_and_gap.bp) (hm := T.f_is_pulse_and_gap.gl) (hk := T.f_is_pulse_and_gap.fn.kp) (hr := hr.mono (by decide)) (hgd := hg) (hx := passL) (ha := (pa_cons (pv 3) pa_nil))))) (pw_or1 (pt_cmpR (op_eqD hr.units) (pv 3) (pv 2) (nomark _))))) (pss_one (ps_ret pe_str)) pss_nil)
      (pss_cons (ps_if (pt_not (pt_val (pe_g (G := (ok_is_duration T)) (hb := T.f_is_duration.bp) (hm := T.f_is_duration.gl) (hk := T.f_is_duration.fn.kp) (hr := hr.mono (by decide)) (hgd := hg) (hx := passL) (ha := (pa_cons (pv 4) pa_nil))))) (pss_one (ps_ret pe_str)) pss_nil)
      (pss_cons (ps_if (pt_not (pt_val (pe_g (G := (ok_is_bit_count T)) (hb := T.f_is_bit_count.bp) (hm := T.f_is_bit_count.gl) (hk := T.f_is_bit_count.fn.kp) (hr := hr.mono (by decide)) (hgd := hg) (hx := passL) (ha := (pa_cons (pv 5) pa_nil))))) (pss_one (ps_ret pe_str)) pss_nil)
      (pss_one (ps_ret pe_non))))))))
theorem ok_burst_text (T : Txt K mg A) : GOk PG w K mg base 6 A.a_burst_text A.d_burst_text ["burst"] (p_burst17 K A.c_BadBurst A.c_Ratio) := by
  refine okX T.f_burst_text.fn sc_burst_text (fun cdv AA out s H E hr hg => ⟨t_burst17 K A.c_BadBurst A.c_Ratio E, ?_, fun S hmu ds o hl hp hw => so_burst17 hp hw⟩)
  exact (pss_stop (ps_expr (pe_g (G := (ok_need_burst T)) (hb := T.f_need_burst.bp) (hm := T.f_need_burst.gl) (hk := T.f_need_burst.fn.kp) (hr := hr.mono (by decide)) (hgd := hg) (hx := (passes_call (takes_of rfl rfl rfl rfl) (fun _ _ _ _ h => h))) (ha := (pa_cons (pv 0) pa_nil)))))
theorem ok_need_table (T : Txt K mg A) : GOk PG w K mg base 7 A.a_need_table A.d_need_table ["thing"] (p_need_tableR K A.c_BadTable A.c_Ratio) := by
  refine okX T.f_need_table.fn sc_need_table (fun cdv AA out s H E hr hg => ⟨t_need_tableR K A.c_BadTable A.c_Ratio E, ?_, fun S hmu ds o hl hp hw => so_need_tableR hmu hp hw⟩)
  exact (pss_cons (ps_if (pt_val (pe_g (G := (ok_begins_with T)) (hb := T.f_begins_with.bp) (hm := T.f_begins_with.gl) (hk := T.f_begins_with.fn.kp) (hr := hr.mono (by decide)) (hgd := hg) (hx := passL) (ha := (pa_cons (pv 0) (pa_cons pe_str (pa_cons pe_int pa_nil)))))) (pss_one (ps_set (i := 1) sc_need_table.nd rfl (Or.inl rfl) (pe_g (G := (ok_wrong_part_of_pairs T)) (hb := T.f_wrong_part_of_pairs.bp) (hm := T.f_wrong_part_of_pairs.gl) (hk := T.f_wrong_part_of_pairs.fn.kp) (hr := hr.mono (by decide)) (hgd := hg) (hx := passL) (ha := (pa_cons (pv 0) pa_nil))))) (pss_one (ps_if (pt_val (pe_g (G := (ok_begins_with T)) (hb := T.f_begins_with.bp) (hm := T.f_begins_with.gl) (hk := T.f_begins_with.fn.kp) (hr := hr.mono (by decide)) (hgd := hg) (hx := passL) (ha := (pa_cons (pv 0) (pa_cons pe_str (pa_cons pe_int pa_nil)))))) (pss_one (ps_set (i := 1) sc_need_table.nd rfl (Or.inl rfl) (pe_g (G := (ok_wrong_part_of_halves T)) (hb := T.f_wrong_part_of_halves.bp) (hm := T.f_wrong_part_of_halves.gl) (hk := T.f_wrong_part_of_halves.fn.kp) (hr := hr.mono (by decide)) (hgd := hg) (hx := passL) (ha := (pa_cons (pv 0) pa_nil))))) (pss_one (ps_set (i := 1) sc_need_table.nd rfl (Or.inl rfl) pe_str)))))
      (pss_cons (ps_if (pt_cmpR op_notN (pv 1) pe_non (nomark _)) (pss_one (ps_raiseB rfl T.b_BadTable hr (takes_of rfl rfl rfl rfl) (pa_cons (pv 1) pa_nil))) pss_nil)
      (pss_one (ps_ret (pv 0)))))
theorem ok_is_word (T : Txt K mg A) : GOk PG w K mg base 8 A.a_is_word A.d_is_word ["table", "thing"] (p_refT K A.c_BadTable A.c_Ratio 2) := by
  refine okX T.f_is_word.fn sc_is_word (fun cdv AA out s H E hr hg => ⟨t_refT K A.c_BadTable A.c_Ratio E, ?_, fun S hmu ds o hl hp hw => so_refT hl hp hw⟩)
  exact (pss_stop (ps_expr (pe_g (G := (ok_need_table T)) (hb := T.f_need_table.bp) (hm := T.f_need_table.gl) (hk := T.f_need_table.fn.kp) (hr := hr.mono (by decide)) (hgd := hg) (hx := (passes_call (takes_of rfl rfl rfl rfl) (fun _ _ _ _ h => h))) (ha := (pa_cons (pv 0) pa_nil)))))
theorem ok_words_of (T : Txt K mg A) : GOk PG w K mg base 8 A.a_words_of A.d_words_of ["table"] (p_refT K A.c_BadTable A.c_Ratio 1) := by
  refine okX T.f_words_of.fn sc_words_of (fun cdv AA out s H E hr hg => ⟨t_refT K A.c_BadTable A.c_Ratio E, ?_, fun S hmu ds o hl hp hw => so_refT hl hp hw⟩)
  exact (pss_stop (ps_expr (pe_g (G := (ok_need_table T)) (hb := T.f_need_table.bp) (hm := T.f_need_table.gl) (hk := T.f_need_table.fn.kp) (hr := hr.mono (by decide)) (hgd := hg) (hx := (passes_call (takes_of rfl rfl rfl rfl) (fun _ _ _ _ h => h))) (ha := (pa_cons (pv 0) pa_nil)))))
theorem ok_word_of (T : Txt K mg A) : GOk PG w K mg base 8 A.a_word_of A.d_word_of ["table", "frame"] (p_refT K A.c_BadTable A.c_Ratio 2) := by
  refine okX T.f_word_of.fn sc_word_of (fun cdv AA out s H E hr hg => ⟨t_refT K A.c_BadTable A.c_Ratio E, ?_, fun S hmu ds o hl hp hw => so_refT hl hp hw⟩)
  exact (pss_stop (ps_expr (pe_g (G := (ok_need_table T)) (hb := T.f_need_table.bp) (hm := T.f_need_table.gl) (hk := T.f_need_table.fn.kp) (hr := hr.mono (by decide)) (hgd := hg) (hx := (passes_call (takes_of rfl rfl rfl rfl) (fun _ _ _ _ h => h))) (ha := (pa_cons (pv 0) pa_nil)))))
theorem ok_begin_of (T : Txt K mg A) : GOk PG w K mg base 8 A.a_begin_of A.d_begin_of ["table"] (p_refT K A.c_BadTable A.c_Ratio 1) := by
  refine okX T.f_begin_of.fn sc_begin_of (fun cdv AA out s H E hr hg => ⟨t_refT K A.c_BadTable A.c_Ratio E, ?_, fun S hmu ds o hl hp hw => so_refT hl hp hw⟩)
  exact (pss_stop (ps_expr (pe_g (G := (ok_need_table T)) (hb := T.f_need_table.bp) (hm := T.f_need_table.gl) (hk := T.f_need_table.fn.kp) (hr := hr.mono (by decide)) (hgd := hg) (hx := (passes_call (takes_of rfl rfl rfl rfl) (fun _ _ _ _ h => h))) (ha := (pa_cons (pv 0) pa_nil)))))
theorem ok_is_end (T : Txt K mg A) : GOk PG w K mg base 8 A.a_is_end A.d_is_end ["table", "place"] (p_refT K A.c_BadTable A.c_Ratio 2) := by
  refine okX T.f_is_end.fn sc_is_end (fun cdv AA out s H E hr hg => ⟨t_refT K A.c_BadTable A.c_Ratio E, ?_, fun S hmu ds o hl hp hw => so_refT hl hp hw⟩)
  exact (pss_stop (ps_expr (pe_g (G := (ok_need_table T)) (hb := T.f_need_table.bp) (hm := T.f_need_table.gl) (hk := T.f_need_table.fn.kp) (hr := hr.mono (by decide)) (hgd := hg) (hx := (passes_call (takes_of rfl rfl rfl rfl) (fun _ _ _ _ h => h))) (ha := (pa_cons (pv 0) pa_nil)))))
theorem ok_nearest (T : Txt K mg A) : GOk PG w K mg base 8 A.a_nearest A.d_nearest ["table", "burst"] (p_nearest17 K A.c_BadTable A.c_BadBurst A.c_Ratio) := by
  refine okX T.f_nearest.fn sc_nearest (fun cdv AA out s H E hr hg => ⟨t_nearest17 K A.c_BadTable A.c_BadBurst A.c_Ratio E, ?_, fun S hmu ds o hl hp hw => so_nearest17 hp hw⟩)
  exact (pss_cons (ps_expr (pe_g (G := (ok_need_table T)) (hb := T.f_need_table.bp) (hm := T.f_need_table.gl) (hk := T.f_need_table.fn.kp) (hr := hr.mono (by decide)) (hgd := hg) (hx := (passes_call (takes_of rfl rfl rfl rfl) (fun _ _ _ _ h => h))) (ha := (pa_cons (pv 0) pa_nil))))
      (pss_stop (ps_expr (pe_g (G := (ok_need_burst T)) (hb := T.f_need_burst.bp) (hm := T.f_need_burst.gl) (hk := T.f_need_burst.fn.kp) (hr := hr.mono (by decide)) (hgd := hg) (hx := (passes_call (takes_of rfl rfl rfl rfl) (fun _ _ _ _ h => h))) (ha := (pa_cons (pv 1) pa_nil))))))
theorem ok_is_table (T : Txt K mg A) : GOk PG w K mg base 8 A.a_is_table A.d_is_table ["thing"] (p_is_table K A.c_Ratio) := by
  refine okR T.f_is_table.fn sc_is_table (fun cdv AA out s H E hr hg => ⟨t_is_table K A.c_BadTable A.c_Ratio, ?_, fun S hmu ds d hl hp => so_is_table T.b_BadTable.te hp⟩)
  exact (pss_cons (ps_try_only (by rfl) (by rfl) ⟨by rfl, by decide, .inl T.b_BadTable.gC⟩ takes0 (fun W pn xe tk _ => (pss_one (ps_expr (pe_gS (G := (ok_need_table T)) (hb := T.f_need_table.bp) (hm := T.f_need_table.gl) (hk := T.f_need_table.fn.kp) (hr := hr.mono (by decide)) (hgd := hg) (hx := (fun σ => passAt tk σ)) (ha := (pa_cons (pv 0) pa_nil)))))) (fun a oe cls d pn hz hf => (pss_one (ps_ret pe_bl))))
      (pss_one (ps_ret pe_bl)))
theorem ok_table_text (T : Txt K mg A) : GOk PG w K mg base 8 A.a_table_text A.d_table_text ["table"] (p_refT K A.c_BadTable A.c_Ratio 1) := by
  refine okX T.f_table_text.fn sc_table_text (fun cdv AA out s H E hr hg => ⟨t_refT K A.c_BadTable A.c_Ratio E, ?_, fun S hmu ds o hl hp hw => so_refT hl hp hw⟩)
  exact (pss_stop (ps_expr (pe_g (G := (ok_need_table T)) (hb := T.f_need_table.bp) (hm := T.f_need_table.gl) (hk := T.f_need_table.fn.kp) (hr := hr.mono (by decide)) (hgd := hg) (hx := (passes_call (takes_of rfl rfl rfl rfl) (fun _ _ _ _ h => h))) (ha := (pa_cons (pv 0) pa_nil)))))
theorem ok_frame_of (T : Txt K mg A) : GOk PG w K mg base 9 A.a_frame_of A.d_frame_of ["table", "word"] (p_refT K A.c_BadTable A.c_Ratio 2) := by
  refine okX T.f_frame_of.fn sc_frame_of (fun cdv AA out s H E hr hg => ⟨t_frame_of17 K A.c_BadTable A.c_BadWord A.c_Ratio E, ?_, fun S hmu ds o hl hp hw => so_frame_of17 hp hw⟩)
  exact (pss_stop (ps_if (pt_not (pt_val (pe_g (G := (ok_is_word T)) (hb := T.f_is_word.bp) (hm := T.f_is_word.gl) (hk := T.f_is_word.fn.kp) (hr := hr.mono (by decide)) (hgd := hg) (hx := (passes_call (takes_of rfl rfl rfl rfl) (fun _ _ _ _ h => h))) (ha := (pa_cons (pv 0) (pa_cons (pv 1) pa_nil)))))) (pss_one (ps_raiseB rfl T.b_BadWord hr (takes_of rfl rfl rfl rfl) (pa_cons (pv 1) pa_nil))) pss_nil))
theorem ok_steps_of (T : Txt K mg A) : GOk PG w K mg base 9 A.a_steps_of A.d_steps_of ["table", "place"] (p_refT K A.c_BadTable A.c_Ratio 2) := by
  refine okX T.f_steps_of.fn sc_steps_of (fun cdv AA out s H E hr hg => ⟨t_steps_of17 K A.c_BadTable A.c_Ratio E, ?_, fun S hmu ds o hl hp hw => so_steps_of17 hp hw⟩)
  exact (pss_stop (ps_if (pt_val (pe_g (G := (ok_is_end T)) (hb := T.f_is_end.bp) (hm := T.f_is_end.gl) (hk := T.f_is_end.fn.kp) (hr := hr.mono (by decide)) (hgd := hg) (hx := (passes_call (takes_of rfl rfl rfl rfl) (fun _ _ _ _ h => h))) (ha := (pa_cons (pv 0) (pa_cons (pv 1) pa_nil))))) (pss_one (ps_ret (pe_lst pa_nil))) pss_nil))
theorem ok_is_table_with_tolerance (T : Txt K mg A) : GOk PG w K mg base 9 A.a_is_table_with_tolerance A.d_is_table_with_tolerance ["thing"] (p_is_table_with_tolerance K A.c_Ratio) := by
  refine okR T.f_is_table_with_tolerance.fn sc_is_table_with_tolerance (fun cdv AA out s H E hr hg => ⟨t_is_table_with_tolerance K A.c_Ratio, ?_, fun S hmu ds d hl hp => so_is_table_with_tolerance hp⟩)
  exact (pss_one (ps_ret (pe_and (pe_g (G := (ok_is_pair T)) (hb := T.f_is_pair.bp) (hm := T.f_is_pair.gl) (hk := T.f_is_pair.fn.kp) (hr := hr.mono (by decide)) (hgd := hg) (hx := passL) (ha := (pa_cons (pv 0) pa_nil))) (pe_and (pe_g (G := (ok_is_table T)) (hb := T.f_is_table.bp) (hm := T.f_is_table.gl) (hk := T.f_is_table.fn.kp) (hr := hr.mono (by decide)) (hgd := hg) (hx := passL) (ha := (pa_cons (pe_ix ix_seq (pv 0) pe_int (fun _ _ => rfl)) pa_nil))) (pe_one (pe_g (G := (ok_is_below_one T)) (hb := T.f_is_below_one.bp) (hm := T.f_is_below_one.gl) (hk := T.f_is_below_one.fn.kp) (hr := hr.mono (by decide)) (hgd := hg) (hx := passL) (ha := (pa_cons (pe_ix ix_seq (pv 0) pe_int (fun _ _ => rfl)) pa_nil))))))))
theorem ok_need_receiver (T : Txt K mg A) : GOk PG w K mg base 10 A.a_need_receiver A.d_need_receiver ["thing"] (p_need_receiver K A.c_Ratio A.c_BadReceiver) := by
  refine okI T.f_need_receiver.fn sc_need_receiver (fun cdv AA out s H E hr hg => ⟨t_need_receiver K A.c_Ratio A.c_BadReceiver E, ?_, fun S hmu v d o hv hp hw => so_need_receiver T.r_Ratio hv hp hw⟩)
  exact (pss_cons (ps_if (PW.pt (pw_or (pt_not (pt_val (pe_callB call_isi (by rfl) T.m_isinstance (by first | exact PySem.boot_isinstance | exact PyProof.Rows.boot_isinstance | decide +kernel) (pa_cons (pv 0) (pa_cons (pe_bltn (v := .ty "tuple") (by rfl) T.m_tuple (by first | exact PySem.boot_tuple | decide +kernel) rfl) pa_nil))))) (pw_or1 (pt_not (pt_chain op_le op_le pe_int (pe_callB call_len_seq (by rfl) T.m_len (by first | exact PySem.boot_len | exact PyProof.Rows.boot_len | decide +kernel) (pa_cons (pv 0) pa_nil)) (pe_gc rfl T.c_MOST_PAIRS)))))) (pss_one (ps_raiseB rfl T.b_BadReceiver hr (takes_of rfl rfl rfl rfl) (pa_cons pe_non pa_nil))) pss_nil)
      (pss_cons (ps_for (passes_of rfl) rfl (pi_enumT rfl T.m_enumerate (pa_cons (pv 0) pa_nil)) (pg_tup rfl (pgs_cons (pg_name (i := 1) sc_need_receiver.nd rfl (Or.inl rfl)) (pgs_cons (pg_name (i := 2) sc_need_receiver.nd rfl (Or.inl rfl)) pgs_nil))) (pss_one (ps_if (pt_not (pt_val (pe_g (G := (ok_is_table_with_tolerance T)) (hb := T.f_is_table_with_tolerance.bp) (hm := T.f_is_table_with_tolerance.gl) (hk := T.f_is_table_with_tolerance.fn.kp) (hr := hr.mono (by decide)) (hgd := hg) (hx := passL) (ha := (pa_cons (pv 2) pa_nil))))) (pss_one (ps_raiseB rfl T.b_BadReceiver hr (takes_of rfl rfl rfl rfl) (pa_cons (pv 1) pa_nil))) pss_nil)))
      (pss_one (ps_ret (pv 0)))))
theorem ok_reads (T : Txt K mg A) : GOk PG w K mg base 11 A.a_reads A.d_reads ["receiver", "burst"] (p_reads17 K A.c_BadReceiver A.c_BadBurst A.c_Ratio) := by
  refine okX T.f_reads.fn sc_reads (fun cdv AA out s H E hr hg => ⟨t_reads17 K A.c_BadReceiver A.c_BadBurst A.c_Ratio E, ?_, fun S hmu ds o hl hp hw => so_reads17 hp hw⟩)
  exact (pss_cons (ps_expr (pe_g (G := (ok_need_receiver T)) (hb := T.f_need_receiver.bp) (hm := T.f_need_receiver.gl) (hk := T.f_need_receiver.fn.kp) (hr := hr.mono (by decide)) (hgd := hg) (hx := (passes_call (takes_of rfl rfl rfl rfl) (fun _ _ _ _ h => h))) (ha := (pa_cons (pv 0) pa_nil))))
      (pss_stop (ps_expr (pe_g (G := (ok_need_burst T)) (hb := T.f_need_burst.bp) (hm := T.f_need_burst.gl) (hk := T.f_need_burst.fn.kp) (hr := hr.mono (by decide)) (hgd := hg) (hx := (passes_call (takes_of rfl rfl rfl rfl) (fun _ _ _ _ h => h))) (ha := (pa_cons (pv 1) pa_nil))))))
theorem ok_is_sending (T : Txt K mg A) : GOk PG w K mg base 11 A.a_is_sending A.d_is_sending ["receiver", "thing"] (p_refR K A.c_Ratio A.c_BadReceiver 2) := by
  refine okX T.f_is_sending.fn sc_is_sending (fun cdv AA out s H E hr hg => ⟨t_refR K A.c_Ratio A.c_BadReceiver E, ?_, fun S hmu ds o hl hp hw => so_refR hp hw⟩)
  exact (pss_stop (ps_expr (pe_g (G := (ok_need_receiver T)) (hb := T.f_need_receiver.bp) (hm := T.f_need_receiver.gl) (hk := T.f_need_receiver.fn.kp) (hr := hr.mono (by decide)) (hgd := hg) (hx := (passes_call (takes_of rfl rfl rfl rfl) (fun _ _ _ _ h => h))) (ha := (pa_cons (pv 0) pa_nil)))))
theorem ok_start_stands (T : Txt K mg A) : GOk PG w K mg base 11 A.a_start_stands A.d_start_stands ["receiver"] (p_refR K A.c_Ratio A.c_BadReceiver 1) := by
  refine okX T.f_start_stands.fn sc_start_stands (fun cdv AA out s H E hr hg => ⟨t_refR K A.c_Ratio A.c_BadReceiver E, ?_, fun S hmu ds o hl hp hw => so_refR hp hw⟩)
  exact (pss_stop (ps_expr (pe_g (G := (ok_need_receiver T)) (hb := T.f_need_receiver.bp) (hm := T.f_need_receiver.gl) (hk := T.f_need_receiver.fn.kp) (hr := hr.mono (by decide)) (hgd := hg) (hx := (passes_call (takes_of rfl rfl rfl rfl) (fun _ _ _ _ h => h))) (ha := (pa_cons (pv 0) pa_nil)))))
theorem ok_taken (T : Txt K mg A) : GOk PG w K mg base 11 A.a_taken A.d_taken ["receiver", "tolerance"] (p_taken17 K A.c_BadReceiver A.c_BadRatio A.c_Ratio) := by
  refine okX T.f_taken.fn sc_taken (fun cdv AA out s H E hr hg => ⟨t_taken17 K A.c_BadReceiver A.c_BadRatio A.c_Ratio E, ?_, fun S hmu ds o hl hp hw => so_taken17 hp hw⟩)
  exact (pss_cons (ps_expr (pe_g (G := (ok_need_receiver T)) (hb := T.f_need_receiver.bp) (hm := T.f_need_receiver.gl) (hk := T.f_need_receiver.fn.kp) (hr := hr.mono (by decide)) (hgd := hg) (hx := (passes_call (takes_of rfl rfl rfl rfl) (fun _ _ _ _ h => h))) (ha := (pa_cons (pv 0) pa_nil))))
      (pss_stop (ps_expr (pe_g (G := (ok_need_ratio T)) (hb := T.f_need_ratio.bp) (hm := T.f_need_ratio.gl) (hk := T.f_need_ratio.fn.kp) (hr := hr.mono (by decide)) (hgd := hg) (hx := (passes_call (takes_of rfl rfl rfl rfl) (fun _ _ _ _ h => h))) (ha := (pa_cons (pv 1) pa_nil))))))
theorem ok_check_taken (T : Txt K mg A) : GOk PG w K mg base 11 A.a_check_taken A.d_check_taken ["receiver", "tolerance", "paper"] (p_check17 K A.c_BadReceiver A.c_BadRatio A.c_BadPaper A.c_Ratio) := by
  refine okX T.f_check_taken.fn sc_check_taken (fun cdv AA out s H E hr hg => ⟨t_check17 K A.c_BadReceiver A.c_BadRatio A.c_BadPaper A.c_Ratio E, ?_, fun S hmu ds o hl hp hw => so_check17 hp hw⟩)
  exact (pss_cons (ps_expr (pe_g (G := (ok_need_receiver T)) (hb := T.f_need_receiver.bp) (hm := T.f_need_receiver.gl) (hk := T.f_need_receiver.fn.kp) (hr := hr.mono (by decide)) (hgd := hg) (hx := (passes_call (takes_of rfl rfl rfl rfl) (fun _ _ _ _ h => h))) (ha := (pa_cons (pv 0) pa_nil))))
      (pss_cons (ps_expr (pe_g (G := (ok_need_ratio T)) (hb := T.f_need_ratio.bp) (hm := T.f_need_ratio.gl) (hk := T.f_need_ratio.fn.kp) (hr := hr.mono (by decide)) (hgd := hg) (hx := (passes_call (takes_of rfl rfl rfl rfl) (fun _ _ _ _ h => h))) (ha := (pa_cons (pv 1) pa_nil))))
      (pss_cons (ps_if (pt_val (pe_g (G := (ok_begins_with T)) (hb := T.f_begins_with.bp) (hm := T.f_begins_with.gl) (hk := T.f_begins_with.fn.kp) (hr := hr.mono (by decide)) (hgd := hg) (hx := passL) (ha := (pa_cons (pv 2) (pa_cons pe_str (pa_cons pe_int pa_nil)))))) pss_never (pss_one (ps_if (pt_val (pe_g (G := (ok_begins_with T)) (hb := T.f_begins_with.bp) (hm := T.f_begins_with.gl) (hk := T.f_begins_with.fn.kp) (hr := hr.mono (by decide)) (hgd := hg) (hx := passL) (ha := (pa_cons (pv 2) (pa_cons pe_str (pa_cons pe_int pa_nil)))))) pss_never (pss_one (ps_set (i := 3) sc_check_taken.nd rfl (Or.inl rfl) pe_str)))))
      (pss_stop (ps_if (pt_cmpR op_notN (pv 3) pe_non (nomark _)) (pss_one (ps_raiseB rfl T.b_BadPaper hr (takes_of rfl rfl rfl rfl) (pa_cons (pv 3) pa_nil))) pss_nil)))))
theorem ok_limit_of (T : Txt K mg A) : GOk PG w K mg base 11 A.a_limit_of A.d_limit_of ["receiver"] (p_refR K A.c_Ratio A.c_BadReceiver 1) := by
  refine okX T.f_limit_of.fn sc_limit_of (fun cdv AA out s H E hr hg => ⟨t_refR K A.c_Ratio A.c_BadReceiver E, ?_, fun S hmu ds o hl hp hw => so_refR hp hw⟩)
  exact (pss_stop (ps_expr (pe_g (G := (ok_need_receiver T)) (hb := T.f_need_receiver.bp) (hm := T.f_need_receiver.gl) (hk := T.f_need_receiver.fn.kp) (hr := hr.mono (by decide)) (hgd := hg) (hx := (passes_call (takes_of rfl rfl rfl rfl) (fun _ _ _ _ h => h))) (ha := (pa_cons (pv 0) pa_nil)))))
theorem ok_is_safe (T : Txt K mg A) : GOk PG w K mg base 11 A.a_is_safe A.d_is_safe ["receiver", "tolerance"] (p_taken17 K A.c_BadReceiver A.c_BadRatio A.c_Ratio) := by
  refine okX T.f_is_safe.fn sc_is_safe (fun cdv AA out s H E hr hg => ⟨t_taken17 K A.c_BadReceiver A.c_BadRatio A.c_Ratio E, ?_, fun S hmu ds o hl hp hw => so_taken17 hp hw⟩)
  exact (pss_cons (ps_expr (pe_g (G := (ok_need_receiver T)) (hb := T.f_need_receiver.bp) (hm := T.f_need_receiver.gl) (hk := T.f_need_receiver.fn.kp) (hr := hr.mono (by decide)) (hgd := hg) (hx := (passes_call (takes_of rfl rfl rfl rfl) (fun _ _ _ _ h => h))) (ha := (pa_cons (pv 0) pa_nil))))
      (pss_stop (ps_expr (pe_g (G := (ok_need_ratio T)) (hb := T.f_need_ratio.bp) (hm := T.f_need_ratio.gl) (hk := T.f_need_ratio.fn.kp) (hr := hr.mono (by decide)) (hgd := hg) (hx := (passes_call (takes_of rfl rfl rfl rfl) (fun _ _ _ _ h => h))) (ha := (pa_cons (pv 1) pa_nil))))))
theorem ok_margin_of (T : Txt K mg A) : GOk PG w K mg base 12 A.a_margin_of A.d_margin_of ["receiver"] (p_refR K A.c_Ratio A.c_BadReceiver 1) := by
  refine okX T.f_margin_of.fn sc_margin_of (fun cdv AA out s H E hr hg => ⟨t_margin_of17 K A.c_Ratio A.c_BadReceiver E, ?_, fun S hmu ds o hl hp hw => so_margin_of17 hp hw⟩)
  exact (pss_stop (ps_set (i := 1) sc_margin_of.nd rfl (Or.inl rfl) (pe_g (G := (ok_limit_of T)) (hb := T.f_limit_of.bp) (hm := T.f_limit_of.gl) (hk := T.f_limit_of.fn.kp) (hr := hr.mono (by decide)) (hgd := hg) (hx := (passes_call (takes_of rfl rfl rfl rfl) (fun _ _ _ _ h => h))) (ha := (pa_cons (pv 0) pa_nil)))))
theorem gv__law_said (T : Txt K mg A) : ∀ cdv, Gives PG w K mg base 13 ["call", "caught", "found", "e"] "_law_said" "call" (defScope s__law_said) A.a__law_said cdv (defBody s__law_said) (TTs K (RG K ⟨A.c_BadRatio, A.c_BadTable, A.c_BadWord, A.c_BadBurst, A.c_BadReceiver, A.c_BadNumber, A.c_BadPaper, A.c_BadStyle, A.c_BadRow, A.c_BadText⟩ [A.c_BadRatio, A.c_BadTable, A.c_BadBurst, A.c_BadReceiver, A.c_BadPaper] [A.c_BadRatio, A.c_BadBurst] [A.c_BadTable, A.c_BadPaper])) := by
  intro cdv AA out s H Q f c' q tl hr hg act hc h
  obtain ⟨o, d, hl, hR, hq⟩ := h
  refine ⟨t__law_saidG K ⟨A.c_BadRatio, A.c_BadTable, A.c_BadWord, A.c_BadBurst, A.c_BadReceiver, A.c_BadNumber, A.c_BadPaper, A.c_BadStyle, A.c_BadRow, A.c_BadText⟩ [A.c_BadRatio, A.c_BadTable, A.c_BadBurst, A.c_BadReceiver, A.c_BadPaper] [A.c_BadRatio, A.c_BadBurst] [A.c_BadTable, A.c_BadPaper] f c' q tl, ?_, ?_⟩
  · exact (pss_cons (ps_asg (pe_tup (pa_cons pe_non (pa_cons pe_non pa_nil))) (pg_tup rfl (pgs_cons (pg_name (i := 1) sc__law_said.nd rfl (Or.inl rfl)) (pgs_cons (pg_name (i := 2) sc__law_said.nd rfl (Or.inl rfl)) pgs_nil))))
      (pss_cons (ps_try_kp (i := 3) (by rfl) (by rfl) (by rfl) sc__law_said.nd (by rfl) (by rfl) (catch_tup (ns := [("BadRatio", Value.ref A.c_BadRatio, (⟨653, 12, 653, 20⟩ : Pos)), ("BadTable", Value.ref A.c_BadTable, (⟨653, 22, 653, 30⟩ : Pos)), ("BadWord", Value.ref A.c_BadWord, (⟨653, 32, 653, 39⟩ : Pos)), ("BadBurst", Value.ref A.c_BadBurst, (⟨653, 41, 653, 49⟩ : Pos)), ("BadReceiver", Value.ref A.c_BadReceiver, (⟨653, 51, 653, 62⟩ : Pos)), ("BadNumber", Value.ref A.c_BadNumber, (⟨653, 64, 653, 73⟩ : Pos)), ("BadPaper", Value.ref A.c_BadPaper, (⟨653, 75, 653, 83⟩ : Pos)), ("BadStyle", Value.ref A.c_BadStyle, (⟨653, 85, 653, 93⟩ : Pos)), ("BadRow", Value.ref A.c_BadRow, (⟨653, 95, 653, 101⟩ : Pos)), ("BadText", Value.ref A.c_BadText, (⟨653, 103, 653, 110⟩ : Pos))]) (by rfl) (by show 10 ≤ sizeLine; decide) (fun p hp => by simp only [List.mem_cons, List.not_mem_nil, or_false] at hp; rcases hp with rfl | rfl | rfl | rfl | rfl | rfl | rfl | rfl | rfl | rfl <;> first | exact ⟨by rfl, T.b_BadRatio.gC, by rfl⟩ | exact ⟨by rfl, T.b_BadTable.gC, by rfl⟩ | exact ⟨by rfl, T.b_BadWord.gC, by rfl⟩ | exact ⟨by rfl, T.b_BadBurst.gC, by rfl⟩ | exact ⟨by rfl, T.b_BadReceiver.gC, by rfl⟩ | exact ⟨by rfl, T.b_BadNumber.gC, by rfl⟩ | exact ⟨by rfl, T.b_BadPaper.gC, by rfl⟩ | exact ⟨by rfl, T.b_BadStyle.gC, by rfl⟩ | exact ⟨by rfl, T.b_BadRow.gC, by rfl⟩ | exact ⟨by rfl, T.b_BadText.gC, by rfl⟩)) takes0 (fun W pn xe tk _ => (pss_one (ps_set (i := 2) sc__law_said.nd rfl (Or.inl rfl) (act pn xe (WE W) _ _ (fun σ => passAt tk σ))))) (fun a oe cls d pn hz hf => (pss_one (ps_set (i := 1) sc__law_said.nd rfl (Or.inl rfl) (pv 3)))))
      (pss_one (ps_ret (pe_ifExp (pt_cmpR op_isN (pv 1) pe_non (nomark _)) (pe_lst (pa_cons (pv 2) pa_nil)) (pe_g (G := (ok__law_fault T)) (hb := T.f__law_fault.bp) (hm := T.f__law_fault.gl) (hk := T.f__law_fault.fn.kp) (hr := hr.mono (by decide)) (hgd := hg) (hx := passL) (ha := (pa_cons (pv 1) pa_nil))))))))
  · refine so__law_saidG hc hl hR _ _ H H ⟨Gr.refl H, Same.refl H, fun _ z => nomatch z⟩ (Same.refl H) (slots_start (.cons (.raw _) .nil)) ⟨fun σ ρ H' g i s' e => ?_, fun v d' H' g i r' e => ?_, fun σ ρ H' g i s' e => (show False from e).elim, fun σ ρ H' g i s' e => (show False from e).elim⟩
    · exact hq _ H' i ((show d = .non from e) ▸ .non)
    · exact hq v H' i ((show d = d' from e) ▸ r')
def ls_table (K : PySem.W.Frag) (A : Adr) : List LamI := [(lam0 ((defBody s__law_of_table).getD 0 (.Pass ⟨0, 0, 0, 0⟩)) (fun E => (tCall (p_refT K A.c_BadTable A.c_Ratio 1) [] E (tCons (tVar 0) tNil)))), (lamA ((defBody s__law_of_table).getD 1 (.Pass ⟨0, 0, 0, 0⟩)) (fun E => (tCall (p_refT K A.c_BadTable A.c_Ratio 2) [] E (tCons (tVar 0) (tCons (tC .non) tNil))))), (lamA ((defBody s__law_of_table).getD 2 (.Pass ⟨0, 0, 0, 0⟩)) (fun E => (tCall (p_refT K A.c_BadTable A.c_Ratio 2) [] E (tCons (tVar 0) (tCons (tC .non) tNil))))), (lamA ((defBody s__law_of_table).getD 3 (.Pass ⟨0, 0, 0, 0⟩)) (fun E => (tCall (p_refT K A.c_BadTable A.c_Ratio 1) [] E (tCons (tVar 0) tNil)))), (lamA ((defBody s__law_of_table).getD 4 (.Pass ⟨0, 0, 0, 0⟩)) (fun E => (tCall (p_refT K A.c_BadTable A.c_Ratio 2) [] E (tCons (tVar 0) (tCons (tC .non) tNil))))), (lamA ((defBody s__law_of_table).getD 5 (.Pass ⟨0, 0, 0, 0⟩)) (fun E => (tCall (p_refT K A.c_BadTable A.c_Ratio 2) [] E (tCons (tVar 0) (tCons (tC .non) tNil))))), (lamA ((defBody s__law_of_table).getD 6 (.Pass ⟨0, 0, 0, 0⟩)) (fun E => (tCall (p_refT K A.c_BadTable A.c_Ratio 2) [] E (tCons (tVar 0) (tCons (tC .non) tNil))))), (lamA ((defBody s__law_of_table).getD 7 (.Pass ⟨0, 0, 0, 0⟩)) (fun E => (tCall (p_nearest17 K A.c_BadTable A.c_BadBurst A.c_Ratio) [] E (tCons (tVar 0) (tCons (tC .non) tNil))))), (lamA ((defBody s__law_of_table).getD 8 (.Pass ⟨0, 0, 0, 0⟩)) (fun E => (tCall (p_refT K A.c_BadTable A.c_Ratio 1) [] E (tCons (tVar 0) tNil))))]
theorem ls_table_ref (K : PySem.W.Frag) (A : Adr) : ∀ l ∈ ls_table K A, RefT K A.c_BadTable A.c_Ratio l.t := by
  unfold ls_table
  refine ref_0 (P := (RefT K A.c_BadTable A.c_Ratio)) ?_ (ref_A (P := (RefT K A.c_BadTable A.c_Ratio)) ?_ (ref_A (P := (RefT K A.c_BadTable A.c_Ratio)) ?_ (ref_A (P := (RefT K A.c_BadTable A.c_Ratio)) ?_ (ref_A (P := (RefT K A.c_BadTable A.c_Ratio)) ?_ (ref_A (P := (RefT K A.c_BadTable A.c_Ratio)) ?_ (ref_A (P := (RefT K A.c_BadTable A.c_Ratio)) ?_ (ref_A (P := (RefT K A.c_BadTable A.c_Ratio)) ?_ (ref_A (P := (RefT K A.c_BadTable A.c_Ratio)) ?_ (fun _ h => nomatch h)))))))))
  all_goals first | exact refT_1 | exact refT_2 | exact refT_n
theorem ok__law_of_table (T : Txt K mg A) (TB__law_of_table : LamX.TabB base mg A.k__law_of_table A.t__law_of_table) : GOk PG w K mg base 15 A.a__law_of_table A.d__law_of_table ["odd", "due"] (p__law_of_table K A.c_BadTable A.c_Ratio [(A.t__law_of_table, "_law_of_table.<locals>.<lambda>"), (A.t__law_of_receiver, "_law_of_receiver.<locals>.<lambda>"), (A.t__law_further_right, "_law_further_right.<locals>.<lambda>")]) := by
  refine okGC T.l__law_of_table sc__law_of_table (fun vs H Q E h => ?_) fun AA out s H vs Q E hr hg h => ⟨tLams K [(A.t__law_of_table, "_law_of_table.<locals>.<lambda>"), (A.t__law_of_receiver, "_law_of_receiver.<locals>.<lambda>"), (A.t__law_further_right, "_law_further_right.<locals>.<lambda>")] (ls_table K A) (RG K ⟨A.c_BadRatio, A.c_BadTable, A.c_BadWord, A.c_BadBurst, A.c_BadReceiver, A.c_BadNumber, A.c_BadPaper, A.c_BadStyle, A.c_BadRow, A.c_BadText⟩ [A.c_BadRatio, A.c_BadTable, A.c_BadBurst, A.c_BadReceiver, A.c_BadPaper] [A.c_BadRatio, A.c_BadBurst] [A.c_BadTable, A.c_BadPaper]) 2 1 "table", ?_, ?_⟩
  · obtain ⟨ds, r, hl, _⟩ := h
    exact r.len.trans hl
  · unfold ls_table
    exact (pss_lams (W := E) (T := [(A.t__law_of_table, "_law_of_table.<locals>.<lambda>"), (A.t__law_of_receiver, "_law_of_receiver.<locals>.<lambda>"), (A.t__law_further_right, "_law_further_right.<locals>.<lambda>")]) (k := 12) (c := A.k__law_of_table) (P := A.t__law_of_table) (y := "some") (w := "call") (x := "_law_said") (zn := "due") (sts := ((defBody s__law_of_table).drop 1).take 8) rfl sc__law_of_table.nd rfl (by rfl) TB__law_of_table rfl (by first | exact List.mem_cons_self | exact List.mem_cons_of_mem _ List.mem_cons_self | exact List.mem_cons_of_mem _ (List.mem_cons_of_mem _ List.mem_cons_self)) (fun p hp hq => by simp only [List.mem_cons, List.not_mem_nil, or_false] at hp; rcases hp with rfl | rfl | rfl <;> first | rfl | exact absurd hq T.d__law_of_table__law_of_receiver | exact absurd hq (Ne.symm T.d__law_of_table__law_of_receiver) | exact absurd hq T.d__law_of_table__law_further_right | exact absurd hq (Ne.symm T.d__law_of_table__law_further_right) | exact absurd hq T.d__law_of_receiver__law_further_right | exact absurd hq (Ne.symm T.d__law_of_receiver__law_further_right)) (by decide) (by decide)
      (lam_all ⟨LamX.lamS_by (by rfl), by rfl, fun _ _ _ _ _ => by rfl, fun f c' AA' out' s' H' E hr hg => (pe_g (G := (ok_words_of T)) (hb := T.f_words_of.bp) (hm := T.f_words_of.gl) (hk := T.f_words_of.fn.kp) (hr := hr.mono (by decide)) (hgd := hg) (hx := (passes_call (takes_of rfl rfl rfl rfl) (fun _ _ _ _ h => h))) (ha := (pa_cons (pv 0) pa_nil)))⟩
      (lam_all ⟨LamX.lamS_by (by rfl), by rfl, fun _ _ _ _ _ => by rfl, fun f c' AA' out' s' H' E hr hg => (pe_g (G := (ok_is_word T)) (hb := T.f_is_word.bp) (hm := T.f_is_word.gl) (hk := T.f_is_word.fn.kp) (hr := hr.mono (by decide)) (hgd := hg) (hx := (passes_call (takes_of rfl rfl rfl rfl) (fun _ _ _ _ h => h))) (ha := (pa_cons (pv 0) (pa_cons pe_non pa_nil))))⟩
      (lam_all ⟨LamX.lamS_by (by rfl), by rfl, fun _ _ _ _ _ => by rfl, fun f c' AA' out' s' H' E hr hg => (pe_g (G := (ok_frame_of T)) (hb := T.f_frame_of.bp) (hm := T.f_frame_of.gl) (hk := T.f_frame_of.fn.kp) (hr := hr.mono (by decide)) (hgd := hg) (hx := (passes_call (takes_of rfl rfl rfl rfl) (fun _ _ _ _ h => h))) (ha := (pa_cons (pv 0) (pa_cons pe_non pa_nil))))⟩
      (lam_all ⟨LamX.lamS_by (by rfl), by rfl, fun _ _ _ _ _ => by rfl, fun f c' AA' out' s' H' E hr hg => (pe_g (G := (ok_begin_of T)) (hb := T.f_begin_of.bp) (hm := T.f_begin_of.gl) (hk := T.f_begin_of.fn.kp) (hr := hr.mono (by decide)) (hgd := hg) (hx := (passes_call (takes_of rfl rfl rfl rfl) (fun _ _ _ _ h => h))) (ha := (pa_cons (pv 0) pa_nil)))⟩
      (lam_all ⟨LamX.lamS_by (by rfl), by rfl, fun _ _ _ _ _ => by rfl, fun f c' AA' out' s' H' E hr hg => (pe_g (G := (ok_is_end T)) (hb := T.f_is_end.bp) (hm := T.f_is_end.gl) (hk := T.f_is_end.fn.kp) (hr := hr.mono (by decide)) (hgd := hg) (hx := (passes_call (takes_of rfl rfl rfl rfl) (fun _ _ _ _ h => h))) (ha := (pa_cons (pv 0) (pa_cons pe_non pa_nil))))⟩
      (lam_all ⟨LamX.lamS_by (by rfl), by rfl, fun _ _ _ _ _ => by rfl, fun f c' AA' out' s' H' E hr hg => (pe_g (G := (ok_steps_of T)) (hb := T.f_steps_of.bp) (hm := T.f_steps_of.gl) (hk := T.f_steps_of.fn.kp) (hr := hr.mono (by decide)) (hgd := hg) (hx := (passes_call (takes_of rfl rfl rfl rfl) (fun _ _ _ _ h => h))) (ha := (pa_cons (pv 0) (pa_cons pe_non pa_nil))))⟩
      (lam_all ⟨LamX.lamS_by (by rfl), by rfl, fun _ _ _ _ _ => by rfl, fun f c' AA' out' s' H' E hr hg => (pe_g (G := (ok_word_of T)) (hb := T.f_word_of.bp) (hm := T.f_word_of.gl) (hk := T.f_word_of.fn.kp) (hr := hr.mono (by decide)) (hgd := hg) (hx := (passes_call (takes_of rfl rfl rfl rfl) (fun _ _ _ _ h => h))) (ha := (pa_cons (pv 0) (pa_cons pe_non pa_nil))))⟩
      (lam_all ⟨LamX.lamS_by (by rfl), by rfl, fun _ _ _ _ _ => by rfl, fun f c' AA' out' s' H' E hr hg => (pe_g (G := (ok_nearest T)) (hb := T.f_nearest.bp) (hm := T.f_nearest.gl) (hk := T.f_nearest.fn.kp) (hr := hr.mono (by decide)) (hgd := hg) (hx := (passes_call (takes_of rfl rfl rfl rfl) (fun _ _ _ _ h => h))) (ha := (pa_cons (pv 0) (pa_cons pe_non pa_nil))))⟩
      (lam_all ⟨LamX.lamS_by (by rfl), by rfl, fun _ _ _ _ _ => by rfl, fun f c' AA' out' s' H' E hr hg => (pe_g (G := (ok_table_text T)) (hb := T.f_table_text.bp) (hm := T.f_table_text.gl) (hk := T.f_table_text.fn.kp) (hr := hr.mono (by decide)) (hgd := hg) (hx := (passes_call (takes_of rfl rfl rfl rfl) (fun _ _ _ _ h => h))) (ha := (pa_cons (pv 0) pa_nil)))⟩
      lam_none))))))))) (by rfl)
      (All2.cons ⟨⟨_, _, _, _, _, by rfl, by rfl, by rfl, by rfl⟩⟩ (All2.cons ⟨⟨_, _, _, _, _, by rfl, by rfl, by rfl, by rfl⟩⟩ (All2.cons ⟨⟨_, _, _, _, _, by rfl, by rfl, by rfl, by rfl⟩⟩ (All2.cons ⟨⟨_, _, _, _, _, by rfl, by rfl, by rfl, by rfl⟩⟩ (All2.cons ⟨⟨_, _, _, _, _, by rfl, by rfl, by rfl, by rfl⟩⟩ (All2.cons ⟨⟨_, _, _, _, _, by rfl, by rfl, by rfl, by rfl⟩⟩ (All2.cons ⟨⟨_, _, _, _, _, by rfl, by rfl, by rfl, by rfl⟩⟩ (All2.cons ⟨⟨_, _, _, _, _, by rfl, by rfl, by rfl, by rfl⟩⟩ All2.nil)))))))) (by show 9 < 1000; decide) rfl rfl (takes_of rfl rfl rfl rfl) rfl (blkOk_by (own := [("call", 3)]) (N := ["odd", "due", "some", "call"]) (sc := defScope s__law_of_table) (by decide +kernel)) (pv 2) T.f__law_said.fn T.f__law_said.bp sc__law_said (by rfl) (Or.inl rfl) T.f__law_said.gl (gv__law_said T) (hr.mono (by decide)) hg rfl (fun _ _ => Or.inl (by rfl)) (fun _ _ _ _ _ => by rfl) (fun _ _ _ _ _ => (pg_name (i := 3) sc__law_of_table.nd rfl (Or.inl rfl))) (fun _ _ _ _ _ => (pv 3)) (fun _ _ _ _ _ => (pv 1)) (by decide) (by decide) (by decide) (by show 3 < 4; decide))
  · obtain ⟨ds, r, hl, hp, hT, q⟩ := h
    exact tl_table rfl r hp (ls_table_ref K A) hT (by simp) (ten_BadTable T) (by simp) q
def ls_receiver (K : PySem.W.Frag) (A : Adr) : List LamI := [(lam0 ((defBody s__law_of_receiver).getD 0 (.Pass ⟨0, 0, 0, 0⟩)) (fun E => (tCall (p_reads17 K A.c_BadReceiver A.c_BadBurst A.c_Ratio) [] E (tCons (tVar 0) (tCons (tC .non) tNil))))), (lamA ((defBody s__law_of_receiver).getD 1 (.Pass ⟨0, 0, 0, 0⟩)) (fun E => (tCall (p_refR K A.c_Ratio A.c_BadReceiver 2) [] E (tCons (tVar 0) (tCons (tC .non) tNil))))), (lamA ((defBody s__law_of_receiver).getD 2 (.Pass ⟨0, 0, 0, 0⟩)) (fun E => (tCall (p_refR K A.c_Ratio A.c_BadReceiver 1) [] E (tCons (tVar 0) tNil)))), (lamA ((defBody s__law_of_receiver).getD 3 (.Pass ⟨0, 0, 0, 0⟩)) (fun E => (tCall (p_taken17 K A.c_BadReceiver A.c_BadRatio A.c_Ratio) [] E (tCons (tVar 0) (tCons (tC .non) tNil))))), (lamA ((defBody s__law_of_receiver).getD 4 (.Pass ⟨0, 0, 0, 0⟩)) (fun E => (tCall (p_check17 K A.c_BadReceiver A.c_BadRatio A.c_BadPaper A.c_Ratio) [] E (tCons (tVar 0) (tCons (tC .non) (tCons (tC .non) tNil)))))), (lamA ((defBody s__law_of_receiver).getD 5 (.Pass ⟨0, 0, 0, 0⟩)) (fun E => (tCall (p_refR K A.c_Ratio A.c_BadReceiver 1) [] E (tCons (tVar 0) tNil)))), (lamA ((defBody s__law_of_receiver).getD 6 (.Pass ⟨0, 0, 0, 0⟩)) (fun E => (tCall (p_taken17 K A.c_BadReceiver A.c_BadRatio A.c_Ratio) [] E (tCons (tVar 0) (tCons (tC .non) tNil))))), (lamA ((defBody s__law_of_receiver).getD 7 (.Pass ⟨0, 0, 0, 0⟩)) (fun E => (tCall (p_refR K A.c_Ratio A.c_BadReceiver 1) [] E (tCons (tVar 0) tNil))))]
theorem ls_receiver_ref (K : PySem.W.Frag) (A : Adr) : ∀ l ∈ ls_receiver K A, RefR K A.c_Ratio A.c_BadReceiver l.t := by
  unfold ls_receiver
  refine ref_0 (P := (RefR K A.c_Ratio A.c_BadReceiver)) ?_ (ref_A (P := (RefR K A.c_Ratio A.c_BadReceiver)) ?_ (ref_A (P := (RefR K A.c_Ratio A.c_BadReceiver)) ?_ (ref_A (P := (RefR K A.c_Ratio A.c_BadReceiver)) ?_ (ref_A (P := (RefR K A.c_Ratio A.c_BadReceiver)) ?_ (ref_A (P := (RefR K A.c_Ratio A.c_BadReceiver)) ?_ (ref_A (P := (RefR K A.c_Ratio A.c_BadReceiver)) ?_ (ref_A (P := (RefR K A.c_Ratio A.c_BadReceiver)) ?_ (fun _ h => nomatch h))))))))
  all_goals first | exact refR_1 | exact refR_2 | exact refR_r | exact refR_t | exact refR_c
theorem ok__law_of_receiver (T : Txt K mg A) (TB__law_of_receiver : LamX.TabB base mg A.k__law_of_receiver A.t__law_of_receiver) : GOk PG w K mg base 15 A.a__law_of_receiver A.d__law_of_receiver ["odd", "due"] (p__law_of_receiver K A.c_BadReceiver A.c_Ratio [(A.t__law_of_table, "_law_of_table.<locals>.<lambda>"), (A.t__law_of_receiver, "_law_of_receiver.<locals>.<lambda>"), (A.t__law_further_right, "_law_further_right.<locals>.<lambda>")]) := by
  refine okGC T.l__law_of_receiver sc__law_of_receiver (fun vs H Q E h => ?_) fun AA out s H vs Q E hr hg h => ⟨tLams K [(A.t__law_of_table, "_law_of_table.<locals>.<lambda>"), (A.t__law_of_receiver, "_law_of_receiver.<locals>.<lambda>"), (A.t__law_further_right, "_law_further_right.<locals>.<lambda>")] (ls_receiver K A) (RG K ⟨A.c_BadRatio, A.c_BadTable, A.c_BadWord, A.c_BadBurst, A.c_BadReceiver, A.c_BadNumber, A.c_BadPaper, A.c_BadStyle, A.c_BadRow, A.c_BadText⟩ [A.c_BadRatio, A.c_BadTable, A.c_BadBurst, A.c_BadReceiver, A.c_BadPaper] [A.c_BadRatio, A.c_BadBurst] [A.c_BadTable, A.c_BadPaper]) 2 1 "receiver", ?_, ?_⟩
  · obtain ⟨ds, r, hl, _⟩ := h
    exact r.len.trans hl
  · unfold ls_receiver
    exact (pss_lams (W := E) (T := [(A.t__law_of_table, "_law_of_table.<locals>.<lambda>"), (A.t__law_of_receiver, "_law_of_receiver.<locals>.<lambda>"), (A.t__law_further_right, "_law_further_right.<locals>.<lambda>")]) (k := 12) (c := A.k__law_of_receiver) (P := A.t__law_of_receiver) (y := "some") (w := "call") (x := "_law_said") (zn := "due") (sts := ((defBody s__law_of_receiver).drop 1).take 7) rfl sc__law_of_receiver.nd rfl (by rfl) TB__law_of_receiver rfl (by first | exact List.mem_cons_self | exact List.mem_cons_of_mem _ List.mem_cons_self | exact List.mem_cons_of_mem _ (List.mem_cons_of_mem _ List.mem_cons_self)) (fun p hp hq => by simp only [List.mem_cons, List.not_mem_nil, or_false] at hp; rcases hp with rfl | rfl | rfl <;> first | rfl | exact absurd hq T.d__law_of_table__law_of_receiver | exact absurd hq (Ne.symm T.d__law_of_table__law_of_receiver) | exact absurd hq T.d__law_of_table__law_further_right | exact absurd hq (Ne.symm T.d__law_of_table__law_further_right) | exact absurd hq T.d__law_of_receiver__law_further_right | exact absurd hq (Ne.symm T.d__law_of_receiver__law_further_right)) (by decide) (by decide)
      (lam_all ⟨LamX.lamS_by (by rfl), by rfl, fun _ _ _ _ _ => by rfl, fun f c' AA' out' s' H' E hr hg => (pe_g (G := (ok_reads T)) (hb := T.f_reads.bp) (hm := T.f_reads.gl) (hk := T.f_reads.fn.kp) (hr := hr.mono (by decide)) (hgd := hg) (hx := (passes_call (takes_of rfl rfl rfl rfl) (fun _ _ _ _ h => h))) (ha := (pa_cons (pv 0) (pa_cons pe_non pa_nil))))⟩
      (lam_all ⟨LamX.lamS_by (by rfl), by rfl, fun _ _ _ _ _ => by rfl, fun f c' AA' out' s' H' E hr hg => (pe_g (G := (ok_is_sending T)) (hb := T.f_is_sending.bp) (hm := T.f_is_sending.gl) (hk := T.f_is_sending.fn.kp) (hr := hr.mono (by decide)) (hgd := hg) (hx := (passes_call (takes_of rfl rfl rfl rfl) (fun _ _ _ _ h => h))) (ha := (pa_cons (pv 0) (pa_cons pe_non pa_nil))))⟩
      (lam_all ⟨LamX.lamS_by (by rfl), by rfl, fun _ _ _ _ _ => by rfl, fun f c' AA' out' s' H' E hr hg => (pe_g (G := (ok_start_stands T)) (hb := T.f_start_stands.bp) (hm := T.f_start_stands.gl) (hk := T.f_start_stands.fn.kp) (hr := hr.mono (by decide)) (hgd := hg) (hx := (passes_call (takes_of rfl rfl rfl rfl) (fun _ _ _ _ h => h))) (ha := (pa_cons (pv 0) pa_nil)))⟩
      (lam_all ⟨LamX.lamS_by (by rfl), by rfl, fun _ _ _ _ _ => by rfl, fun f c' AA' out' s' H' E hr hg => (pe_g (G := (ok_taken T)) (hb := T.f_taken.bp) (hm := T.f_taken.gl) (hk := T.f_taken.fn.kp) (hr := hr.mono (by decide)) (hgd := hg) (hx := (passes_call (takes_of rfl rfl rfl rfl) (fun _ _ _ _ h => h))) (ha := (pa_cons (pv 0) (pa_cons pe_non pa_nil))))⟩
      (lam_all ⟨LamX.lamS_by (by rfl), by rfl, fun _ _ _ _ _ => by rfl, fun f c' AA' out' s' H' E hr hg => (pe_g (G := (ok_check_taken T)) (hb := T.f_check_taken.bp) (hm := T.f_check_taken.gl) (hk := T.f_check_taken.fn.kp) (hr := hr.mono (by decide)) (hgd := hg) (hx := (passes_call (takes_of rfl rfl rfl rfl) (fun _ _ _ _ h => h))) (ha := (pa_cons (pv 0) (pa_cons pe_non (pa_cons pe_non pa_nil)))))⟩
      (lam_all ⟨LamX.lamS_by (by rfl), by rfl, fun _ _ _ _ _ => by rfl, fun f c' AA' out' s' H' E hr hg => (pe_g (G := (ok_limit_of T)) (hb := T.f_limit_of.bp) (hm := T.f_limit_of.gl) (hk := T.f_limit_of.fn.kp) (hr := hr.mono (by decide)) (hgd := hg) (hx := (passes_call (takes_of rfl rfl rfl rfl) (fun _ _ _ _ h => h))) (ha := (pa_cons (pv 0) pa_nil)))⟩
      (lam_all ⟨LamX.lamS_by (by rfl), by rfl, fun _ _ _ _ _ => by rfl, fun f c' AA' out' s' H' E hr hg => (pe_g (G := (ok_is_safe T)) (hb := T.f_is_safe.bp) (hm := T.f_is_safe.gl) (hk := T.f_is_safe.fn.kp) (hr := hr.mono (by decide)) (hgd := hg) (hx := (passes_call (takes_of rfl rfl rfl rfl) (fun _ _ _ _ h => h))) (ha := (pa_cons (pv 0) (pa_cons pe_non pa_nil))))⟩
      (lam_all ⟨LamX.lamS_by (by rfl), by rfl, fun _ _ _ _ _ => by rfl, fun f c' AA' out' s' H' E hr hg => (pe_g (G := (ok_margin_of T)) (hb := T.f_margin_of.bp) (hm := T.f_margin_of.gl) (hk := T.f_margin_of.fn.kp) (hr := hr.mono (by decide)) (hgd := hg) (hx := (passes_call (takes_of rfl rfl rfl rfl) (fun _ _ _ _ h => h))) (ha := (pa_cons (pv 0) pa_nil)))⟩
      lam_none)))))))) (by rfl)
      (All2.cons ⟨⟨_, _, _, _, _, by rfl, by rfl, by rfl, by rfl⟩⟩ (All2.cons ⟨⟨_, _, _, _, _, by rfl, by rfl, by rfl, by rfl⟩⟩ (All2.cons ⟨⟨_, _, _, _, _, by rfl, by rfl, by rfl, by rfl⟩⟩ (All2.cons ⟨⟨_, _, _, _, _, by rfl, by rfl, by rfl, by rfl⟩⟩ (All2.cons ⟨⟨_, _, _, _, _, by rfl, by rfl, by rfl, by rfl⟩⟩ (All2.cons ⟨⟨_, _, _, _, _, by rfl, by rfl, by rfl, by rfl⟩⟩ (All2.cons ⟨⟨_, _, _, _, _, by rfl, by rfl, by rfl, by rfl⟩⟩ All2.nil))))))) (by show 8 < 1000; decide) rfl rfl (takes_of rfl rfl rfl rfl) rfl (blkOk_by (own := [("call", 3)]) (N := ["odd", "due", "some", "call"]) (sc := defScope s__law_of_receiver) (by decide +kernel)) (pv 2) T.f__law_said.fn T.f__law_said.bp sc__law_said (by rfl) (Or.inl rfl) T.f__law_said.gl (gv__law_said T) (hr.mono (by decide)) hg rfl (fun _ _ => Or.inl (by rfl)) (fun _ _ _ _ _ => by rfl) (fun _ _ _ _ _ => (pg_name (i := 3) sc__law_of_receiver.nd rfl (Or.inl rfl))) (fun _ _ _ _ _ => (pv 3)) (fun _ _ _ _ _ => (pv 1)) (by decide) (by decide) (by decide) (by show 3 < 4; decide))
  · obtain ⟨ds, r, hl, hp, hT, q⟩ := h
    exact tl_receiver rfl r hp (ls_receiver_ref K A) hT (by simp) (ten_BadReceiver T) q
theorem tenok (T : Txt K mg A) : TenOk K ⟨A.c_BadRatio, A.c_BadTable, A.c_BadWord, A.c_BadBurst, A.c_BadReceiver, A.c_BadNumber, A.c_BadPaper, A.c_BadStyle, A.c_BadRow, A.c_BadText⟩ [A.c_BadRatio, A.c_BadTable, A.c_BadBurst, A.c_BadReceiver, A.c_BadPaper] [A.c_BadRatio, A.c_BadBurst] [A.c_BadTable, A.c_BadPaper] := ⟨ten_BadRatio T, by simp, by simp, ten_BadBurst T, by simp, by simp, ten_BadPaper T, by simp, by simp⟩
theorem ok__law_further_right (T : Txt K mg A) (TB__law_further_right : LamX.TabB base mg A.k__law_further_right A.t__law_further_right) : GOk PG w K mg base 15 A.a__law_further_right A.d__law_further_right ["draw", "receiver"] (p__law_further_right K [(A.t__law_of_table, "_law_of_table.<locals>.<lambda>"), (A.t__law_of_receiver, "_law_of_receiver.<locals>.<lambda>"), (A.t__law_further_right, "_law_further_right.<locals>.<lambda>")] A.c_Ratio) := by
  refine okGC T.l__law_further_right sc__law_further_right (fun vs H Q E h => ?_) fun AA out s H vs Q E hr hg h => ⟨t__law_further_right K [(A.t__law_of_table, "_law_of_table.<locals>.<lambda>"), (A.t__law_of_receiver, "_law_of_receiver.<locals>.<lambda>"), (A.t__law_further_right, "_law_further_right.<locals>.<lambda>")] ⟨A.c_BadRatio, A.c_BadTable, A.c_BadWord, A.c_BadBurst, A.c_BadReceiver, A.c_BadNumber, A.c_BadPaper, A.c_BadStyle, A.c_BadRow, A.c_BadText⟩ [A.c_BadRatio, A.c_BadTable, A.c_BadBurst, A.c_BadReceiver, A.c_BadPaper] [A.c_BadRatio, A.c_BadBurst] [A.c_BadTable, A.c_BadPaper] A.c_Ratio, ?_, ?_⟩
  · obtain ⟨a, c, cs, n, ds, ws, hT, rfl, r, hl, _⟩ := h
    show ws.length + 1 = 2
    rw [r.len, hl]
  · exact PSs.nox (pss_cons (ps_asg (pe_tup (pa_cons (pe_g (G := (ok__law_pick T)) (hb := T.f__law_pick.bp) (hm := T.f__law_pick.gl) (hk := T.f__law_pick.fn.kp) (hr := hr.mono (by decide)) (hgd := hg) (hx := passL) (ha := (pa_cons (pv 0) (pa_cons (pe_lst (pa_cons pe_non (pa_cons pe_int (pa_cons pe_int (pa_cons pe_str (pa_cons pe_bl (pa_cons (pe_tup (pa_cons pe_int (pa_cons pe_int pa_nil))) pa_nil))))))) pa_nil)))) (pa_cons (pe_ix ix_seq (pe_ix ix_seq (pv 1) pe_int (fun _ _ => rfl)) pe_int (fun _ _ => rfl)) pa_nil))) (pg_tup rfl (pgs_cons (pg_name (i := 2) sc__law_further_right.nd rfl (Or.inr rfl)) (pgs_cons (pg_name (i := 3) sc__law_further_right.nd rfl (Or.inr rfl)) pgs_nil))))
      (pss_cons (ps_set (i := 4) sc__law_further_right.nd rfl (Or.inl rfl) (pe_lst (pa_cons (pe_lamF (T := [(A.t__law_of_table, "_law_of_table.<locals>.<lambda>"), (A.t__law_of_receiver, "_law_of_receiver.<locals>.<lambda>"), (A.t__law_further_right, "_law_further_right.<locals>.<lambda>")]) (P := A.t__law_further_right) (c := A.k__law_further_right) T.f__law_said.fn T.f__law_said.bp sc__law_said (by rfl) (Or.inl rfl) T.f__law_said.gl (gv__law_said T) TB__law_further_right rfl (by first | exact List.mem_cons_self | exact List.mem_cons_of_mem _ List.mem_cons_self | exact List.mem_cons_of_mem _ (List.mem_cons_of_mem _ List.mem_cons_self)) (fun p hp hq => by simp only [List.mem_cons, List.not_mem_nil, or_false] at hp; rcases hp with rfl | rfl | rfl <;> first | rfl | exact absurd hq T.d__law_of_table__law_of_receiver | exact absurd hq (Ne.symm T.d__law_of_table__law_of_receiver) | exact absurd hq T.d__law_of_table__law_further_right | exact absurd hq (Ne.symm T.d__law_of_table__law_further_right) | exact absurd hq T.d__law_of_receiver__law_further_right | exact absurd hq (Ne.symm T.d__law_of_receiver__law_further_right)) (hr.mono (by decide)) hg (fun _ _ _ _ _ => rfl) (fun f c' AA' out' s' H' E hr hg => (pe_g (G := (ok_taken T)) (hb := T.f_taken.bp) (hm := T.f_taken.gl) (hk := T.f_taken.fn.kp) (hr := hr.mono (by decide)) (hgd := hg) (hx := (passes_call (takes_of rfl rfl rfl rfl) (fun _ _ _ _ h => h))) (ha := (pa_cons (pv 1) (pa_cons (pv 2) pa_nil)))))) pa_nil)))
      (pss_cons (ps_expr (pe_bm PySem.F.plainAttrs_list PySem.F.slot_list_append PySem.F.type_list_append mt_append (pv 4) (pa_cons (pe_lamF (T := [(A.t__law_of_table, "_law_of_table.<locals>.<lambda>"), (A.t__law_of_receiver, "_law_of_receiver.<locals>.<lambda>"), (A.t__law_further_right, "_law_further_right.<locals>.<lambda>")]) (P := A.t__law_further_right) (c := A.k__law_further_right) T.f__law_said.fn T.f__law_said.bp sc__law_said (by rfl) (Or.inl rfl) T.f__law_said.gl (gv__law_said T) TB__law_further_right rfl (by first | exact List.mem_cons_self | exact List.mem_cons_of_mem _ List.mem_cons_self | exact List.mem_cons_of_mem _ (List.mem_cons_of_mem _ List.mem_cons_self)) (fun p hp hq => by simp only [List.mem_cons, List.not_mem_nil, or_false] at hp; rcases hp with rfl | rfl | rfl <;> first | rfl | exact absurd hq T.d__law_of_table__law_of_receiver | exact absurd hq (Ne.symm T.d__law_of_table__law_of_receiver) | exact absurd hq T.d__law_of_table__law_further_right | exact absurd hq (Ne.symm T.d__law_of_table__law_further_right) | exact absurd hq T.d__law_of_receiver__law_further_right | exact absurd hq (Ne.symm T.d__law_of_receiver__law_further_right)) (hr.mono (by decide)) hg (fun _ _ _ _ _ => rfl) (fun f c' AA' out' s' H' E hr hg => (pe_g (G := (ok_check_taken T)) (hb := T.f_check_taken.bp) (hm := T.f_check_taken.gl) (hk := T.f_check_taken.fn.kp) (hr := hr.mono (by decide)) (hgd := hg) (hx := (passes_call (takes_of rfl rfl rfl rfl) (fun _ _ _ _ h => h))) (ha := (pa_cons (pv 1) (pa_cons (pv 2) (pa_cons pe_non pa_nil))))))) pa_nil)))
      (pss_cons (ps_expr (pe_bm PySem.F.plainAttrs_list PySem.F.slot_list_append PySem.F.type_list_append mt_append (pv 4) (pa_cons (pe_lamF (T := [(A.t__law_of_table, "_law_of_table.<locals>.<lambda>"), (A.t__law_of_receiver, "_law_of_receiver.<locals>.<lambda>"), (A.t__law_further_right, "_law_further_right.<locals>.<lambda>")]) (P := A.t__law_further_right) (c := A.k__law_further_right) T.f__law_said.fn T.f__law_said.bp sc__law_said (by rfl) (Or.inl rfl) T.f__law_said.gl (gv__law_said T) TB__law_further_right rfl (by first | exact List.mem_cons_self | exact List.mem_cons_of_mem _ List.mem_cons_self | exact List.mem_cons_of_mem _ (List.mem_cons_of_mem _ List.mem_cons_self)) (fun p hp hq => by simp only [List.mem_cons, List.not_mem_nil, or_false] at hp; rcases hp with rfl | rfl | rfl <;> first | rfl | exact absurd hq T.d__law_of_table__law_of_receiver | exact absurd hq (Ne.symm T.d__law_of_table__law_of_receiver) | exact absurd hq T.d__law_of_table__law_further_right | exact absurd hq (Ne.symm T.d__law_of_table__law_further_right) | exact absurd hq T.d__law_of_receiver__law_further_right | exact absurd hq (Ne.symm T.d__law_of_receiver__law_further_right)) (hr.mono (by decide)) hg (fun _ _ _ _ _ => rfl) (fun f c' AA' out' s' H' E hr hg => (pe_g (G := (ok_is_safe T)) (hb := T.f_is_safe.bp) (hm := T.f_is_safe.gl) (hk := T.f_is_safe.fn.kp) (hr := hr.mono (by decide)) (hgd := hg) (hx := (passes_call (takes_of rfl rfl rfl rfl) (fun _ _ _ _ h => h))) (ha := (pa_cons (pv 1) (pa_cons (pv 2) pa_nil)))))) pa_nil)))
      (pss_cons (ps_expr (pe_bm PySem.F.plainAttrs_list PySem.F.slot_list_append PySem.F.type_list_append mt_append (pv 4) (pa_cons (pe_lamF (T := [(A.t__law_of_table, "_law_of_table.<locals>.<lambda>"), (A.t__law_of_receiver, "_law_of_receiver.<locals>.<lambda>"), (A.t__law_further_right, "_law_further_right.<locals>.<lambda>")]) (P := A.t__law_further_right) (c := A.k__law_further_right) T.f__law_said.fn T.f__law_said.bp sc__law_said (by rfl) (Or.inl rfl) T.f__law_said.gl (gv__law_said T) TB__law_further_right rfl (by first | exact List.mem_cons_self | exact List.mem_cons_of_mem _ List.mem_cons_self | exact List.mem_cons_of_mem _ (List.mem_cons_of_mem _ List.mem_cons_self)) (fun p hp hq => by simp only [List.mem_cons, List.not_mem_nil, or_false] at hp; rcases hp with rfl | rfl | rfl <;> first | rfl | exact absurd hq T.d__law_of_table__law_of_receiver | exact absurd hq (Ne.symm T.d__law_of_table__law_of_receiver) | exact absurd hq T.d__law_of_table__law_further_right | exact absurd hq (Ne.symm T.d__law_of_table__law_further_right) | exact absurd hq T.d__law_of_receiver__law_further_right | exact absurd hq (Ne.symm T.d__law_of_receiver__law_further_right)) (hr.mono (by decide)) hg (fun _ _ _ _ _ => rfl) (fun f c' AA' out' s' H' E hr hg => (pe_g (G := (ok_check_taken T)) (hb := T.f_check_taken.bp) (hm := T.f_check_taken.gl) (hk := T.f_check_taken.fn.kp) (hr := hr.mono (by decide)) (hgd := hg) (hx := (passes_call (takes_of rfl rfl rfl rfl) (fun _ _ _ _ h => h))) (ha := (pa_cons (pv 1) (pa_cons (pv 3) (pa_cons pe_non pa_nil))))))) pa_nil)))
      (pss_cons (ps_expr (pe_bm PySem.F.plainAttrs_list PySem.F.slot_list_append PySem.F.type_list_append mt_append (pv 4) (pa_cons (pe_lamF (T := [(A.t__law_of_table, "_law_of_table.<locals>.<lambda>"), (A.t__law_of_receiver, "_law_of_receiver.<locals>.<lambda>"), (A.t__law_further_right, "_law_further_right.<locals>.<lambda>")]) (P := A.t__law_further_right) (c := A.k__law_further_right) T.f__law_said.fn T.f__law_said.bp sc__law_said (by rfl) (Or.inl rfl) T.f__law_said.gl (gv__law_said T) TB__law_further_right rfl (by first | exact List.mem_cons_self | exact List.mem_cons_of_mem _ List.mem_cons_self | exact List.mem_cons_of_mem _ (List.mem_cons_of_mem _ List.mem_cons_self)) (fun p hp hq => by simp only [List.mem_cons, List.not_mem_nil, or_false] at hp; rcases hp with rfl | rfl | rfl <;> first | rfl | exact absurd hq T.d__law_of_table__law_of_receiver | exact absurd hq (Ne.symm T.d__law_of_table__law_of_receiver) | exact absurd hq T.d__law_of_table__law_further_right | exact absurd hq (Ne.symm T.d__law_of_table__law_further_right) | exact absurd hq T.d__law_of_receiver__law_further_right | exact absurd hq (Ne.symm T.d__law_of_receiver__law_further_right)) (hr.mono (by decide)) hg (fun _ _ _ _ _ => rfl) (fun f c' AA' out' s' H' E hr hg => (pe_g (G := (ok_reads T)) (hb := T.f_reads.bp) (hm := T.f_reads.gl) (hk := T.f_reads.fn.kp) (hr := hr.mono (by decide)) (hgd := hg) (hx := (passes_call (takes_of rfl rfl rfl rfl) (fun _ _ _ _ h => h))) (ha := (pa_cons (pv 1) (pa_cons (pv 2) pa_nil)))))) pa_nil)))
      (pss_cons (ps_expr (pe_bm PySem.F.plainAttrs_list PySem.F.slot_list_append PySem.F.type_list_append mt_append (pv 4) (pa_cons (pe_lamF (T := [(A.t__law_of_table, "_law_of_table.<locals>.<lambda>"), (A.t__law_of_receiver, "_law_of_receiver.<locals>.<lambda>"), (A.t__law_further_right, "_law_further_right.<locals>.<lambda>")]) (P := A.t__law_further_right) (c := A.k__law_further_right) T.f__law_said.fn T.f__law_said.bp sc__law_said (by rfl) (Or.inl rfl) T.f__law_said.gl (gv__law_said T) TB__law_further_right rfl (by first | exact List.mem_cons_self | exact List.mem_cons_of_mem _ List.mem_cons_self | exact List.mem_cons_of_mem _ (List.mem_cons_of_mem _ List.mem_cons_self)) (fun p hp hq => by simp only [List.mem_cons, List.not_mem_nil, or_false] at hp; rcases hp with rfl | rfl | rfl <;> first | rfl | exact absurd hq T.d__law_of_table__law_of_receiver | exact absurd hq (Ne.symm T.d__law_of_table__law_of_receiver) | exact absurd hq T.d__law_of_table__law_further_right | exact absurd hq (Ne.symm T.d__law_of_table__law_further_right) | exact absurd hq T.d__law_of_receiver__law_further_right | exact absurd hq (Ne.symm T.d__law_of_receiver__law_further_right)) (hr.mono (by decide)) hg (fun _ _ _ _ _ => rfl) (fun f c' AA' out' s' H' E hr hg => (pe_g (G := (ok_nearest T)) (hb := T.f_nearest.bp) (hm := T.f_nearest.gl) (hk := T.f_nearest.fn.kp) (hr := hr.mono (by decide)) (hgd := hg) (hx := (passes_call (takes_of rfl rfl rfl rfl) (fun _ _ _ _ h => h))) (ha := (pa_cons (pe_ix ix_seq (pe_ix ix_seq (pv 1) pe_int (fun _ _ => rfl)) pe_int (fun _ _ => rfl)) (pa_cons (pv 2) pa_nil)))))) pa_nil)))
      (pss_cons (ps_expr (pe_bm PySem.F.plainAttrs_list PySem.F.slot_list_append PySem.F.type_list_append mt_append (pv 4) (pa_cons (pe_lamF (T := [(A.t__law_of_table, "_law_of_table.<locals>.<lambda>"), (A.t__law_of_receiver, "_law_of_receiver.<locals>.<lambda>"), (A.t__law_further_right, "_law_further_right.<locals>.<lambda>")]) (P := A.t__law_further_right) (c := A.k__law_further_right) T.f__law_said.fn T.f__law_said.bp sc__law_said (by rfl) (Or.inl rfl) T.f__law_said.gl (gv__law_said T) TB__law_further_right rfl (by first | exact List.mem_cons_self | exact List.mem_cons_of_mem _ List.mem_cons_self | exact List.mem_cons_of_mem _ (List.mem_cons_of_mem _ List.mem_cons_self)) (fun p hp hq => by simp only [List.mem_cons, List.not_mem_nil, or_false] at hp; rcases hp with rfl | rfl | rfl <;> first | rfl | exact absurd hq T.d__law_of_table__law_of_receiver | exact absurd hq (Ne.symm T.d__law_of_table__law_of_receiver) | exact absurd hq T.d__law_of_table__law_further_right | exact absurd hq (Ne.symm T.d__law_of_table__law_further_right) | exact absurd hq T.d__law_of_receiver__law_further_right | exact absurd hq (Ne.symm T.d__law_of_receiver__law_further_right)) (hr.mono (by decide)) hg (fun _ _ _ _ _ => rfl) (fun f c' AA' out' s' H' E hr hg => (pe_g (G := (ok_burst_text T)) (hb := T.f_burst_text.bp) (hm := T.f_burst_text.gl) (hk := T.f_burst_text.fn.kp) (hr := hr.mono (by decide)) (hgd := hg) (hx := (passes_call (takes_of rfl rfl rfl rfl) (fun _ _ _ _ h => h))) (ha := (pa_cons (pv 2) pa_nil))))) pa_nil)))
      (pss_one (ps_ret (pe_cmpR (op_eqD hr.units) (pv 4) (pe_op op_catS (pe_op op_catS (pe_op op_rep (pe_lst (pa_cons (pe_tup (pa_cons pe_str (pa_cons (pv 2) pa_nil))) pa_nil)) pe_int) (pe_lst (pa_cons (pe_tup (pa_cons pe_str (pa_cons pe_str pa_nil))) pa_nil))) (pe_op op_rep (pe_lst (pa_cons (pe_tup (pa_cons pe_str (pa_cons (pv 2) pa_nil))) pa_nil)) pe_int)) (nomark _))))))))))))
  · obtain ⟨a, c, cs, n, ds, ws, hT, rfl, r, hl, hp, hc, hb, hi, q⟩ := h
    have so := so__law_further_right (K := K) (a := a) (c := c) (n := n) (C := A.c_Ratio) (tenok T) hc hb hp
    rw [hT] at so
    exact so _ _ H H ⟨Gr.refl H, dw_le (by omega) H hi, fun _ z => nomatch z⟩ hi (slots_start (N := ["draw", "receiver", "none", "share", "told"]) (.cons (.raw (.ref a)) r)) ⟨fun _ _ _ _ _ _ z => z.elim, fun v d H2 g2 i2 r e => q v d H2 g2 i2 r (Eq.symm e), fun _ _ _ _ _ _ z => z.elim, fun _ _ _ _ _ _ z => z.elim⟩
theorem ok_law (T : Txt K mg A) (TB__law_of_table : LamX.TabB base mg A.k__law_of_table A.t__law_of_table) (TB__law_of_receiver : LamX.TabB base mg A.k__law_of_receiver A.t__law_of_receiver) (TB__law_further_right : LamX.TabB base mg A.k__law_further_right A.t__law_further_right) : GOk PG w K mg base 16 A.a_law A.d_law ["script"] (p_law17 [(A.k__law_of_table, A.t__law_of_table), (A.k__law_of_receiver, A.t__law_of_receiver), (A.k__law_further_right, A.t__law_further_right)] K) := by
  refine okG T.f_law.fn sc_law (fun vs H Q E h => ?_) fun cdv AA out s H vs Q E hr hg h => ⟨t_law17 K [(A.t__law_of_table, "_law_of_table.<locals>.<lambda>"), (A.t__law_of_receiver, "_law_of_receiver.<locals>.<lambda>"), (A.t__law_further_right, "_law_further_right.<locals>.<lambda>")] ⟨A.c_BadRatio, A.c_BadTable, A.c_BadWord, A.c_BadBurst, A.c_BadReceiver, A.c_BadNumber, A.c_BadPaper, A.c_BadStyle, A.c_BadRow, A.c_BadText⟩ A.c_Ratio, ?_, ?_⟩
  · obtain ⟨s, ns, rfl, _⟩ := h
    rfl
  · exact PSs.nox (pss_cons (ps_set (i := 1) sc_law.nd rfl (Or.inl rfl) (pe_g (G := (ok__law_begin T)) (hb := T.f__law_begin.bp) (hm := T.f__law_begin.gl) (hk := T.f__law_begin.fn.kp) (hr := hr.mono (by decide)) (hgd := hg) (hx := passL) (ha := (pa_cons (pv 0) pa_nil))))
      (pss_cons (ps_for PassesOwn.never rfl (pi_range1 rfl T.m_range (pa_cons pe_int pa_nil)) (pg_name (i := 2) sc_law.nd rfl (Or.inl rfl)) (pss_cons (ps_set (i := 3) sc_law.nd rfl (Or.inl rfl) (pe_g (G := (ok__law_receiver T)) (hb := T.f__law_receiver.bp) (hm := T.f__law_receiver.gl) (hk := T.f__law_receiver.fn.kp) (hr := hr.mono (by decide)) (hgd := hg) (hx := passL) (ha := (pa_cons (pv 1) (pa_cons pe_int (pa_cons pe_int pa_nil))))))
      (pss_cons (ps_set (i := 4) sc_law.nd rfl (Or.inl rfl) (pe_g (G := (ok__law_next T)) (hb := T.f__law_next.bp) (hm := T.f__law_next.gl) (hk := T.f__law_next.fn.kp) (hr := hr.mono (by decide)) (hgd := hg) (hx := passL) (ha := (pa_cons (pv 1) (pa_cons (pe_callB call_len_seq (by rfl) T.m_len (by first | exact PySem.boot_len | exact PyProof.Rows.boot_len | decide +kernel) (pa_cons (pv 3) pa_nil)) pa_nil)))))
      (pss_cons (ps_asg (pe_g (G := (ok__law_bad_table T)) (hb := T.f__law_bad_table.bp) (hm := T.f__law_bad_table.gl) (hk := T.f__law_bad_table.fn.kp) (hr := hr.mono (by decide)) (hgd := hg) (hx := passL) (ha := (pa_cons (pv 1) (pa_cons (pe_ix ix_seq (pe_ix ix_seq (pv 3) (pv 4) (fun _ _ => rfl)) pe_int (fun _ _ => rfl)) pa_nil)))) (pg_tup rfl (pgs_cons (pg_name (i := 5) sc_law.nd rfl (Or.inl rfl)) (pgs_cons (pg_name (i := 6) sc_law.nd rfl (Or.inl rfl)) pgs_nil))))
      (pss_cons (ps_if (PW.pt (pw_or (pt_not (pt_val (pe_g (G := (ok__law_of_table T TB__law_of_table)) (hb := T.f__law_of_table.bp) (hm := T.f__law_of_table.gl) (hk := T.f__law_of_table.fn.kp) (hr := hr.mono (by decide)) (hgd := hg) (hx := passL) (ha := (pa_cons (pv 5) (pa_cons (pv 6) pa_nil)))))) (pw_or1 (pt_not (pt_val (pe_g (G := (ok__law_further_right T TB__law_further_right)) (hb := T.f__law_further_right.bp) (hm := T.f__law_further_right.gl) (hk := T.f__law_further_right.fn.kp) (hr := hr.mono (by decide)) (hgd := hg) (hx := passL) (ha := (pa_cons (pv 1) (pa_cons (pv 3) pa_nil))))))))) (pss_one (ps_ret pe_bl)) pss_nil)
      (pss_cons (ps_set (i := 7) sc_law.nd rfl (Or.inl rfl) (pe_op op_catA (pe_op op_catA (pe_slice sl_tupA (pv 3) po_none (po_some (pv 4))) (pe_tup (pa_cons (pe_tup (pa_cons (pv 5) (pa_cons (pe_mk1 T.r_Ratio (ratI T) (hr.mono (by decide)) hg (pa_cons pe_int pa_nil)) pa_nil))) pa_nil))) (pe_slice sl_tupA (pv 3) (po_some (pe_op op_add (pv 4) pe_int)) po_none)))
      (pss_one (ps_if (PW.pt (pw_or (pt_not (pt_val (pe_g (G := (ok__law_of_receiver T TB__law_of_receiver)) (hb := T.f__law_of_receiver.bp) (hm := T.f__law_of_receiver.gl) (hk := T.f__law_of_receiver.fn.kp) (hr := hr.mono (by decide)) (hgd := hg) (hx := passL) (ha := (pa_cons (pv 7) (pa_cons (pv 4) pa_nil)))))) (pw_or1 (pt_not (pt_val (pe_g (G := (ok__law_of_receiver T TB__law_of_receiver)) (hb := T.f__law_of_receiver.bp) (hm := T.f__law_of_receiver.gl) (hk := T.f__law_of_receiver.fn.kp) (hr := hr.mono (by decide)) (hgd := hg) (hx := passL) (ha := (pa_cons (pe_g (G := (ok__law_pick T)) (hb := T.f__law_pick.bp) (hm := T.f__law_pick.gl) (hk := T.f__law_pick.fn.kp) (hr := hr.mono (by decide)) (hgd := hg) (hx := passL) (ha := (pa_cons (pv 1) (pa_cons (pe_lst (pa_cons pe_non (pa_cons (pe_tup pa_nil) (pa_cons (pe_lst pa_nil) (pa_cons pe_int (pa_cons pe_str pa_nil)))))) pa_nil)))) (pa_cons pe_non pa_nil))))))))) (pss_one (ps_ret pe_bl)) pss_nil))))))))
      (pss_one (ps_ret pe_bl))))
  · obtain ⟨s, ns, rfl, hs, hl, hH, q⟩ := h
    have hTb : LamX.Tabs [(A.t__law_of_table, "_law_of_table.<locals>.<lambda>"), (A.t__law_of_receiver, "_law_of_receiver.<locals>.<lambda>"), (A.t__law_further_right, "_law_further_right.<locals>.<lambda>")] H := fun p hp => by
      simp only [List.mem_cons, List.not_mem_nil, or_false] at hp
      rcases hp with rfl | rfl | rfl
      · exact LamX.TabS.nil (hH (A.k__law_of_table, A.t__law_of_table) (by simp))
      · exact LamX.TabS.nil (hH (A.k__law_of_receiver, A.t__law_of_receiver) (by simp))
      · exact LamX.TabS.nil (hH (A.k__law_further_right, A.t__law_further_right) (by simp))
    refine ⟨.ref s, rfl, s, ns, [(A.t__law_of_table, "_law_of_table.<locals>.<lambda>"), (A.t__law_of_receiver, "_law_of_receiver.<locals>.<lambda>"), (A.t__law_further_right, "_law_further_right.<locals>.<lambda>")], rfl, hs, hl, hTb, fun p c H' g i => ?_⟩
    have i0 := dw_of (n := 0) (Int.le_refl 0) (Int.le_refl 0) (Int.le_refl 0) (Int.le_refl 0) (Int.le_refl 0) H' i
    refine so_law17 (c := ⟨c, [(A.t__law_of_table, "_law_of_table.<locals>.<lambda>"), (A.t__law_of_receiver, "_law_of_receiver.<locals>.<lambda>"), (A.t__law_further_right, "_law_further_right.<locals>.<lambda>")]⟩) (C := A.c_Ratio) (t := ⟨A.c_BadRatio, A.c_BadTable, A.c_BadWord, A.c_BadBurst, A.c_BadReceiver, A.c_BadNumber, A.c_BadPaper, A.c_BadStyle, A.c_BadRow, A.c_BadText⟩) (x0 := some (.raw (.ref s))) (by simp) _ _ H' H' ⟨Gr.refl H', dw_le (by decide) H' i0, fun _ z => nomatch z⟩ i0 ((slots_start (N := ["script", "draw", "turn", "receiver", "at", "odd", "due", "spoiled"]) (.cons (.raw (.ref s)) .nil)).set (v := .ref p) (.raw (.ref p)) 1) ⟨fun _ _ _ _ _ _ z => z.elim, fun v d H2 g2 i2 r e => ?_, fun _ _ _ _ _ _ z => z.elim, fun _ _ _ _ _ _ z => z.elim⟩
    cases e
    obtain rfl := r.blI
    exact q H2
end
end Bf
namespace Bf
open PySem PySem.Spec PyProof.Rows L2
/-- an error of the class at S is what «except S» names -/
theorem exm_self {K : PySem.W.Frag} {S : Addr} (h1 : PySem.W.subIn K (.ref S) (.type "BaseException") = some true) (h2 : PySem.W.isClsIn K S = true) (h3 : PySem.W.typeIn K (.ref S) = some (.type "type")) (h4 : PySem.W.subIn K (.ref S) (.ref S) = some true) : PySem.W.exmOne K (.ref S) (.ref S) = some true := by
  have h2' : (PySem.W.clsIn K S).isSome = true := h2
  have e1 : (PySem.W.subIn K (.ref S) (.type "BaseException") == some true) = true := by rw [h1] <;> rfl
  have e2 : ((PySem.W.clsIn K S).isSome && PySem.W.typeIn K (.ref S) == some (.type "type")) = true := by
    rw [h2', h3] <;> rfl
  show (if (PySem.W.subIn K (.ref S) (.type "BaseException") == some true) = true then (if ((PySem.W.clsIn K S).isSome && PySem.W.typeIn K (.ref S) == some (.type "type")) = true then PySem.W.subIn K (.ref S) (.ref S) else none) else none) = some true
  rw [if_pos e1, if_pos e2]
  exact h4
open PySem.W PySem.Calls PySem.HandSPX in
theorem all_mk {l : PySem.W.OpenLaw} {w : World} {K : PySem.W.Frag} {h : Heap} {mg : Str → Option Value} {fa : Addr} (X : K.In h) (G : h.Ns mainGlobals mg) (hfa : mg "law" = some (.ref fa)) (hl : l.prog = PySem.Challenge.pw_beamframes_k17_refused_in_order)
    {f1 f2 f3 f4 f5 f6 f7 f8 f9 f10 f11 f12 f13 f14 f15 f16 f17 f18 f19 f20 f21 f22 f23 f24 f25 f26 f27 f28 f29 f30 f31 f32 f33 f34 f35 f36 f37 f38 f39 f40 f41 f42 f43 f44 f45 f46 f47 f48 f49 f50 f51 : Addr}
    {od1 an1 : Option Addr} {sl1 : Array (Option Value)} {oc1 kV1 dc1 pm1 cd1 ct1 : Value}
    (a1 : PySem.W.nsIn K mainGlobals "is_whole" = some (some (.ref f1))) (l1 : K.lookup f1 = some ⟨oc1, od1, .func (PySem.W.fnOf "is_whole" "is_whole" (defArgs s_is_whole) (defBody s_is_whole) (defScope s_is_whole) .none kV1 dc1 pm1 an1 cd1 ct1), sl1⟩) (c1 : PySem.W.codeIn K cd1 "is_whole" = true) (k1 : PySem.W.keepIn K (.ref f1) = true)
    {od2 an2 : Option Addr} {sl2 : Array (Option Value)} {oc2 kV2 dc2 pm2 cd2 ct2 : Value}
    (a2 : PySem.W.nsIn K mainGlobals "is_whole_from" = some (some (.ref f2))) (l2 : K.lookup f2 = some ⟨oc2, od2, .func (PySem.W.fnOf "is_whole_from" "is_whole_from" (defArgs s_is_whole_from) (defBody s_is_whole_from) (defScope s_is_whole_from) .none kV2 dc2 pm2 an2 cd2 ct2), sl2⟩) (c2 : PySem.W.codeIn K cd2 "is_whole_from" = true) (k2 : PySem.W.keepIn K (.ref f2) = true)
    {od3 an3 : Option Addr} {sl3 : Array (Option Value)} {oc3 kV3 dc3 pm3 cd3 ct3 : Value}
    (a3 : PySem.W.nsIn K mainGlobals "need_table" = some (some (.ref f3))) (l3 : K.lookup f3 = some ⟨oc3, od3, .func (PySem.W.fnOf "need_table" "need_table" (defArgs s_need_table) (defBody s_need_table) (defScope s_need_table) .none kV3 dc3 pm3 an3 cd3 ct3), sl3⟩) (c3 : PySem.W.codeIn K cd3 "need_table" = true) (k3 : PySem.W.keepIn K (.ref f3) = true)
    {od4 an4 : Option Addr} {sl4 : Array (Option Value)} {oc4 kV4 dc4 pm4 cd4 ct4 : Value}
    (a4 : PySem.W.nsIn K mainGlobals "is_word" = some (some (.ref f4))) (l4 : K.lookup f4 = some ⟨oc4, od4, .func (PySem.W.fnOf "is_word" "is_word" (defArgs s_is_word) (defBody s_is_word) (defScope s_is_word) .none kV4 dc4 pm4 an4 cd4 ct4), sl4⟩) (c4 : PySem.W.codeIn K cd4 "is_word" = true) (k4 : PySem.W.keepIn K (.ref f4) = true)
    {od5 an5 : Option Addr} {sl5 : Array (Option Value)} {oc5 kV5 dc5 pm5 cd5 ct5 : Value}
    (a5 : PySem.W.nsIn K mainGlobals "words_of" = some (some (.ref f5))) (l5 : K.lookup f5 = some ⟨oc5, od5, .func (PySem.W.fnOf "words_of" "words_of" (defArgs s_words_of) (defBody s_words_of) (defScope s_words_of) .none kV5 dc5 pm5 an5 cd5 ct5), sl5⟩) (c5 : PySem.W.codeIn K cd5 "words_of" = true) (k5 : PySem.W.keepIn K (.ref f5) = true)
    {od6 an6 : Option Addr} {sl6 : Array (Option Value)} {oc6 kV6 dc6 pm6 cd6 ct6 : Value}
    (a6 : PySem.W.nsIn K mainGlobals "begins_with" = some (some (.ref f6))) (l6 : K.lookup f6 = some ⟨oc6, od6, .func (PySem.W.fnOf "begins_with" "begins_with" (defArgs s_begins_with) (defBody s_begins_with) (defScope s_begins_with) .none kV6 dc6 pm6 an6 cd6 ct6), sl6⟩) (c6 : PySem.W.codeIn K cd6 "begins_with" = true) (k6 : PySem.W.keepIn K (.ref f6) = true)
    {od7 an7 : Option Addr} {sl7 : Array (Option Value)} {oc7 kV7 dc7 pm7 cd7 ct7 : Value}
    (a7 : PySem.W.nsIn K mainGlobals "wrong_part_of_pairs" = some (some (.ref f7))) (l7 : K.lookup f7 = some ⟨oc7, od7, .func (PySem.W.fnOf "wrong_part_of_pairs" "wrong_part_of_pairs" (defArgs s_wrong_part_of_pairs) (defBody s_wrong_part_of_pairs) (defScope s_wrong_part_of_pairs) .none kV7 dc7 pm7 an7 cd7 ct7), sl7⟩) (c7 : PySem.W.codeIn K cd7 "wrong_part_of_pairs" = true) (k7 : PySem.W.keepIn K (.ref f7) = true)
    {od8 an8 : Option Addr} {sl8 : Array (Option Value)} {oc8 kV8 dc8 pm8 cd8 ct8 : Value}
    (a8 : PySem.W.nsIn K mainGlobals "wrong_part_of_halves" = some (some (.ref f8))) (l8 : K.lookup f8 = some ⟨oc8, od8, .func (PySem.W.fnOf "wrong_part_of_halves" "wrong_part_of_halves" (defArgs s_wrong_part_of_halves) (defBody s_wrong_part_of_halves) (defScope s_wrong_part_of_halves) .none kV8 dc8 pm8 an8 cd8 ct8), sl8⟩) (c8 : PySem.W.codeIn K cd8 "wrong_part_of_halves" = true) (k8 : PySem.W.keepIn K (.ref f8) = true)
    {od9 an9 : Option Addr} {sl9 : Array (Option Value)} {oc9 kV9 dc9 pm9 cd9 ct9 : Value}
    (a9 : PySem.W.nsIn K mainGlobals "is_duration" = some (some (.ref f9))) (l9 : K.lookup f9 = some ⟨oc9, od9, .func (PySem.W.fnOf "is_duration" "is_duration" (defArgs s_is_duration) (defBody s_is_duration) (defScope s_is_duration) .none kV9 dc9 pm9 an9 cd9 ct9), sl9⟩) (c9 : PySem.W.codeIn K cd9 "is_duration" = true) (k9 : PySem.W.keepIn K (.ref f9) = true)
    {od10 an10 : Option Addr} {sl10 : Array (Option Value)} {oc10 kV10 dc10 pm10 cd10 ct10 : Value}
    (a10 : PySem.W.nsIn K mainGlobals "are_durations" = some (some (.ref f10))) (l10 : K.lookup f10 = some ⟨oc10, od10, .func (PySem.W.fnOf "are_durations" "are_durations" (defArgs s_are_durations) (defBody s_are_durations) (defScope s_are_durations) .none kV10 dc10 pm10 an10 cd10 ct10), sl10⟩) (c10 : PySem.W.codeIn K cd10 "are_durations" = true) (k10 : PySem.W.keepIn K (.ref f10) = true)
    {od11 an11 : Option Addr} {sl11 : Array (Option Value)} {oc11 kV11 dc11 pm11 cd11 ct11 : Value}
    (a11 : PySem.W.nsIn K mainGlobals "is_pulse_and_gap" = some (some (.ref f11))) (l11 : K.lookup f11 = some ⟨oc11, od11, .func (PySem.W.fnOf "is_pulse_and_gap" "is_pulse_and_gap" (defArgs s_is_pulse_and_gap) (defBody s_is_pulse_and_gap) (defScope s_is_pulse_and_gap) .none kV11 dc11 pm11 an11 cd11 ct11), sl11⟩) (c11 : PySem.W.codeIn K cd11 "is_pulse_and_gap" = true) (k11 : PySem.W.keepIn K (.ref f11) = true)
    {od12 an12 : Option Addr} {sl12 : Array (Option Value)} {oc12 kV12 dc12 pm12 cd12 ct12 : Value}
    (a12 : PySem.W.nsIn K mainGlobals "is_bit_count" = some (some (.ref f12))) (l12 : K.lookup f12 = some ⟨oc12, od12, .func (PySem.W.fnOf "is_bit_count" "is_bit_count" (defArgs s_is_bit_count) (defBody s_is_bit_count) (defScope s_is_bit_count) .none kV12 dc12 pm12 an12 cd12 ct12), sl12⟩) (c12 : PySem.W.codeIn K cd12 "is_bit_count" = true) (k12 : PySem.W.keepIn K (.ref f12) = true)
    {od13 an13 : Option Addr} {sl13 : Array (Option Value)} {oc13 kV13 dc13 pm13 cd13 ct13 : Value}
    (a13 : PySem.W.nsIn K mainGlobals "frame_of" = some (some (.ref f13))) (l13 : K.lookup f13 = some ⟨oc13, od13, .func (PySem.W.fnOf "frame_of" "frame_of" (defArgs s_frame_of) (defBody s_frame_of) (defScope s_frame_of) .none kV13 dc13 pm13 an13 cd13 ct13), sl13⟩) (c13 : PySem.W.codeIn K cd13 "frame_of" = true) (k13 : PySem.W.keepIn K (.ref f13) = true)
    {od14 an14 : Option Addr} {sl14 : Array (Option Value)} {oc14 kV14 dc14 pm14 cd14 ct14 : Value}
    (a14 : PySem.W.nsIn K mainGlobals "word_of" = some (some (.ref f14))) (l14 : K.lookup f14 = some ⟨oc14, od14, .func (PySem.W.fnOf "word_of" "word_of" (defArgs s_word_of) (defBody s_word_of) (defScope s_word_of) .none kV14 dc14 pm14 an14 cd14 ct14), sl14⟩) (c14 : PySem.W.codeIn K cd14 "word_of" = true) (k14 : PySem.W.keepIn K (.ref f14) = true)
    {od15 an15 : Option Addr} {sl15 : Array (Option Value)} {oc15 kV15 dc15 pm15 cd15 ct15 : Value}
    (a15 : PySem.W.nsIn K mainGlobals "begin_of" = some (some (.ref f15))) (l15 : K.lookup f15 = some ⟨oc15, od15, .func (PySem.W.fnOf "begin_of" "begin_of" (defArgs s_begin_of) (defBody s_begin_of) (defScope s_begin_of) .none kV15 dc15 pm15 an15 cd15 ct15), sl15⟩) (c15 : PySem.W.codeIn K cd15 "begin_of" = true) (k15 : PySem.W.keepIn K (.ref f15) = true)
    {od16 an16 : Option Addr} {sl16 : Array (Option Value)} {oc16 kV16 dc16 pm16 cd16 ct16 : Value}
    (a16 : PySem.W.nsIn K mainGlobals "is_end" = some (some (.ref f16))) (l16 : K.lookup f16 = some ⟨oc16, od16, .func (PySem.W.fnOf "is_end" "is_end" (defArgs s_is_end) (defBody s_is_end) (defScope s_is_end) .none kV16 dc16 pm16 an16 cd16 ct16), sl16⟩) (c16 : PySem.W.codeIn K cd16 "is_end" = true) (k16 : PySem.W.keepIn K (.ref f16) = true)
    {od17 an17 : Option Addr} {sl17 : Array (Option Value)} {oc17 kV17 dc17 pm17 cd17 ct17 : Value}
    (a17 : PySem.W.nsIn K mainGlobals "steps_of" = some (some (.ref f17))) (l17 : K.lookup f17 = some ⟨oc17, od17, .func (PySem.W.fnOf "steps_of" "steps_of" (defArgs s_steps_of) (defBody s_steps_of) (defScope s_steps_of) .none kV17 dc17 pm17 an17 cd17 ct17), sl17⟩) (c17 : PySem.W.codeIn K cd17 "steps_of" = true) (k17 : PySem.W.keepIn K (.ref f17) = true)
    {od18 an18 : Option Addr} {sl18 : Array (Option Value)} {oc18 kV18 dc18 pm18 cd18 ct18 : Value}
    (a18 : PySem.W.nsIn K mainGlobals "need_ratio" = some (some (.ref f18))) (l18 : K.lookup f18 = some ⟨oc18, od18, .func (PySem.W.fnOf "need_ratio" "need_ratio" (defArgs s_need_ratio) (defBody s_need_ratio) (defScope s_need_ratio) .none kV18 dc18 pm18 an18 cd18 ct18), sl18⟩) (c18 : PySem.W.codeIn K cd18 "need_ratio" = true) (k18 : PySem.W.keepIn K (.ref f18) = true)
    {od19 an19 : Option Addr} {sl19 : Array (Option Value)} {oc19 kV19 dc19 pm19 cd19 ct19 : Value}
    (a19 : PySem.W.nsIn K mainGlobals "is_below_one" = some (some (.ref f19))) (l19 : K.lookup f19 = some ⟨oc19, od19, .func (PySem.W.fnOf "is_below_one" "is_below_one" (defArgs s_is_below_one) (defBody s_is_below_one) (defScope s_is_below_one) .none kV19 dc19 pm19 an19 cd19 ct19), sl19⟩) (c19 : PySem.W.codeIn K cd19 "is_below_one" = true) (k19 : PySem.W.keepIn K (.ref f19) = true)
    {od20 an20 : Option Addr} {sl20 : Array (Option Value)} {oc20 kV20 dc20 pm20 cd20 ct20 : Value}
    (a20 : PySem.W.nsIn K mainGlobals "need_burst" = some (some (.ref f20))) (l20 : K.lookup f20 = some ⟨oc20, od20, .func (PySem.W.fnOf "need_burst" "need_burst" (defArgs s_need_burst) (defBody s_need_burst) (defScope s_need_burst) .none kV20 dc20 pm20 an20 cd20 ct20), sl20⟩) (c20 : PySem.W.codeIn K cd20 "need_burst" = true) (k20 : PySem.W.keepIn K (.ref f20) = true)
    {od21 an21 : Option Addr} {sl21 : Array (Option Value)} {oc21 kV21 dc21 pm21 cd21 ct21 : Value}
    (a21 : PySem.W.nsIn K mainGlobals "nearest" = some (some (.ref f21))) (l21 : K.lookup f21 = some ⟨oc21, od21, .func (PySem.W.fnOf "nearest" "nearest" (defArgs s_nearest) (defBody s_nearest) (defScope s_nearest) .none kV21 dc21 pm21 an21 cd21 ct21), sl21⟩) (c21 : PySem.W.codeIn K cd21 "nearest" = true) (k21 : PySem.W.keepIn K (.ref f21) = true)
    {od22 an22 : Option Addr} {sl22 : Array (Option Value)} {oc22 kV22 dc22 pm22 cd22 ct22 : Value}
    (a22 : PySem.W.nsIn K mainGlobals "is_burst" = some (some (.ref f22))) (l22 : K.lookup f22 = some ⟨oc22, od22, .func (PySem.W.fnOf "is_burst" "is_burst" (defArgs s_is_burst) (defBody s_is_burst) (defScope s_is_burst) .none kV22 dc22 pm22 an22 cd22 ct22), sl22⟩) (c22 : PySem.W.codeIn K cd22 "is_burst" = true) (k22 : PySem.W.keepIn K (.ref f22) = true)
    {od23 an23 : Option Addr} {sl23 : Array (Option Value)} {oc23 kV23 dc23 pm23 cd23 ct23 : Value}
    (a23 : PySem.W.nsIn K mainGlobals "is_above_zero" = some (some (.ref f23))) (l23 : K.lookup f23 = some ⟨oc23, od23, .func (PySem.W.fnOf "is_above_zero" "is_above_zero" (defArgs s_is_above_zero) (defBody s_is_above_zero) (defScope s_is_above_zero) .none kV23 dc23 pm23 an23 cd23 ct23), sl23⟩) (c23 : PySem.W.codeIn K cd23 "is_above_zero" = true) (k23 : PySem.W.keepIn K (.ref f23) = true)
    {od24 an24 : Option Addr} {sl24 : Array (Option Value)} {oc24 kV24 dc24 pm24 cd24 ct24 : Value}
    (a24 : PySem.W.nsIn K mainGlobals "need_receiver" = some (some (.ref f24))) (l24 : K.lookup f24 = some ⟨oc24, od24, .func (PySem.W.fnOf "need_receiver" "need_receiver" (defArgs s_need_receiver) (defBody s_need_receiver) (defScope s_need_receiver) .none kV24 dc24 pm24 an24 cd24 ct24), sl24⟩) (c24 : PySem.W.codeIn K cd24 "need_receiver" = true) (k24 : PySem.W.keepIn K (.ref f24) = true)
    {od25 an25 : Option Addr} {sl25 : Array (Option Value)} {oc25 kV25 dc25 pm25 cd25 ct25 : Value}
    (a25 : PySem.W.nsIn K mainGlobals "reads" = some (some (.ref f25))) (l25 : K.lookup f25 = some ⟨oc25, od25, .func (PySem.W.fnOf "reads" "reads" (defArgs s_reads) (defBody s_reads) (defScope s_reads) .none kV25 dc25 pm25 an25 cd25 ct25), sl25⟩) (c25 : PySem.W.codeIn K cd25 "reads" = true) (k25 : PySem.W.keepIn K (.ref f25) = true)
    {od26 an26 : Option Addr} {sl26 : Array (Option Value)} {oc26 kV26 dc26 pm26 cd26 ct26 : Value}
    (a26 : PySem.W.nsIn K mainGlobals "is_sending" = some (some (.ref f26))) (l26 : K.lookup f26 = some ⟨oc26, od26, .func (PySem.W.fnOf "is_sending" "is_sending" (defArgs s_is_sending) (defBody s_is_sending) (defScope s_is_sending) .none kV26 dc26 pm26 an26 cd26 ct26), sl26⟩) (c26 : PySem.W.codeIn K cd26 "is_sending" = true) (k26 : PySem.W.keepIn K (.ref f26) = true)
    {od27 an27 : Option Addr} {sl27 : Array (Option Value)} {oc27 kV27 dc27 pm27 cd27 ct27 : Value}
    (a27 : PySem.W.nsIn K mainGlobals "is_pair" = some (some (.ref f27))) (l27 : K.lookup f27 = some ⟨oc27, od27, .func (PySem.W.fnOf "is_pair" "is_pair" (defArgs s_is_pair) (defBody s_is_pair) (defScope s_is_pair) .none kV27 dc27 pm27 an27 cd27 ct27), sl27⟩) (c27 : PySem.W.codeIn K cd27 "is_pair" = true) (k27 : PySem.W.keepIn K (.ref f27) = true)
    {od28 an28 : Option Addr} {sl28 : Array (Option Value)} {oc28 kV28 dc28 pm28 cd28 ct28 : Value}
    (a28 : PySem.W.nsIn K mainGlobals "is_table_with_tolerance" = some (some (.ref f28))) (l28 : K.lookup f28 = some ⟨oc28, od28, .func (PySem.W.fnOf "is_table_with_tolerance" "is_table_with_tolerance" (defArgs s_is_table_with_tolerance) (defBody s_is_table_with_tolerance) (defScope s_is_table_with_tolerance) .none kV28 dc28 pm28 an28 cd28 ct28), sl28⟩) (c28 : PySem.W.codeIn K cd28 "is_table_with_tolerance" = true) (k28 : PySem.W.keepIn K (.ref f28) = true)
    {od29 an29 : Option Addr} {sl29 : Array (Option Value)} {oc29 kV29 dc29 pm29 cd29 ct29 : Value}
    (a29 : PySem.W.nsIn K mainGlobals "is_table" = some (some (.ref f29))) (l29 : K.lookup f29 = some ⟨oc29, od29, .func (PySem.W.fnOf "is_table" "is_table" (defArgs s_is_table) (defBody s_is_table) (defScope s_is_table) .none kV29 dc29 pm29 an29 cd29 ct29), sl29⟩) (c29 : PySem.W.codeIn K cd29 "is_table" = true) (k29 : PySem.W.keepIn K (.ref f29) = true)
    {od30 an30 : Option Addr} {sl30 : Array (Option Value)} {oc30 kV30 dc30 pm30 cd30 ct30 : Value}
    (a30 : PySem.W.nsIn K mainGlobals "start_stands" = some (some (.ref f30))) (l30 : K.lookup f30 = some ⟨oc30, od30, .func (PySem.W.fnOf "start_stands" "start_stands" (defArgs s_start_stands) (defBody s_start_stands) (defScope s_start_stands) .none kV30 dc30 pm30 an30 cd30 ct30), sl30⟩) (c30 : PySem.W.codeIn K cd30 "start_stands" = true) (k30 : PySem.W.keepIn K (.ref f30) = true)
    {od31 an31 : Option Addr} {sl31 : Array (Option Value)} {oc31 kV31 dc31 pm31 cd31 ct31 : Value}
    (a31 : PySem.W.nsIn K mainGlobals "taken" = some (some (.ref f31))) (l31 : K.lookup f31 = some ⟨oc31, od31, .func (PySem.W.fnOf "taken" "taken" (defArgs s_taken) (defBody s_taken) (defScope s_taken) .none kV31 dc31 pm31 an31 cd31 ct31), sl31⟩) (c31 : PySem.W.codeIn K cd31 "taken" = true) (k31 : PySem.W.keepIn K (.ref f31) = true)
    {od32 an32 : Option Addr} {sl32 : Array (Option Value)} {oc32 kV32 dc32 pm32 cd32 ct32 : Value}
    (a32 : PySem.W.nsIn K mainGlobals "check_taken" = some (some (.ref f32))) (l32 : K.lookup f32 = some ⟨oc32, od32, .func (PySem.W.fnOf "check_taken" "check_taken" (defArgs s_check_taken) (defBody s_check_taken) (defScope s_check_taken) .none kV32 dc32 pm32 an32 cd32 ct32), sl32⟩) (c32 : PySem.W.codeIn K cd32 "check_taken" = true) (k32 : PySem.W.keepIn K (.ref f32) = true)
    {od33 an33 : Option Addr} {sl33 : Array (Option Value)} {oc33 kV33 dc33 pm33 cd33 ct33 : Value}
    (a33 : PySem.W.nsIn K mainGlobals "limit_of" = some (some (.ref f33))) (l33 : K.lookup f33 = some ⟨oc33, od33, .func (PySem.W.fnOf "limit_of" "limit_of" (defArgs s_limit_of) (defBody s_limit_of) (defScope s_limit_of) .none kV33 dc33 pm33 an33 cd33 ct33), sl33⟩) (c33 : PySem.W.codeIn K cd33 "limit_of" = true) (k33 : PySem.W.keepIn K (.ref f33) = true)
    {od34 an34 : Option Addr} {sl34 : Array (Option Value)} {oc34 kV34 dc34 pm34 cd34 ct34 : Value}
    (a34 : PySem.W.nsIn K mainGlobals "is_safe" = some (some (.ref f34))) (l34 : K.lookup f34 = some ⟨oc34, od34, .func (PySem.W.fnOf "is_safe" "is_safe" (defArgs s_is_safe) (defBody s_is_safe) (defScope s_is_safe) .none kV34 dc34 pm34 an34 cd34 ct34), sl34⟩) (c34 : PySem.W.codeIn K cd34 "is_safe" = true) (k34 : PySem.W.keepIn K (.ref f34) = true)
    {od35 an35 : Option Addr} {sl35 : Array (Option Value)} {oc35 kV35 dc35 pm35 cd35 ct35 : Value}
    (a35 : PySem.W.nsIn K mainGlobals "margin_of" = some (some (.ref f35))) (l35 : K.lookup f35 = some ⟨oc35, od35, .func (PySem.W.fnOf "margin_of" "margin_of" (defArgs s_margin_of) (defBody s_margin_of) (defScope s_margin_of) .none kV35 dc35 pm35 an35 cd35 ct35), sl35⟩) (c35 : PySem.W.codeIn K cd35 "margin_of" = true) (k35 : PySem.W.keepIn K (.ref f35) = true)
    {od36 an36 : Option Addr} {sl36 : Array (Option Value)} {oc36 kV36 dc36 pm36 cd36 ct36 : Value}
    (a36 : PySem.W.nsIn K mainGlobals "table_text" = some (some (.ref f36))) (l36 : K.lookup f36 = some ⟨oc36, od36, .func (PySem.W.fnOf "table_text" "table_text" (defArgs s_table_text) (defBody s_table_text) (defScope s_table_text) .none kV36 dc36 pm36 an36 cd36 ct36), sl36⟩) (c36 : PySem.W.codeIn K cd36 "table_text" = true) (k36 : PySem.W.keepIn K (.ref f36) = true)
    {od37 an37 : Option Addr} {sl37 : Array (Option Value)} {oc37 kV37 dc37 pm37 cd37 ct37 : Value}
    (a37 : PySem.W.nsIn K mainGlobals "burst_text" = some (some (.ref f37))) (l37 : K.lookup f37 = some ⟨oc37, od37, .func (PySem.W.fnOf "burst_text" "burst_text" (defArgs s_burst_text) (defBody s_burst_text) (defScope s_burst_text) .none kV37 dc37 pm37 an37 cd37 ct37), sl37⟩) (c37 : PySem.W.codeIn K cd37 "burst_text" = true) (k37 : PySem.W.keepIn K (.ref f37) = true)
    {od38 an38 : Option Addr} {sl38 : Array (Option Value)} {oc38 kV38 dc38 pm38 cd38 ct38 : Value}
    (a38 : PySem.W.nsIn K mainGlobals "_law_begin" = some (some (.ref f38))) (l38 : K.lookup f38 = some ⟨oc38, od38, .func (PySem.W.fnOf "_law_begin" "_law_begin" (defArgs s__law_begin) (defBody s__law_begin) (defScope s__law_begin) .none kV38 dc38 pm38 an38 cd38 ct38), sl38⟩) (c38 : PySem.W.codeIn K cd38 "_law_begin" = true) (k38 : PySem.W.keepIn K (.ref f38) = true)
    {od39 an39 : Option Addr} {sl39 : Array (Option Value)} {oc39 kV39 dc39 pm39 cd39 ct39 : Value}
    (a39 : PySem.W.nsIn K mainGlobals "_law_next" = some (some (.ref f39))) (l39 : K.lookup f39 = some ⟨oc39, od39, .func (PySem.W.fnOf "_law_next" "_law_next" (defArgs s__law_next) (defBody s__law_next) (defScope s__law_next) .none kV39 dc39 pm39 an39 cd39 ct39), sl39⟩) (c39 : PySem.W.codeIn K cd39 "_law_next" = true) (k39 : PySem.W.keepIn K (.ref f39) = true)
    {od40 an40 : Option Addr} {sl40 : Array (Option Value)} {oc40 kV40 dc40 pm40 cd40 ct40 : Value}
    (a40 : PySem.W.nsIn K mainGlobals "_law_pick" = some (some (.ref f40))) (l40 : K.lookup f40 = some ⟨oc40, od40, .func (PySem.W.fnOf "_law_pick" "_law_pick" (defArgs s__law_pick) (defBody s__law_pick) (defScope s__law_pick) .none kV40 dc40 pm40 an40 cd40 ct40), sl40⟩) (c40 : PySem.W.codeIn K cd40 "_law_pick" = true) (k40 : PySem.W.keepIn K (.ref f40) = true)
    {od41 an41 : Option Addr} {sl41 : Array (Option Value)} {oc41 kV41 dc41 pm41 cd41 ct41 : Value}
    (a41 : PySem.W.nsIn K mainGlobals "_law_size" = some (some (.ref f41))) (l41 : K.lookup f41 = some ⟨oc41, od41, .func (PySem.W.fnOf "_law_size" "_law_size" (defArgs s__law_size) (defBody s__law_size) (defScope s__law_size) .none kV41 dc41 pm41 an41 cd41 ct41), sl41⟩) (c41 : PySem.W.codeIn K cd41 "_law_size" = true) (k41 : PySem.W.keepIn K (.ref f41) = true)
    {od42 an42 : Option Addr} {sl42 : Array (Option Value)} {oc42 kV42 dc42 pm42 cd42 ct42 : Value}
    (a42 : PySem.W.nsIn K mainGlobals "_law_table" = some (some (.ref f42))) (l42 : K.lookup f42 = some ⟨oc42, od42, .func (PySem.W.fnOf "_law_table" "_law_table" (defArgs s__law_table) (defBody s__law_table) (defScope s__law_table) .none kV42 dc42 pm42 an42 cd42 ct42), sl42⟩) (c42 : PySem.W.codeIn K cd42 "_law_table" = true) (k42 : PySem.W.keepIn K (.ref f42) = true)
    {od43 an43 : Option Addr} {sl43 : Array (Option Value)} {oc43 kV43 dc43 pm43 cd43 ct43 : Value}
    (a43 : PySem.W.nsIn K mainGlobals "_law_like" = some (some (.ref f43))) (l43 : K.lookup f43 = some ⟨oc43, od43, .func (PySem.W.fnOf "_law_like" "_law_like" (defArgs s__law_like) (defBody s__law_like) (defScope s__law_like) .none kV43 dc43 pm43 an43 cd43 ct43), sl43⟩) (c43 : PySem.W.codeIn K cd43 "_law_like" = true) (k43 : PySem.W.keepIn K (.ref f43) = true)
    {od44 an44 : Option Addr} {sl44 : Array (Option Value)} {oc44 kV44 dc44 pm44 cd44 ct44 : Value}
    (a44 : PySem.W.nsIn K mainGlobals "_law_receiver" = some (some (.ref f44))) (l44 : K.lookup f44 = some ⟨oc44, od44, .func (PySem.W.fnOf "_law_receiver" "_law_receiver" (defArgs s__law_receiver) (defBody s__law_receiver) (defScope s__law_receiver) .none kV44 dc44 pm44 an44 cd44 ct44), sl44⟩) (c44 : PySem.W.codeIn K cd44 "_law_receiver" = true) (k44 : PySem.W.keepIn K (.ref f44) = true)
    {od45 an45 : Option Addr} {sl45 : Array (Option Value)} {oc45 kV45 dc45 pm45 cd45 ct45 : Value}
    (a45 : PySem.W.nsIn K mainGlobals "_law_fault" = some (some (.ref f45))) (l45 : K.lookup f45 = some ⟨oc45, od45, .func (PySem.W.fnOf "_law_fault" "_law_fault" (defArgs s__law_fault) (defBody s__law_fault) (defScope s__law_fault) .none kV45 dc45 pm45 an45 cd45 ct45), sl45⟩) (c45 : PySem.W.codeIn K cd45 "_law_fault" = true) (k45 : PySem.W.keepIn K (.ref f45) = true)
    {od46 an46 : Option Addr} {sl46 : Array (Option Value)} {oc46 kV46 dc46 pm46 cd46 ct46 : Value}
    (a46 : PySem.W.nsIn K mainGlobals "_law_said" = some (some (.ref f46))) (l46 : K.lookup f46 = some ⟨oc46, od46, .func (PySem.W.fnOf "_law_said" "_law_said" (defArgs s__law_said) (defBody s__law_said) (defScope s__law_said) .none kV46 dc46 pm46 an46 cd46 ct46), sl46⟩) (c46 : PySem.W.codeIn K cd46 "_law_said" = true) (k46 : PySem.W.keepIn K (.ref f46) = true)
    {od47 an47 : Option Addr} {sl47 : Array (Option Value)} {oc47 kV47 dc47 pm47 cd47 ct47 : Value}
    (a47 : PySem.W.nsIn K mainGlobals "_law_bad_table" = some (some (.ref f47))) (l47 : K.lookup f47 = some ⟨oc47, od47, .func (PySem.W.fnOf "_law_bad_table" "_law_bad_table" (defArgs s__law_bad_table) (defBody s__law_bad_table) (defScope s__law_bad_table) .none kV47 dc47 pm47 an47 cd47 ct47), sl47⟩) (c47 : PySem.W.codeIn K cd47 "_law_bad_table" = true) (k47 : PySem.W.keepIn K (.ref f47) = true)
    {od48 an48 : Option Addr} {sl48 : Array (Option Value)} {oc48 kV48 dc48 pm48 cd48 ct48 : Value}
    (a48 : PySem.W.nsIn K mainGlobals "_law_of_table" = some (some (.ref f48))) (l48 : K.lookup f48 = some ⟨oc48, od48, .func (PySem.W.fnOf "_law_of_table" "_law_of_table" (defArgs s__law_of_table) (defBody s__law_of_table) (defScope s__law_of_table) .none kV48 dc48 pm48 an48 cd48 ct48), sl48⟩) (c48 : PySem.W.codeIn K cd48 "_law_of_table" = true) (k48 : PySem.W.keepIn K (.ref f48) = true)
    {od49 an49 : Option Addr} {sl49 : Array (Option Value)} {oc49 kV49 dc49 pm49 cd49 ct49 : Value}
    (a49 : PySem.W.nsIn K mainGlobals "_law_of_receiver" = some (some (.ref f49))) (l49 : K.lookup f49 = some ⟨oc49, od49, .func (PySem.W.fnOf "_law_of_receiver" "_law_of_receiver" (defArgs s__law_of_receiver) (defBody s__law_of_receiver) (defScope s__law_of_receiver) .none kV49 dc49 pm49 an49 cd49 ct49), sl49⟩) (c49 : PySem.W.codeIn K cd49 "_law_of_receiver" = true) (k49 : PySem.W.keepIn K (.ref f49) = true)
    {od50 an50 : Option Addr} {sl50 : Array (Option Value)} {oc50 kV50 dc50 pm50 cd50 ct50 : Value}
    (a50 : PySem.W.nsIn K mainGlobals "_law_further_right" = some (some (.ref f50))) (l50 : K.lookup f50 = some ⟨oc50, od50, .func (PySem.W.fnOf "_law_further_right" "_law_further_right" (defArgs s__law_further_right) (defBody s__law_further_right) (defScope s__law_further_right) .none kV50 dc50 pm50 an50 cd50 ct50), sl50⟩) (c50 : PySem.W.codeIn K cd50 "_law_further_right" = true) (k50 : PySem.W.keepIn K (.ref f50) = true)
    {od51 an51 : Option Addr} {sl51 : Array (Option Value)} {oc51 kV51 dc51 pm51 cd51 ct51 : Value}
    (a51 : PySem.W.nsIn K mainGlobals "law" = some (some (.ref f51))) (l51 : K.lookup f51 = some ⟨oc51, od51, .func (PySem.W.fnOf "law" "law" (defArgs s_law) (defBody s_law) (defScope s_law) .none kV51 dc51 pm51 an51 cd51 ct51), sl51⟩) (c51 : PySem.W.codeIn K cd51 "law" = true) (k51 : PySem.W.keepIn K (.ref f51) = true)
    (z1 : PySem.W.nsIn K mainGlobals "all" = some none)
    (z2 : PySem.W.nsIn K mainGlobals "bool" = some none)
    (z3 : PySem.W.nsIn K mainGlobals "enumerate" = some none)
    (z4 : PySem.W.nsIn K mainGlobals "int" = some none)
    (z5 : PySem.W.nsIn K mainGlobals "isinstance" = some none)
    (z6 : PySem.W.nsIn K mainGlobals "len" = some none)
    (z7 : PySem.W.nsIn K mainGlobals "list" = some none)
    (z8 : PySem.W.nsIn K mainGlobals "range" = some none)
    (z9 : PySem.W.nsIn K mainGlobals "str" = some none)
    (z10 : PySem.W.nsIn K mainGlobals "tuple" = some none)
    {q1 : Tok} (v1 : PySem.W.nsIn K mainGlobals "MOST_BITS" = some (some (.int 8 q1)))
    {q2 : Tok} (v2 : PySem.W.nsIn K mainGlobals "MOST_DURATION" = some (some (.int 99999 q2)))
    {q3 : Tok} (v3 : PySem.W.nsIn K mainGlobals "MOST_ITEMS" = some (some (.int 63 q3)))
    {q4 : Tok} (v4 : PySem.W.nsIn K mainGlobals "MOST_PAIRS" = some (some (.int 4 q4)))
    {C1 fI1 cc1 cda1 B1_1 xN1 : Addr} {xnm1 xqn1 fl1 : Str} {xbs1 : List Value} {xsn1 : List Str} {xsub1 : List Value} {xab1 : Bool} {xcol1 : Option Bool} {xdd1 : Option Addr} {xm10 xm11 xm12 xm13 xm15 : Option Value}
    {xoc1 xcl1 xkl1 xdo1 xpm1 xct1 : Value} {xod1 xcd1 xkd1 xan1 : Option Addr} {xos1 xcs1 xks1 : Array (Option Value)} {xvs1 : Array Value} {xtf1 : Tok}
    (xa1 : PySem.W.nsIn K mainGlobals "BadRatio" = some (some (.ref C1))) (xb1 : K.lookup C1 = some (excClassObj xnm1 xqn1 C1 xN1 xbs1 [.ref B1_1, .type "ValueError", .type "Exception", .type "BaseException", .type "object"] true xsn1 xsub1 xab1 xcol1 xdd1 xm10 xm11 xm12 xm13 xm15 "ValueError.__new__"))
    (xc1 : PySem.W.findIn K (.ref C1) "__setattr__" = some (some (.builtin "object.__setattr__"))) (xd1 : PySem.W.findIn K (.ref C1) "__getattribute__" = some (some (.builtin "BaseException.__getattribute__"))) (xe1 : PySem.W.findIn K (.ref C1) "__getattr__" = some none) (xf1 : PySem.W.findIn K (.ref C1) "given" = some none)
    (xg1 : PySem.W.findIn K (.ref C1) "__init__" = some (some (.ref fI1))) (xh1 : PySem.W.typeIn K (.ref fI1) = some (.type "function"))
    (xi1 : K.lookup fI1 = some ⟨xoc1, xod1, .func (fnX "__init__" "BadRatio.__init__" (xA "given" ⟨7, 17, 7, 21⟩ ⟨7, 23, 7, 28⟩) (xB "given" "this is no ratio that may stand here" (fun n => match n with | 1 => ⟨8, 8, 8, 13⟩ | 2 => ⟨8, 8, 8, 15⟩ | 3 => ⟨8, 8, 8, 24⟩ | 4 => ⟨8, 25, 8, 63⟩ | 5 => ⟨8, 8, 8, 64⟩ | 6 => ⟨8, 8, 8, 64⟩ | 7 => ⟨9, 8, 9, 12⟩ | 8 => ⟨9, 8, 9, 18⟩ | 9 => ⟨9, 21, 9, 26⟩ | 10 => ⟨9, 8, 9, 26⟩ | _ => ⟨0, 0, 0, 0⟩)) (xS "given") [("__class__", cc1)] .none .none xdo1 xpm1 xan1 (.ref cda1) xct1), xos1⟩)
    (xj1 : PySem.W.codeIn K (.ref cda1) "BadRatio.__init__" = true) (xk1 : K.lookup cc1 = some ⟨xcl1, xcd1, .cell (some (.ref C1)), xcs1⟩) (xl1 : K.lookup cda1 = some ⟨xkl1, xkd1, .fields xvs1, xks1⟩) (xw1 : xvs1[2]? = some (.str fl1 xtf1)) (xx1 : ((PySem.Challenge.pw_beamframes_k17_refused_in_order.main.file : Str) == fl1) = true)
    (xo1 : PySem.W.keepIn K (.ref C1) = true) (xp1 : PySem.W.subIn K (.ref C1) (.type "BaseException") = some true) (xq1 : PySem.W.typeIn K (.ref C1) = some (.type "type")) (xr1 : PySem.W.hasDictIn K C1 = true) (xs1 : PySem.W.isClsIn K C1 = true) (xt1 : PySem.W.subIn K (.ref C1) (.ref C1) = some true)
    (xu1 : PySem.W.subIn K (.ref C1) (.type "ValueError") = some true) (xv1 : PySem.W.mroIn K C1 (.ref C1) = some true) (xy1 : ks_superIn K C1 C1 "__init__" = some (some (.builtin "ValueError.__init__"))) (xz1 : PySem.W.nsIn K cStatics "thirdparty.any" = some none)
    {C2 fI2 cc2 cda2 B2_1 xN2 : Addr} {xnm2 xqn2 fl2 : Str} {xbs2 : List Value} {xsn2 : List Str} {xsub2 : List Value} {xab2 : Bool} {xcol2 : Option Bool} {xdd2 : Option Addr} {xm20 xm21 xm22 xm23 xm25 : Option Value}
    {xoc2 xcl2 xkl2 xdo2 xpm2 xct2 : Value} {xod2 xcd2 xkd2 xan2 : Option Addr} {xos2 xcs2 xks2 : Array (Option Value)} {xvs2 : Array Value} {xtf2 : Tok}
    (xa2 : PySem.W.nsIn K mainGlobals "BadTable" = some (some (.ref C2))) (xb2 : K.lookup C2 = some (excClassObj xnm2 xqn2 C2 xN2 xbs2 [.ref B2_1, .type "ValueError", .type "Exception", .type "BaseException", .type "object"] true xsn2 xsub2 xab2 xcol2 xdd2 xm20 xm21 xm22 xm23 xm25 "ValueError.__new__"))
    (xc2 : PySem.W.findIn K (.ref C2) "__setattr__" = some (some (.builtin "object.__setattr__"))) (xd2 : PySem.W.findIn K (.ref C2) "__getattribute__" = some (some (.builtin "BaseException.__getattribute__"))) (xe2 : PySem.W.findIn K (.ref C2) "__getattr__" = some none) (xf2 : PySem.W.findIn K (.ref C2) "part" = some none)
    (xg2 : PySem.W.findIn K (.ref C2) "__init__" = some (some (.ref fI2))) (xh2 : PySem.W.typeIn K (.ref fI2) = some (.type "function"))
    (xi2 : K.lookup fI2 = some ⟨xoc2, xod2, .func (fnX "__init__" "BadTable.__init__" (xA "part" ⟨12, 17, 12, 21⟩ ⟨12, 23, 12, 27⟩) (xB "part" "a part of the table is not as described" (fun n => match n with | 1 => ⟨13, 8, 13, 13⟩ | 2 => ⟨13, 8, 13, 15⟩ | 3 => ⟨13, 8, 13, 24⟩ | 4 => ⟨13, 25, 13, 66⟩ | 5 => ⟨13, 8, 13, 67⟩ | 6 => ⟨13, 8, 13, 67⟩ | 7 => ⟨14, 8, 14, 12⟩ | 8 => ⟨14, 8, 14, 17⟩ | 9 => ⟨14, 20, 14, 24⟩ | 10 => ⟨14, 8, 14, 24⟩ | _ => ⟨0, 0, 0, 0⟩)) (xS "part") [("__class__", cc2)] .none .none xdo2 xpm2 xan2 (.ref cda2) xct2), xos2⟩)
    (xj2 : PySem.W.codeIn K (.ref cda2) "BadTable.__init__" = true) (xk2 : K.lookup cc2 = some ⟨xcl2, xcd2, .cell (some (.ref C2)), xcs2⟩) (xl2 : K.lookup cda2 = some ⟨xkl2, xkd2, .fields xvs2, xks2⟩) (xw2 : xvs2[2]? = some (.str fl2 xtf2)) (xx2 : ((PySem.Challenge.pw_beamframes_k17_refused_in_order.main.file : Str) == fl2) = true)
    (xo2 : PySem.W.keepIn K (.ref C2) = true) (xp2 : PySem.W.subIn K (.ref C2) (.type "BaseException") = some true) (xq2 : PySem.W.typeIn K (.ref C2) = some (.type "type")) (xr2 : PySem.W.hasDictIn K C2 = true) (xs2 : PySem.W.isClsIn K C2 = true) (xt2 : PySem.W.subIn K (.ref C2) (.ref C2) = some true)
    (xu2 : PySem.W.subIn K (.ref C2) (.type "ValueError") = some true) (xv2 : PySem.W.mroIn K C2 (.ref C2) = some true) (xy2 : ks_superIn K C2 C2 "__init__" = some (some (.builtin "ValueError.__init__"))) (xz2 : PySem.W.nsIn K cStatics "thirdparty.any" = some none)
    {C3 fI3 cc3 cda3 B3_1 xN3 : Addr} {xnm3 xqn3 fl3 : Str} {xbs3 : List Value} {xsn3 : List Str} {xsub3 : List Value} {xab3 : Bool} {xcol3 : Option Bool} {xdd3 : Option Addr} {xm30 xm31 xm32 xm33 xm35 : Option Value}
    {xoc3 xcl3 xkl3 xdo3 xpm3 xct3 : Value} {xod3 xcd3 xkd3 xan3 : Option Addr} {xos3 xcs3 xks3 : Array (Option Value)} {xvs3 : Array Value} {xtf3 : Tok}
    (xa3 : PySem.W.nsIn K mainGlobals "BadWord" = some (some (.ref C3))) (xb3 : K.lookup C3 = some (excClassObj xnm3 xqn3 C3 xN3 xbs3 [.ref B3_1, .type "ValueError", .type "Exception", .type "BaseException", .type "object"] true xsn3 xsub3 xab3 xcol3 xdd3 xm30 xm31 xm32 xm33 xm35 "ValueError.__new__"))
    (xc3 : PySem.W.findIn K (.ref C3) "__setattr__" = some (some (.builtin "object.__setattr__"))) (xd3 : PySem.W.findIn K (.ref C3) "__getattribute__" = some (some (.builtin "BaseException.__getattribute__"))) (xe3 : PySem.W.findIn K (.ref C3) "__getattr__" = some none) (xf3 : PySem.W.findIn K (.ref C3) "given" = some none)
    (xg3 : PySem.W.findIn K (.ref C3) "__init__" = some (some (.ref fI3))) (xh3 : PySem.W.typeIn K (.ref fI3) = some (.type "function"))
    (xi3 : K.lookup fI3 = some ⟨xoc3, xod3, .func (fnX "__init__" "BadWord.__init__" (xA "given" ⟨17, 17, 17, 21⟩ ⟨17, 23, 17, 28⟩) (xB "given" "this is no word for the table" (fun n => match n with | 1 => ⟨18, 8, 18, 13⟩ | 2 => ⟨18, 8, 18, 15⟩ | 3 => ⟨18, 8, 18, 24⟩ | 4 => ⟨18, 25, 18, 56⟩ | 5 => ⟨18, 8, 18, 57⟩ | 6 => ⟨18, 8, 18, 57⟩ | 7 => ⟨19, 8, 19, 12⟩ | 8 => ⟨19, 8, 19, 18⟩ | 9 => ⟨19, 21, 19, 26⟩ | 10 => ⟨19, 8, 19, 26⟩ | _ => ⟨0, 0, 0, 0⟩)) (xS "given") [("__class__", cc3)] .none .none xdo3 xpm3 xan3 (.ref cda3) xct3), xos3⟩)
    (xj3 : PySem.W.codeIn K (.ref cda3) "BadWord.__init__" = true) (xk3 : K.lookup cc3 = some ⟨xcl3, xcd3, .cell (some (.ref C3)), xcs3⟩) (xl3 : K.lookup cda3 = some ⟨xkl3, xkd3, .fields xvs3, xks3⟩) (xw3 : xvs3[2]? = some (.str fl3 xtf3)) (xx3 : ((PySem.Challenge.pw_beamframes_k17_refused_in_order.main.file : Str) == fl3) = true)
    (xo3 : PySem.W.keepIn K (.ref C3) = true) (xp3 : PySem.W.subIn K (.ref C3) (.type "BaseException") = some true) (xq3 : PySem.W.typeIn K (.ref C3) = some (.type "type")) (xr3 : PySem.W.hasDictIn K C3 = true) (xs3 : PySem.W.isClsIn K C3 = true) (xt3 : PySem.W.subIn K (.ref C3) (.ref C3) = some true)
    (xu3 : PySem.W.subIn K (.ref C3) (.type "ValueError") = some true) (xv3 : PySem.W.mroIn K C3 (.ref C3) = some true) (xy3 : ks_superIn K C3 C3 "__init__" = some (some (.builtin "ValueError.__init__"))) (xz3 : PySem.W.nsIn K cStatics "thirdparty.any" = some none)
    {C4 fI4 cc4 cda4 B4_1 xN4 : Addr} {xnm4 xqn4 fl4 : Str} {xbs4 : List Value} {xsn4 : List Str} {xsub4 : List Value} {xab4 : Bool} {xcol4 : Option Bool} {xdd4 : Option Addr} {xm40 xm41 xm42 xm43 xm45 : Option Value}
    {xoc4 xcl4 xkl4 xdo4 xpm4 xct4 : Value} {xod4 xcd4 xkd4 xan4 : Option Addr} {xos4 xcs4 xks4 : Array (Option Value)} {xvs4 : Array Value} {xtf4 : Tok}
    (xa4 : PySem.W.nsIn K mainGlobals "BadBurst" = some (some (.ref C4))) (xb4 : K.lookup C4 = some (excClassObj xnm4 xqn4 C4 xN4 xbs4 [.ref B4_1, .type "ValueError", .type "Exception", .type "BaseException", .type "object"] true xsn4 xsub4 xab4 xcol4 xdd4 xm40 xm41 xm42 xm43 xm45 "ValueError.__new__"))
    (xc4 : PySem.W.findIn K (.ref C4) "__setattr__" = some (some (.builtin "object.__setattr__"))) (xd4 : PySem.W.findIn K (.ref C4) "__getattribute__" = some (some (.builtin "BaseException.__getattribute__"))) (xe4 : PySem.W.findIn K (.ref C4) "__getattr__" = some none) (xf4 : PySem.W.findIn K (.ref C4) "given" = some none)
    (xg4 : PySem.W.findIn K (.ref C4) "__init__" = some (some (.ref fI4))) (xh4 : PySem.W.typeIn K (.ref fI4) = some (.type "function"))
    (xi4 : K.lookup fI4 = some ⟨xoc4, xod4, .func (fnX "__init__" "BadBurst.__init__" (xA "given" ⟨22, 17, 22, 21⟩ ⟨22, 23, 22, 28⟩) (xB "given" "this is no burst" (fun n => match n with | 1 => ⟨23, 8, 23, 13⟩ | 2 => ⟨23, 8, 23, 15⟩ | 3 => ⟨23, 8, 23, 24⟩ | 4 => ⟨23, 25, 23, 43⟩ | 5 => ⟨23, 8, 23, 44⟩ | 6 => ⟨23, 8, 23, 44⟩ | 7 => ⟨24, 8, 24, 12⟩ | 8 => ⟨24, 8, 24, 18⟩ | 9 => ⟨24, 21, 24, 26⟩ | 10 => ⟨24, 8, 24, 26⟩ | _ => ⟨0, 0, 0, 0⟩)) (xS "given") [("__class__", cc4)] .none .none xdo4 xpm4 xan4 (.ref cda4) xct4), xos4⟩)
    (xj4 : PySem.W.codeIn K (.ref cda4) "BadBurst.__init__" = true) (xk4 : K.lookup cc4 = some ⟨xcl4, xcd4, .cell (some (.ref C4)), xcs4⟩) (xl4 : K.lookup cda4 = some ⟨xkl4, xkd4, .fields xvs4, xks4⟩) (xw4 : xvs4[2]? = some (.str fl4 xtf4)) (xx4 : ((PySem.Challenge.pw_beamframes_k17_refused_in_order.main.file : Str) == fl4) = true)
    (xo4 : PySem.W.keepIn K (.ref C4) = true) (xp4 : PySem.W.subIn K (.ref C4) (.type "BaseException") = some true) (xq4 : PySem.W.typeIn K (.ref C4) = some (.type "type")) (xr4 : PySem.W.hasDictIn K C4 = true) (xs4 : PySem.W.isClsIn K C4 = true) (xt4 : PySem.W.subIn K (.ref C4) (.ref C4) = some true)
    (xu4 : PySem.W.subIn K (.ref C4) (.type "ValueError") = some true) (xv4 : PySem.W.mroIn K C4 (.ref C4) = some true) (xy4 : ks_superIn K C4 C4 "__init__" = some (some (.builtin "ValueError.__init__"))) (xz4 : PySem.W.nsIn K cStatics "thirdparty.any" = some none)
    {C5 fI5 cc5 cda5 B5_1 xN5 : Addr} {xnm5 xqn5 fl5 : Str} {xbs5 : List Value} {xsn5 : List Str} {xsub5 : List Value} {xab5 : Bool} {xcol5 : Option Bool} {xdd5 : Option Addr} {xm50 xm51 xm52 xm53 xm55 : Option Value}
    {xoc5 xcl5 xkl5 xdo5 xpm5 xct5 : Value} {xod5 xcd5 xkd5 xan5 : Option Addr} {xos5 xcs5 xks5 : Array (Option Value)} {xvs5 : Array Value} {xtf5 : Tok}
    (xa5 : PySem.W.nsIn K mainGlobals "BadReceiver" = some (some (.ref C5))) (xb5 : K.lookup C5 = some (excClassObj xnm5 xqn5 C5 xN5 xbs5 [.ref B5_1, .type "ValueError", .type "Exception", .type "BaseException", .type "object"] true xsn5 xsub5 xab5 xcol5 xdd5 xm50 xm51 xm52 xm53 xm55 "ValueError.__new__"))
    (xc5 : PySem.W.findIn K (.ref C5) "__setattr__" = some (some (.builtin "object.__setattr__"))) (xd5 : PySem.W.findIn K (.ref C5) "__getattribute__" = some (some (.builtin "BaseException.__getattribute__"))) (xe5 : PySem.W.findIn K (.ref C5) "__getattr__" = some none) (xf5 : PySem.W.findIn K (.ref C5) "place" = some none)
    (xg5 : PySem.W.findIn K (.ref C5) "__init__" = some (some (.ref fI5))) (xh5 : PySem.W.typeIn K (.ref fI5) = some (.type "function"))
    (xi5 : K.lookup fI5 = some ⟨xoc5, xod5, .func (fnX "__init__" "BadReceiver.__init__" (xA "place" ⟨27, 17, 27, 21⟩ ⟨27, 23, 27, 28⟩) (xB "place" "the receiver is not as described" (fun n => match n with | 1 => ⟨28, 8, 28, 13⟩ | 2 => ⟨28, 8, 28, 15⟩ | 3 => ⟨28, 8, 28, 24⟩ | 4 => ⟨28, 25, 28, 59⟩ | 5 => ⟨28, 8, 28, 60⟩ | 6 => ⟨28, 8, 28, 60⟩ | 7 => ⟨29, 8, 29, 12⟩ | 8 => ⟨29, 8, 29, 18⟩ | 9 => ⟨29, 21, 29, 26⟩ | 10 => ⟨29, 8, 29, 26⟩ | _ => ⟨0, 0, 0, 0⟩)) (xS "place") [("__class__", cc5)] .none .none xdo5 xpm5 xan5 (.ref cda5) xct5), xos5⟩)
    (xj5 : PySem.W.codeIn K (.ref cda5) "BadReceiver.__init__" = true) (xk5 : K.lookup cc5 = some ⟨xcl5, xcd5, .cell (some (.ref C5)), xcs5⟩) (xl5 : K.lookup cda5 = some ⟨xkl5, xkd5, .fields xvs5, xks5⟩) (xw5 : xvs5[2]? = some (.str fl5 xtf5)) (xx5 : ((PySem.Challenge.pw_beamframes_k17_refused_in_order.main.file : Str) == fl5) = true)
    (xo5 : PySem.W.keepIn K (.ref C5) = true) (xp5 : PySem.W.subIn K (.ref C5) (.type "BaseException") = some true) (xq5 : PySem.W.typeIn K (.ref C5) = some (.type "type")) (xr5 : PySem.W.hasDictIn K C5 = true) (xs5 : PySem.W.isClsIn K C5 = true) (xt5 : PySem.W.subIn K (.ref C5) (.ref C5) = some true)
    (xu5 : PySem.W.subIn K (.ref C5) (.type "ValueError") = some true) (xv5 : PySem.W.mroIn K C5 (.ref C5) = some true) (xy5 : ks_superIn K C5 C5 "__init__" = some (some (.builtin "ValueError.__init__"))) (xz5 : PySem.W.nsIn K cStatics "thirdparty.any" = some none)
    {C6 fI6 cc6 cda6 B6_1 xN6 : Addr} {xnm6 xqn6 fl6 : Str} {xbs6 : List Value} {xsn6 : List Str} {xsub6 : List Value} {xab6 : Bool} {xcol6 : Option Bool} {xdd6 : Option Addr} {xm60 xm61 xm62 xm63 xm65 : Option Value}
    {xoc6 xcl6 xkl6 xdo6 xpm6 xct6 : Value} {xod6 xcd6 xkd6 xan6 : Option Addr} {xos6 xcs6 xks6 : Array (Option Value)} {xvs6 : Array Value} {xtf6 : Tok}
    (xa6 : PySem.W.nsIn K mainGlobals "BadNumber" = some (some (.ref C6))) (xb6 : K.lookup C6 = some (excClassObj xnm6 xqn6 C6 xN6 xbs6 [.ref B6_1, .type "ValueError", .type "Exception", .type "BaseException", .type "object"] true xsn6 xsub6 xab6 xcol6 xdd6 xm60 xm61 xm62 xm63 xm65 "ValueError.__new__"))
    (xc6 : PySem.W.findIn K (.ref C6) "__setattr__" = some (some (.builtin "object.__setattr__"))) (xd6 : PySem.W.findIn K (.ref C6) "__getattribute__" = some (some (.builtin "BaseException.__getattribute__"))) (xe6 : PySem.W.findIn K (.ref C6) "__getattr__" = some none) (xf6 : PySem.W.findIn K (.ref C6) "given" = some none)
    (xg6 : PySem.W.findIn K (.ref C6) "__init__" = some (some (.ref fI6))) (xh6 : PySem.W.typeIn K (.ref fI6) = some (.type "function"))
    (xi6 : K.lookup fI6 = some ⟨xoc6, xod6, .func (fnX "__init__" "BadNumber.__init__" (xA "given" ⟨32, 17, 32, 21⟩ ⟨32, 23, 32, 28⟩) (xB "given" "this is no number that may stand here" (fun n => match n with | 1 => ⟨33, 8, 33, 13⟩ | 2 => ⟨33, 8, 33, 15⟩ | 3 => ⟨33, 8, 33, 24⟩ | 4 => ⟨33, 25, 33, 64⟩ | 5 => ⟨33, 8, 33, 65⟩ | 6 => ⟨33, 8, 33, 65⟩ | 7 => ⟨34, 8, 34, 12⟩ | 8 => ⟨34, 8, 34, 18⟩ | 9 => ⟨34, 21, 34, 26⟩ | 10 => ⟨34, 8, 34, 26⟩ | _ => ⟨0, 0, 0, 0⟩)) (xS "given") [("__class__", cc6)] .none .none xdo6 xpm6 xan6 (.ref cda6) xct6), xos6⟩)
    (xj6 : PySem.W.codeIn K (.ref cda6) "BadNumber.__init__" = true) (xk6 : K.lookup cc6 = some ⟨xcl6, xcd6, .cell (some (.ref C6)), xcs6⟩) (xl6 : K.lookup cda6 = some ⟨xkl6, xkd6, .fields xvs6, xks6⟩) (xw6 : xvs6[2]? = some (.str fl6 xtf6)) (xx6 : ((PySem.Challenge.pw_beamframes_k17_refused_in_order.main.file : Str) == fl6) = true)
    (xo6 : PySem.W.keepIn K (.ref C6) = true) (xp6 : PySem.W.subIn K (.ref C6) (.type "BaseException") = some true) (xq6 : PySem.W.typeIn K (.ref C6) = some (.type "type")) (xr6 : PySem.W.hasDictIn K C6 = true) (xs6 : PySem.W.isClsIn K C6 = true) (xt6 : PySem.W.subIn K (.ref C6) (.ref C6) = some true)
    (xu6 : PySem.W.subIn K (.ref C6) (.type "ValueError") = some true) (xv6 : PySem.W.mroIn K C6 (.ref C6) = some true) (xy6 : ks_superIn K C6 C6 "__init__" = some (some (.builtin "ValueError.__init__"))) (xz6 : PySem.W.nsIn K cStatics "thirdparty.any" = some none)
    {C7 fI7 cc7 cda7 B7_1 xN7 : Addr} {xnm7 xqn7 fl7 : Str} {xbs7 : List Value} {xsn7 : List Str} {xsub7 : List Value} {xab7 : Bool} {xcol7 : Option Bool} {xdd7 : Option Addr} {xm70 xm71 xm72 xm73 xm75 : Option Value}
    {xoc7 xcl7 xkl7 xdo7 xpm7 xct7 : Value} {xod7 xcd7 xkd7 xan7 : Option Addr} {xos7 xcs7 xks7 : Array (Option Value)} {xvs7 : Array Value} {xtf7 : Tok}
    (xa7 : PySem.W.nsIn K mainGlobals "BadPaper" = some (some (.ref C7))) (xb7 : K.lookup C7 = some (excClassObj xnm7 xqn7 C7 xN7 xbs7 [.ref B7_1, .type "ValueError", .type "Exception", .type "BaseException", .type "object"] true xsn7 xsub7 xab7 xcol7 xdd7 xm70 xm71 xm72 xm73 xm75 "ValueError.__new__"))
    (xc7 : PySem.W.findIn K (.ref C7) "__setattr__" = some (some (.builtin "object.__setattr__"))) (xd7 : PySem.W.findIn K (.ref C7) "__getattribute__" = some (some (.builtin "BaseException.__getattribute__"))) (xe7 : PySem.W.findIn K (.ref C7) "__getattr__" = some none) (xf7 : PySem.W.findIn K (.ref C7) "part" = some none)
    (xg7 : PySem.W.findIn K (.ref C7) "__init__" = some (some (.ref fI7))) (xh7 : PySem.W.typeIn K (.ref fI7) = some (.type "function"))
    (xi7 : K.lookup fI7 = some ⟨xoc7, xod7, .func (fnX "__init__" "BadPaper.__init__" (xA "part" ⟨37, 17, 37, 21⟩ ⟨37, 23, 37, 27⟩) (xB "part" "a part of the paper does not hold" (fun n => match n with | 1 => ⟨38, 8, 38, 13⟩ | 2 => ⟨38, 8, 38, 15⟩ | 3 => ⟨38, 8, 38, 24⟩ | 4 => ⟨38, 25, 38, 60⟩ | 5 => ⟨38, 8, 38, 61⟩ | 6 => ⟨38, 8, 38, 61⟩ | 7 => ⟨39, 8, 39, 12⟩ | 8 => ⟨39, 8, 39, 17⟩ | 9 => ⟨39, 20, 39, 24⟩ | 10 => ⟨39, 8, 39, 24⟩ | _ => ⟨0, 0, 0, 0⟩)) (xS "part") [("__class__", cc7)] .none .none xdo7 xpm7 xan7 (.ref cda7) xct7), xos7⟩)
    (xj7 : PySem.W.codeIn K (.ref cda7) "BadPaper.__init__" = true) (xk7 : K.lookup cc7 = some ⟨xcl7, xcd7, .cell (some (.ref C7)), xcs7⟩) (xl7 : K.lookup cda7 = some ⟨xkl7, xkd7, .fields xvs7, xks7⟩) (xw7 : xvs7[2]? = some (.str fl7 xtf7)) (xx7 : ((PySem.Challenge.pw_beamframes_k17_refused_in_order.main.file : Str) == fl7) = true)
    (xo7 : PySem.W.keepIn K (.ref C7) = true) (xp7 : PySem.W.subIn K (.ref C7) (.type "BaseException") = some true) (xq7 : PySem.W.typeIn K (.ref C7) = some (.type "type")) (xr7 : PySem.W.hasDictIn K C7 = true) (xs7 : PySem.W.isClsIn K C7 = true) (xt7 : PySem.W.subIn K (.ref C7) (.ref C7) = some true)
    (xu7 : PySem.W.subIn K (.ref C7) (.type "ValueError") = some true) (xv7 : PySem.W.mroIn K C7 (.ref C7) = some true) (xy7 : ks_superIn K C7 C7 "__init__" = some (some (.builtin "ValueError.__init__"))) (xz7 : PySem.W.nsIn K cStatics "thirdparty.any" = some none)
    {C8 fI8 cc8 cda8 B8_1 xN8 : Addr} {xnm8 xqn8 fl8 : Str} {xbs8 : List Value} {xsn8 : List Str} {xsub8 : List Value} {xab8 : Bool} {xcol8 : Option Bool} {xdd8 : Option Addr} {xm80 xm81 xm82 xm83 xm85 : Option Value}
    {xoc8 xcl8 xkl8 xdo8 xpm8 xct8 : Value} {xod8 xcd8 xkd8 xan8 : Option Addr} {xos8 xcs8 xks8 : Array (Option Value)} {xvs8 : Array Value} {xtf8 : Tok}
    (xa8 : PySem.W.nsIn K mainGlobals "BadStyle" = some (some (.ref C8))) (xb8 : K.lookup C8 = some (excClassObj xnm8 xqn8 C8 xN8 xbs8 [.ref B8_1, .type "ValueError", .type "Exception", .type "BaseException", .type "object"] true xsn8 xsub8 xab8 xcol8 xdd8 xm80 xm81 xm82 xm83 xm85 "ValueError.__new__"))
    (xc8 : PySem.W.findIn K (.ref C8) "__setattr__" = some (some (.builtin "object.__setattr__"))) (xd8 : PySem.W.findIn K (.ref C8) "__getattribute__" = some (some (.builtin "BaseException.__getattribute__"))) (xe8 : PySem.W.findIn K (.ref C8) "__getattr__" = some none) (xf8 : PySem.W.findIn K (.ref C8) "given" = some none)
    (xg8 : PySem.W.findIn K (.ref C8) "__init__" = some (some (.ref fI8))) (xh8 : PySem.W.typeIn K (.ref fI8) = some (.type "function"))
    (xi8 : K.lookup fI8 = some ⟨xoc8, xod8, .func (fnX "__init__" "BadStyle.__init__" (xA "given" ⟨42, 17, 42, 21⟩ ⟨42, 23, 42, 28⟩) (xB "given" "this is no style" (fun n => match n with | 1 => ⟨43, 8, 43, 13⟩ | 2 => ⟨43, 8, 43, 15⟩ | 3 => ⟨43, 8, 43, 24⟩ | 4 => ⟨43, 25, 43, 43⟩ | 5 => ⟨43, 8, 43, 44⟩ | 6 => ⟨43, 8, 43, 44⟩ | 7 => ⟨44, 8, 44, 12⟩ | 8 => ⟨44, 8, 44, 18⟩ | 9 => ⟨44, 21, 44, 26⟩ | 10 => ⟨44, 8, 44, 26⟩ | _ => ⟨0, 0, 0, 0⟩)) (xS "given") [("__class__", cc8)] .none .none xdo8 xpm8 xan8 (.ref cda8) xct8), xos8⟩)
    (xj8 : PySem.W.codeIn K (.ref cda8) "BadStyle.__init__" = true) (xk8 : K.lookup cc8 = some ⟨xcl8, xcd8, .cell (some (.ref C8)), xcs8⟩) (xl8 : K.lookup cda8 = some ⟨xkl8, xkd8, .fields xvs8, xks8⟩) (xw8 : xvs8[2]? = some (.str fl8 xtf8)) (xx8 : ((PySem.Challenge.pw_beamframes_k17_refused_in_order.main.file : Str) == fl8) = true)
    (xo8 : PySem.W.keepIn K (.ref C8) = true) (xp8 : PySem.W.subIn K (.ref C8) (.type "BaseException") = some true) (xq8 : PySem.W.typeIn K (.ref C8) = some (.type "type")) (xr8 : PySem.W.hasDictIn K C8 = true) (xs8 : PySem.W.isClsIn K C8 = true) (xt8 : PySem.W.subIn K (.ref C8) (.ref C8) = some true)
    (xu8 : PySem.W.subIn K (.ref C8) (.type "ValueError") = some true) (xv8 : PySem.W.mroIn K C8 (.ref C8) = some true) (xy8 : ks_superIn K C8 C8 "__init__" = some (some (.builtin "ValueError.__init__"))) (xz8 : PySem.W.nsIn K cStatics "thirdparty.any" = some none)
    {C9 fI9 cc9 cda9 B9_1 xN9 : Addr} {xnm9 xqn9 fl9 : Str} {xbs9 : List Value} {xsn9 : List Str} {xsub9 : List Value} {xab9 : Bool} {xcol9 : Option Bool} {xdd9 : Option Addr} {xm90 xm91 xm92 xm93 xm95 : Option Value}
    {xoc9 xcl9 xkl9 xdo9 xpm9 xct9 : Value} {xod9 xcd9 xkd9 xan9 : Option Addr} {xos9 xcs9 xks9 : Array (Option Value)} {xvs9 : Array Value} {xtf9 : Tok}
    (xa9 : PySem.W.nsIn K mainGlobals "BadRow" = some (some (.ref C9))) (xb9 : K.lookup C9 = some (excClassObj xnm9 xqn9 C9 xN9 xbs9 [.ref B9_1, .type "ValueError", .type "Exception", .type "BaseException", .type "object"] true xsn9 xsub9 xab9 xcol9 xdd9 xm90 xm91 xm92 xm93 xm95 "ValueError.__new__"))
    (xc9 : PySem.W.findIn K (.ref C9) "__setattr__" = some (some (.builtin "object.__setattr__"))) (xd9 : PySem.W.findIn K (.ref C9) "__getattribute__" = some (some (.builtin "BaseException.__getattribute__"))) (xe9 : PySem.W.findIn K (.ref C9) "__getattr__" = some none) (xf9 : PySem.W.findIn K (.ref C9) "moment" = some none)
    (xg9 : PySem.W.findIn K (.ref C9) "__init__" = some (some (.ref fI9))) (xh9 : PySem.W.typeIn K (.ref fI9) = some (.type "function"))
    (xi9 : K.lookup fI9 = some ⟨xoc9, xod9, .func (fnX "__init__" "BadRow.__init__" (xA "moment" ⟨47, 17, 47, 21⟩ ⟨47, 23, 47, 29⟩) (xB "moment" "the row is not as described" (fun n => match n with | 1 => ⟨48, 8, 48, 13⟩ | 2 => ⟨48, 8, 48, 15⟩ | 3 => ⟨48, 8, 48, 24⟩ | 4 => ⟨48, 25, 48, 54⟩ | 5 => ⟨48, 8, 48, 55⟩ | 6 => ⟨48, 8, 48, 55⟩ | 7 => ⟨49, 8, 49, 12⟩ | 8 => ⟨49, 8, 49, 19⟩ | 9 => ⟨49, 22, 49, 28⟩ | 10 => ⟨49, 8, 49, 28⟩ | _ => ⟨0, 0, 0, 0⟩)) (xS "moment") [("__class__", cc9)] .none .none xdo9 xpm9 xan9 (.ref cda9) xct9), xos9⟩)
    (xj9 : PySem.W.codeIn K (.ref cda9) "BadRow.__init__" = true) (xk9 : K.lookup cc9 = some ⟨xcl9, xcd9, .cell (some (.ref C9)), xcs9⟩) (xl9 : K.lookup cda9 = some ⟨xkl9, xkd9, .fields xvs9, xks9⟩) (xw9 : xvs9[2]? = some (.str fl9 xtf9)) (xx9 : ((PySem.Challenge.pw_beamframes_k17_refused_in_order.main.file : Str) == fl9) = true)
    (xo9 : PySem.W.keepIn K (.ref C9) = true) (xp9 : PySem.W.subIn K (.ref C9) (.type "BaseException") = some true) (xq9 : PySem.W.typeIn K (.ref C9) = some (.type "type")) (xr9 : PySem.W.hasDictIn K C9 = true) (xs9 : PySem.W.isClsIn K C9 = true) (xt9 : PySem.W.subIn K (.ref C9) (.ref C9) = some true)
    (xu9 : PySem.W.subIn K (.ref C9) (.type "ValueError") = some true) (xv9 : PySem.W.mroIn K C9 (.ref C9) = some true) (xy9 : ks_superIn K C9 C9 "__init__" = some (some (.builtin "ValueError.__init__"))) (xz9 : PySem.W.nsIn K cStatics "thirdparty.any" = some none)
    {C10 fI10 cc10 cda10 B10_1 xN10 : Addr} {xnm10 xqn10 fl10 : Str} {xbs10 : List Value} {xsn10 : List Str} {xsub10 : List Value} {xab10 : Bool} {xcol10 : Option Bool} {xdd10 : Option Addr} {xm100 xm101 xm102 xm103 xm105 : Option Value}
    {xoc10 xcl10 xkl10 xdo10 xpm10 xct10 : Value} {xod10 xcd10 xkd10 xan10 : Option Addr} {xos10 xcs10 xks10 : Array (Option Value)} {xvs10 : Array Value} {xtf10 : Tok}
    (xa10 : PySem.W.nsIn K mainGlobals "BadText" = some (some (.ref C10))) (xb10 : K.lookup C10 = some (excClassObj xnm10 xqn10 C10 xN10 xbs10 [.ref B10_1, .type "ValueError", .type "Exception", .type "BaseException", .type "object"] true xsn10 xsub10 xab10 xcol10 xdd10 xm100 xm101 xm102 xm103 xm105 "ValueError.__new__"))
    (xc10 : PySem.W.findIn K (.ref C10) "__setattr__" = some (some (.builtin "object.__setattr__"))) (xd10 : PySem.W.findIn K (.ref C10) "__getattribute__" = some (some (.builtin "BaseException.__getattribute__"))) (xe10 : PySem.W.findIn K (.ref C10) "__getattr__" = some none) (xf10 : PySem.W.findIn K (.ref C10) "word" = some none)
    (xg10 : PySem.W.findIn K (.ref C10) "__init__" = some (some (.ref fI10))) (xh10 : PySem.W.typeIn K (.ref fI10) = some (.type "function"))
    (xi10 : K.lookup fI10 = some ⟨xoc10, xod10, .func (fnX "__init__" "BadText.__init__" (xA "word" ⟨52, 17, 52, 21⟩ ⟨52, 23, 52, 27⟩) (xB "word" "a word of the text cannot stand there, or is missing" (fun n => match n with | 1 => ⟨53, 8, 53, 13⟩ | 2 => ⟨53, 8, 53, 15⟩ | 3 => ⟨53, 8, 53, 24⟩ | 4 => ⟨53, 25, 53, 79⟩ | 5 => ⟨53, 8, 53, 80⟩ | 6 => ⟨53, 8, 53, 80⟩ | 7 => ⟨54, 8, 54, 12⟩ | 8 => ⟨54, 8, 54, 17⟩ | 9 => ⟨54, 20, 54, 24⟩ | 10 => ⟨54, 8, 54, 24⟩ | _ => ⟨0, 0, 0, 0⟩)) (xS "word") [("__class__", cc10)] .none .none xdo10 xpm10 xan10 (.ref cda10) xct10), xos10⟩)
    (xj10 : PySem.W.codeIn K (.ref cda10) "BadText.__init__" = true) (xk10 : K.lookup cc10 = some ⟨xcl10, xcd10, .cell (some (.ref C10)), xcs10⟩) (xl10 : K.lookup cda10 = some ⟨xkl10, xkd10, .fields xvs10, xks10⟩) (xw10 : xvs10[2]? = some (.str fl10 xtf10)) (xx10 : ((PySem.Challenge.pw_beamframes_k17_refused_in_order.main.file : Str) == fl10) = true)
    (xo10 : PySem.W.keepIn K (.ref C10) = true) (xp10 : PySem.W.subIn K (.ref C10) (.type "BaseException") = some true) (xq10 : PySem.W.typeIn K (.ref C10) = some (.type "type")) (xr10 : PySem.W.hasDictIn K C10 = true) (xs10 : PySem.W.isClsIn K C10 = true) (xt10 : PySem.W.subIn K (.ref C10) (.ref C10) = some true)
    (xu10 : PySem.W.subIn K (.ref C10) (.type "ValueError") = some true) (xv10 : PySem.W.mroIn K C10 (.ref C10) = some true) (xy10 : ks_superIn K C10 C10 "__init__" = some (some (.builtin "ValueError.__init__"))) (xz10 : PySem.W.nsIn K cStatics "thirdparty.any" = some none)
    (zsup : PySem.W.nsIn K mainGlobals "super" = some none)
    {rg_eq : Addr} {ro_eq rk_eq rc_eq rpm_eq ru_eq rt_eq : Value} {rd_eq ra_eq : Option Addr} {rs_eq : Array (Option Value)}
    {RC rfI rp_n rg_n rp_d rg_d rdT : Addr} {rr_n rr_d : List Value} {rdo : Value} {rdd : Option Addr} {rdq : Tok} {rdn : Nat} {rds : Array (Option Value)}
    {ro_n rk_n rc_n rpm_n ru_n rt_n : Value} {rd_n ra_n : Option Addr} {rs_n : Array (Option Value)}
    {ro_d rk_d rc_d rpm_d ru_d rt_d : Value} {rd_d ra_d : Option Addr} {rs_d : Array (Option Value)}
    {ro_i rk_i rc_i rpm_i ru_i rt_i : Value} {rd_i ra_i : Option Addr} {rs_i : Array (Option Value)}
    (rq_a : PySem.W.nsIn K mainGlobals "Ratio" = some (some (.ref RC)))
    (rq_b : PySem.W.plainGet K RC Str.empty = true)
    (rq_c : PySem.W.hasDictIn K RC = true)
    (rq_d : PySem.W.plainOver K RC = true)
    (rq_e : PySem.W.findIn K (.ref RC) "__setattr__" = some (some (.builtin "object.__setattr__")))
    (rq_f : PySem.W.makesIn K RC = true)
    (rq_g : PySem.W.findIn K (.ref RC) "__init__" = some (some (.ref rfI)))
    (rq_h : PySem.W.isFn K (.ref rfI) = true)
    (rq_i : PySem.W.keepIn K (.ref RC) = true)
    (rq_n1 : PySem.W.findIn K (.ref RC) "num" = some (some (.ref rp_n)))
    (rq_n2 : PySem.W.specialIn K (.ref rp_n) "__get__" = some (some (.builtin "property.__get__")))
    (rq_n3 : PySem.W.takesIn K (.ref rp_n) = some true)
    (rq_n4 : PySem.W.recIn K rp_n "property" = some (.ref rg_n :: rr_n))
    (rq_n5 : PySem.W.findIn K (.ref RC) "_num" = some none)
    (rq_n6 : K.lookup rg_n = some ⟨ro_n, rd_n, .func (PySem.W.fnOf "num" "Ratio.num" (defArgs s_rN) (defBody s_rN) (defScope s_rN) .none rk_n rc_n rpm_n ra_n ru_n rt_n), rs_n⟩)
    (rq_n7 : PySem.W.codeIn K ru_n "Ratio.num" = true)
    (rq_d1 : PySem.W.findIn K (.ref RC) "den" = some (some (.ref rp_d)))
    (rq_d2 : PySem.W.specialIn K (.ref rp_d) "__get__" = some (some (.builtin "property.__get__")))
    (rq_d3 : PySem.W.takesIn K (.ref rp_d) = some true)
    (rq_d4 : PySem.W.recIn K rp_d "property" = some (.ref rg_d :: rr_d))
    (rq_d5 : PySem.W.findIn K (.ref RC) "_den" = some none)
    (rq_d6 : K.lookup rg_d = some ⟨ro_d, rd_d, .func (PySem.W.fnOf "den" "Ratio.den" (defArgs s_rD) (defBody s_rD) (defScope s_rD) .none rk_d rc_d rpm_d ra_d ru_d rt_d), rs_d⟩)
    (rq_d7 : PySem.W.codeIn K ru_d "Ratio.den" = true)
    (rq_j : PySem.W.findIn K (.ref RC) "__class__" = some (some (.builtin "object.__class__")))
    (rq_k : PySem.W.specialIn K (.builtin "object.__class__") "__get__" = some (some (.builtin "getset_descriptor.__get__")))
    (rq_l : PySem.W.takesIn K (.builtin "object.__class__") = some true)
    (rq_m : PySem.W.mroIn K RC (.type "object") = some true)
    (rq_noNoneType : PySem.W.kitOne K (.type "NoneType") (.ref RC) = some false)
    (rq_nobool : PySem.W.kitOne K (.type "bool") (.ref RC) = some false)
    (rq_noint : PySem.W.kitOne K (.type "int") (.ref RC) = some false)
    (rq_nostr : PySem.W.kitOne K (.type "str") (.ref RC) = some false)
    (rq_nolist : PySem.W.kitOne K (.type "list") (.ref RC) = some false)
    (rq_notuple : PySem.W.kitOne K (.type "tuple") (.ref RC) = some false)
    (rq_nodict : PySem.W.kitOne K (.type "dict") (.ref RC) = some false)
    (rq_si : PySem.W.kitOne K (.ref RC) (.ref RC) = some true)
    (rq_stbool : PySem.W.kitOne K (.ref RC) (.type "bool") = some false)
    (rq_stint : PySem.W.kitOne K (.ref RC) (.type "int") = some false)
    (rq_ststr : PySem.W.kitOne K (.ref RC) (.type "str") = some false)
    (rq_stlist : PySem.W.kitOne K (.ref RC) (.type "list") = some false)
    (rq_sttuple : PySem.W.kitOne K (.ref RC) (.type "tuple") = some false)
    (rq_fi : K.lookup rfI = some ⟨ro_i, rd_i, .func (PySem.W.fnOf "__init__" "Ratio.__init__" (defArgs s_rI) (defBody s_rI) (defScope s_rI) (.ref rdT) rk_i rc_i rpm_i ra_i ru_i rt_i), rs_i⟩)
    (rq_fc : PySem.W.codeIn K ru_i "Ratio.__init__" = true)
    (rq_fk : PySem.W.keepIn K (.ref rfI) = true)
    (rq_ft : K.lookup rdT = some ⟨rdo, rdd, .seq [.int 1 rdq].toArray rdn, rds⟩)
    (rq_gc : PySem.W.nsIn K mainGlobals "gcd" = some (some (.builtin "math.gcd")))
    (rq_oeq1 : PySem.W.findIn K (.ref RC) "__eq__" = some (some (.ref rg_eq)))
    (rq_oeq2 : PySem.W.isFn K (.ref rg_eq) = true)
    (rq_oeq3 : K.lookup rg_eq = some ⟨ro_eq, rd_eq, .func (PySem.W.fnOf "__eq__" "Ratio.__eq__" (defArgs s_req) (defBody s_req) (defScope s_req) .none rk_eq rc_eq rpm_eq ra_eq ru_eq rt_eq), rs_eq⟩)
    (rq_oeq4 : PySem.W.codeIn K ru_eq "Ratio.__eq__" = true)
    (rq_oeq5 : PySem.W.keepIn K (.ref rg_eq) = true)
    (rq_one : PySem.W.findIn K (.ref RC) "__ne__" = some (some (.builtin "object.__ne__")))
    (xca_1 : PySem.W.findIn K (.ref C1) "__class__" = some (some (.builtin "object.__class__")))
    (xob_1 : PySem.W.mroIn K C1 (.type "object") = some true)
    (xca_2 : PySem.W.findIn K (.ref C2) "__class__" = some (some (.builtin "object.__class__")))
    (xob_2 : PySem.W.mroIn K C2 (.type "object") = some true)
    (xca_4 : PySem.W.findIn K (.ref C4) "__class__" = some (some (.builtin "object.__class__")))
    (xob_4 : PySem.W.mroIn K C4 (.type "object") = some true)
    (xca_5 : PySem.W.findIn K (.ref C5) "__class__" = some (some (.builtin "object.__class__")))
    (xob_5 : PySem.W.mroIn K C5 (.type "object") = some true)
    (xca_7 : PySem.W.findIn K (.ref C7) "__class__" = some (some (.builtin "object.__class__")))
    (xob_7 : PySem.W.mroIn K C7 (.type "object") = some true)
    (xisg1 : PySem.W.specialIn K (.builtin "object.__class__") "__get__" = some (some (.builtin "getset_descriptor.__get__")))
    (xisg2 : PySem.W.takesIn K (.builtin "object.__class__") = some true)
    (xq_1_4 : PySem.W.exmOne K (.ref C1) (.ref C4) = some false)
    (xq_1_6 : PySem.W.exmOne K (.ref C1) (.ref C6) = some false)
    (xq_1_7 : PySem.W.exmOne K (.ref C1) (.ref C7) = some false)
    (xq_1_1 : PySem.W.exmOne K (.ref C1) (.ref C1) = some true)
    (xq_1_5 : PySem.W.exmOne K (.ref C1) (.ref C5) = some false)
    (xq_1_9 : PySem.W.exmOne K (.ref C1) (.ref C9) = some false)
    (xq_1_8 : PySem.W.exmOne K (.ref C1) (.ref C8) = some false)
    (xq_1_2 : PySem.W.exmOne K (.ref C1) (.ref C2) = some false)
    (xq_1_10 : PySem.W.exmOne K (.ref C1) (.ref C10) = some false)
    (xq_1_3 : PySem.W.exmOne K (.ref C1) (.ref C3) = some false)
    (xy_1_4 : PySem.W.kitOne K (.ref C1) (.ref C4) = some false)
    (xy_1_6 : PySem.W.kitOne K (.ref C1) (.ref C6) = some false)
    (xy_1_7 : PySem.W.kitOne K (.ref C1) (.ref C7) = some false)
    (xy_1_1 : PySem.W.kitOne K (.ref C1) (.ref C1) = some true)
    (xy_1_5 : PySem.W.kitOne K (.ref C1) (.ref C5) = some false)
    (xy_1_9 : PySem.W.kitOne K (.ref C1) (.ref C9) = some false)
    (xy_1_8 : PySem.W.kitOne K (.ref C1) (.ref C8) = some false)
    (xy_1_2 : PySem.W.kitOne K (.ref C1) (.ref C2) = some false)
    (xy_1_3 : PySem.W.kitOne K (.ref C1) (.ref C3) = some false)
    (xq_2_4 : PySem.W.exmOne K (.ref C2) (.ref C4) = some false)
    (xq_2_6 : PySem.W.exmOne K (.ref C2) (.ref C6) = some false)
    (xq_2_7 : PySem.W.exmOne K (.ref C2) (.ref C7) = some false)
    (xq_2_1 : PySem.W.exmOne K (.ref C2) (.ref C1) = some false)
    (xq_2_5 : PySem.W.exmOne K (.ref C2) (.ref C5) = some false)
    (xq_2_9 : PySem.W.exmOne K (.ref C2) (.ref C9) = some false)
    (xq_2_8 : PySem.W.exmOne K (.ref C2) (.ref C8) = some false)
    (xq_2_2 : PySem.W.exmOne K (.ref C2) (.ref C2) = some true)
    (xq_2_10 : PySem.W.exmOne K (.ref C2) (.ref C10) = some false)
    (xq_2_3 : PySem.W.exmOne K (.ref C2) (.ref C3) = some false)
    (xy_2_4 : PySem.W.kitOne K (.ref C2) (.ref C4) = some false)
    (xy_2_6 : PySem.W.kitOne K (.ref C2) (.ref C6) = some false)
    (xy_2_7 : PySem.W.kitOne K (.ref C2) (.ref C7) = some false)
    (xy_2_1 : PySem.W.kitOne K (.ref C2) (.ref C1) = some false)
    (xy_2_5 : PySem.W.kitOne K (.ref C2) (.ref C5) = some false)
    (xy_2_9 : PySem.W.kitOne K (.ref C2) (.ref C9) = some false)
    (xy_2_8 : PySem.W.kitOne K (.ref C2) (.ref C8) = some false)
    (xy_2_2 : PySem.W.kitOne K (.ref C2) (.ref C2) = some true)
    (xy_2_3 : PySem.W.kitOne K (.ref C2) (.ref C3) = some false)
    (xq_4_4 : PySem.W.exmOne K (.ref C4) (.ref C4) = some true)
    (xq_4_6 : PySem.W.exmOne K (.ref C4) (.ref C6) = some false)
    (xq_4_7 : PySem.W.exmOne K (.ref C4) (.ref C7) = some false)
    (xq_4_1 : PySem.W.exmOne K (.ref C4) (.ref C1) = some false)
    (xq_4_5 : PySem.W.exmOne K (.ref C4) (.ref C5) = some false)
    (xq_4_9 : PySem.W.exmOne K (.ref C4) (.ref C9) = some false)
    (xq_4_8 : PySem.W.exmOne K (.ref C4) (.ref C8) = some false)
    (xq_4_2 : PySem.W.exmOne K (.ref C4) (.ref C2) = some false)
    (xq_4_10 : PySem.W.exmOne K (.ref C4) (.ref C10) = some false)
    (xq_4_3 : PySem.W.exmOne K (.ref C4) (.ref C3) = some false)
    (xy_4_4 : PySem.W.kitOne K (.ref C4) (.ref C4) = some true)
    (xy_4_6 : PySem.W.kitOne K (.ref C4) (.ref C6) = some false)
    (xy_4_7 : PySem.W.kitOne K (.ref C4) (.ref C7) = some false)
    (xy_4_1 : PySem.W.kitOne K (.ref C4) (.ref C1) = some false)
    (xy_4_5 : PySem.W.kitOne K (.ref C4) (.ref C5) = some false)
    (xy_4_9 : PySem.W.kitOne K (.ref C4) (.ref C9) = some false)
    (xy_4_8 : PySem.W.kitOne K (.ref C4) (.ref C8) = some false)
    (xy_4_2 : PySem.W.kitOne K (.ref C4) (.ref C2) = some false)
    (xy_4_3 : PySem.W.kitOne K (.ref C4) (.ref C3) = some false)
    (xq_5_4 : PySem.W.exmOne K (.ref C5) (.ref C4) = some false)
    (xq_5_6 : PySem.W.exmOne K (.ref C5) (.ref C6) = some false)
    (xq_5_7 : PySem.W.exmOne K (.ref C5) (.ref C7) = some false)
    (xq_5_1 : PySem.W.exmOne K (.ref C5) (.ref C1) = some false)
    (xq_5_5 : PySem.W.exmOne K (.ref C5) (.ref C5) = some true)
    (xq_5_9 : PySem.W.exmOne K (.ref C5) (.ref C9) = some false)
    (xq_5_8 : PySem.W.exmOne K (.ref C5) (.ref C8) = some false)
    (xq_5_2 : PySem.W.exmOne K (.ref C5) (.ref C2) = some false)
    (xq_5_10 : PySem.W.exmOne K (.ref C5) (.ref C10) = some false)
    (xq_5_3 : PySem.W.exmOne K (.ref C5) (.ref C3) = some false)
    (xy_5_4 : PySem.W.kitOne K (.ref C5) (.ref C4) = some false)
    (xy_5_6 : PySem.W.kitOne K (.ref C5) (.ref C6) = some false)
    (xy_5_7 : PySem.W.kitOne K (.ref C5) (.ref C7) = some false)
    (xy_5_1 : PySem.W.kitOne K (.ref C5) (.ref C1) = some false)
    (xy_5_5 : PySem.W.kitOne K (.ref C5) (.ref C5) = some true)
    (xy_5_9 : PySem.W.kitOne K (.ref C5) (.ref C9) = some false)
    (xy_5_8 : PySem.W.kitOne K (.ref C5) (.ref C8) = some false)
    (xy_5_2 : PySem.W.kitOne K (.ref C5) (.ref C2) = some false)
    (xy_5_3 : PySem.W.kitOne K (.ref C5) (.ref C3) = some false)
    (xq_7_4 : PySem.W.exmOne K (.ref C7) (.ref C4) = some false)
    (xq_7_6 : PySem.W.exmOne K (.ref C7) (.ref C6) = some false)
    (xq_7_7 : PySem.W.exmOne K (.ref C7) (.ref C7) = some true)
    (xq_7_1 : PySem.W.exmOne K (.ref C7) (.ref C1) = some false)
    (xq_7_5 : PySem.W.exmOne K (.ref C7) (.ref C5) = some false)
    (xq_7_9 : PySem.W.exmOne K (.ref C7) (.ref C9) = some false)
    (xq_7_8 : PySem.W.exmOne K (.ref C7) (.ref C8) = some false)
    (xq_7_2 : PySem.W.exmOne K (.ref C7) (.ref C2) = some false)
    (xq_7_10 : PySem.W.exmOne K (.ref C7) (.ref C10) = some false)
    (xq_7_3 : PySem.W.exmOne K (.ref C7) (.ref C3) = some false)
    (xy_7_4 : PySem.W.kitOne K (.ref C7) (.ref C4) = some false)
    (xy_7_6 : PySem.W.kitOne K (.ref C7) (.ref C6) = some false)
    (xy_7_7 : PySem.W.kitOne K (.ref C7) (.ref C7) = some true)
    (xy_7_1 : PySem.W.kitOne K (.ref C7) (.ref C1) = some false)
    (xy_7_5 : PySem.W.kitOne K (.ref C7) (.ref C5) = some false)
    (xy_7_9 : PySem.W.kitOne K (.ref C7) (.ref C9) = some false)
    (xy_7_8 : PySem.W.kitOne K (.ref C7) (.ref C8) = some false)
    (xy_7_2 : PySem.W.kitOne K (.ref C7) (.ref C2) = some false)
    (xy_7_3 : PySem.W.kitOne K (.ref C7) (.ref C3) = some false)
    {KL48 PL48 : Addr} (tbk48 : cd48 = .ref KL48) (tbt48 : h.get? PL48 = some (PySem.W.tabObj #[])) (tbc48 : PySem.W.codeHdIn K KL48 PL48 = true) (tbn48 : K.lookup PL48 = none)
    {KL49 PL49 : Addr} (tbk49 : cd49 = .ref KL49) (tbt49 : h.get? PL49 = some (PySem.W.tabObj #[])) (tbc49 : PySem.W.codeHdIn K KL49 PL49 = true) (tbn49 : K.lookup PL49 = none)
    {KL50 PL50 : Addr} (tbk50 : cd50 = .ref KL50) (tbt50 : h.get? PL50 = some (PySem.W.tabObj #[])) (tbc50 : PySem.W.codeHdIn K KL50 PL50 = true) (tbn50 : K.lookup PL50 = none)
    (tbd_48_49 : PL48 ≠ PL49)
    (tbd_48_50 : PL48 ≠ PL50)
    (tbd_49_50 : PL49 ≠ PL50)
    : ∃ (fd : FuncData) (cs : List (Addr × Addr)), (∀ p ∈ cs, h.get? p.2 = some tabO) ∧ (∀ p ∈ cs, K.lookup p.2 = none) ∧ (∀ p ∈ cs, PySem.W.CodeHd h p.1 p.2) ∧ (∀ (s : Shared) (v : Value), BindsTo s fd ⟨[v], []⟩ [("script", v)]) ∧ ∀ base : Heap, K.In base → base.Ns mainGlobals mg → (∀ p ∈ cs, LamX.TabB base mg p.1 p.2) → GOk l.prog w K mg base 16 fa fd ["script"] (spLawT cs K) := by
  have e := hfa.symm.trans (PySem.W.mg_of X G a51)
  obtain rfl : f51 = fa := by cases e; rfl
  subst tbk48
  subst tbk49
  subst tbk50
  have T : Txt K mg ⟨f1, (PySem.W.fnOf "is_whole" "is_whole" (defArgs s_is_whole) (defBody s_is_whole) (defScope s_is_whole) .none kV1 dc1 pm1 an1 cd1 ct1), f2, (PySem.W.fnOf "is_whole_from" "is_whole_from" (defArgs s_is_whole_from) (defBody s_is_whole_from) (defScope s_is_whole_from) .none kV2 dc2 pm2 an2 cd2 ct2), f3, (PySem.W.fnOf "need_table" "need_table" (defArgs s_need_table) (defBody s_need_table) (defScope s_need_table) .none kV3 dc3 pm3 an3 cd3 ct3), f4, (PySem.W.fnOf "is_word" "is_word" (defArgs s_is_word) (defBody s_is_word) (defScope s_is_word) .none kV4 dc4 pm4 an4 cd4 ct4), f5, (PySem.W.fnOf "words_of" "words_of" (defArgs s_words_of) (defBody s_words_of) (defScope s_words_of) .none kV5 dc5 pm5 an5 cd5 ct5), f6, (PySem.W.fnOf "begins_with" "begins_with" (defArgs s_begins_with) (defBody s_begins_with) (defScope s_begins_with) .none kV6 dc6 pm6 an6 cd6 ct6), f7, (PySem.W.fnOf "wrong_part_of_pairs" "wrong_part_of_pairs" (defArgs s_wrong_part_of_pairs) (defBody s_wrong_part_of_pairs) (defScope s_wrong_part_of_pairs) .none kV7 dc7 pm7 an7 cd7 ct7), f8, (PySem.W.fnOf "wrong_part_of_halves" "wrong_part_of_halves" (defArgs s_wrong_part_of_halves) (defBody s_wrong_part_of_halves) (defScope s_wrong_part_of_halves) .none kV8 dc8 pm8 an8 cd8 ct8), f9, (PySem.W.fnOf "is_duration" "is_duration" (defArgs s_is_duration) (defBody s_is_duration) (defScope s_is_duration) .none kV9 dc9 pm9 an9 cd9 ct9), f10, (PySem.W.fnOf "are_durations" "are_durations" (defArgs s_are_durations) (defBody s_are_durations) (defScope s_are_durations) .none kV10 dc10 pm10 an10 cd10 ct10), f11, (PySem.W.fnOf "is_pulse_and_gap" "is_pulse_and_gap" (defArgs s_is_pulse_and_gap) (defBody s_is_pulse_and_gap) (defScope s_is_pulse_and_gap) .none kV11 dc11 pm11 an11 cd11 ct11), f12, (PySem.W.fnOf "is_bit_count" "is_bit_count" (defArgs s_is_bit_count) (defBody s_is_bit_count) (defScope s_is_bit_count) .none kV12 dc12 pm12 an12 cd12 ct12), f13, (PySem.W.fnOf "frame_of" "frame_of" (defArgs s_frame_of) (defBody s_frame_of) (defScope s_frame_of) .none kV13 dc13 pm13 an13 cd13 ct13), f14, (PySem.W.fnOf "word_of" "word_of" (defArgs s_word_of) (defBody s_word_of) (defScope s_word_of) .none kV14 dc14 pm14 an14 cd14 ct14), f15, (PySem.W.fnOf "begin_of" "begin_of" (defArgs s_begin_of) (defBody s_begin_of) (defScope s_begin_of) .none kV15 dc15 pm15 an15 cd15 ct15), f16, (PySem.W.fnOf "is_end" "is_end" (defArgs s_is_end) (defBody s_is_end) (defScope s_is_end) .none kV16 dc16 pm16 an16 cd16 ct16), f17, (PySem.W.fnOf "steps_of" "steps_of" (defArgs s_steps_of) (defBody s_steps_of) (defScope s_steps_of) .none kV17 dc17 pm17 an17 cd17 ct17), f18, (PySem.W.fnOf "need_ratio" "need_ratio" (defArgs s_need_ratio) (defBody s_need_ratio) (defScope s_need_ratio) .none kV18 dc18 pm18 an18 cd18 ct18), f19, (PySem.W.fnOf "is_below_one" "is_below_one" (defArgs s_is_below_one) (defBody s_is_below_one) (defScope s_is_below_one) .none kV19 dc19 pm19 an19 cd19 ct19), f20, (PySem.W.fnOf "need_burst" "need_burst" (defArgs s_need_burst) (defBody s_need_burst) (defScope s_need_burst) .none kV20 dc20 pm20 an20 cd20 ct20), f21, (PySem.W.fnOf "nearest" "nearest" (defArgs s_nearest) (defBody s_nearest) (defScope s_nearest) .none kV21 dc21 pm21 an21 cd21 ct21), f22, (PySem.W.fnOf "is_burst" "is_burst" (defArgs s_is_burst) (defBody s_is_burst) (defScope s_is_burst) .none kV22 dc22 pm22 an22 cd22 ct22), f23, (PySem.W.fnOf "is_above_zero" "is_above_zero" (defArgs s_is_above_zero) (defBody s_is_above_zero) (defScope s_is_above_zero) .none kV23 dc23 pm23 an23 cd23 ct23), f24, (PySem.W.fnOf "need_receiver" "need_receiver" (defArgs s_need_receiver) (defBody s_need_receiver) (defScope s_need_receiver) .none kV24 dc24 pm24 an24 cd24 ct24), f25, (PySem.W.fnOf "reads" "reads" (defArgs s_reads) (defBody s_reads) (defScope s_reads) .none kV25 dc25 pm25 an25 cd25 ct25), f26, (PySem.W.fnOf "is_sending" "is_sending" (defArgs s_is_sending) (defBody s_is_sending) (defScope s_is_sending) .none kV26 dc26 pm26 an26 cd26 ct26), f27, (PySem.W.fnOf "is_pair" "is_pair" (defArgs s_is_pair) (defBody s_is_pair) (defScope s_is_pair) .none kV27 dc27 pm27 an27 cd27 ct27), f28, (PySem.W.fnOf "is_table_with_tolerance" "is_table_with_tolerance" (defArgs s_is_table_with_tolerance) (defBody s_is_table_with_tolerance) (defScope s_is_table_with_tolerance) .none kV28 dc28 pm28 an28 cd28 ct28), f29, (PySem.W.fnOf "is_table" "is_table" (defArgs s_is_table) (defBody s_is_table) (defScope s_is_table) .none kV29 dc29 pm29 an29 cd29 ct29), f30, (PySem.W.fnOf "start_stands" "start_stands" (defArgs s_start_stands) (defBody s_start_stands) (defScope s_start_stands) .none kV30 dc30 pm30 an30 cd30 ct30), f31, (PySem.W.fnOf "taken" "taken" (defArgs s_taken) (defBody s_taken) (defScope s_taken) .none kV31 dc31 pm31 an31 cd31 ct31), f32, (PySem.W.fnOf "check_taken" "check_taken" (defArgs s_check_taken) (defBody s_check_taken) (defScope s_check_taken) .none kV32 dc32 pm32 an32 cd32 ct32), f33, (PySem.W.fnOf "limit_of" "limit_of" (defArgs s_limit_of) (defBody s_limit_of) (defScope s_limit_of) .none kV33 dc33 pm33 an33 cd33 ct33), f34, (PySem.W.fnOf "is_safe" "is_safe" (defArgs s_is_safe) (defBody s_is_safe) (defScope s_is_safe) .none kV34 dc34 pm34 an34 cd34 ct34), f35, (PySem.W.fnOf "margin_of" "margin_of" (defArgs s_margin_of) (defBody s_margin_of) (defScope s_margin_of) .none kV35 dc35 pm35 an35 cd35 ct35), f36, (PySem.W.fnOf "table_text" "table_text" (defArgs s_table_text) (defBody s_table_text) (defScope s_table_text) .none kV36 dc36 pm36 an36 cd36 ct36), f37, (PySem.W.fnOf "burst_text" "burst_text" (defArgs s_burst_text) (defBody s_burst_text) (defScope s_burst_text) .none kV37 dc37 pm37 an37 cd37 ct37), f38, (PySem.W.fnOf "_law_begin" "_law_begin" (defArgs s__law_begin) (defBody s__law_begin) (defScope s__law_begin) .none kV38 dc38 pm38 an38 cd38 ct38), f39, (PySem.W.fnOf "_law_next" "_law_next" (defArgs s__law_next) (defBody s__law_next) (defScope s__law_next) .none kV39 dc39 pm39 an39 cd39 ct39), f40, (PySem.W.fnOf "_law_pick" "_law_pick" (defArgs s__law_pick) (defBody s__law_pick) (defScope s__law_pick) .none kV40 dc40 pm40 an40 cd40 ct40), f41, (PySem.W.fnOf "_law_size" "_law_size" (defArgs s__law_size) (defBody s__law_size) (defScope s__law_size) .none kV41 dc41 pm41 an41 cd41 ct41), f42, (PySem.W.fnOf "_law_table" "_law_table" (defArgs s__law_table) (defBody s__law_table) (defScope s__law_table) .none kV42 dc42 pm42 an42 cd42 ct42), f43, (PySem.W.fnOf "_law_like" "_law_like" (defArgs s__law_like) (defBody s__law_like) (defScope s__law_like) .none kV43 dc43 pm43 an43 cd43 ct43), f44, (PySem.W.fnOf "_law_receiver" "_law_receiver" (defArgs s__law_receiver) (defBody s__law_receiver) (defScope s__law_receiver) .none kV44 dc44 pm44 an44 cd44 ct44), f45, (PySem.W.fnOf "_law_fault" "_law_fault" (defArgs s__law_fault) (defBody s__law_fault) (defScope s__law_fault) .none kV45 dc45 pm45 an45 cd45 ct45), f46, (PySem.W.fnOf "_law_said" "_law_said" (defArgs s__law_said) (defBody s__law_said) (defScope s__law_said) .none kV46 dc46 pm46 an46 cd46 ct46), f47, (PySem.W.fnOf "_law_bad_table" "_law_bad_table" (defArgs s__law_bad_table) (defBody s__law_bad_table) (defScope s__law_bad_table) .none kV47 dc47 pm47 an47 cd47 ct47), f48, (PySem.W.fnOf "_law_of_table" "_law_of_table" (defArgs s__law_of_table) (defBody s__law_of_table) (defScope s__law_of_table) .none kV48 dc48 pm48 an48 (.ref KL48) ct48), f49, (PySem.W.fnOf "_law_of_receiver" "_law_of_receiver" (defArgs s__law_of_receiver) (defBody s__law_of_receiver) (defScope s__law_of_receiver) .none kV49 dc49 pm49 an49 (.ref KL49) ct49), f50, (PySem.W.fnOf "_law_further_right" "_law_further_right" (defArgs s__law_further_right) (defBody s__law_further_right) (defScope s__law_further_right) .none kV50 dc50 pm50 an50 (.ref KL50) ct50), f51, (PySem.W.fnOf "law" "law" (defArgs s_law) (defBody s_law) (defScope s_law) .none kV51 dc51 pm51 an51 cd51 ct51), KL48, PL48, KL49, PL49, KL50, PL50, C1, fI1, C2, fI2, C3, fI3, C4, fI4, C5, fI5, C6, fI6, C7, fI7, C8, fI8, C9, fI9, C10, fI10, rg_eq, (PySem.W.fnOf "__eq__" "Ratio.__eq__" (defArgs s_req) (defBody s_req) (defScope s_req) .none rk_eq rc_eq rpm_eq ra_eq ru_eq rt_eq), RC, rfI, (PySem.W.fnOf "__init__" "Ratio.__init__" (defArgs s_rI) (defBody s_rI) (defScope s_rI) (.ref rdT) rk_i rc_i rpm_i ra_i ru_i rt_i), rp_n, rg_n, (PySem.W.fnOf "num" "Ratio.num" (defArgs s_rN) (defBody s_rN) (defScope s_rN) .none rk_n rc_n rpm_n ra_n ru_n rt_n), rp_d, rg_d, (PySem.W.fnOf "den" "Ratio.den" (defArgs s_rD) (defBody s_rD) (defScope s_rD) .none rk_d rc_d rpm_d ra_d ru_d rt_d)⟩ := {
    r_Ratio := { cl := ⟨rq_b, rq_c, rq_d, rq_e⟩, mK := ⟨rq_f, rq_g, rq_h, rq_i⟩, pn := ⟨rq_n1, rq_n2, rq_n3, ⟨_, rq_n4⟩⟩, pd := ⟨rq_d1, rq_d2, rq_d3, ⟨_, rq_d4⟩⟩, an := rq_n5, ad := rq_d5, gC := PySem.W.mg_of X G rq_a, c1 := rq_j, c2 := rq_k, c3 := rq_l, c4 := rq_m, no := (by intro T hT; simp only [List.mem_cons, List.not_mem_nil, or_false] at hT; rcases hT with rfl | rfl | rfl | rfl | rfl | rfl | rfl <;> assumption), si := rq_si, sT := (by intro T hT; simp only [List.mem_cons, List.not_mem_nil, or_false] at hT; rcases hT with rfl | rfl | rfl | rfl | rfl <;> assumption) }
    g_Ratio := { n := fun P w mg base => L2.fn_getter rq_n6 rq_n7 sc_rN rfl rfl ⟨rq_b, rq_c, rq_d, rq_e⟩ rq_n5, d := fun P w mg base => L2.fn_getter rq_d6 rq_d7 sc_rD rfl rfl ⟨rq_b, rq_c, rq_d, rq_e⟩ rq_d5, bn := L2.Binds.all fun us hl => match us, hl with | [_], _ => rfl, bd := L2.Binds.all fun us hl => match us, hl with | [_], _ => rfl }
    g_fi := ⟨⟨_, _, _, _, _, _, _, _, _, _, rfl, rq_fi, rq_fc, .inr ⟨by simp, _, _, [.int 1 rdq], _, rfl, rq_ft, rfl, .cons ⟨_, rfl⟩ .nil⟩, .inl rfl⟩, rq_fk⟩
    m_gcd := PySem.W.mg_of X G rq_gc
    o_eq := ⟨fun_mk (st := s_req) rq_oeq3 rq_oeq4 rq_oeq5, rq_oeq1, rq_oeq2, L2.Binds.all fun us hl => match us, hl with | [_, _], _ => rfl⟩
    o_ne := rq_one
    b_BadRatio := { T := { cls := ⟨_, _, _, _, _, _, _, _, _, _, _, _, _, _, _, xb1, rfl⟩, sa := xc1, noN := xf1, iC := xg1, tC := xh1, sup := xy1, sub := xu1, self := xv1, st := xz1, fn := ⟨_, _, _, _, _, _, _, _, _, _, _, _, _, _, _, _, _, (fun n => match n with | 1 => ⟨8, 8, 8, 13⟩ | 2 => ⟨8, 8, 8, 15⟩ | 3 => ⟨8, 8, 8, 24⟩ | 4 => ⟨8, 25, 8, 63⟩ | 5 => ⟨8, 8, 8, 64⟩ | 6 => ⟨8, 8, 8, 64⟩ | 7 => ⟨9, 8, 9, 12⟩ | 8 => ⟨9, 8, 9, 18⟩ | 9 => ⟨9, 21, 9, 26⟩ | 10 => ⟨9, 8, 9, 26⟩ | _ => ⟨0, 0, 0, 0⟩), _, _, _, _, _, xi1, xj1, xk1, xl1, xw1, xx1, (fun env => ⟨_, rfl⟩), (fun s a b => .of_eq rfl)⟩ }, gC := PySem.W.mg_of X G xa1, kC := xo1, exC := xp1, tyC := xq1, ga := xd1, gg := xe1, hdC := xr1, te := exm_self xp1 xs1 xq1 xt1, ms := PySem.W.mg_none_of X G zsup, top := by rfl, fn := by decide }
    b_BadTable := { T := { cls := ⟨_, _, _, _, _, _, _, _, _, _, _, _, _, _, _, xb2, rfl⟩, sa := xc2, noN := xf2, iC := xg2, tC := xh2, sup := xy2, sub := xu2, self := xv2, st := xz2, fn := ⟨_, _, _, _, _, _, _, _, _, _, _, _, _, _, _, _, _, (fun n => match n with | 1 => ⟨13, 8, 13, 13⟩ | 2 => ⟨13, 8, 13, 15⟩ | 3 => ⟨13, 8, 13, 24⟩ | 4 => ⟨13, 25, 13, 66⟩ | 5 => ⟨13, 8, 13, 67⟩ | 6 => ⟨13, 8, 13, 67⟩ | 7 => ⟨14, 8, 14, 12⟩ | 8 => ⟨14, 8, 14, 17⟩ | 9 => ⟨14, 20, 14, 24⟩ | 10 => ⟨14, 8, 14, 24⟩ | _ => ⟨0, 0, 0, 0⟩), _, _, _, _, _, xi2, xj2, xk2, xl2, xw2, xx2, (fun env => ⟨_, rfl⟩), (fun s a b => .of_eq rfl)⟩ }, gC := PySem.W.mg_of X G xa2, kC := xo2, exC := xp2, tyC := xq2, ga := xd2, gg := xe2, hdC := xr2, te := exm_self xp2 xs2 xq2 xt2, ms := PySem.W.mg_none_of X G zsup, top := by rfl, fn := by decide }
    b_BadWord := { T := { cls := ⟨_, _, _, _, _, _, _, _, _, _, _, _, _, _, _, xb3, rfl⟩, sa := xc3, noN := xf3, iC := xg3, tC := xh3, sup := xy3, sub := xu3, self := xv3, st := xz3, fn := ⟨_, _, _, _, _, _, _, _, _, _, _, _, _, _, _, _, _, (fun n => match n with | 1 => ⟨18, 8, 18, 13⟩ | 2 => ⟨18, 8, 18, 15⟩ | 3 => ⟨18, 8, 18, 24⟩ | 4 => ⟨18, 25, 18, 56⟩ | 5 => ⟨18, 8, 18, 57⟩ | 6 => ⟨18, 8, 18, 57⟩ | 7 => ⟨19, 8, 19, 12⟩ | 8 => ⟨19, 8, 19, 18⟩ | 9 => ⟨19, 21, 19, 26⟩ | 10 => ⟨19, 8, 19, 26⟩ | _ => ⟨0, 0, 0, 0⟩), _, _, _, _, _, xi3, xj3, xk3, xl3, xw3, xx3, (fun env => ⟨_, rfl⟩), (fun s a b => .of_eq rfl)⟩ }, gC := PySem.W.mg_of X G xa3, kC := xo3, exC := xp3, tyC := xq3, ga := xd3, gg := xe3, hdC := xr3, te := exm_self xp3 xs3 xq3 xt3, ms := PySem.W.mg_none_of X G zsup, top := by rfl, fn := by decide }
    b_BadBurst := { T := { cls := ⟨_, _, _, _, _, _, _, _, _, _, _, _, _, _, _, xb4, rfl⟩, sa := xc4, noN := xf4, iC := xg4, tC := xh4, sup := xy4, sub := xu4, self := xv4, st := xz4, fn := ⟨_, _, _, _, _, _, _, _, _, _, _, _, _, _, _, _, _, (fun n => match n with | 1 => ⟨23, 8, 23, 13⟩ | 2 => ⟨23, 8, 23, 15⟩ | 3 => ⟨23, 8, 23, 24⟩ | 4 => ⟨23, 25, 23, 43⟩ | 5 => ⟨23, 8, 23, 44⟩ | 6 => ⟨23, 8, 23, 44⟩ | 7 => ⟨24, 8, 24, 12⟩ | 8 => ⟨24, 8, 24, 18⟩ | 9 => ⟨24, 21, 24, 26⟩ | 10 => ⟨24, 8, 24, 26⟩ | _ => ⟨0, 0, 0, 0⟩), _, _, _, _, _, xi4, xj4, xk4, xl4, xw4, xx4, (fun env => ⟨_, rfl⟩), (fun s a b => .of_eq rfl)⟩ }, gC := PySem.W.mg_of X G xa4, kC := xo4, exC := xp4, tyC := xq4, ga := xd4, gg := xe4, hdC := xr4, te := exm_self xp4 xs4 xq4 xt4, ms := PySem.W.mg_none_of X G zsup, top := by rfl, fn := by decide }
    b_BadReceiver := { T := { cls := ⟨_, _, _, _, _, _, _, _, _, _, _, _, _, _, _, xb5, rfl⟩, sa := xc5, noN := xf5, iC := xg5, tC := xh5, sup := xy5, sub := xu5, self := xv5, st := xz5, fn := ⟨_, _, _, _, _, _, _, _, _, _, _, _, _, _, _, _, _, (fun n => match n with | 1 => ⟨28, 8, 28, 13⟩ | 2 => ⟨28, 8, 28, 15⟩ | 3 => ⟨28, 8, 28, 24⟩ | 4 => ⟨28, 25, 28, 59⟩ | 5 => ⟨28, 8, 28, 60⟩ | 6 => ⟨28, 8, 28, 60⟩ | 7 => ⟨29, 8, 29, 12⟩ | 8 => ⟨29, 8, 29, 18⟩ | 9 => ⟨29, 21, 29, 26⟩ | 10 => ⟨29, 8, 29, 26⟩ | _ => ⟨0, 0, 0, 0⟩), _, _, _, _, _, xi5, xj5, xk5, xl5, xw5, xx5, (fun env => ⟨_, rfl⟩), (fun s a b => .of_eq rfl)⟩ }, gC := PySem.W.mg_of X G xa5, kC := xo5, exC := xp5, tyC := xq5, ga := xd5, gg := xe5, hdC := xr5, te := exm_self xp5 xs5 xq5 xt5, ms := PySem.W.mg_none_of X G zsup, top := by rfl, fn := by decide }
    b_BadNumber := { T := { cls := ⟨_, _, _, _, _, _, _, _, _, _, _, _, _, _, _, xb6, rfl⟩, sa := xc6, noN := xf6, iC := xg6, tC := xh6, sup := xy6, sub := xu6, self := xv6, st := xz6, fn := ⟨_, _, _, _, _, _, _, _, _, _, _, _, _, _, _, _, _, (fun n => match n with | 1 => ⟨33, 8, 33, 13⟩ | 2 => ⟨33, 8, 33, 15⟩ | 3 => ⟨33, 8, 33, 24⟩ | 4 => ⟨33, 25, 33, 64⟩ | 5 => ⟨33, 8, 33, 65⟩ | 6 => ⟨33, 8, 33, 65⟩ | 7 => ⟨34, 8, 34, 12⟩ | 8 => ⟨34, 8, 34, 18⟩ | 9 => ⟨34, 21, 34, 26⟩ | 10 => ⟨34, 8, 34, 26⟩ | _ => ⟨0, 0, 0, 0⟩), _, _, _, _, _, xi6, xj6, xk6, xl6, xw6, xx6, (fun env => ⟨_, rfl⟩), (fun s a b => .of_eq rfl)⟩ }, gC := PySem.W.mg_of X G xa6, kC := xo6, exC := xp6, tyC := xq6, ga := xd6, gg := xe6, hdC := xr6, te := exm_self xp6 xs6 xq6 xt6, ms := PySem.W.mg_none_of X G zsup, top := by rfl, fn := by decide }
    b_BadPaper := { T := { cls := ⟨_, _, _, _, _, _, _, _, _, _, _, _, _, _, _, xb7, rfl⟩, sa := xc7, noN := xf7, iC := xg7, tC := xh7, sup := xy7, sub := xu7, self := xv7, st := xz7, fn := ⟨_, _, _, _, _, _, _, _, _, _, _, _, _, _, _, _, _, (fun n => match n with | 1 => ⟨38, 8, 38, 13⟩ | 2 => ⟨38, 8, 38, 15⟩ | 3 => ⟨38, 8, 38, 24⟩ | 4 => ⟨38, 25, 38, 60⟩ | 5 => ⟨38, 8, 38, 61⟩ | 6 => ⟨38, 8, 38, 61⟩ | 7 => ⟨39, 8, 39, 12⟩ | 8 => ⟨39, 8, 39, 17⟩ | 9 => ⟨39, 20, 39, 24⟩ | 10 => ⟨39, 8, 39, 24⟩ | _ => ⟨0, 0, 0, 0⟩), _, _, _, _, _, xi7, xj7, xk7, xl7, xw7, xx7, (fun env => ⟨_, rfl⟩), (fun s a b => .of_eq rfl)⟩ }, gC := PySem.W.mg_of X G xa7, kC := xo7, exC := xp7, tyC := xq7, ga := xd7, gg := xe7, hdC := xr7, te := exm_self xp7 xs7 xq7 xt7, ms := PySem.W.mg_none_of X G zsup, top := by rfl, fn := by decide }
    b_BadStyle := { T := { cls := ⟨_, _, _, _, _, _, _, _, _, _, _, _, _, _, _, xb8, rfl⟩, sa := xc8, noN := xf8, iC := xg8, tC := xh8, sup := xy8, sub := xu8, self := xv8, st := xz8, fn := ⟨_, _, _, _, _, _, _, _, _, _, _, _, _, _, _, _, _, (fun n => match n with | 1 => ⟨43, 8, 43, 13⟩ | 2 => ⟨43, 8, 43, 15⟩ | 3 => ⟨43, 8, 43, 24⟩ | 4 => ⟨43, 25, 43, 43⟩ | 5 => ⟨43, 8, 43, 44⟩ | 6 => ⟨43, 8, 43, 44⟩ | 7 => ⟨44, 8, 44, 12⟩ | 8 => ⟨44, 8, 44, 18⟩ | 9 => ⟨44, 21, 44, 26⟩ | 10 => ⟨44, 8, 44, 26⟩ | _ => ⟨0, 0, 0, 0⟩), _, _, _, _, _, xi8, xj8, xk8, xl8, xw8, xx8, (fun env => ⟨_, rfl⟩), (fun s a b => .of_eq rfl)⟩ }, gC := PySem.W.mg_of X G xa8, kC := xo8, exC := xp8, tyC := xq8, ga := xd8, gg := xe8, hdC := xr8, te := exm_self xp8 xs8 xq8 xt8, ms := PySem.W.mg_none_of X G zsup, top := by rfl, fn := by decide }
    b_BadRow := { T := { cls := ⟨_, _, _, _, _, _, _, _, _, _, _, _, _, _, _, xb9, rfl⟩, sa := xc9, noN := xf9, iC := xg9, tC := xh9, sup := xy9, sub := xu9, self := xv9, st := xz9, fn := ⟨_, _, _, _, _, _, _, _, _, _, _, _, _, _, _, _, _, (fun n => match n with | 1 => ⟨48, 8, 48, 13⟩ | 2 => ⟨48, 8, 48, 15⟩ | 3 => ⟨48, 8, 48, 24⟩ | 4 => ⟨48, 25, 48, 54⟩ | 5 => ⟨48, 8, 48, 55⟩ | 6 => ⟨48, 8, 48, 55⟩ | 7 => ⟨49, 8, 49, 12⟩ | 8 => ⟨49, 8, 49, 19⟩ | 9 => ⟨49, 22, 49, 28⟩ | 10 => ⟨49, 8, 49, 28⟩ | _ => ⟨0, 0, 0, 0⟩), _, _, _, _, _, xi9, xj9, xk9, xl9, xw9, xx9, (fun env => ⟨_, rfl⟩), (fun s a b => .of_eq rfl)⟩ }, gC := PySem.W.mg_of X G xa9, kC := xo9, exC := xp9, tyC := xq9, ga := xd9, gg := xe9, hdC := xr9, te := exm_self xp9 xs9 xq9 xt9, ms := PySem.W.mg_none_of X G zsup, top := by rfl, fn := by decide }
    b_BadText := { T := { cls := ⟨_, _, _, _, _, _, _, _, _, _, _, _, _, _, _, xb10, rfl⟩, sa := xc10, noN := xf10, iC := xg10, tC := xh10, sup := xy10, sub := xu10, self := xv10, st := xz10, fn := ⟨_, _, _, _, _, _, _, _, _, _, _, _, _, _, _, _, _, (fun n => match n with | 1 => ⟨53, 8, 53, 13⟩ | 2 => ⟨53, 8, 53, 15⟩ | 3 => ⟨53, 8, 53, 24⟩ | 4 => ⟨53, 25, 53, 79⟩ | 5 => ⟨53, 8, 53, 80⟩ | 6 => ⟨53, 8, 53, 80⟩ | 7 => ⟨54, 8, 54, 12⟩ | 8 => ⟨54, 8, 54, 17⟩ | 9 => ⟨54, 20, 54, 24⟩ | 10 => ⟨54, 8, 54, 24⟩ | _ => ⟨0, 0, 0, 0⟩), _, _, _, _, _, xi10, xj10, xk10, xl10, xw10, xx10, (fun env => ⟨_, rfl⟩), (fun s a b => .of_eq rfl)⟩ }, gC := PySem.W.mg_of X G xa10, kC := xo10, exC := xp10, tyC := xq10, ga := xd10, gg := xe10, hdC := xr10, te := exm_self xp10 xs10 xq10 xt10, ms := PySem.W.mg_none_of X G zsup, top := by rfl, fn := by decide }
    f_is_whole := ⟨fun_mk (st := s_is_whole) l1 c1 k1, PySem.W.mg_of X G a1, fun s us hl => match us, hl with | [_], _ => .of_eq rfl⟩
    f_is_whole_from := ⟨fun_mk (st := s_is_whole_from) l2 c2 k2, PySem.W.mg_of X G a2, fun s us hl => match us, hl with | [_, _, _], _ => .of_eq rfl⟩
    f_need_table := ⟨fun_mk (st := s_need_table) l3 c3 k3, PySem.W.mg_of X G a3, fun s us hl => match us, hl with | [_], _ => .of_eq rfl⟩
    f_is_word := ⟨fun_mk (st := s_is_word) l4 c4 k4, PySem.W.mg_of X G a4, fun s us hl => match us, hl with | [_, _], _ => .of_eq rfl⟩
    f_words_of := ⟨fun_mk (st := s_words_of) l5 c5 k5, PySem.W.mg_of X G a5, fun s us hl => match us, hl with | [_], _ => .of_eq rfl⟩
    f_begins_with := ⟨fun_mk (st := s_begins_with) l6 c6 k6, PySem.W.mg_of X G a6, fun s us hl => match us, hl with | [_, _, _], _ => .of_eq rfl⟩
    f_wrong_part_of_pairs := ⟨fun_mk (st := s_wrong_part_of_pairs) l7 c7 k7, PySem.W.mg_of X G a7, fun s us hl => match us, hl with | [_], _ => .of_eq rfl⟩
    f_wrong_part_of_halves := ⟨fun_mk (st := s_wrong_part_of_halves) l8 c8 k8, PySem.W.mg_of X G a8, fun s us hl => match us, hl with | [_], _ => .of_eq rfl⟩
    f_is_duration := ⟨fun_mk (st := s_is_duration) l9 c9 k9, PySem.W.mg_of X G a9, fun s us hl => match us, hl with | [_], _ => .of_eq rfl⟩
    f_are_durations := ⟨fun_mk (st := s_are_durations) l10 c10 k10, PySem.W.mg_of X G a10, fun s us hl => match us, hl with | [_], _ => .of_eq rfl⟩
    f_is_pulse_and_gap := ⟨fun_mk (st := s_is_pulse_and_gap) l11 c11 k11, PySem.W.mg_of X G a11, fun s us hl => match us, hl with | [_], _ => .of_eq rfl⟩
    f_is_bit_count := ⟨fun_mk (st := s_is_bit_count) l12 c12 k12, PySem.W.mg_of X G a12, fun s us hl => match us, hl with | [_], _ => .of_eq rfl⟩
    f_frame_of := ⟨fun_mk (st := s_frame_of) l13 c13 k13, PySem.W.mg_of X G a13, fun s us hl => match us, hl with | [_, _], _ => .of_eq rfl⟩
    f_word_of := ⟨fun_mk (st := s_word_of) l14 c14 k14, PySem.W.mg_of X G a14, fun s us hl => match us, hl with | [_, _], _ => .of_eq rfl⟩
    f_begin_of := ⟨fun_mk (st := s_begin_of) l15 c15 k15, PySem.W.mg_of X G a15, fun s us hl => match us, hl with | [_], _ => .of_eq rfl⟩
    f_is_end := ⟨fun_mk (st := s_is_end) l16 c16 k16, PySem.W.mg_of X G a16, fun s us hl => match us, hl with | [_, _], _ => .of_eq rfl⟩
    f_steps_of := ⟨fun_mk (st := s_steps_of) l17 c17 k17, PySem.W.mg_of X G a17, fun s us hl => match us, hl with | [_, _], _ => .of_eq rfl⟩
    f_need_ratio := ⟨fun_mk (st := s_need_ratio) l18 c18 k18, PySem.W.mg_of X G a18, fun s us hl => match us, hl with | [_], _ => .of_eq rfl⟩
    f_is_below_one := ⟨fun_mk (st := s_is_below_one) l19 c19 k19, PySem.W.mg_of X G a19, fun s us hl => match us, hl with | [_], _ => .of_eq rfl⟩
    f_need_burst := ⟨fun_mk (st := s_need_burst) l20 c20 k20, PySem.W.mg_of X G a20, fun s us hl => match us, hl with | [_], _ => .of_eq rfl⟩
    f_nearest := ⟨fun_mk (st := s_nearest) l21 c21 k21, PySem.W.mg_of X G a21, fun s us hl => match us, hl with | [_, _], _ => .of_eq rfl⟩
    f_is_burst := ⟨fun_mk (st := s_is_burst) l22 c22 k22, PySem.W.mg_of X G a22, fun s us hl => match us, hl with | [_], _ => .of_eq rfl⟩
    f_is_above_zero := ⟨fun_mk (st := s_is_above_zero) l23 c23 k23, PySem.W.mg_of X G a23, fun s us hl => match us, hl with | [_], _ => .of_eq rfl⟩
    f_need_receiver := ⟨fun_mk (st := s_need_receiver) l24 c24 k24, PySem.W.mg_of X G a24, fun s us hl => match us, hl with | [_], _ => .of_eq rfl⟩
    f_reads := ⟨fun_mk (st := s_reads) l25 c25 k25, PySem.W.mg_of X G a25, fun s us hl => match us, hl with | [_, _], _ => .of_eq rfl⟩
    f_is_sending := ⟨fun_mk (st := s_is_sending) l26 c26 k26, PySem.W.mg_of X G a26, fun s us hl => match us, hl with | [_, _], _ => .of_eq rfl⟩
    f_is_pair := ⟨fun_mk (st := s_is_pair) l27 c27 k27, PySem.W.mg_of X G a27, fun s us hl => match us, hl with | [_], _ => .of_eq rfl⟩
    f_is_table_with_tolerance := ⟨fun_mk (st := s_is_table_with_tolerance) l28 c28 k28, PySem.W.mg_of X G a28, fun s us hl => match us, hl with | [_], _ => .of_eq rfl⟩
    f_is_table := ⟨fun_mk (st := s_is_table) l29 c29 k29, PySem.W.mg_of X G a29, fun s us hl => match us, hl with | [_], _ => .of_eq rfl⟩
    f_start_stands := ⟨fun_mk (st := s_start_stands) l30 c30 k30, PySem.W.mg_of X G a30, fun s us hl => match us, hl with | [_], _ => .of_eq rfl⟩
    f_taken := ⟨fun_mk (st := s_taken) l31 c31 k31, PySem.W.mg_of X G a31, fun s us hl => match us, hl with | [_, _], _ => .of_eq rfl⟩
    f_check_taken := ⟨fun_mk (st := s_check_taken) l32 c32 k32, PySem.W.mg_of X G a32, fun s us hl => match us, hl with | [_, _, _], _ => .of_eq rfl⟩
    f_limit_of := ⟨fun_mk (st := s_limit_of) l33 c33 k33, PySem.W.mg_of X G a33, fun s us hl => match us, hl with | [_], _ => .of_eq rfl⟩
    f_is_safe := ⟨fun_mk (st := s_is_safe) l34 c34 k34, PySem.W.mg_of X G a34, fun s us hl => match us, hl with | [_, _], _ => .of_eq rfl⟩
    f_margin_of := ⟨fun_mk (st := s_margin_of) l35 c35 k35, PySem.W.mg_of X G a35, fun s us hl => match us, hl with | [_], _ => .of_eq rfl⟩
    f_table_text := ⟨fun_mk (st := s_table_text) l36 c36 k36, PySem.W.mg_of X G a36, fun s us hl => match us, hl with | [_], _ => .of_eq rfl⟩
    f_burst_text := ⟨fun_mk (st := s_burst_text) l37 c37 k37, PySem.W.mg_of X G a37, fun s us hl => match us, hl with | [_], _ => .of_eq rfl⟩
    f__law_begin := ⟨fun_mk (st := s__law_begin) l38 c38 k38, PySem.W.mg_of X G a38, fun s us hl => match us, hl with | [_], _ => .of_eq rfl⟩
    f__law_next := ⟨fun_mk (st := s__law_next) l39 c39 k39, PySem.W.mg_of X G a39, fun s us hl => match us, hl with | [_, _], _ => .of_eq rfl⟩
    f__law_pick := ⟨fun_mk (st := s__law_pick) l40 c40 k40, PySem.W.mg_of X G a40, fun s us hl => match us, hl with | [_, _], _ => .of_eq rfl⟩
    f__law_size := ⟨fun_mk (st := s__law_size) l41 c41 k41, PySem.W.mg_of X G a41, fun s us hl => match us, hl with | [_], _ => .of_eq rfl⟩
    f__law_table := ⟨fun_mk (st := s__law_table) l42 c42 k42, PySem.W.mg_of X G a42, fun s us hl => match us, hl with | [_, _], _ => .of_eq rfl⟩
    f__law_like := ⟨fun_mk (st := s__law_like) l43 c43 k43, PySem.W.mg_of X G a43, fun s us hl => match us, hl with | [_, _], _ => .of_eq rfl⟩
    f__law_receiver := ⟨fun_mk (st := s__law_receiver) l44 c44 k44, PySem.W.mg_of X G a44, fun s us hl => match us, hl with | [_, _, _], _ => .of_eq rfl⟩
    f__law_fault := ⟨fun_mk (st := s__law_fault) l45 c45 k45, PySem.W.mg_of X G a45, fun s us hl => match us, hl with | [_], _ => .of_eq rfl⟩
    f__law_said := ⟨fun_mk (st := s__law_said) l46 c46 k46, PySem.W.mg_of X G a46, fun s us hl => match us, hl with | [_], _ => .of_eq rfl⟩
    f__law_bad_table := ⟨fun_mk (st := s__law_bad_table) l47 c47 k47, PySem.W.mg_of X G a47, fun s us hl => match us, hl with | [_, _], _ => .of_eq rfl⟩
    f__law_of_table := ⟨fun_mk (st := s__law_of_table) l48 c48 k48, PySem.W.mg_of X G a48, fun s us hl => match us, hl with | [_, _], _ => .of_eq rfl⟩
    f__law_of_receiver := ⟨fun_mk (st := s__law_of_receiver) l49 c49 k49, PySem.W.mg_of X G a49, fun s us hl => match us, hl with | [_, _], _ => .of_eq rfl⟩
    f__law_further_right := ⟨fun_mk (st := s__law_further_right) l50 c50 k50, PySem.W.mg_of X G a50, fun s us hl => match us, hl with | [_, _], _ => .of_eq rfl⟩
    f_law := ⟨fun_mk (st := s_law) l51 c51 k51, PySem.W.mg_of X G a51, fun s us hl => match us, hl with | [_], _ => .of_eq rfl⟩
    l__law_of_table := ⟨_, _, _, _, _, _, _, _, rfl, l48, c48⟩
    l__law_of_receiver := ⟨_, _, _, _, _, _, _, _, rfl, l49, c49⟩
    l__law_further_right := ⟨_, _, _, _, _, _, _, _, rfl, l50, c50⟩
    d__law_of_table__law_of_receiver := tbd_48_49
    d__law_of_table__law_further_right := tbd_48_50
    d__law_of_receiver__law_further_right := tbd_49_50
    i_BadRatio := ⟨xs1, xd1, xe1, xp1, xca_1, xisg1, xisg2, xob_1⟩
    q_BadRatio_BadBurst := xq_1_4
    q_BadRatio_BadNumber := xq_1_6
    q_BadRatio_BadPaper := xq_1_7
    q_BadRatio_BadRatio := xq_1_1
    q_BadRatio_BadReceiver := xq_1_5
    q_BadRatio_BadRow := xq_1_9
    q_BadRatio_BadStyle := xq_1_8
    q_BadRatio_BadTable := xq_1_2
    q_BadRatio_BadText := xq_1_10
    q_BadRatio_BadWord := xq_1_3
    y_BadRatio_BadBurst := xy_1_4
    y_BadRatio_BadNumber := xy_1_6
    y_BadRatio_BadPaper := xy_1_7
    y_BadRatio_BadRatio := xy_1_1
    y_BadRatio_BadReceiver := xy_1_5
    y_BadRatio_BadRow := xy_1_9
    y_BadRatio_BadStyle := xy_1_8
    y_BadRatio_BadTable := xy_1_2
    y_BadRatio_BadWord := xy_1_3
    i_BadTable := ⟨xs2, xd2, xe2, xp2, xca_2, xisg1, xisg2, xob_2⟩
    q_BadTable_BadBurst := xq_2_4
    q_BadTable_BadNumber := xq_2_6
    q_BadTable_BadPaper := xq_2_7
    q_BadTable_BadRatio := xq_2_1
    q_BadTable_BadReceiver := xq_2_5
    q_BadTable_BadRow := xq_2_9
    q_BadTable_BadStyle := xq_2_8
    q_BadTable_BadTable := xq_2_2
    q_BadTable_BadText := xq_2_10
    q_BadTable_BadWord := xq_2_3
    y_BadTable_BadBurst := xy_2_4
    y_BadTable_BadNumber := xy_2_6
    y_BadTable_BadPaper := xy_2_7
    y_BadTable_BadRatio := xy_2_1
    y_BadTable_BadReceiver := xy_2_5
    y_BadTable_BadRow := xy_2_9
    y_BadTable_BadStyle := xy_2_8
    y_BadTable_BadTable := xy_2_2
    y_BadTable_BadWord := xy_2_3
    i_BadBurst := ⟨xs4, xd4, xe4, xp4, xca_4, xisg1, xisg2, xob_4⟩
    q_BadBurst_BadBurst := xq_4_4
    q_BadBurst_BadNumber := xq_4_6
    q_BadBurst_BadPaper := xq_4_7
    q_BadBurst_BadRatio := xq_4_1
    q_BadBurst_BadReceiver := xq_4_5
    q_BadBurst_BadRow := xq_4_9
    q_BadBurst_BadStyle := xq_4_8
    q_BadBurst_BadTable := xq_4_2
    q_BadBurst_BadText := xq_4_10
    q_BadBurst_BadWord := xq_4_3
    y_BadBurst_BadBurst := xy_4_4
    y_BadBurst_BadNumber := xy_4_6
    y_BadBurst_BadPaper := xy_4_7
    y_BadBurst_BadRatio := xy_4_1
    y_BadBurst_BadReceiver := xy_4_5
    y_BadBurst_BadRow := xy_4_9
    y_BadBurst_BadStyle := xy_4_8
    y_BadBurst_BadTable := xy_4_2
    y_BadBurst_BadWord := xy_4_3
    i_BadReceiver := ⟨xs5, xd5, xe5, xp5, xca_5, xisg1, xisg2, xob_5⟩
    q_BadReceiver_BadBurst := xq_5_4
    q_BadReceiver_BadNumber := xq_5_6
    q_BadReceiver_BadPaper := xq_5_7
    q_BadReceiver_BadRatio := xq_5_1
    q_BadReceiver_BadReceiver := xq_5_5
    q_BadReceiver_BadRow := xq_5_9
    q_BadReceiver_BadStyle := xq_5_8
    q_BadReceiver_BadTable := xq_5_2
    q_BadReceiver_BadText := xq_5_10
    q_BadReceiver_BadWord := xq_5_3
    y_BadReceiver_BadBurst := xy_5_4
    y_BadReceiver_BadNumber := xy_5_6
    y_BadReceiver_BadPaper := xy_5_7
    y_BadReceiver_BadRatio := xy_5_1
    y_BadReceiver_BadReceiver := xy_5_5
    y_BadReceiver_BadRow := xy_5_9
    y_BadReceiver_BadStyle := xy_5_8
    y_BadReceiver_BadTable := xy_5_2
    y_BadReceiver_BadWord := xy_5_3
    i_BadPaper := ⟨xs7, xd7, xe7, xp7, xca_7, xisg1, xisg2, xob_7⟩
    q_BadPaper_BadBurst := xq_7_4
    q_BadPaper_BadNumber := xq_7_6
    q_BadPaper_BadPaper := xq_7_7
    q_BadPaper_BadRatio := xq_7_1
    q_BadPaper_BadReceiver := xq_7_5
    q_BadPaper_BadRow := xq_7_9
    q_BadPaper_BadStyle := xq_7_8
    q_BadPaper_BadTable := xq_7_2
    q_BadPaper_BadText := xq_7_10
    q_BadPaper_BadWord := xq_7_3
    y_BadPaper_BadBurst := xy_7_4
    y_BadPaper_BadNumber := xy_7_6
    y_BadPaper_BadPaper := xy_7_7
    y_BadPaper_BadRatio := xy_7_1
    y_BadPaper_BadReceiver := xy_7_5
    y_BadPaper_BadRow := xy_7_9
    y_BadPaper_BadStyle := xy_7_8
    y_BadPaper_BadTable := xy_7_2
    y_BadPaper_BadWord := xy_7_3
    m_all := PySem.W.mg_none_of X G z1
    m_bool := PySem.W.mg_none_of X G z2
    m_enumerate := PySem.W.mg_none_of X G z3
    m_int := PySem.W.mg_none_of X G z4
    m_isinstance := PySem.W.mg_none_of X G z5
    m_len := PySem.W.mg_none_of X G z6
    m_list := PySem.W.mg_none_of X G z7
    m_range := PySem.W.mg_none_of X G z8
    m_str := PySem.W.mg_none_of X G z9
    m_tuple := PySem.W.mg_none_of X G z10
    c_MOST_BITS := ⟨_, PySem.W.mg_of X G v1, ⟨_, rfl⟩⟩
    c_MOST_DURATION := ⟨_, PySem.W.mg_of X G v2, ⟨_, rfl⟩⟩
    c_MOST_ITEMS := ⟨_, PySem.W.mg_of X G v3, ⟨_, rfl⟩⟩
    c_MOST_PAIRS := ⟨_, PySem.W.mg_of X G v4, ⟨_, rfl⟩⟩
  }
  refine ⟨(PySem.W.fnOf "law" "law" (defArgs s_law) (defBody s_law) (defScope s_law) .none kV51 dc51 pm51 an51 cd51 ct51), [(KL48, PL48), (KL49, PL49), (KL50, PL50)], (fun p hp => by simp only [List.mem_cons, List.not_mem_nil, or_false] at hp; rcases hp with rfl | rfl | rfl <;> first | exact tbt48 | exact tbt49 | exact tbt50), (fun p hp => by simp only [List.mem_cons, List.not_mem_nil, or_false] at hp; rcases hp with rfl | rfl | rfl <;> first | exact tbn48 | exact tbn49 | exact tbn50), (fun p hp => by simp only [List.mem_cons, List.not_mem_nil, or_false] at hp; rcases hp with rfl | rfl | rfl <;> first | exact PySem.W.codeHd_of_K X tbc48 | exact PySem.W.codeHd_of_K X tbc49 | exact PySem.W.codeHd_of_K X tbc50), fun s v => .of_eq rfl, fun base _ _ TB => ?_⟩
  rw [hl]
  exact ok_law T (TB (KL48, PL48) (by simp)) (TB (KL49, PL49) (by simp)) (TB (KL50, PL50) (by simp))
end Bf
theorem PySem.W.Fast.tw17644495541936730106 : True := trivial
theorem PySem.W.Fast.tw16889717691897755394 : True := trivial
theorem PySem.W.Fast.tw18270927904560594477 : True := trivial
theorem PySem.W.Fast.tw16353347720990005868 : True := trivial
theorem PySem.W.Fast.tw3901925529617375371 : True := trivial
theorem PySem.W.Fast.tw7083582939021789549 : True := trivial
theorem PySem.W.Fast.tw10261959536079203848 : True := trivial
theorem PySem.W.Fast.tw10146288539408674718 : True := trivial
theorem PySem.W.Fast.tw2890671748815118615 : True := trivial
theorem PySem.W.Fast.tw5190526473412847403 : True := trivial
theorem PySem.W.Fast.tw9795657897336884897 : True := trivial
theorem PySem.W.Fast.tw15041477779615482667 : True := trivial
theorem PySem.W.Fast.tw9293703094319779857 : True := trivial
theorem PySem.W.Fast.tw2848944490392180138 : True := trivial
theorem PySem.W.Fast.tw14968442263519884097 : True := trivial
theorem PySem.W.Fast.tw14964714626648948292 : True := trivial
theorem PySem.W.Fast.tw16216065159025329626 : True := trivial
theorem PySem.W.Fast.tw7983121459316054128 : True := trivial
theorem PySem.W.Fast.tw11599596265054933093 : True := trivial
theorem PySem.W.Fast.tw12458607026449626127 : True := trivial
theorem PySem.W.Fast.tw3544353718663104257 : True := trivial
theorem PySem.W.Fast.tw5055483276115959528 : True := trivial
theorem PySem.W.Fast.tw9256778026242070155 : True := trivial
theorem PySem.W.Fast.tw2618670356046002437 : True := trivial
theorem PySem.W.Fast.tw11860464940887374342 : True := trivial
theorem PySem.W.Fast.tw15350746913650360805 : True := trivial
theorem PySem.W.Fast.tw18367328618710165646 : True := trivial
theorem PySem.W.Fast.tw7765087885394125992 : True := trivial
theorem PySem.W.Fast.tw7796524731525414960 : True := trivial
theorem PySem.W.Fast.tw1798271412455579343 : True := trivial
theorem PySem.W.Fast.tw2032294952552935592 : True := trivial
theorem PySem.W.Fast.tw5289165988349342730 : True := trivial
theorem PySem.W.Fast.tw6478141172573141017 : True := trivial
theorem PySem.W.Fast.tw9774688665173953875 : True := trivial
theorem PySem.W.Fast.tw15684798112448871170 : True := trivial
theorem PySem.W.Fast.tw292270796307839134 : True := trivial
theorem PySem.W.Fast.tw2627194026048609940 : True := trivial
theorem PySem.W.Fast.tw6835615660027802569 : True := trivial
theorem PySem.W.Fast.tw10070678502737005078 : True := trivial
theorem PySem.W.Fast.tw5718260223726522232 : True := trivial
theorem PySem.W.Fast.tw14073626718111485566 : True := trivial
theorem PySem.W.Fast.tw13399605552246354326 : True := trivial
theorem PySem.W.Fast.tw14962074098279512600 : True := trivial
theorem PySem.W.Fast.tw1690345040957916832 : True := trivial
theorem PySem.W.Fast.tw7774787530734133026 : True := trivial
theorem PySem.W.Fast.tw7404766225636655824 : True := trivial
theorem PySem.W.Fast.tw14849993425017442893 : True := trivial
theorem PySem.W.Fast.tw11991534904282795922 : True := trivial
theorem PySem.W.Fast.tw8756898779776492096 : True := trivial
theorem PySem.W.Fast.tw3465700108889540054 : True := trivial
theorem PySem.W.Fast.tw3505385327475587276 : True := trivial
theorem PySem.W.Fast.tw12517612588519752103 : True := trivial
theorem PySem.W.Fast.tw3585456364130575288 : True := trivial
theorem PySem.W.Fast.tw4909531559596818388 : True := trivial
theorem PySem.W.Fast.tw9875646070041004833 : True := trivial
theorem PySem.W.Fast.tw6460597073005315079 : True := trivial
theorem PySem.W.Fast.tw6969340689246745954 : True := trivial
theorem PySem.W.Fast.tw13351965759988955475 : True := trivial
theorem PySem.W.Fast.tw3933117399175619185 : True := trivial
theorem PySem.W.Fast.tw16430332472120255473 : True := trivial
theorem PySem.W.Fast.tw18366345472828536097 : True := trivial
theorem PySem.W.Fast.tw2839036299532420025 : True := trivial
theorem PySem.W.Fast.tw14255139237977120066 : True := trivial
theorem PySem.W.Fast.tw17487589450485288660 : True := trivial
theorem PySem.W.Fast.tw14720177513577982825 : True := trivial
theorem PySem.W.Fast.tw3692251491239543880 : True := trivial
theorem PySem.W.Fast.tw386981812876520815 : True := trivial
theorem PySem.W.Fast.tw5007730267250022580 : True := trivial
theorem PySem.W.Fast.tw5610820751449061623 : True := trivial
theorem PySem.W.Fast.tw9776271126104210677 : True := trivial
theorem PySem.W.Fast.tw15571148783402666290 : True := trivial
theorem PySem.W.Fast.tw4752581473722378230 : True := trivial
theorem PySem.W.Fast.tw1302594189258184150 : True := trivial
theorem PySem.W.Fast.tw16500220115620508035 : True := trivial
theorem PySem.W.Fast.tw5629703709043042515 : True := trivial
theorem PySem.W.Fast.tw12956431297080874336 : True := trivial
theorem PySem.W.Fast.tw10426150074045690212 : True := trivial
theorem PySem.W.Fast.tw7618982271572186896 : True := trivial
theorem PySem.W.Fast.tw10157697785875213894 : True := trivial
theorem PySem.W.Fast.tw13029144005297205500 : True := trivial
theorem PySem.W.Fast.tw3992249744334077018 : True := trivial
theorem PySem.W.Fast.tw12221734368564147518 : True := trivial
theorem PySem.W.Fast.tw4597014457254759349 : True := trivial
theorem PySem.W.Fast.tw18215949682281489460 : True := trivial
theorem PySem.W.Fast.tw4409231935574967971 : True := trivial
theorem PySem.W.Fast.tw18271681986053822841 : True := trivial
theorem PySem.W.Fast.tw918685225769305331 : True := trivial
theorem PySem.W.Fast.tw16846768537862349682 : True := trivial
theorem PySem.W.Fast.tw7790789283134304496 : True := trivial
theorem PySem.W.Fast.tw13276142193149396718 : True := trivial
theorem PySem.W.Fast.tw4680934469391537589 : True := trivial
theorem PySem.W.Fast.tw17357639923390690346 : True := trivial
theorem PySem.W.Fast.tw17122183053093596791 : True := trivial
theorem PySem.W.Fast.tw5081227200725024849 : True := trivial
theorem PySem.W.Fast.tw12961384448224510345 : True := trivial
theorem PySem.W.Fast.tw5073594856241610719 : True := trivial
theorem PySem.W.Fast.tw14558878291663604655 : True := trivial
theorem PySem.W.Fast.tw4477356989326208516 : True := trivial
theorem PySem.W.Fast.tw10413027529930417782 : True := trivial
theorem PySem.W.Fast.tw9901865683195002658 : True := trivial
theorem PySem.W.Fast.tw3296904125442877409 : True := trivial
theorem PySem.W.Fast.tw3009223199680138837 : True := trivial
theorem PySem.W.Fast.tw14231768795305077632 : True := trivial
theorem PySem.W.Fast.tw9273659008909926005 : True := trivial
theorem PySem.W.Fast.tw5160486159373789406 : True := trivial
theorem PySem.W.Fast.tw16425316161695599872 : True := trivial
theorem PySem.W.Fast.tw423342016628289469 : True := trivial
theorem PySem.W.Fast.tw3226217984993381196 : True := trivial
theorem PySem.W.Fast.tw15776219056557133894 : True := trivial
theorem PySem.W.Fast.tw4186864486373701115 : True := trivial
theorem PySem.W.Fast.tw4139001574386711956 : True := trivial
theorem PySem.W.Fast.tw7445303279552649778 : True := trivial
theorem PySem.W.Fast.tw8647334356141776065 : True := trivial
theorem PySem.W.Fast.tw9691081036422129047 : True := trivial
theorem PySem.W.Fast.tw7414037090568395038 : True := trivial
theorem PySem.W.Fast.tw3907399553589209004 : True := trivial
theorem PySem.W.Fast.tw18361691708382238340 : True := trivial
theorem PySem.W.Fast.tw3688368340468209187 : True := trivial
theorem PySem.W.Fast.tw14023159772603838448 : True := trivial
theorem PySem.W.Fast.tw72973775944003301 : True := trivial
theorem PySem.W.Fast.tw4227503250965115596 : True := trivial
theorem PySem.W.Fast.tw5768450327412392540 : True := trivial
theorem PySem.W.Fast.tw8239718650833935427 : True := trivial
theorem PySem.W.Fast.tw1571519379039005886 : True := trivial
theorem PySem.W.Fast.tw13895246045042819452 : True := trivial
theorem PySem.W.Fast.tw10863910121679732748 : True := trivial
theorem PySem.W.Fast.tw535660807263861372 : True := trivial
theorem PySem.W.Fast.tw16463401492234331965 : True := trivial
theorem PySem.W.Fast.tw10056216020043914334 : True := trivial
theorem PySem.W.Fast.tw3698409847754458961 : True := trivial
theorem PySem.W.Fast.tw7872250855530604015 : True := trivial
theorem PySem.W.Fast.tw7945507707835117878 : True := trivial
theorem PySem.W.Fast.tw8472969263960120116 : True := trivial
theorem PySem.W.Fast.tw12624149477909065561 : True := trivial
theorem PySem.W.Fast.tw12220844196743919446 : True := trivial
theorem PySem.W.Fast.tw9754574271342836881 : True := trivial
theorem PySem.W.Fast.tw8139183045043297465 : True := trivial
theorem PySem.W.Fast.tw315717633331510605 : True := trivial
theorem PySem.W.Fast.tw9324952125397442356 : True := trivial
theorem PySem.W.Fast.tw12532050229504197883 : True := trivial
theorem PySem.W.Fast.tw6801815639071470186 : True := trivial
theorem PySem.W.Fast.tw9193377332330691430 : True := trivial
theorem PySem.W.Fast.tw349096424180735178 : True := trivial
theorem PySem.W.Fast.tw9043906929961552282 : True := trivial
theorem PySem.W.Fast.tw13301017952531251353 : True := trivial
theorem PySem.W.Fast.tw15220165878825218016 : True := trivial
theorem PySem.W.Fast.tw17040303308128594518 : True := trivial
theorem PySem.W.Fast.tw308781406374609608 : True := trivial
theorem PySem.W.Fast.tw10292232397085514391 : True := trivial
theorem PySem.W.Fast.tw16248885431850348487 : True := trivial
theorem PySem.W.Fast.tw15442684531585002215 : True := trivial
theorem PySem.W.Fast.tw874484199328760210 : True := trivial
theorem PySem.W.Fast.tw11163026049377760388 : True := trivial
theorem PySem.W.Fast.tw6221944639721788136 : True := trivial
theorem PySem.W.Fast.tw12247787119324233217 : True := trivial
theorem PySem.W.Fast.tw9234946699386115626 : True := trivial
theorem PySem.W.Fast.tw10170264366874091171 : True := trivial
theorem PySem.W.Fast.tw18108225646599117742 : True := trivial
theorem PySem.W.Fast.tw8202536179856737426 : True := trivial
theorem PySem.W.Fast.tw2518362176296308531 : True := trivial
theorem PySem.W.Fast.tw10432728763243609326 : True := trivial
theorem PySem.W.Fast.tw13878805004215363714 : True := trivial
theorem PySem.W.Fast.tw4463155274162579733 : True := trivial
theorem PySem.W.Fast.tw14066448995244236947 : True := trivial
theorem PySem.W.Fast.tw10904794574694940059 : True := trivial
theorem PySem.W.Fast.tw8774240326980464784 : True := trivial
theorem PySem.W.Fast.tw6860473004828005643 : True := trivial
theorem PySem.W.Fast.tw17164852713786170479 : True := trivial
theorem PySem.W.Fast.tw1603519186207111460 : True := trivial
theorem PySem.W.Fast.tw12197346126051443335 : True := trivial
theorem PySem.W.Fast.tw3031192352822059518 : True := trivial
theorem PySem.W.Fast.tw1348999166665415226 : True := trivial
theorem PySem.W.Fast.tw6033935778625138205 : True := trivial
theorem PySem.W.Fast.tw7311361994463747364 : True := trivial
theorem PySem.W.Fast.tw3691414607042701160 : True := trivial
theorem PySem.W.Fast.tw14911107254660307662 : True := trivial
theorem PySem.W.Fast.tw13103760569520815242 : True := trivial
theorem PySem.W.Fast.tw9049896917881467559 : True := trivial
theorem PySem.W.Fast.tw9096489712056346761 : True := trivial
theorem PySem.W.Fast.tw8904390010833062622 : True := trivial
theorem PySem.W.Fast.tw15820109423703282406 : True := trivial
theorem PySem.W.Fast.tw18257027692596513199 : True := trivial
theorem PySem.W.Fast.tw17282916474370155346 : True := trivial
theorem PySem.W.Fast.tw1514762309553734059 : True := trivial
theorem PySem.W.Fast.tw16115653243914608666 : True := trivial
theorem PySem.W.Fast.tw1142405829491294679 : True := trivial
theorem PySem.W.Fast.tw18053473010806687338 : True := trivial
theorem PySem.W.Fast.tw14249018185961439872 : True := trivial
theorem PySem.W.Fast.tw15010910986279213876 : True := trivial
theorem PySem.W.Fast.tw15961422498693918562 : True := trivial
theorem PySem.W.Fast.tw2307849254782752606 : True := trivial
theorem PySem.W.Fast.tw12769262270585325230 : True := trivial
theorem PySem.W.Fast.tw1392736256289591746 : True := trivial
theorem PySem.W.Fast.tw13248332189312527813 : True := trivial
theorem PySem.W.Fast.tw6339378992036809414 : True := trivial
theorem PySem.W.Fast.tw13739972419588184655 : True := trivial
theorem PySem.W.Fast.tw17236385607181535722 : True := trivial
theorem PySem.W.Fast.tw10996695342151360821 : True := trivial
theorem PySem.W.Fast.tw7671339948512028791 : True := trivial
theorem PySem.W.Fast.tw11634614469475504584 : True := trivial
theorem PySem.W.Fast.tw609091512848728558 : True := trivial
theorem PySem.W.Fast.tw4471608539880760893 : True := trivial
theorem PySem.W.Fast.tw7733432092523233052 : True := trivial
theorem PySem.W.Fast.tw14462919557433279879 : True := trivial
theorem PySem.W.Fast.tw14595428357693392308 : True := trivial
theorem PySem.W.Fast.tw9598619628968739831 : True := trivial
theorem PySem.W.Fast.tw11036095803659875903 : True := trivial
theorem PySem.W.Fast.tw3261693937226816225 : True := trivial
theorem PySem.W.Fast.tw13736722395520629151 : True := trivial
theorem PySem.W.Fast.tw8499510331927821802 : True := trivial
theorem PySem.W.Fast.tw9552468985751111985 : True := trivial
theorem PySem.W.Fast.tw16338381798285539247 : True := trivial
theorem PySem.W.Fast.tw10162157076264427600 : True := trivial
theorem PySem.W.Fast.tw6184827279009109868 : True := trivial
theorem PySem.W.Fast.tw13818517915306047287 : True := trivial
theorem PySem.W.Fast.tw5177844610381913061 : True := trivial
theorem PySem.W.Fast.tw7679876037201801394 : True := trivial
theorem PySem.W.Fast.tw402102332677766276 : True := trivial
theorem PySem.W.Fast.tw15846757596982723439 : True := trivial
theorem PySem.W.Fast.tw15097117694905217042 : True := trivial
theorem PySem.W.Fast.tw3332192274596273079 : True := trivial
theorem PySem.W.Fast.tw10230297858679625964 : True := trivial
theorem PySem.W.Fast.tw17873817189040736448 : True := trivial
theorem PySem.W.Fast.tw9693611215678701392 : True := trivial
theorem PySem.W.Fast.tw6540262623800145039 : True := trivial
theorem PySem.W.Fast.tw4972288896974215965 : True := trivial
theorem PySem.W.Fast.tw13776721978921145690 : True := trivial
theorem PySem.W.Fast.tw4903204698875715261 : True := trivial
theorem PySem.W.Fast.tw8387318711166913941 : True := trivial
theorem PySem.W.Fast.tw3239613649775825298 : True := trivial
theorem PySem.W.Fast.tw8152594573686037434 : True := trivial
theorem PySem.W.Fast.tw14397111527640690410 : True := trivial
theorem PySem.W.Fast.tw3888317255635348830 : True := trivial
theorem PySem.W.Fast.tw12391964260768406346 : True := trivial
theorem PySem.W.Fast.tw6998767468596624055 : True := trivial
theorem PySem.W.Fast.tw8779187731071905703 : True := trivial
theorem PySem.W.Fast.tw14813875209349074250 : True := trivial
theorem PySem.W.Fast.tw1856389268738521135 : True := trivial
theorem PySem.W.Fast.tw6214451552750729456 : True := trivial
theorem PySem.W.Fast.tw10410359658787680684 : True := trivial
theorem PySem.W.Fast.tw12543486596427333631 : True := trivial
theorem PySem.W.Fast.tw7849470497660335939 : True := trivial
theorem PySem.W.Fast.tw4433336443210393180 : True := trivial
theorem PySem.W.Fast.tw7854115906256254527 : True := trivial
theorem PySem.W.Fast.tw4639709273672094778 : True := trivial
theorem PySem.W.Fast.tw10248918898796621550 : True := trivial
theorem PySem.W.Fast.tw22286634556567585 : True := trivial
theorem PySem.W.Fast.tw9645474248261638428 : True := trivial
theorem PySem.W.Fast.tw16768211029158156675 : True := trivial
theorem PySem.W.Fast.tw8143869233887543784 : True := trivial
theorem PySem.W.Fast.tw7231045908694696423 : True := trivial
theorem PySem.W.Fast.tw2794152077438348505 : True := trivial
theorem PySem.W.Fast.tw523544384887461107 : True := trivial
theorem PySem.W.Fast.tw3772151403274146805 : True := trivial
theorem PySem.W.Fast.tw7422713007135868224 : True := trivial
theorem PySem.W.Fast.tw3779901051388592705 : True := trivial
theorem PySem.W.Fast.tw12499320382210586244 : True := trivial
theorem PySem.W.Fast.tw18315879660362797513 : True := trivial
theorem PySem.W.Fast.tw5537107078603289181 : True := trivial
theorem PySem.W.Fast.tw15486679844418990097 : True := trivial
theorem PySem.W.Fast.tw10506120005933427547 : True := trivial
theorem PySem.W.Fast.tw9833648841374360466 : True := trivial
theorem PySem.W.Fast.tw4525633945367044009 : True := trivial
theorem PySem.W.Fast.tw13726911584659234123 : True := trivial
theorem PySem.W.Fast.tw2983634931136764544 : True := trivial
theorem PySem.W.Fast.tw9113672391055971652 : True := trivial
theorem PySem.W.Fast.tw11966318779234769568 : True := trivial
theorem PySem.W.Fast.tw5147476561424102651 : True := trivial
theorem PySem.W.Fast.tw17397347619615821675 : True := trivial
theorem PySem.W.Fast.tw5420315256362619582 : True := trivial
theorem PySem.W.Fast.tw13163916418645687832 : True := trivial
theorem PySem.W.Fast.tw9627469328158713003 : True := trivial
theorem PySem.W.Fast.tw8029697020771178510 : True := trivial
theorem PySem.W.Fast.tw808402456737660833 : True := trivial
theorem PySem.W.Fast.tw9537396090893505901 : True := trivial
theorem PySem.W.Fast.tw9104169336440974828 : True := trivial
theorem PySem.W.Fast.tw16186378680984525164 : True := trivial
theorem PySem.W.Fast.tw12612718268900959193 : True := trivial
theorem PySem.W.Fast.tw2594838355045861218 : True := trivial
theorem PySem.W.Fast.tw15939108837892129021 : True := trivial
theorem PySem.W.Fast.tw12349814424203184929 : True := trivial
theorem PySem.W.Fast.tw12354932165274804362 : True := trivial
theorem PySem.W.Fast.tw1476374895139258825 : True := trivial
theorem PySem.W.Fast.tw12531478382638113146 : True := trivial
theorem PySem.W.Fast.tw16938147356176537227 : True := trivial
theorem PySem.W.Fast.tw13640986738232659615 : True := trivial
theorem PySem.W.Fast.tw16891871742006487947 : True := trivial
theorem PySem.W.Fast.tw13211737649556348557 : True := trivial
theorem PySem.W.Fast.tw15636910473474541765 : True := trivial
theorem PySem.W.Fast.tw11148141302016440652 : True := trivial
theorem PySem.W.Fast.tw5253183985703770564 : True := trivial
theorem PySem.W.Fast.tw5262631688494413580 : True := trivial
theorem PySem.W.Fast.tw11777144925423994041 : True := trivial
theorem PySem.W.Fast.tw11262409644412056710 : True := trivial
theorem PySem.W.Fast.tw3637266982119579663 : True := trivial
theorem PySem.W.Fast.tw9327541105907187810 : True := trivial
theorem PySem.W.Fast.tw3190198849993977715 : True := trivial
theorem PySem.W.Fast.tw5504493928993361189 : True := trivial
theorem PySem.W.Fast.tw11192679783665085921 : True := trivial
theorem PySem.W.Fast.tw831354230564997984 : True := trivial
theorem PySem.W.Fast.tw8284677358848795416 : True := trivial
theorem PySem.W.Fast.tw10766074021288428825 : True := trivial
theorem PySem.W.Fast.tw11977153544260240103 : True := trivial
theorem PySem.W.Fast.tw12120519618372624705 : True := trivial
theorem PySem.W.Fast.tw17418810380353061685 : True := trivial
theorem PySem.W.Fast.tw5664245584384719208 : True := trivial
theorem PySem.W.Fast.tw4183294673388695951 : True := trivial
theorem PySem.W.Fast.tw11654567568926473352 : True := trivial
theorem PySem.W.Fast.tw2319324320492965366 : True := trivial
theorem PySem.W.Fast.tw5544778163000246200 : True := trivial
theorem PySem.W.Fast.tw18240951924831842475 : True := trivial
theorem PySem.W.Fast.tw10056341722867698781 : True := trivial
theorem PySem.W.Fast.tw18222023513994703669 : True := trivial
theorem PySem.W.Fast.tw17764326157909422706 : True := trivial
theorem PySem.W.Fast.tw15855053729933114770 : True := trivial
theorem PySem.W.Fast.tw7298598768000804684 : True := trivial
theorem PySem.W.Fast.tw9181734310587396486 : True := trivial
theorem PySem.W.Fast.tw3946925036385616477 : True := trivial
theorem PySem.W.Fast.tw17533152263000415396 : True := trivial
theorem PySem.W.Fast.tw6677069366460199357 : True := trivial
theorem PySem.W.Fast.tw4822344445185497132 : True := trivial
theorem PySem.W.Fast.tw5247029908699291547 : True := trivial
theorem PySem.W.Fast.tw12500184673498291991 : True := trivial
theorem PySem.W.Fast.tw10503545473755091127 : True := trivial
theorem PySem.W.Fast.tw5669177960905279552 : True := trivial
theorem PySem.W.Fast.tw15882872307462047550 : True := trivial
theorem PySem.W.Fast.tw17317581860015458485 : True := trivial
theorem PySem.W.Fast.tw11024078984234467397 : True := trivial
theorem PySem.W.Fast.tw1610770758168964406 : True := trivial
theorem PySem.W.Fast.tw6759019246290363678 : True := trivial
theorem PySem.W.Fast.tw1058792498534362190 : True := trivial
theorem PySem.W.Fast.tw2376006513129511040 : True := trivial
theorem PySem.W.Fast.tw15576790975872412055 : True := trivial
theorem PySem.W.Fast.tw7272890165952843048 : True := trivial
theorem PySem.W.Fast.tw4382352351241928340 : True := trivial
theorem PySem.W.Fast.tw8945047435427341118 : True := trivial
theorem PySem.W.Fast.tw14871701915994811444 : True := trivial
theorem PySem.W.Fast.tw17711833262926373228 : True := trivial
theorem PySem.W.Fast.tw15252386625392426426 : True := trivial
theorem PySem.W.Fast.tw7254726353063863287 : True := trivial
theorem PySem.W.Fast.tw13373317608722818833 : True := trivial
theorem PySem.W.Fast.tw5623138402310123339 : True := trivial
theorem PySem.W.Fast.tw15688048499910741655 : True := trivial
theorem PySem.W.Fast.tw872808956758293200 : True := trivial
theorem PySem.W.Fast.tw17523445779064679148 : True := trivial
theorem PySem.W.Fast.tw18140883374801809527 : True := trivial
theorem PySem.W.Fast.tw6671442794125134676 : True := trivial
theorem PySem.W.Fast.tw13510041903199021240 : True := trivial
theorem PySem.W.Fast.tw1708895120050358088 : True := trivial
theorem PySem.W.Fast.tw15747083763308032791 : True := trivial
theorem PySem.W.Fast.tw15157872485477893444 : True := trivial
theorem PySem.W.Fast.tw162073722379972501 : True := trivial
theorem PySem.W.Fast.tw13148613166272178952 : True := trivial
theorem PySem.W.Fast.tw12616653559379423646 : True := trivial
theorem PySem.W.Fast.tw4003730225799906102 : True := trivial
theorem PySem.W.Fast.tw6483959421904471778 : True := trivial
theorem PySem.W.Fast.tw17719780673641368 : True := trivial
theorem PySem.W.Fast.tw11715966646501647182 : True := trivial
theorem PySem.W.Fast.tw8738153089565584309 : True := trivial
theorem PySem.W.Fast.tw17897299565414795662 : True := trivial
theorem PySem.W.Fast.tw16535480204441774565 : True := trivial
theorem PySem.W.Fast.tw16299303885650407671 : True := trivial
theorem PySem.W.Fast.tw4111367244902492813 : True := trivial
theorem PySem.W.Fast.tw13839898573898854801 : True := trivial
theorem PySem.W.Fast.tw15782830337572598318 : True := trivial
theorem PySem.W.Fast.tw17983764711016444978 : True := trivial
theorem PySem.W.Fast.tw5736376925406485291 : True := trivial
theorem PySem.W.Fast.tw9150220487544534385 : True := trivial
theorem PySem.W.Fast.tw5332897518377076678 : True := trivial
theorem PySem.W.Fast.tw3039259263157168273 : True := trivial
theorem PySem.W.Fast.tw4134772554801580485 : True := trivial
theorem PySem.W.Fast.tw13140018601742395371 : True := trivial
theorem PySem.W.Fast.tw11525311036101925206 : True := trivial
theorem PySem.W.Fast.tw5525085615823994274 : True := trivial
theorem PySem.W.Fast.tw16818387603088529340 : True := trivial
theorem PySem.W.Fast.tw2002512811116872243 : True := trivial
theorem PySem.W.Fast.tw7148972726764619849 : True := trivial
theorem PySem.W.Fast.tw1787925432328882862 : True := trivial
theorem PySem.W.Fast.tw9567853477996274359 : True := trivial
theorem PySem.W.Fast.tw7184155934976455917 : True := trivial
theorem PySem.W.Fast.tw11442167549773339305 : True := trivial
theorem PySem.W.Fast.tw10781481720912100992 : True := trivial
theorem PySem.W.Fast.tw5392213909383153816 : True := trivial
theorem PySem.W.Fast.tw10551520522850898406 : True := trivial
theorem PySem.W.Fast.tw12756916795012234792 : True := trivial
theorem PySem.W.Fast.tw1907518988032639037 : True := trivial
theorem PySem.W.Fast.tw11090215334909321554 : True := trivial
theorem PySem.W.Fast.tw12409081113719603627 : True := trivial
theorem PySem.W.Fast.tw18289789025279981924 : True := trivial
theorem PySem.W.Fast.tw8105284044532155164 : True := trivial
theorem PySem.W.Fast.tw9847267044470246282 : True := trivial
theorem PySem.W.Fast.tw17107211353250311486 : True := trivial
theorem PySem.W.Fast.tw13943265373707755951 : True := trivial
theorem PySem.W.Fast.tw1921554979163895703 : True := trivial
theorem PySem.W.Fast.tw18200543052723231383 : True := trivial
theorem PySem.W.Fast.tw12494195907810758109 : True := trivial
theorem PySem.W.Fast.tw7768703436905860745 : True := trivial
theorem PySem.W.Fast.tw5954570994977007177 : True := trivial
theorem PySem.W.Fast.tw9276774178400351927 : True := trivial
theorem PySem.W.Fast.tw7551101256687666419 : True := trivial
theorem PySem.W.Fast.tw1720706719513266233 : True := trivial
theorem PySem.W.Fast.tw3209558456120777794 : True := trivial
theorem PySem.W.Fast.tw2557026075653026444 : True := trivial
theorem PySem.W.Fast.tw1116917048551468478 : True := trivial
theorem PySem.W.Fast.tw5936311671026723894 : True := trivial
theorem PySem.W.Fast.tw9833394665088978902 : True := trivial
theorem PySem.W.Fast.tw12185117571359281969 : True := trivial
theorem PySem.W.Fast.tw6048565293026282470 : True := trivial
theorem PySem.W.Fast.tw17310214875756518129 : True := trivial
theorem PySem.W.Fast.tw762486487385732173 : True := trivial
theorem PySem.W.Fast.tw5520160861263407910 : True := trivial
theorem PySem.W.Fast.tw1072990891828649536 : True := trivial
theorem PySem.W.Fast.tw7218897644841015807 : True := trivial
theorem PySem.W.Fast.tw8145249448850062260 : True := trivial
theorem PySem.W.Fast.tw17919885256418438514 : True := trivial
theorem PySem.W.Fast.tw2663188971841276075 : True := trivial
theorem PySem.W.Fast.tw2761192664505724357 : True := trivial
theorem PySem.W.Fast.tw18266105620280911606 : True := trivial
theorem PySem.W.Fast.tw6594272605771691564 : True := trivial
theorem PySem.W.Fast.tw4428477297730856619 : True := trivial
theorem PySem.W.Fast.tw9264475006882926949 : True := trivial
theorem PySem.W.Fast.tw9242995801952949075 : True := trivial
theorem PySem.W.Fast.tw16218725004871095490 : True := trivial
theorem PySem.W.Fast.tw18393347245555445122 : True := trivial
theorem PySem.W.Fast.tw16566490476588615 : True := trivial
theorem PySem.W.Fast.tw1415949142048021438 : True := trivial
theorem PySem.W.Fast.tw2031436610901646101 : True := trivial
theorem PySem.W.Fast.tw8930431932946992796 : True := trivial
theorem PySem.W.Fast.tw5023850048178259825 : True := trivial
theorem PySem.W.Fast.tw16622728528880130990 : True := trivial
theorem PySem.W.Fast.tw10574943753798697670 : True := trivial
theorem PySem.W.Fast.tw16557639651978725163 : True := trivial
theorem PySem.W.Fast.tw9300452759909994549 : True := trivial
theorem PySem.W.Fast.tw7772132510852968774 : True := trivial
theorem PySem.W.Fast.tw18101046629761974406 : True := trivial
theorem PySem.W.Fast.tw7387222228826464689 : True := trivial
theorem PySem.W.Fast.tw14930169356056175972 : True := trivial
theorem PySem.W.Fast.tw5791583789882115069 : True := trivial
theorem PySem.W.Fast.tw1533876638609603013 : True := trivial
theorem PySem.W.Fast.tw17148650680932245743 : True := trivial
theorem PySem.W.Fast.tw5561698428368584103 : True := trivial
theorem PySem.W.Fast.tw496697387124864110 : True := trivial
theorem PySem.W.Fast.tw6991850965484954231 : True := trivial
theorem PySem.W.Fast.tw17720823496689433076 : True := trivial
theorem PySem.W.Fast.tw12506737056358034182 : True := trivial
theorem PySem.W.Fast.tw14671819013361609755 : True := trivial
theorem PySem.W.Fast.tw5447697198066151561 : True := trivial
theorem PySem.W.Fast.tw6987529085806355702 : True := trivial
theorem PySem.W.Fast.tw11388546654808394234 : True := trivial
theorem PySem.W.Fast.tw8510805735358983636 : True := trivial
theorem PySem.W.Fast.tw10059167761978355649 : True := trivial
theorem PySem.W.Fast.tw7294846070871102087 : True := trivial
theorem PySem.W.Fast.tw17473230783291378124 : True := trivial
theorem PySem.W.Fast.tw8159921518434266175 : True := trivial
theorem PySem.W.Fast.tw6112517416867451305 : True := trivial
theorem PySem.W.Fast.tw12025910044089621758 : True := trivial
theorem PySem.W.Fast.tw16847845980011269694 : True := trivial
theorem PySem.W.Fast.tw2040651369757267215 : True := trivial
theorem PySem.W.Fast.tw4876715729910301654 : True := trivial
theorem PySem.W.Fast.tw2554263000021638792 : True := trivial
theorem PySem.W.Fast.tw7014003501045732171 : True := trivial
theorem PySem.W.Fast.tw6374906668941727509 : True := trivial
theorem PySem.W.Fast.tw4094137435497081192 : True := trivial
theorem PySem.W.Fast.tw14786853286114755550 : True := trivial
theorem PySem.W.Fast.tw11100421448284491219 : True := trivial
theorem PySem.W.Fast.tw12264011724016954413 : True := trivial
theorem PySem.W.Fast.tw4458540360315196553 : True := trivial
theorem PySem.W.Fast.tw13542105863661416602 : True := trivial
theorem PySem.W.Fast.tw11654546098059029802 : True := trivial
theorem PySem.W.Fast.tw1386553630036893351 : True := trivial
theorem PySem.W.Fast.tw4804368082326232123 : True := trivial
theorem PySem.W.Fast.tw13320662605008819155 : True := trivial
theorem PySem.W.Fast.tw8943750530967777473 : True := trivial
theorem PySem.W.Fast.tw4262153205108559276 : True := trivial
theorem PySem.W.Fast.tw5462937019956743089 : True := trivial
theorem PySem.W.Fast.tw5946349772186777066 : True := trivial
theorem PySem.W.Fast.tw5718386228031261731 : True := trivial
theorem PySem.W.Fast.tw15514538931988096296 : True := trivial
theorem PySem.W.Fast.tw185660358407999478 : True := trivial
theorem PySem.W.Fast.tw13128255098655168299 : True := trivial
theorem PySem.W.Fast.tw9808160219912411641 : True := trivial
theorem PySem.W.Fast.tw15554778262204519281 : True := trivial
theorem PySem.W.Fast.tw17066134709277928771 : True := trivial
theorem PySem.W.Fast.tw14267972175797888166 : True := trivial
theorem PySem.W.Fast.tw17174367016561047490 : True := trivial
theorem PySem.W.Fast.tw11676642282941732896 : True := trivial
theorem PySem.W.Fast.tw15177520080673317136 : True := trivial
theorem PySem.W.Fast.tw10035783570075658453 : True := trivial
theorem PySem.W.Fast.tw17757348652664616223 : True := trivial
theorem PySem.W.Fast.tw12512266229578717057 : True := trivial
theorem PySem.W.Fast.tw589474205009267467 : True := trivial
theorem PySem.W.Fast.tw12354937292695100194 : True := trivial
theorem PySem.W.Fast.tw4531990258174735199 : True := trivial
theorem PySem.W.Fast.tw12147762653510137559 : True := trivial
theorem PySem.W.Fast.tw6773940088345952079 : True := trivial
theorem PySem.W.Fast.tw8295116781571857928 : True := trivial
theorem PySem.W.Fast.tw12104573316788910252 : True := trivial
theorem PySem.W.Fast.tw16564518997023301501 : True := trivial
theorem PySem.W.Fast.tw9764129339405218128 : True := trivial
theorem PySem.W.Fast.tw15673594104367989151 : True := trivial
theorem PySem.W.Fast.tw9700129414317219817 : True := trivial
theorem PySem.W.Fast.tw16801748166223784663 : True := trivial
theorem PySem.W.Fast.tw17907770616173762591 : True := trivial
theorem PySem.W.Fast.tw16250739092371961634 : True := trivial
theorem PySem.W.Fast.tw14100332762946845582 : True := trivial
theorem PySem.W.Fast.tw7337371274974270566 : True := trivial
theorem PySem.W.Fast.tw17529255617745618330 : True := trivial
theorem PySem.W.Fast.tw17040170745400092951 : True := trivial
theorem PySem.W.Fast.tw3114709962092464287 : True := trivial
theorem PySem.W.Fast.tw709935339068454223 : True := trivial
theorem PySem.W.Fast.tw14697349219542730887 : True := trivial
theorem PySem.W.Fast.tw15061264394606440128 : True := trivial
theorem PySem.W.Fast.tw6634435831577593044 : True := trivial
theorem PySem.W.Fast.tw12743969602729478871 : True := trivial
theorem PySem.W.Fast.tw16508277147251691834 : True := trivial
theorem PySem.W.Fast.tw4615838970796763525 : True := trivial
theorem PySem.W.Fast.tw1368520836418007081 : True := trivial
theorem PySem.W.Fast.tw2985196292579712130 : True := trivial
theorem PySem.W.Fast.tw8813692116092068426 : True := trivial
theorem PySem.W.Fast.tw9161978457565884112 : True := trivial
theorem PySem.W.Fast.tw3854843989845476080 : True := trivial
theorem PySem.W.Fast.tw12644028790830671856 : True := trivial
theorem PySem.W.Fast.tw1737843398554035825 : True := trivial
theorem PySem.W.Fast.tw17383982602556859031 : True := trivial
theorem PySem.W.Fast.tw286280559382330779 : True := trivial
theorem PySem.W.Fast.tw7537059329381040131 : True := trivial
theorem PySem.W.Fast.tw12833328023683756823 : True := trivial
theorem PySem.W.Fast.tw16328263992313222830 : True := trivial
theorem PySem.W.Fast.tw1595680009325635939 : True := trivial
theorem PySem.W.Fast.tw9866005036829289429 : True := trivial
theorem PySem.W.Fast.tw11584309693180797090 : True := trivial
theorem PySem.W.Fast.tw17860893221259340692 : True := trivial
theorem PySem.W.Fast.tw14010246277964180756 : True := trivial
theorem PySem.W.Fast.tw14612298807067151776 : True := trivial
theorem PySem.W.Fast.tw17824321514835045542 : True := trivial
theorem PySem.W.Fast.tw4336507416749109766 : True := trivial
theorem PySem.W.Fast.tw14938384610991293520 : True := trivial
theorem PySem.W.Fast.tw2499706615982744321 : True := trivial
theorem PySem.W.Fast.tw7729796041570009941 : True := trivial
theorem PySem.W.Fast.tw191391227990243207 : True := trivial
theorem PySem.W.Fast.tw8625269596115653456 : True := trivial
theorem PySem.W.Fast.tw10289923765762691708 : True := trivial
theorem PySem.W.Fast.tw634978359431569512 : True := trivial
theorem PySem.W.Fast.tw12363552987100424396 : True := trivial
theorem PySem.W.Fast.tw13960138519017195179 : True := trivial
theorem PySem.W.Fast.tw12929871457878069858 : True := trivial
theorem PySem.W.Fast.tw990897182110678224 : True := trivial
theorem PySem.W.Fast.tw3887646772975819143 : True := trivial
theorem PySem.W.Fast.tw11230691901991398670 : True := trivial
theorem PySem.W.Fast.tw2895483280028807426 : True := trivial
theorem PySem.W.Fast.tw14452625737922568739 : True := trivial
theorem PySem.W.Fast.tw4601653271430366729 : True := trivial
theorem PySem.W.Fast.tw15408636734774250890 : True := trivial
theorem PySem.W.Fast.tw15953832896992401543 : True := trivial
theorem PySem.W.Fast.tw9292536385456267468 : True := trivial
theorem PySem.W.Fast.tw14447666177309961825 : True := trivial
theorem PySem.W.Fast.tw662035717429103076 : True := trivial
theorem PySem.W.Fast.tw9124120958282910969 : True := trivial
theorem PySem.W.Fast.tw10979693858325991597 : True := trivial
theorem PySem.W.Fast.tw11789967465038302514 : True := trivial
theorem PySem.W.Fast.tw9349935878138405739 : True := trivial
theorem PySem.W.Fast.tw8256377692245858226 : True := trivial
theorem PySem.W.Fast.tw3671734087230866066 : True := trivial
theorem PySem.W.Fast.tw16880764739163481162 : True := trivial
theorem PySem.W.Fast.tw3038947846371410474 : True := trivial
theorem PySem.W.Fast.tw787828661919919783 : True := trivial
theorem PySem.W.Fast.tw14287825422005654462 : True := trivial
theorem PySem.W.Fast.tw989270205714884205 : True := trivial
theorem PySem.W.Fast.tw8869205578439282199 : True := trivial
theorem PySem.W.Fast.tw11334554119759848143 : True := trivial
theorem PySem.W.Fast.tw3732177504521517500 : True := trivial
theorem PySem.W.Fast.tw7039976118668868896 : True := trivial
theorem PySem.W.Fast.tw5949723953859227619 : True := trivial
theorem PySem.W.Fast.tw16482020631306650617 : True := trivial
theorem PySem.W.Fast.tw15404072720796709000 : True := trivial
theorem PySem.W.Fast.tw14768394163391883538 : True := trivial
theorem PySem.W.Fast.tw15320974378328376744 : True := trivial
theorem PySem.W.Fast.tw15725759227613382903 : True := trivial
theorem PySem.W.Fast.tw2457729964416641977 : True := trivial
theorem PySem.W.Fast.tw8376900826256520604 : True := trivial
theorem PySem.W.Fast.tw12477553390044110494 : True := trivial
theorem PySem.W.Fast.tw1842706577521747567 : True := trivial
theorem PySem.W.Fast.tw11118183507336028038 : True := trivial
theorem PySem.W.Fast.tw13824817543339434821 : True := trivial
theorem PySem.W.Fast.tw12993348118180170402 : True := trivial
theorem PySem.W.Fast.tw2294781407624314534 : True := trivial
theorem PySem.W.Fast.tw14120073304628994338 : True := trivial
theorem PySem.W.Fast.tw5536627457811913010 : True := trivial
theorem PySem.W.Fast.tw14055053720025241024 : True := trivial
theorem PySem.W.Fast.tw13778520135219054484 : True := trivial
theorem PySem.W.Fast.tw6529993853266342766 : True := trivial
theorem PySem.W.Fast.tw8862105615499670848 : True := trivial
theorem PySem.W.Fast.tw9735121340987471474 : True := trivial
theorem PySem.W.Fast.tw8951658504831049756 : True := trivial
theorem PySem.W.Fast.tw15908446551135261327 : True := trivial
theorem PySem.W.Fast.tw15106561451142705442 : True := trivial
theorem PySem.W.Fast.tw16906387235272090062 : True := trivial
theorem PySem.W.Fast.tw2531951560493983117 : True := trivial
theorem PySem.W.Fast.tw11913397823756195772 : True := trivial
theorem PySem.W.Fast.tw12171715484256481191 : True := trivial
theorem PySem.W.Fast.tw7411785596264989954 : True := trivial
theorem PySem.W.Fast.tw11076785816685032735 : True := trivial
theorem PySem.W.Fast.tw10066810106063090726 : True := trivial
theorem PySem.W.Fast.tw14828158450918764534 : True := trivial
theorem PySem.W.Fast.tw2278131379397320122 : True := trivial
theorem PySem.W.Fast.tw13708121356821501940 : True := trivial
theorem PySem.W.Fast.tw12787459021224540316 : True := trivial
theorem PySem.W.Fast.tw10202411918786809715 : True := trivial
theorem PySem.W.Fast.tw11155761471548631426 : True := trivial
theorem PySem.W.Fast.tw3983114347489535478 : True := trivial
theorem PySem.W.Fast.tw16706914166618322905 : True := trivial
theorem PySem.W.Fast.tw7848391280611810625 : True := trivial
theorem PySem.W.Fast.tw16865925072404238603 : True := trivial
theorem PySem.W.Fast.tw928820279746547295 : True := trivial
theorem PySem.W.Fast.tw13440549351471150010 : True := trivial
theorem PySem.W.Fast.tw13227497953896214983 : True := trivial
theorem PySem.W.Fast.tw18411003287283614255 : True := trivial
theorem PySem.W.Fast.tw1619253909099404956 : True := trivial
theorem PySem.W.Fast.tw17058818925304353208 : True := trivial
theorem PySem.W.Fast.tw4269504900353502592 : True := trivial
theorem PySem.W.Fast.tw15255153968711703145 : True := trivial
theorem PySem.W.Fast.tw5696812521450539334 : True := trivial
theorem PySem.W.Fast.tw18051027983520183112 : True := trivial
theorem PySem.W.Fast.tw2534920093139196179 : True := trivial
theorem PySem.W.Fast.tw10608191637239808409 : True := trivial
theorem PySem.W.Fast.tw16825038743387698240 : True := trivial
theorem PySem.W.Fast.tw17770989963869898454 : True := trivial
theorem PySem.W.Fast.tw12705497649288570689 : True := trivial
theorem PySem.W.Fast.tw15331599519643719747 : True := trivial
theorem PySem.W.Fast.tw18420441233109106959 : True := trivial
theorem PySem.W.Fast.tw3296912787474212714 : True := trivial
theorem PySem.W.Fast.tw15693817661273516395 : True := trivial
theorem PySem.W.Fast.tw1907027102437809727 : True := trivial
theorem PySem.W.Fast.tw6169120728436246197 : True := trivial
theorem PySem.W.Fast.tw11421728172558477526 : True := trivial
theorem PySem.W.Fast.tw6914969391609134177 : True := trivial
theorem PySem.W.Fast.tw2882203673880975025 : True := trivial
theorem PySem.W.Fast.tw6983383312265895824 : True := trivial
theorem PySem.W.Fast.tw6141062559216042561 : True := trivial
theorem PySem.W.Fast.tw8438604964140788557 : True := trivial
theorem PySem.W.Fast.tw13905744915294290155 : True := trivial
theorem PySem.W.Fast.tw5912811465890291700 : True := trivial
theorem PySem.W.Fast.tw3114679715226982472 : True := trivial
theorem PySem.W.Fast.tw807132914719906389 : True := trivial
theorem PySem.W.Fast.tw908873799671099803 : True := trivial
theorem PySem.W.Fast.tw293748135149507343 : True := trivial
theorem PySem.W.Fast.tw8902493815938020559 : True := trivial
theorem PySem.W.Fast.tw2822172641186419226 : True := trivial
theorem PySem.W.Fast.tw3728523641333269628 : True := trivial
theorem PySem.W.Fast.tw12617644402468698422 : True := trivial
theorem PySem.W.Fast.tw386889051335971706 : True := trivial
theorem PySem.W.Fast.tw4607256945771335732 : True := trivial
theorem PySem.W.Fast.tw5770482655652632322 : True := trivial
theorem PySem.W.Fast.tw9056725659916043700 : True := trivial
theorem PySem.W.Fast.tw7992694657770281912 : True := trivial
theorem PySem.W.Fast.tw47156579191819711 : True := trivial
theorem PySem.W.Fast.tw7686324859405149918 : True := trivial
theorem PySem.W.Fast.tw2645676260228606683 : True := trivial
theorem PySem.W.Fast.tw7032580470083665749 : True := trivial
theorem PySem.W.Fast.tw12922968968967481862 : True := trivial
theorem PySem.W.Fast.tw18350391065153747464 : True := trivial
theorem PySem.W.Fast.tw1512265260880488981 : True := trivial
theorem PySem.W.Fast.tw16689404596812187417 : True := trivial
theorem PySem.W.Fast.tw2707622740245244252 : True := trivial
theorem PySem.W.Fast.tw10352148220052004670 : True := trivial
theorem PySem.W.Fast.tw17870786496558549027 : True := trivial
theorem PySem.W.Fast.tw1480133053620763085 : True := trivial
theorem PySem.W.Fast.tw14865677065497775903 : True := trivial
theorem PySem.W.Fast.tw16188518177783236019 : True := trivial
theorem PySem.W.Fast.tw17776146923468195807 : True := trivial
theorem PySem.W.Fast.tw12599853593080413936 : True := trivial
theorem PySem.W.Fast.tw17014152745307331386 : True := trivial
theorem PySem.W.Fast.tw12036313690607453716 : True := trivial
theorem PySem.W.Fast.tw13026480543677493616 : True := trivial
theorem PySem.W.Fast.tw11259725970940431723 : True := trivial
theorem PySem.W.Fast.tw11280798428011225529 : True := trivial
theorem PySem.W.Fast.tw15373012660148423540 : True := trivial
theorem PySem.W.Fast.tw12190247868795702061 : True := trivial
theorem PySem.W.Fast.tw11648795729438715474 : True := trivial
theorem PySem.W.Fast.tw10787508799000726165 : True := trivial
theorem PySem.W.Fast.tw11944812145012732546 : True := trivial
theorem PySem.W.Fast.tw10182718120020516609 : True := trivial
theorem PySem.W.Fast.tw9960454645345591684 : True := trivial
theorem PySem.W.Fast.tw13954238388201038976 : True := trivial
theorem PySem.W.Fast.tw10215534492837496248 : True := trivial
theorem PySem.W.Fast.tw5416842123177844410 : True := trivial
theorem PySem.W.Fast.tw8937710253214595491 : True := trivial
theorem PySem.W.Fast.tw1573716363052735589 : True := trivial
theorem PySem.W.Fast.tw10638085475181383495 : True := trivial
theorem PySem.W.Fast.tw18312608305175738229 : True := trivial
theorem PySem.W.Fast.tw2681622634237161084 : True := trivial
theorem PySem.W.Fast.tw3255401587700156463 : True := trivial
theorem PySem.W.Fast.tw11340741712107005498 : True := trivial
theorem PySem.W.Fast.tw12457800732675077858 : True := trivial
theorem PySem.W.Fast.tw13845047834618082070 : True := trivial
theorem PySem.W.Fast.tw5410080858442439880 : True := trivial
theorem PySem.W.Fast.tw15283776302699857712 : True := trivial
theorem PySem.W.Fast.tw578062395221181048 : True := trivial
theorem PySem.W.Fast.tw14590224238556354649 : True := trivial
theorem PySem.W.Fast.tw16980868435255362765 : True := trivial
theorem PySem.W.Fast.tw9853184225155065816 : True := trivial
theorem PySem.W.Fast.tw14421704664558930409 : True := trivial
theorem PySem.W.Fast.tw7349542077015664001 : True := trivial
theorem PySem.W.Fast.tw9503949777319399767 : True := trivial
theorem PySem.W.Fast.tw12273174730102406729 : True := trivial
theorem PySem.W.Fast.tw15501913152376306683 : True := trivial
theorem PySem.W.Fast.tw4573645864664061443 : True := trivial
theorem PySem.W.Fast.tw15310821540162185551 : True := trivial
theorem PySem.W.Fast.tw8401881560626957404 : True := trivial
theorem PySem.W.Fast.tw5505472857852803132 : True := trivial
theorem PySem.W.Fast.tw16233285550181486003 : True := trivial
theorem PySem.W.Fast.tw6439442872042401219 : True := trivial
theorem PySem.W.Fast.tw8859059698280439109 : True := trivial
theorem PySem.W.Fast.tw14902841373680823618 : True := trivial
theorem PySem.W.Fast.tw15798482052678610301 : True := trivial
theorem PySem.W.Fast.tw7474531564961908072 : True := trivial
theorem PySem.W.Fast.tw6226317733216907926 : True := trivial
theorem PySem.W.Fast.tw17512002112015286961 : True := trivial
theorem PySem.W.Fast.tw2494782571924891078 : True := trivial
theorem PySem.W.Fast.tw4695589702686391501 : True := trivial
theorem PySem.W.Fast.tw6230832400281850017 : True := trivial
theorem PySem.W.Fast.tw11557534935872100428 : True := trivial
theorem PySem.W.Fast.tw311946658299270864 : True := trivial
theorem PySem.W.Fast.tw11855284414674657748 : True := trivial
theorem PySem.W.Fast.tw8910871497220013904 : True := trivial
theorem PySem.W.Fast.tw9876656044887181698 : True := trivial
theorem PySem.W.Fast.tw8687141361794642853 : True := trivial
theorem PySem.W.Fast.tw17272745194171159250 : True := trivial
theorem PySem.W.Fast.tw4669458718481920911 : True := trivial
theorem PySem.W.Fast.tw14836256114486682747 : True := trivial
theorem PySem.W.Fast.tw16556164326277593504 : True := trivial
theorem PySem.W.Fast.tw16808609186097107464 : True := trivial
theorem PySem.W.Fast.tw16759276538594174690 : True := trivial
theorem PySem.W.Fast.tw2351766511490511498 : True := trivial
theorem PySem.W.Fast.tw17870455307993655167 : True := trivial
theorem PySem.W.Fast.tw6905883881997156808 : True := trivial
theorem PySem.W.Fast.tw13758363751319099178 : True := trivial
theorem PySem.W.Fast.tw15879280481141953842 : True := trivial
theorem PySem.W.Fast.tw11448303619902806083 : True := trivial
theorem PySem.W.Fast.tw14097295946401194908 : True := trivial
theorem PySem.W.Fast.tw15560978614959105232 : True := trivial
theorem PySem.W.Fast.tw3464308767550459894 : True := trivial
theorem PySem.W.Fast.tw2229333347927106210 : True := trivial
theorem PySem.W.Fast.tw11767109241442659137 : True := trivial
theorem PySem.W.Fast.tw16512597008524272171 : True := trivial
theorem PySem.W.Fast.tw14693435407447982556 : True := trivial
theorem PySem.W.Fast.tw17427063491054189745 : True := trivial
theorem PySem.W.Fast.tw2332971295457213111 : True := trivial
theorem PySem.W.Fast.tw16574590750802734906 : True := trivial
theorem PySem.W.Fast.tw5702722868125925493 : True := trivial
theorem PySem.W.Fast.tw15330648137172654769 : True := trivial
theorem PySem.W.Fast.tw10419901763933307060 : True := trivial
theorem PySem.W.Fast.tw9134720650576253001 : True := trivial
theorem PySem.W.Fast.tw4182205419567544289 : True := trivial
theorem PySem.W.Fast.tw14491668477350973459 : True := trivial
theorem PySem.W.Fast.tw7052695099592834658 : True := trivial
theorem PySem.W.Fast.tw2031719502458638624 : True := trivial
theorem PySem.W.Fast.tw13673256101088074291 : True := trivial
theorem PySem.W.Fast.tw6326469807200503577 : True := trivial
theorem PySem.W.Fast.tw6640436202840147357 : True := trivial
theorem PySem.W.Fast.tw6059118757539992563 : True := trivial
theorem PySem.W.Fast.tw5602374289918401838 : True := trivial
theorem PySem.W.Fast.tw316255172080962999 : True := trivial
theorem PySem.W.Fast.tw252845593082893970 : True := trivial
theorem PySem.W.Fast.tw8454023457167668626 : True := trivial
theorem PySem.W.Fast.tw7379192342353514011 : True := trivial
theorem PySem.W.Fast.tw8016593533747121000 : True := trivial
theorem PySem.W.Fast.tw8878409331989307268 : True := trivial
theorem PySem.W.Fast.tw15000943079324342087 : True := trivial
theorem PySem.W.Fast.tw15541342553906421128 : True := trivial
theorem PySem.W.Fast.tw2526027564863769988 : True := trivial
theorem PySem.W.Fast.tw17398864174082940144 : True := trivial
theorem PySem.W.Fast.tw9649632504481747024 : True := trivial
theorem PySem.W.Fast.tw3046454411528391381 : True := trivial
theorem PySem.W.Fast.tw8188563021433565469 : True := trivial
theorem PySem.W.Fast.tw4181281949461420191 : True := trivial
theorem PySem.W.Fast.tw9519574253873678644 : True := trivial
theorem PySem.W.Fast.tw17429740047648833496 : True := trivial
theorem PySem.W.Fast.tw14882816054472432470 : True := trivial
theorem PySem.W.Fast.tw17661223477811172598 : True := trivial
theorem PySem.W.Fast.tw6191149421691073853 : True := trivial
theorem PySem.W.Fast.tw2022290123073425936 : True := trivial
theorem PySem.W.Fast.tw12639809353069850524 : True := trivial
theorem PySem.W.Fast.tw5906203236321786307 : True := trivial
theorem PySem.W.Fast.tw753342891696632829 : True := trivial
theorem PySem.W.Fast.tw12989437597673696659 : True := trivial
theorem PySem.W.Fast.tw11539904070910711774 : True := trivial
theorem PySem.W.Fast.tw16851518456859389979 : True := trivial
theorem PySem.W.Fast.tw17134247595227096027 : True := trivial
theorem PySem.W.Fast.tw10772239155367419027 : True := trivial
theorem PySem.W.Fast.tw2541644361980697604 : True := trivial
theorem PySem.W.Fast.tw8431455175345072001 : True := trivial
theorem PySem.W.Fast.tw1647594763227883345 : True := trivial
theorem PySem.W.Fast.tw10943635456252737234 : True := trivial
theorem PySem.W.Fast.tw8805212369290723507 : True := trivial
theorem PySem.W.Fast.tw6781963591971186567 : True := trivial
theorem PySem.W.Fast.tw17201473245912121010 : True := trivial
theorem PySem.W.Fast.tw1085961376466162185 : True := trivial
theorem PySem.W.Fast.tw12940953405622775796 : True := trivial
theorem PySem.W.Fast.tw9060848783285390058 : True := trivial
theorem PySem.W.Fast.tw15684304706684082199 : True := trivial
theorem PySem.W.Fast.tw4373941514797106048 : True := trivial
theorem PySem.W.Fast.tw3939153307468061999 : True := trivial
theorem PySem.W.Fast.tw12190606919772835052 : True := trivial
theorem PySem.W.Fast.tw13492156961100130953 : True := trivial
theorem PySem.W.Fast.tw4945109415448809587 : True := trivial
theorem PySem.W.Fast.tw2856597624605140372 : True := trivial
theorem PySem.W.Fast.tw9605600146148214643 : True := trivial
theorem PySem.W.Fast.tw11319951858603502787 : True := trivial
theorem PySem.W.Fast.tw1516320032353466078 : True := trivial
theorem PySem.W.Fast.tw13845345909703780679 : True := trivial
theorem PySem.W.Fast.tw17238821594150836750 : True := trivial
theorem PySem.W.Fast.tw5646149087507224594 : True := trivial
theorem PySem.W.Fast.tw16543574366568384230 : True := trivial
theorem PySem.W.Fast.tw17031192535035832188 : True := trivial
theorem PySem.W.Fast.tw14830147756890573814 : True := trivial
theorem PySem.W.Fast.tw17784714580674481703 : True := trivial
theorem PySem.W.Fast.tw6592730726428141358 : True := trivial
theorem PySem.W.Fast.tw6705504409558259405 : True := trivial
theorem PySem.W.Fast.tw3433229226422313034 : True := trivial
theorem PySem.W.Fast.tw2209703170912756119 : True := trivial
theorem PySem.W.Fast.tw6482601327337627712 : True := trivial
theorem PySem.W.Fast.tw15657865128125808640 : True := trivial
theorem PySem.W.Fast.tw1917999901296286706 : True := trivial
theorem PySem.W.Fast.tw4003891435299067290 : True := trivial
theorem PySem.W.Fast.tw9494754093281144052 : True := trivial
theorem PySem.W.Fast.tw14896301569418766752 : True := trivial
theorem PySem.W.Fast.tw14271327707630255589 : True := trivial
theorem PySem.W.Fast.tw15431131336894491830 : True := trivial
theorem PySem.W.Fast.tw5583649463474769503 : True := trivial
theorem PySem.W.Fast.tw12903437973408421919 : True := trivial
theorem PySem.W.Fast.tw10656332159756019045 : True := trivial
theorem PySem.W.Fast.tw1323899824001458318 : True := trivial
theorem PySem.W.Fast.tw5806126870662160577 : True := trivial
theorem PySem.W.Fast.tw13794146947353773438 : True := trivial
theorem PySem.W.Fast.tw1511909067471809560 : True := trivial
theorem PySem.W.Fast.tw1383877142965598565 : True := trivial
theorem PySem.W.Fast.tw16254754262572485645 : True := trivial
theorem PySem.W.Fast.tw17525645707414000968 : True := trivial
theorem PySem.W.Fast.tw18158812621001544153 : True := trivial
theorem PySem.W.Fast.tw1713326065524964909 : True := trivial
theorem PySem.W.Fast.tw4582024659329804988 : True := trivial
theorem PySem.W.Fast.tw6756095834805239536 : True := trivial
theorem PySem.W.Fast.tw14732737845371150039 : True := trivial
theorem PySem.W.Fast.tw13153547651491093031 : True := trivial
theorem PySem.W.Fast.tw11427373219826834455 : True := trivial
theorem PySem.W.Fast.tw15505235834055181072 : True := trivial
theorem PySem.W.Fast.tw15805136710455321611 : True := trivial
theorem PySem.W.Fast.tw5815512697261210298 : True := trivial
theorem PySem.W.Fast.tw4596362339418533446 : True := trivial
theorem PySem.W.Fast.tw13634123933522399285 : True := trivial
theorem PySem.W.Fast.tw17972170359010492351 : True := trivial
theorem PySem.W.Fast.tw17627285612850657389 : True := trivial
theorem PySem.W.Fast.tw7565855718587871167 : True := trivial
theorem PySem.W.Fast.tw15004031892751154412 : True := trivial
theorem PySem.W.Fast.tw7970243572802794286 : True := trivial
theorem PySem.W.Fast.tw366555703058846160 : True := trivial
theorem PySem.W.Fast.tw3899184041278905491 : True := trivial
theorem PySem.W.Fast.tw7742031467057657677 : True := trivial
theorem PySem.W.Fast.tw1081861238587287314 : True := trivial
theorem PySem.W.Fast.tw8621889622140409239 : True := trivial
theorem PySem.W.Fast.tw1972439565447753461 : True := trivial
theorem PySem.W.Fast.tw14007526565934734055 : True := trivial
theorem PySem.W.Fast.tw6817729282767282821 : True := trivial
theorem PySem.W.Fast.tw16284230169690867249 : True := trivial
theorem PySem.W.Fast.tw1608475707868100232 : True := trivial
theorem PySem.W.Fast.tw10568479215456543458 : True := trivial
theorem PySem.W.Fast.tw9461773226900936856 : True := trivial
theorem PySem.W.Fast.tw16623441109219522797 : True := trivial
theorem PySem.W.Fast.tw9020835284194734797 : True := trivial
theorem PySem.W.Fast.tw7892572352291748685 : True := trivial
theorem PySem.W.Fast.tw7704268234050284256 : True := trivial
theorem PySem.W.Fast.tw2595449623762268975 : True := trivial
theorem PySem.W.Fast.tw8927853631212561436 : True := trivial
theorem PySem.W.Fast.tw12899232160953945172 : True := trivial
theorem PySem.W.Fast.tw14854393706902566043 : True := trivial
theorem PySem.W.Fast.tw16570699797652522198 : True := trivial
theorem PySem.W.Fast.tw10192676909862345612 : True := trivial
theorem PySem.W.Fast.tw16718718557753910930 : True := trivial
theorem PySem.W.Fast.tw3157423644608047697 : True := trivial
theorem PySem.W.Fast.tw783338939149401709 : True := trivial
theorem PySem.W.Fast.tw17944935613248389385 : True := trivial
theorem PySem.W.Fast.tw13414665857468488100 : True := trivial
theorem PySem.W.Fast.tw11590409345071296623 : True := trivial
theorem PySem.W.Fast.tw12927657916430137857 : True := trivial
theorem PySem.W.Fast.tw8298583512881170336 : True := trivial
theorem PySem.W.Fast.tw15322671148038736252 : True := trivial
theorem PySem.W.Fast.tw8168164537080034017 : True := trivial
theorem PySem.W.Fast.tw1460727249814491798 : True := trivial
theorem PySem.W.Fast.tw2161688517058933544 : True := trivial
theorem PySem.W.Fast.tw10282889183380460325 : True := trivial
theorem PySem.W.Fast.tw11034339640865036966 : True := trivial
theorem PySem.W.Fast.tw15491822968735964382 : True := trivial
theorem PySem.W.Fast.tw9502321765572151316 : True := trivial
theorem PySem.W.Fast.tw16644161816679908185 : True := trivial
theorem PySem.W.Fast.tw518808798179622037 : True := trivial
theorem PySem.W.Fast.tw16422672689481053465 : True := trivial
theorem PySem.W.Fast.tw15043307039023245186 : True := trivial
theorem PySem.W.Fast.tw16907574380863977545 : True := trivial
theorem PySem.W.Fast.tw16304645733291248948 : True := trivial
theorem PySem.W.Fast.tw4402574080102661911 : True := trivial
theorem PySem.W.Fast.tw12430342885617875861 : True := trivial
theorem PySem.W.Fast.tw7291098561586506769 : True := trivial
theorem PySem.W.Fast.tw1497208904919507902 : True := trivial
theorem PySem.W.Fast.tw2111664254952272294 : True := trivial
theorem PySem.W.Fast.tw1784628207963018049 : True := trivial
theorem PySem.W.Fast.tw9217466537189739731 : True := trivial
theorem PySem.W.Fast.tw14452048033024158334 : True := trivial
theorem PySem.W.Fast.tw10195059026784052017 : True := trivial
theorem PySem.W.Fast.tw18002389149933664048 : True := trivial
theorem PySem.W.Fast.tw13186690626535110219 : True := trivial
theorem PySem.W.Fast.tw12954831808754555266 : True := trivial
theorem PySem.W.Fast.tw10161102797532791178 : True := trivial
theorem PySem.W.Fast.tw9455875419363465223 : True := trivial
theorem PySem.W.Fast.tw17457485880738769858 : True := trivial
theorem PySem.W.Fast.tw4781079356717635545 : True := trivial
theorem PySem.W.Fast.tw10258537428483730800 : True := trivial
theorem PySem.W.Fast.tw13303766248971640948 : True := trivial
theorem PySem.W.Fast.tw8404708215060903811 : True := trivial
theorem PySem.W.Fast.tw12870496656248578286 : True := trivial
theorem PySem.W.Fast.tw16448427124915758277 : True := trivial
theorem PySem.W.Fast.tw4481699616021776291 : True := trivial
theorem PySem.W.Fast.tw608548331271190353 : True := trivial
theorem PySem.W.Fast.tw15682497810898508872 : True := trivial
theorem PySem.W.Fast.tw5018563497965974099 : True := trivial
theorem PySem.W.Fast.tw4779742324372479048 : True := trivial
theorem PySem.W.Fast.tw14414255269191750551 : True := trivial
theorem PySem.W.Fast.tw1838195755156348873 : True := trivial
theorem PySem.W.Fast.tw34808436845454460 : True := trivial
theorem PySem.W.Fast.tw18083025380764435645 : True := trivial
theorem PySem.W.Fast.tw3415929740630435507 : True := trivial
theorem PySem.W.Fast.tw9919122965118354182 : True := trivial
theorem PySem.W.Fast.tw11434754855815608515 : True := trivial
theorem PySem.W.Fast.tw16766326698680620213 : True := trivial
theorem PySem.W.Fast.tw1697183801428832616 : True := trivial
theorem PySem.W.Fast.tw15777062910374388142 : True := trivial
theorem PySem.W.Fast.tw1465611790689074429 : True := trivial
theorem PySem.W.Fast.tw11634203681217216151 : True := trivial
theorem PySem.W.Fast.tw16164241546718026050 : True := trivial
theorem PySem.W.Fast.tw10240964629417976577 : True := trivial
theorem PySem.W.Fast.tw13908142256860854420 : True := trivial
theorem PySem.W.Fast.tw15419082261754393633 : True := trivial
theorem PySem.W.Fast.tw12197909373663193117 : True := trivial
theorem PySem.W.Fast.tw17442796974858676769 : True := trivial
theorem PySem.W.Fast.tw8777986280039311529 : True := trivial
theorem PySem.W.Fast.tw14885118465005382960 : True := trivial
theorem PySem.W.Fast.tw12037530295527731040 : True := trivial
theorem PySem.W.Fast.tw10541820011261964565 : True := trivial
theorem PySem.W.Fast.tw16715573464476089389 : True := trivial
theorem PySem.W.Fast.tw5933957006379405715 : True := trivial
theorem PySem.W.Fast.tw13845621440691147181 : True := trivial
theorem PySem.W.Fast.tw8332436355107220794 : True := trivial
theorem PySem.W.Fast.tw5100564660000693884 : True := trivial
theorem PySem.W.Fast.tw17383064282169243591 : True := trivial
theorem PySem.W.Fast.tw3461900094963300109 : True := trivial
theorem PySem.W.Fast.tw15401295159114205955 : True := trivial
theorem PySem.W.Fast.tw8305177948890020448 : True := trivial
theorem PySem.W.Fast.tw8083900439053004663 : True := trivial
theorem PySem.W.Fast.tw16182483950956942834 : True := trivial
theorem PySem.W.Fast.tw17251703350913865659 : True := trivial
theorem PySem.W.Fast.tw11190788190106846734 : True := trivial
theorem PySem.W.Fast.tw11778450599402925879 : True := trivial
theorem PySem.W.Fast.tw2812323176831213337 : True := trivial
theorem PySem.W.Fast.tw2198516552222792953 : True := trivial
theorem PySem.W.Fast.tw17045944289569478087 : True := trivial
theorem PySem.W.Fast.tw12853892231568034860 : True := trivial
theorem PySem.W.Fast.tw4952536459167882187 : True := trivial
theorem PySem.W.Fast.tw14803134485723979405 : True := trivial
theorem PySem.W.Fast.tw11891779290718625785 : True := trivial
theorem PySem.W.Fast.tw7380628109278898739 : True := trivial
theorem PySem.W.Fast.tw11820531479204964315 : True := trivial
theorem PySem.W.Fast.tw6057438507838802020 : True := trivial
theorem PySem.W.Fast.tw17723103368162409256 : True := trivial
theorem PySem.W.Fast.tw6493202538630284514 : True := trivial
theorem PySem.W.Fast.tw3483280142862954754 : True := trivial
theorem PySem.W.Fast.tw14666196912232876258 : True := trivial
theorem PySem.W.Fast.tw17471881597124086025 : True := trivial
theorem PySem.W.Fast.tw995808429648677664 : True := trivial
theorem PySem.W.Fast.tw11640101998194330401 : True := trivial
theorem PySem.W.Fast.tw1025811474316016956 : True := trivial
theorem PySem.W.Fast.tw16187157706643880769 : True := trivial
theorem PySem.W.Fast.tw3186183643385642905 : True := trivial
theorem PySem.W.Fast.tw11341895284772091063 : True := trivial
theorem PySem.W.Fast.tw11306229519711886486 : True := trivial
theorem PySem.W.Fast.tw10547508099674640393 : True := trivial
theorem PySem.W.Fast.tw3777056197338181803 : True := trivial
theorem PySem.W.Fast.tw11908262978113352326 : True := trivial
theorem PySem.W.Fast.tw13016984661595010975 : True := trivial
theorem PySem.W.Fast.tw18192236899025567663 : True := trivial
theorem PySem.W.Fast.tw22883310104380517 : True := trivial
theorem PySem.W.Fast.tw173744533221010646 : True := trivial
theorem PySem.W.Fast.tw12051772167673546465 : True := trivial
theorem PySem.W.Fast.tw7584823235271504439 : True := trivial
theorem PySem.W.Fast.tw8849205709956039642 : True := trivial
theorem PySem.W.Fast.tw18226154545359058303 : True := trivial
theorem PySem.W.Fast.tw2264413093489184376 : True := trivial
theorem PySem.W.Fast.tw14756152786724805253 : True := trivial
theorem PySem.W.Fast.tw14574214787596722803 : True := trivial
theorem PySem.W.Fast.tw11751027499860327686 : True := trivial
theorem PySem.W.Fast.tw8178128181027480854 : True := trivial
theorem PySem.W.Fast.tw15849674920607063229 : True := trivial
theorem PySem.W.Fast.tw10711115294819391195 : True := trivial
theorem PySem.W.Fast.tw6889290527491007447 : True := trivial
theorem PySem.W.Fast.tw13757622202375126946 : True := trivial
theorem PySem.W.Fast.tw6486100954248702609 : True := trivial
theorem PySem.W.Fast.tw401294412998587991 : True := trivial
theorem PySem.W.Fast.tw5054389035789269744 : True := trivial
theorem PySem.W.Fast.tw14868416559691670071 : True := trivial
theorem PySem.W.Fast.tw5609637919536061572 : True := trivial
theorem PySem.W.Fast.tw15431397443749659881 : True := trivial
theorem PySem.W.Fast.tw14900991927525041035 : True := trivial
theorem PySem.W.Fast.tw1410484997421972863 : True := trivial
theorem PySem.W.Fast.tw8386045979216172022 : True := trivial
theorem PySem.W.Fast.tw4246557933040674620 : True := trivial
theorem PySem.W.Fast.tw7052733569344226442 : True := trivial
theorem PySem.W.Fast.tw14566026693742431783 : True := trivial
theorem PySem.W.Fast.tw9091660690846753009 : True := trivial
theorem PySem.W.Fast.tw4000447285683659866 : True := trivial
theorem PySem.W.Fast.tw12259132331003687708 : True := trivial
theorem PySem.W.Fast.tw12816715390207584224 : True := trivial
theorem PySem.W.Fast.tw7622113276523415602 : True := trivial
theorem PySem.W.Fast.tw8967162316412216504 : True := trivial
theorem PySem.W.Fast.tw680174633897197032 : True := trivial
theorem PySem.W.Fast.tw6470108689730674762 : True := trivial
theorem PySem.W.Fast.tw7501843002658064885 : True := trivial
theorem PySem.W.Fast.tw3770335786055456919 : True := trivial
theorem PySem.W.Fast.tw346923495244208180 : True := trivial
theorem PySem.W.Fast.tw11663546831127805230 : True := trivial
theorem PySem.W.Fast.tw8446524308490048409 : True := trivial
theorem PySem.W.Fast.tw17784853045469598160 : True := trivial
theorem PySem.W.Fast.tw15903329596863228316 : True := trivial
theorem PySem.W.Fast.tw3592437886349328104 : True := trivial
theorem PySem.W.Fast.tw18046409546312825461 : True := trivial
theorem PySem.W.Fast.tw13254331971291507057 : True := trivial
theorem PySem.W.Fast.tw8570693796057761925 : True := trivial
theorem PySem.W.Fast.tw8996275714897193831 : True := trivial
theorem PySem.W.Fast.tw9745272130357663181 : True := trivial
theorem PySem.W.Fast.tw3357561199689029342 : True := trivial
theorem PySem.W.Fast.tw4103186579448505326 : True := trivial
theorem PySem.W.Fast.tw1909932303165630127 : True := trivial
theorem PySem.W.Fast.tw11413604921841988824 : True := trivial
theorem PySem.W.Fast.tw13387785622446733106 : True := trivial
theorem PySem.W.Fast.tw8697496917963833321 : True := trivial
theorem PySem.W.Fast.tw7963350163609825509 : True := trivial
theorem PySem.W.Fast.tw1247123576828267277 : True := trivial
theorem PySem.W.Fast.tw17872228850727055661 : True := trivial
theorem PySem.W.Fast.tw4842842517819722517 : True := trivial
theorem PySem.W.Fast.tw8004299371468574455 : True := trivial
theorem PySem.W.Fast.tw2978486977048684930 : True := trivial
theorem PySem.W.Fast.tw1474837558768502732 : True := trivial
theorem PySem.W.Fast.tw7843833003350831712 : True := trivial
theorem PySem.W.Fast.tw10246423436759933881 : True := trivial
theorem PySem.W.Fast.tw13989245237258953478 : True := trivial
theorem PySem.W.Fast.tw3683563846051012951 : True := trivial
theorem PySem.W.Fast.tw4287630408989706336 : True := trivial
theorem PySem.W.Fast.tw4544057470433811148 : True := trivial
theorem PySem.W.Fast.tw231912980119308929 : True := trivial
theorem PySem.W.Fast.tw3412903281270116638 : True := trivial
theorem PySem.W.Fast.tw2877686567132674488 : True := trivial
theorem PySem.W.Fast.tw1780111979968841483 : True := trivial
theorem PySem.W.Fast.tw13411738607481238390 : True := trivial
theorem PySem.W.Fast.tw13408239056194835383 : True := trivial
theorem PySem.W.Fast.tw11442391385362322926 : True := trivial
theorem PySem.W.Fast.tw9727823599878857934 : True := trivial
theorem PySem.W.Fast.tw16501663530475857474 : True := trivial
theorem PySem.W.Fast.tw11496296684613015974 : True := trivial
theorem PySem.W.Fast.tw2396244903696441967 : True := trivial
theorem PySem.W.Fast.tw1402066873702865227 : True := trivial
theorem PySem.W.Fast.tw6633548254842453676 : True := trivial
theorem PySem.W.Fast.tw9022157494567200961 : True := trivial
theorem PySem.W.Fast.tw2071412782905797969 : True := trivial
theorem PySem.W.Fast.tw15356286483816527727 : True := trivial
theorem PySem.W.Fast.tw12555981282228721406 : True := trivial
theorem PySem.W.Fast.tw16460597973023605624 : True := trivial
theorem PySem.W.Fast.tw14135150833913740668 : True := trivial
theorem PySem.W.Fast.tw1823880761018603494 : True := trivial
theorem PySem.W.Fast.tw7894421961034567539 : True := trivial
theorem PySem.W.Fast.tw1845627703886959904 : True := trivial
theorem PySem.W.Fast.tw5395871485215725210 : True := trivial
theorem PySem.W.Fast.tw7287450784349093232 : True := trivial
theorem PySem.W.Fast.tw8110066996245055890 : True := trivial
theorem PySem.W.Fast.tw9019796793366335046 : True := trivial
theorem PySem.W.Fast.tw9651934676667820657 : True := trivial
theorem PySem.W.Fast.tw7736430524046479292 : True := trivial
theorem PySem.W.Fast.tw8458229032924743609 : True := trivial
theorem PySem.W.Fast.tw15572144071911404676 : True := trivial
theorem PySem.W.Fast.tw7114425208671804143 : True := trivial
theorem PySem.W.Fast.tw1965624450943772977 : True := trivial
theorem PySem.W.Fast.tw2963482334704165432 : True := trivial
theorem PySem.W.Fast.tw11870275715098133281 : True := trivial
theorem PySem.W.Fast.tw11463024203819294336 : True := trivial
theorem PySem.W.Fast.tw14456876145934220354 : True := trivial
theorem PySem.W.Fast.tw13909785126009277978 : True := trivial
theorem PySem.W.Fast.tw6618856219091642563 : True := trivial
theorem PySem.W.Fast.tw11644962096688199306 : True := trivial
theorem PySem.W.Fast.tw3529315779966022733 : True := trivial
theorem PySem.W.Fast.tw1218939490079705035 : True := trivial
theorem PySem.W.Fast.tw7734896133378133112 : True := trivial
theorem PySem.W.Fast.tw11989820485625723142 : True := trivial
theorem PySem.W.Fast.tw10735897003523628693 : True := trivial
theorem PySem.W.Fast.tw14011965915721569391 : True := trivial
theorem PySem.W.Fast.tw9030975001742242675 : True := trivial
theorem PySem.W.Fast.tw13840835706709845063 : True := trivial
theorem PySem.W.Fast.tw2961302235474381552 : True := trivial
theorem PySem.W.Fast.tw1585802583067351903 : True := trivial
theorem PySem.W.Fast.tw11464465377977490124 : True := trivial
theorem PySem.W.Fast.tw6108332471231859749 : True := trivial
theorem PySem.W.Fast.tw10073507031047132457 : True := trivial
theorem PySem.W.Fast.tw13566492799433171725 : True := trivial
theorem PySem.W.Fast.tw11028167241497502102 : True := trivial
theorem PySem.W.Fast.tw14649471584700282635 : True := trivial
theorem PySem.W.Fast.tw14392790313826721516 : True := trivial
theorem PySem.W.Fast.tw7465677144519143389 : True := trivial
theorem PySem.W.Fast.tw15491753548908948162 : True := trivial
theorem PySem.W.Fast.tw12541489035167363295 : True := trivial
theorem PySem.W.Fast.tw6296631252377726070 : True := trivial
theorem PySem.W.Fast.tw2983404770068656564 : True := trivial
theorem PySem.W.Fast.tw7258097457161945954 : True := trivial
theorem PySem.W.Fast.tw8449990850265887024 : True := trivial
theorem PySem.W.Fast.tw14622310193090585483 : True := trivial
theorem PySem.W.Fast.tw13391693387117046269 : True := trivial
theorem PySem.W.Fast.tw10308653262090754561 : True := trivial
theorem PySem.W.Fast.tw18343438398707814780 : True := trivial
theorem PySem.W.Fast.tw1344462672233696188 : True := trivial
theorem PySem.W.Fast.tw17532948531475707296 : True := trivial
theorem PySem.W.Fast.tw12594286159534452137 : True := trivial
theorem PySem.W.Fast.tw5515714294759543506 : True := trivial
theorem PySem.W.Fast.tw48525722955941172 : True := trivial
theorem PySem.W.Fast.tw7261856496971387957 : True := trivial
theorem PySem.W.Fast.tw10053140537053977079 : True := trivial
theorem PySem.W.Fast.tw11875930696585916329 : True := trivial
theorem PySem.W.Fast.tw14107276839158881944 : True := trivial
theorem PySem.W.Fast.tw8848558475274532365 : True := trivial
theorem PySem.W.Fast.tw1002850019497481927 : True := trivial
theorem PySem.W.Fast.tw12837715185166787125 : True := trivial
theorem PySem.W.Fast.tw8317032436290733907 : True := trivial
theorem PySem.W.Fast.tw16059845276814519289 : True := trivial
theorem PySem.W.Fast.tw4291987932909455176 : True := trivial
theorem PySem.W.Fast.tw11013085755095042954 : True := trivial
theorem PySem.W.Fast.tw8467663127543396312 : True := trivial
theorem PySem.W.Fast.tw11573192212091841122 : True := trivial
theorem PySem.W.Fast.tw824921518280034477 : True := trivial
theorem PySem.W.Fast.tw13983392686895695970 : True := trivial
theorem PySem.W.Fast.tw12737964604413211200 : True := trivial
theorem PySem.W.Fast.tw16224525279387135455 : True := trivial
theorem PySem.W.Fast.tw18082384373501309047 : True := trivial
theorem PySem.W.Fast.tw10904807028038115280 : True := trivial
theorem PySem.W.Fast.tw8119271884301492952 : True := trivial
theorem PySem.W.Fast.tw1649231518382265655 : True := trivial
theorem PySem.W.Fast.tw18048326417877941865 : True := trivial
theorem PySem.W.Fast.tw12457387723988102385 : True := trivial
theorem PySem.W.Fast.tw12581509845150490724 : True := trivial
theorem PySem.W.Fast.tw14790062114197095679 : True := trivial
theorem PySem.W.Fast.tw13018389001272740566 : True := trivial
theorem PySem.W.Fast.tw18095244069508012537 : True := trivial
theorem PySem.W.Fast.tw9514566283900835283 : True := trivial
theorem PySem.W.Fast.tw5762832662988379017 : True := trivial
theorem PySem.W.Fast.tw17393191641057532207 : True := trivial
theorem PySem.W.Fast.tw16703678365379126115 : True := trivial
theorem PySem.W.Fast.tw10703612329611394959 : True := trivial
theorem PySem.W.Fast.tw4969582984258729471 : True := trivial
theorem PySem.W.Fast.tw16179050392387089219 : True := trivial
theorem PySem.W.Fast.tw6238267022930526894 : True := trivial
theorem PySem.W.Fast.tw5701158867913332306 : True := trivial
theorem PySem.W.Fast.tw14769275951517077402 : True := trivial
theorem PySem.W.Fast.tw6388566121258947558 : True := trivial
theorem PySem.W.Fast.tw14517413275240738859 : True := trivial
theorem PySem.W.Fast.tw7911019800151062442 : True := trivial
theorem PySem.W.Fast.tw15793121917759883565 : True := trivial
theorem PySem.W.Fast.tw277770926701031917 : True := trivial
theorem PySem.W.Fast.tw14648533928089125741 : True := trivial
theorem PySem.W.Fast.tw9035634857406963597 : True := trivial
theorem PySem.W.Fast.tw8393268018754102322 : True := trivial
theorem PySem.W.Fast.tw14562208151708478018 : True := trivial
theorem PySem.W.Fast.tw3679538545194593870 : True := trivial
theorem PySem.W.Fast.tw8355416480625678775 : True := trivial
theorem PySem.W.Fast.tw9820540985961925736 : True := trivial
theorem PySem.W.Fast.tw7301593275868956862 : True := trivial
theorem PySem.W.Fast.tw2307380510961507613 : True := trivial
theorem PySem.W.Fast.tw12915114455707037349 : True := trivial
theorem PySem.W.Fast.tw3681304754477149917 : True := trivial
theorem PySem.W.Fast.tw3834449964601475228 : True := trivial
theorem PySem.W.Fast.tw9138140515408335744 : True := trivial
theorem PySem.W.Fast.tw5341754186389883025 : True := trivial
theorem PySem.W.Fast.tw2894641561987292109 : True := trivial
theorem PySem.W.Fast.tw15548861400735832846 : True := trivial
theorem PySem.W.Fast.tw2129617362498022752 : True := trivial
theorem PySem.W.Fast.tw13916713457188913825 : True := trivial
theorem PySem.W.Fast.tw14237505922712046842 : True := trivial
open PySem PySem.W PyProof.Rows
namespace Bf
open PySem PySem.W
def qA (o : Obj) : Option Obj := match o with
  | ⟨_, _, .freed, _⟩ => none
  | o => some o
noncomputable def qP (os : List Obj) : Nat → List Addr → List (Option Obj) :=
  @List.rec Obj (fun _ => Nat → List Addr → List (Option Obj)) (fun _ as => as.map fun _ => none)
    (fun o _ ih i as => @List.rec Addr (fun _ => List (Option Obj)) [] (fun a r _ => @Bool.rec (fun _ => List (Option Obj)) (ih (Nat.succ i) (a :: r)) (qA o :: ih (Nat.succ i) r) (Nat.beq a i)) as) os
def qF (i : Nat) (os : List Obj) (a : Nat) : Option Obj := if a < i then none else (os[a - i]?).bind qA
theorem qF_on {i : Nat} {o x : Obj} {os : List Obj} {a : Nat} (h : qF (i + 1) os a = some x) : qF i (o :: os) a = some x := by
  unfold qF at h ⊢
  by_cases c : a < i + 1
  · rw [if_pos c] at h; cases h
  · rw [if_neg c] at h
    rw [if_neg (by omega), show a - i = (a - (i + 1)) + 1 by omega]
    exact h
theorem qF_onL {i : Nat} {o : Obj} {os : List Obj} : ∀ {as : List Addr} {xs : List Obj}, as.map (qF (i + 1) os) = xs.map some → as.map (qF i (o :: os)) = xs.map some
  | [], xs, h => h
  | a :: as, [], h => by cases h
  | a :: as, x :: xs, h => by
    simp only [List.map_cons, List.cons.injEq] at h ⊢
    exact ⟨qF_on h.1, qF_onL h.2⟩
theorem qP_of : ∀ {os : List Obj} {i : Nat} {as : List Addr} {xs : List Obj}, qP os i as = xs.map some → as.map (qF i os) = xs.map some
  | [], i, [], xs, h => h
  | [], i, a :: as, [], h => by cases h
  | [], i, a :: as, x :: xs, h => by
    have h' : (none : Option Obj) :: as.map (fun _ => none) = some x :: xs.map some := h
    injection h' with h1 _
    cases h1
  | o :: os, i, [], xs, h => h
  | o :: os, i, a :: as, xs, h => by
    have h' : @Bool.rec (fun _ => List (Option Obj)) (qP os (Nat.succ i) (a :: as)) (qA o :: qP os (Nat.succ i) as) (Nat.beq a i) = xs.map some := h
    cases e : Nat.beq a i with
    | false =>
      rw [e] at h'
      exact qF_onL (qP_of h')
    | true =>
      rw [e] at h'
      have ea : a = i := Nat.eq_of_beq_eq_true e
      subst ea
      cases xs with
      | nil => cases h'
      | cons x xs =>
        have h2 : qA o :: qP os (Nat.succ a) as = some x :: xs.map some := h'
        injection h2 with h3 h4
        have h5 := qF_onL (o := o) (qP_of h4)
        simp only [List.map_cons, List.cons.injEq]
        refine ⟨?_, h5⟩
        unfold qF
        rw [if_neg (Nat.lt_irrefl a), Nat.sub_self]
        exact h3
theorem qF_get (h : Heap) (a : Addr) : qF 0 h.objs.toList a = h.get? a := by
  unfold qF Heap.get?
  rw [if_neg (Nat.not_lt_zero a), Nat.sub_zero, Array.getElem?_toList]
  cases e : h.objs[a]? with
  | none => rfl
  | some o =>
    obtain ⟨c, d, t, sl⟩ := o
    cases t <;> rfl
noncomputable def qH (K : Params → Frag) (as : List Addr) (e : ∀ P, as = (K P).map (·.1)) : Hook :=
  ⟨List (Option Obj), fun s => qP s.heap.objs.toList 0 as, fun w => (K w.params).map fun p => some p.2, InK K, fun w s x => InK.of e w s (by
    have x' : qP s.heap.objs.toList 0 as = ((K w.params).map (·.2)).map some := by rw [x, List.map_map]; rfl
    have y := qP_of x'
    rw [List.map_map] at y
    rw [← show as.map (qF 0 s.heap.objs.toList) = as.map s.heap.get? from List.map_congr_left fun a _ => qF_get s.heap a]
    exact y), InK.keeps⟩
theorem qIn_of {K : Params → Frag} {as : List Addr} {e : ∀ P, as = (K P).map (·.1)} {w : World} {h : Heap} (Y : (qH K as e).says w h) : (K w.params).In h := Y
end Bf
namespace Bf
open PySem PySem.W
def qT (A : Hook) (ts : List Addr) : Hook :=
  ⟨A.α × List (Option Obj), fun s => (A.obs s, ts.map s.heap.get?), fun w => (A.val w, ts.map fun _ => some (tabObj #[])), fun w h => A.says w h ∧ ∀ P ∈ ts, h.get? P = some (tabObj #[]),
    fun w s x => ⟨A.of w s (Prod.mk.inj x).1, List.map_inj_left.mp (Prod.mk.inj x).2⟩, fun w h g x k => ⟨A.keeps w h g x.1 k, fun P hP => k _ _ (x.2 P hP)⟩⟩
theorem qT_in {K : Params → Frag} {as : List Addr} {e : ∀ P, as = (K P).map (·.1)} {ts : List Addr} {w : World} {h : Heap} (Y : (qT (qH K as e) ts).says w h) : (K w.params).In h := Y.1
theorem qT_tabs {A : Hook} {ts : List Addr} {w : World} {h : Heap} (Y : (qT A ts).says w h) : ∀ P ∈ ts, h.get? P = some (tabObj #[]) := Y.2
end Bf
local macro_rules
  | `(tactic| o_head ($f:ident $k $a $e $b)) => `(tactic| o_head (Bf.qT (Bf.qH $k $a $e) $b))
set_option maxHeartbeats 0 in
theorem PySem.Challenge.cw_beamframes_k17_refused_in_order_holds : PySem.Challenge.rw_beamframes_k17_refused_in_order.Holds := by
  w_on; o_law; k_head; (case hw => w_witness2)
  k_fill
  refine Bf.walk_gT (l := PySem.Challenge.rw_beamframes_k17_refused_in_order) (n := 63) (k := 16) (x := "script") (sp := Bf.spLawT) rfl (by decide) rfl ⟨rfl, by decide, by decide⟩ (fun w h Y => Bf.qT_in Y) ?F (fun _ _ _ a ns hl hH hS => ⟨a, ns, rfl, hS, hl, hH, fun _ => rfl⟩)
  case F =>
    intro w mg fa h Y KX G hmg
    refine' Bf.all_mk KX G hmg rfl ?a1 ?l1 ?c1 ?k1 ?a2 ?l2 ?c2 ?k2 ?a3 ?l3 ?c3 ?k3 ?a4 ?l4 ?c4 ?k4 ?a5 ?l5 ?c5 ?k5 ?a6 ?l6 ?c6 ?k6 ?a7 ?l7 ?c7 ?k7 ?a8 ?l8 ?c8 ?k8 ?a9 ?l9 ?c9 ?k9 ?a10 ?l10 ?c10 ?k10 ?a11 ?l11 ?c11 ?k11 ?a12 ?l12 ?c12 ?k12 ?a13 ?l13 ?c13 ?k13 ?a14 ?l14 ?c14 ?k14 ?a15 ?l15 ?c15 ?k15 ?a16 ?l16 ?c16 ?k16 ?a17 ?l17 ?c17 ?k17 ?a18 ?l18 ?c18 ?k18 ?a19 ?l19 ?c19 ?k19 ?a20 ?l20 ?c20 ?k20 ?a21 ?l21 ?c21 ?k21 ?a22 ?l22 ?c22 ?k22 ?a23 ?l23 ?c23 ?k23 ?a24 ?l24 ?c24 ?k24 ?a25 ?l25 ?c25 ?k25 ?a26 ?l26 ?c26 ?k26 ?a27 ?l27 ?c27 ?k27 ?a28 ?l28 ?c28 ?k28 ?a29 ?l29 ?c29 ?k29 ?a30 ?l30 ?c30 ?k30 ?a31 ?l31 ?c31 ?k31 ?a32 ?l32 ?c32 ?k32 ?a33 ?l33 ?c33 ?k33 ?a34 ?l34 ?c34 ?k34 ?a35 ?l35 ?c35 ?k35 ?a36 ?l36 ?c36 ?k36 ?a37 ?l37 ?c37 ?k37 ?a38 ?l38 ?c38 ?k38 ?a39 ?l39 ?c39 ?k39 ?a40 ?l40 ?c40 ?k40 ?a41 ?l41 ?c41 ?k41 ?a42 ?l42 ?c42 ?k42 ?a43 ?l43 ?c43 ?k43 ?a44 ?l44 ?c44 ?k44 ?a45 ?l45 ?c45 ?k45 ?a46 ?l46 ?c46 ?k46 ?a47 ?l47 ?c47 ?k47 ?a48 ?l48 ?c48 ?k48 ?a49 ?l49 ?c49 ?k49 ?a50 ?l50 ?c50 ?k50 ?a51 ?l51 ?c51 ?k51 ?z1 ?z2 ?z3 ?z4 ?z5 ?z6 ?z7 ?z8 ?z9 ?z10 ?v1 ?v2 ?v3 ?v4 ?xa1 ?xb1 ?xc1 ?xd1 ?xe1 ?xf1 ?xg1 ?xh1 ?xi1 ?xj1 ?xk1 ?xl1 ?xw1 ?xx1 ?xo1 ?xp1 ?xq1 ?xr1 ?xs1 ?xt1 ?xu1 ?xv1 ?xy1 ?xz1 ?xa2 ?xb2 ?xc2 ?xd2 ?xe2 ?xf2 ?xg2 ?xh2 ?xi2 ?xj2 ?xk2 ?xl2 ?xw2 ?xx2 ?xo2 ?xp2 ?xq2 ?xr2 ?xs2 ?xt2 ?xu2 ?xv2 ?xy2 ?xz2 ?xa3 ?xb3 ?xc3 ?xd3 ?xe3 ?xf3 ?xg3 ?xh3 ?xi3 ?xj3 ?xk3 ?xl3 ?xw3 ?xx3 ?xo3 ?xp3 ?xq3 ?xr3 ?xs3 ?xt3 ?xu3 ?xv3 ?xy3 ?xz3 ?xa4 ?xb4 ?xc4 ?xd4 ?xe4 ?xf4 ?xg4 ?xh4 ?xi4 ?xj4 ?xk4 ?xl4 ?xw4 ?xx4 ?xo4 ?xp4 ?xq4 ?xr4 ?xs4 ?xt4 ?xu4 ?xv4 ?xy4 ?xz4 ?xa5 ?xb5 ?xc5 ?xd5 ?xe5 ?xf5 ?xg5 ?xh5 ?xi5 ?xj5 ?xk5 ?xl5 ?xw5 ?xx5 ?xo5 ?xp5 ?xq5 ?xr5 ?xs5 ?xt5 ?xu5 ?xv5 ?xy5 ?xz5 ?xa6 ?xb6 ?xc6 ?xd6 ?xe6 ?xf6 ?xg6 ?xh6 ?xi6 ?xj6 ?xk6 ?xl6 ?xw6 ?xx6 ?xo6 ?xp6 ?xq6 ?xr6 ?xs6 ?xt6 ?xu6 ?xv6 ?xy6 ?xz6 ?xa7 ?xb7 ?xc7 ?xd7 ?xe7 ?xf7 ?xg7 ?xh7 ?xi7 ?xj7 ?xk7 ?xl7 ?xw7 ?xx7 ?xo7 ?xp7 ?xq7 ?xr7 ?xs7 ?xt7 ?xu7 ?xv7 ?xy7 ?xz7 ?xa8 ?xb8 ?xc8 ?xd8 ?xe8 ?xf8 ?xg8 ?xh8 ?xi8 ?xj8 ?xk8 ?xl8 ?xw8 ?xx8 ?xo8 ?xp8 ?xq8 ?xr8 ?xs8 ?xt8 ?xu8 ?xv8 ?xy8 ?xz8 ?xa9 ?xb9 ?xc9 ?xd9 ?xe9 ?xf9 ?xg9 ?xh9 ?xi9 ?xj9 ?xk9 ?xl9 ?xw9 ?xx9 ?xo9 ?xp9 ?xq9 ?xr9 ?xs9 ?xt9 ?xu9 ?xv9 ?xy9 ?xz9 ?xa10 ?xb10 ?xc10 ?xd10 ?xe10 ?xf10 ?xg10 ?xh10 ?xi10 ?xj10 ?xk10 ?xl10 ?xw10 ?xx10 ?xo10 ?xp10 ?xq10 ?xr10 ?xs10 ?xt10 ?xu10 ?xv10 ?xy10 ?xz10 ?zsup ?rq_a ?rq_b ?rq_c ?rq_d ?rq_e ?rq_f ?rq_g ?rq_h ?rq_i ?rq_n1 ?rq_n2 ?rq_n3 ?rq_n4 ?rq_n5 ?rq_n6 ?rq_n7 ?rq_d1 ?rq_d2 ?rq_d3 ?rq_d4 ?rq_d5 ?rq_d6 ?rq_d7 ?rq_j ?rq_k ?rq_l ?rq_m ?rq_noNoneType ?rq_nobool ?rq_noint ?rq_nostr ?rq_nolist ?rq_notuple ?rq_nodict ?rq_si ?rq_stbool ?rq_stint ?rq_ststr ?rq_stlist ?rq_sttuple ?rq_fi ?rq_fc ?rq_fk ?rq_ft ?rq_gc ?rq_oeq1 ?rq_oeq2 ?rq_oeq3 ?rq_oeq4 ?rq_oeq5 ?rq_one ?xca_1 ?xob_1 ?xca_2 ?xob_2 ?xca_4 ?xob_4 ?xca_5 ?xob_5 ?xca_7 ?xob_7 ?xisg1 ?xisg2 ?xq_1_4 ?xq_1_6 ?xq_1_7 ?xq_1_1 ?xq_1_5 ?xq_1_9 ?xq_1_8 ?xq_1_2 ?xq_1_10 ?xq_1_3 ?xy_1_4 ?xy_1_6 ?xy_1_7 ?xy_1_1 ?xy_1_5 ?xy_1_9 ?xy_1_8 ?xy_1_2 ?xy_1_3 ?xq_2_4 ?xq_2_6 ?xq_2_7 ?xq_2_1 ?xq_2_5 ?xq_2_9 ?xq_2_8 ?xq_2_2 ?xq_2_10 ?xq_2_3 ?xy_2_4 ?xy_2_6 ?xy_2_7 ?xy_2_1 ?xy_2_5 ?xy_2_9 ?xy_2_8 ?xy_2_2 ?xy_2_3 ?xq_4_4 ?xq_4_6 ?xq_4_7 ?xq_4_1 ?xq_4_5 ?xq_4_9 ?xq_4_8 ?xq_4_2 ?xq_4_10 ?xq_4_3 ?xy_4_4 ?xy_4_6 ?xy_4_7 ?xy_4_1 ?xy_4_5 ?xy_4_9 ?xy_4_8 ?xy_4_2 ?xy_4_3 ?xq_5_4 ?xq_5_6 ?xq_5_7 ?xq_5_1 ?xq_5_5 ?xq_5_9 ?xq_5_8 ?xq_5_2 ?xq_5_10 ?xq_5_3 ?xy_5_4 ?xy_5_6 ?xy_5_7 ?xy_5_1 ?xy_5_5 ?xy_5_9 ?xy_5_8 ?xy_5_2 ?xy_5_3 ?xq_7_4 ?xq_7_6 ?xq_7_7 ?xq_7_1 ?xq_7_5 ?xq_7_9 ?xq_7_8 ?xq_7_2 ?xq_7_10 ?xq_7_3 ?xy_7_4 ?xy_7_6 ?xy_7_7 ?xy_7_1 ?xy_7_5 ?xy_7_9 ?xy_7_8 ?xy_7_2 ?xy_7_3 ?tbk48 ?tbt48 ?tbc48 ?tbn48 ?tbk49 ?tbt49 ?tbc49 ?tbn49 ?tbk50 ?tbt50 ?tbc50 ?tbn50 ?tbd_48_49 ?tbd_48_50 ?tbd_49_50
    (case a1 => k_is); (case l1 => k_is); (case c1 => k_is); (case k1 => k_is); (case a2 => k_is); (case l2 => k_is)
    (case c2 => k_is); (case k2 => k_is); (case a3 => k_is); (case l3 => k_is); (case c3 => k_is); (case k3 => k_is)
    (case a4 => k_is); (case l4 => k_is); (case c4 => k_is); (case k4 => k_is); (case a5 => k_is); (case l5 => k_is)
    (case c5 => k_is); (case k5 => k_is); (case a6 => k_is); (case l6 => k_is); (case c6 => k_is); (case k6 => k_is)
    (case a7 => k_is); (case l7 => k_is); (case c7 => k_is); (case k7 => k_is); (case a8 => k_is); (case l8 => k_is)
    (case c8 => k_is); (case k8 => k_is); (case a9 => k_is); (case l9 => k_is); (case c9 => k_is); (case k9 => k_is)
    (case a10 => k_is); (case l10 => k_is); (case c10 => k_is); (case k10 => k_is); (case a11 => k_is); (case l11 => k_is)
    (case c11 => k_is); (case k11 => k_is); (case a12 => k_is); (case l12 => k_is); (case c12 => k_is); (case k12 => k_is)
    (case a13 => k_is); (case l13 => k_is); (case c13 => k_is); (case k13 => k_is); (case a14 => k_is); (case l14 => k_is)
    (case c14 => k_is); (case k14 => k_is); (case a15 => k_is); (case l15 => k_is); (case c15 => k_is); (case k15 => k_is)
    (case a16 => k_is); (case l16 => k_is); (case c16 => k_is); (case k16 => k_is); (case a17 => k_is); (case l17 => k_is)
    (case c17 => k_is); (case k17 => k_is); (case a18 => k_is); (case l18 => k_is); (case c18 => k_is); (case k18 => k_is)
    (case a19 => k_is); (case l19 => k_is); (case c19 => k_is); (case k19 => k_is); (case a20 => k_is); (case l20 => k_is)
    (case c20 => k_is); (case k20 => k_is); (case a21 => k_is); (case l21 => k_is); (case c21 => k_is); (case k21 => k_is)
    (case a22 => k_is); (case l22 => k_is); (case c22 => k_is); (case k22 => k_is); (case a23 => k_is); (case l23 => k_is)
    (case c23 => k_is); (case k23 => k_is); (case a24 => k_is); (case l24 => k_is); (case c24 => k_is); (case k24 => k_is)
    (case a25 => k_is); (case l25 => k_is); (case c25 => k_is); (case k25 => k_is); (case a26 => k_is); (case l26 => k_is)
    (case c26 => k_is); (case k26 => k_is); (case a27 => k_is); (case l27 => k_is); (case c27 => k_is); (case k27 => k_is)
    (case a28 => k_is); (case l28 => k_is); (case c28 => k_is); (case k28 => k_is); (case a29 => k_is); (case l29 => k_is)
    (case c29 => k_is); (case k29 => k_is); (case a30 => k_is); (case l30 => k_is); (case c30 => k_is); (case k30 => k_is)
    (case a31 => k_is); (case l31 => k_is); (case c31 => k_is); (case k31 => k_is); (case a32 => k_is); (case l32 => k_is)
    (case c32 => k_is); (case k32 => k_is); (case a33 => k_is); (case l33 => k_is); (case c33 => k_is); (case k33 => k_is)
    (case a34 => k_is); (case l34 => k_is); (case c34 => k_is); (case k34 => k_is); (case a35 => k_is); (case l35 => k_is)
    (case c35 => k_is); (case k35 => k_is); (case a36 => k_is); (case l36 => k_is); (case c36 => k_is); (case k36 => k_is)
    (case a37 => k_is); (case l37 => k_is); (case c37 => k_is); (case k37 => k_is); (case a38 => k_is); (case l38 => k_is)
    (case c38 => k_is); (case k38 => k_is); (case a39 => k_is); (case l39 => k_is); (case c39 => k_is); (case k39 => k_is)
    (case a40 => k_is); (case l40 => k_is); (case c40 => k_is); (case k40 => k_is); (case a41 => k_is); (case l41 => k_is)
    (case c41 => k_is); (case k41 => k_is); (case a42 => k_is); (case l42 => k_is); (case c42 => k_is); (case k42 => k_is)
    (case a43 => k_is); (case l43 => k_is); (case c43 => k_is); (case k43 => k_is); (case a44 => k_is); (case l44 => k_is)
    (case c44 => k_is); (case k44 => k_is); (case a45 => k_is); (case l45 => k_is); (case c45 => k_is); (case k45 => k_is)
    (case a46 => k_is); (case l46 => k_is); (case c46 => k_is); (case k46 => k_is); (case a47 => k_is); (case l47 => k_is)
    (case c47 => k_is); (case k47 => k_is); (case a48 => k_is); (case l48 => k_is); (case c48 => k_is); (case k48 => k_is)
    (case a49 => k_is); (case l49 => k_is); (case c49 => k_is); (case k49 => k_is); (case a50 => k_is); (case l50 => k_is)
    (case c50 => k_is); (case k50 => k_is); (case a51 => k_is); (case l51 => k_is); (case c51 => k_is); (case k51 => k_is)
    (case z1 => k_is); (case z2 => k_is); (case z3 => k_is); (case z4 => k_is); (case z5 => k_is); (case z6 => k_is)
    (case z7 => k_is); (case z8 => k_is); (case z9 => k_is); (case z10 => k_is); (case v1 => k_is); (case v2 => k_is)
    (case v3 => k_is); (case v4 => k_is); (case xa1 => first | k_is | rfl | decide +kernel); (case xb1 => first | k_is | rfl | decide +kernel); (case xc1 => first | k_is | rfl | decide +kernel); (case xd1 => first | k_is | rfl | decide +kernel)
    (case xe1 => first | k_is | rfl | decide +kernel); (case xf1 => first | k_is | rfl | decide +kernel); (case xg1 => first | k_is | rfl | decide +kernel); (case xh1 => first | k_is | rfl | decide +kernel); (case xi1 => first | k_is | rfl | decide +kernel); (case xj1 => first | k_is | rfl | decide +kernel)
    (case xk1 => first | k_is | rfl | decide +kernel); (case xl1 => first | k_is | rfl | decide +kernel); (case xw1 => first | k_is | rfl | decide +kernel); (case xx1 => first | k_is | rfl | decide +kernel); (case xo1 => first | k_is | rfl | decide +kernel); (case xp1 => first | k_is | rfl | decide +kernel)
    (case xq1 => first | k_is | rfl | decide +kernel); (case xr1 => first | k_is | rfl | decide +kernel); (case xs1 => first | k_is | rfl | decide +kernel); (case xt1 => first | k_is | rfl | decide +kernel); (case xu1 => first | k_is | rfl | decide +kernel); (case xv1 => first | k_is | rfl | decide +kernel)
    (case xy1 => first | k_is | rfl | decide +kernel); (case xz1 => first | k_is | rfl | decide +kernel); (case xa2 => first | k_is | rfl | decide +kernel); (case xb2 => first | k_is | rfl | decide +kernel); (case xc2 => first | k_is | rfl | decide +kernel); (case xd2 => first | k_is | rfl | decide +kernel)
    (case xe2 => first | k_is | rfl | decide +kernel); (case xf2 => first | k_is | rfl | decide +kernel); (case xg2 => first | k_is | rfl | decide +kernel); (case xh2 => first | k_is | rfl | decide +kernel); (case xi2 => first | k_is | rfl | decide +kernel); (case xj2 => first | k_is | rfl | decide +kernel)
    (case xk2 => first | k_is | rfl | decide +kernel); (case xl2 => first | k_is | rfl | decide +kernel); (case xw2 => first | k_is | rfl | decide +kernel); (case xx2 => first | k_is | rfl | decide +kernel); (case xo2 => first | k_is | rfl | decide +kernel); (case xp2 => first | k_is | rfl | decide +kernel)
    (case xq2 => first | k_is | rfl | decide +kernel); (case xr2 => first | k_is | rfl | decide +kernel); (case xs2 => first | k_is | rfl | decide +kernel); (case xt2 => first | k_is | rfl | decide +kernel); (case xu2 => first | k_is | rfl | decide +kernel); (case xv2 => first | k_is | rfl | decide +kernel)
    (case xy2 => first | k_is | rfl | decide +kernel); (case xz2 => first | k_is | rfl | decide +kernel); (case xa3 => first | k_is | rfl | decide +kernel); (case xb3 => first | k_is | rfl | decide +kernel); (case xc3 => first | k_is | rfl | decide +kernel); (case xd3 => first | k_is | rfl | decide +kernel)
    (case xe3 => first | k_is | rfl | decide +kernel); (case xf3 => first | k_is | rfl | decide +kernel); (case xg3 => first | k_is | rfl | decide +kernel); (case xh3 => first | k_is | rfl | decide +kernel); (case xi3 => first | k_is | rfl | decide +kernel); (case xj3 => first | k_is | rfl | decide +kernel)
    (case xk3 => first | k_is | rfl | decide +kernel); (case xl3 => first | k_is | rfl | decide +kernel); (case xw3 => first | k_is | rfl | decide +kernel); (case xx3 => first | k_is | rfl | decide +kernel); (case xo3 => first | k_is | rfl | decide +kernel); (case xp3 => first | k_is | rfl | decide +kernel)
    (case xq3 => first | k_is | rfl | decide +kernel); (case xr3 => first | k_is | rfl | decide +kernel); (case xs3 => first | k_is | rfl | decide +kernel); (case xt3 => first | k_is | rfl | decide +kernel); (case xu3 => first | k_is | rfl | decide +kernel); (case xv3 => first | k_is | rfl | decide +kernel)
    (case xy3 => first | k_is | rfl | decide +kernel); (case xz3 => first | k_is | rfl | decide +kernel); (case xa4 => first | k_is | rfl | decide +kernel); (case xb4 => first | k_is | rfl | decide +kernel); (case xc4 => first | k_is | rfl | decide +kernel); (case xd4 => first | k_is | rfl | decide +kernel)
    (case xe4 => first | k_is | rfl | decide +kernel); (case xf4 => first | k_is | rfl | decide +kernel); (case xg4 => first | k_is | rfl | decide +kernel); (case xh4 => first | k_is | rfl | decide +kernel); (case xi4 => first | k_is | rfl | decide +kernel); (case xj4 => first | k_is | rfl | decide +kernel)
    (case xk4 => first | k_is | rfl | decide +kernel); (case xl4 => first | k_is | rfl | decide +kernel); (case xw4 => first | k_is | rfl | decide +kernel); (case xx4 => first | k_is | rfl | decide +kernel); (case xo4 => first | k_is | rfl | decide +kernel); (case xp4 => first | k_is | rfl | decide +kernel)
    (case xq4 => first | k_is | rfl | decide +kernel); (case xr4 => first | k_is | rfl | decide +kernel); (case xs4 => first | k_is | rfl | decide +kernel); (case xt4 => first | k_is | rfl | decide +kernel); (case xu4 => first | k_is | rfl | decide +kernel); (case xv4 => first | k_is | rfl | decide +kernel)
    (case xy4 => first | k_is | rfl | decide +kernel); (case xz4 => first | k_is | rfl | decide +kernel); (case xa5 => first | k_is | rfl | decide +kernel); (case xb5 => first | k_is | rfl | decide +kernel); (case xc5 => first | k_is | rfl | decide +kernel); (case xd5 => first | k_is | rfl | decide +kernel)
    (case xe5 => first | k_is | rfl | decide +kernel); (case xf5 => first | k_is | rfl | decide +kernel); (case xg5 => first | k_is | rfl | decide +kernel); (case xh5 => first | k_is | rfl | decide +kernel); (case xi5 => first | k_is | rfl | decide +kernel); (case xj5 => first | k_is | rfl | decide +kernel)
    (case xk5 => first | k_is | rfl | decide +kernel); (case xl5 => first | k_is | rfl | decide +kernel); (case xw5 => first | k_is | rfl | decide +kernel); (case xx5 => first | k_is | rfl | decide +kernel); (case xo5 => first | k_is | rfl | decide +kernel); (case xp5 => first | k_is | rfl | decide +kernel)
    (case xq5 => first | k_is | rfl | decide +kernel); (case xr5 => first | k_is | rfl | decide +kernel); (case xs5 => first | k_is | rfl | decide +kernel); (case xt5 => first | k_is | rfl | decide +kernel); (case xu5 => first | k_is | rfl | decide +kernel); (case xv5 => first | k_is | rfl | decide +kernel)
    (case xy5 => first | k_is | rfl | decide +kernel); (case xz5 => first | k_is | rfl | decide +kernel); (case xa6 => first | k_is | rfl | decide +kernel); (case xb6 => first | k_is | rfl | decide +kernel); (case xc6 => first | k_is | rfl | decide +kernel); (case xd6 => first | k_is | rfl | decide +kernel)
    (case xe6 => first | k_is | rfl | decide +kernel); (case xf6 => first | k_is | rfl | decide +kernel); (case xg6 => first | k_is | rfl | decide +kernel); (case xh6 => first | k_is | rfl | decide +kernel); (case xi6 => first | k_is | rfl | decide +kernel); (case xj6 => first | k_is | rfl | decide +kernel)
    (case xk6 => first | k_is | rfl | decide +kernel); (case xl6 => first | k_is | rfl | decide +kernel); (case xw6 => first | k_is | rfl | decide +kernel); (case xx6 => first | k_is | rfl | decide +kernel); (case xo6 => first | k_is | rfl | decide +kernel); (case xp6 => first | k_is | rfl | decide +kernel)
    (case xq6 => first | k_is | rfl | decide +kernel); (case xr6 => first | k_is | rfl | decide +kernel); (case xs6 => first | k_is | rfl | decide +kernel); (case xt6 => first | k_is | rfl | decide +kernel); (case xu6 => first | k_is | rfl | decide +kernel); (case xv6 => first | k_is | rfl | decide +kernel)
    (case xy6 => first | k_is | rfl | decide +kernel); (case xz6 => first | k_is | rfl | decide +kernel); (case xa7 => first | k_is | rfl | decide +kernel); (case xb7 => first | k_is | rfl | decide +kernel); (case xc7 => first | k_is | rfl | decide +kernel); (case xd7 => first | k_is | rfl | decide +kernel)
    (case xe7 => first | k_is | rfl | decide +kernel); (case xf7 => first | k_is | rfl | decide +kernel); (case xg7 => first | k_is | rfl | decide +kernel); (case xh7 => first | k_is | rfl | decide +kernel); (case xi7 => first | k_is | rfl | decide +kernel); (case xj7 => first | k_is | rfl | decide +kernel)
    (case xk7 => first | k_is | rfl | decide +kernel); (case xl7 => first | k_is | rfl | decide +kernel); (case xw7 => first | k_is | rfl | decide +kernel); (case xx7 => first | k_is | rfl | decide +kernel); (case xo7 => first | k_is | rfl | decide +kernel); (case xp7 => first | k_is | rfl | decide +kernel)
    (case xq7 => first | k_is | rfl | decide +kernel); (case xr7 => first | k_is | rfl | decide +kernel); (case xs7 => first | k_is | rfl | decide +kernel); (case xt7 => first | k_is | rfl | decide +kernel); (case xu7 => first | k_is | rfl | decide +kernel); (case xv7 => first | k_is | rfl | decide +kernel)
    (case xy7 => first | k_is | rfl | decide +kernel); (case xz7 => first | k_is | rfl | decide +kernel); (case xa8 => first | k_is | rfl | decide +kernel); (case xb8 => first | k_is | rfl | decide +kernel); (case xc8 => first | k_is | rfl | decide +kernel); (case xd8 => first | k_is | rfl | decide +kernel)
    (case xe8 => first | k_is | rfl | decide +kernel); (case xf8 => first | k_is | rfl | decide +kernel); (case xg8 => first | k_is | rfl | decide +kernel); (case xh8 => first | k_is | rfl | decide +kernel); (case xi8 => first | k_is | rfl | decide +kernel); (case xj8 => first | k_is | rfl | decide +kernel)
    (case xk8 => first | k_is | rfl | decide +kernel); (case xl8 => first | k_is | rfl | decide +kernel); (case xw8 => first | k_is | rfl | decide +kernel); (case xx8 => first | k_is | rfl | decide +kernel); (case xo8 => first | k_is | rfl | decide +kernel); (case xp8 => first | k_is | rfl | decide +kernel)
    (case xq8 => first | k_is | rfl | decide +kernel); (case xr8 => first | k_is | rfl | decide +kernel); (case xs8 => first | k_is | rfl | decide +kernel); (case xt8 => first | k_is | rfl | decide +kernel); (case xu8 => first | k_is | rfl | decide +kernel); (case xv8 => first | k_is | rfl | decide +kernel)
    (case xy8 => first | k_is | rfl | decide +kernel); (case xz8 => first | k_is | rfl | decide +kernel); (case xa9 => first | k_is | rfl | decide +kernel); (case xb9 => first | k_is | rfl | decide +kernel); (case xc9 => first | k_is | rfl | decide +kernel); (case xd9 => first | k_is | rfl | decide +kernel)
    (case xe9 => first | k_is | rfl | decide +kernel); (case xf9 => first | k_is | rfl | decide +kernel); (case xg9 => first | k_is | rfl | decide +kernel); (case xh9 => first | k_is | rfl | decide +kernel); (case xi9 => first | k_is | rfl | decide +kernel); (case xj9 => first | k_is | rfl | decide +kernel)
    (case xk9 => first | k_is | rfl | decide +kernel); (case xl9 => first | k_is | rfl | decide +kernel); (case xw9 => first | k_is | rfl | decide +kernel); (case xx9 => first | k_is | rfl | decide +kernel); (case xo9 => first | k_is | rfl | decide +kernel); (case xp9 => first | k_is | rfl | decide +kernel)
    (case xq9 => first | k_is | rfl | decide +kernel); (case xr9 => first | k_is | rfl | decide +kernel); (case xs9 => first | k_is | rfl | decide +kernel); (case xt9 => first | k_is | rfl | decide +kernel); (case xu9 => first | k_is | rfl | decide +kernel); (case xv9 => first | k_is | rfl | decide +kernel)
    (case xy9 => first | k_is | rfl | decide +kernel); (case xz9 => first | k_is | rfl | decide +kernel); (case xa10 => first | k_is | rfl | decide +kernel); (case xb10 => first | k_is | rfl | decide +kernel); (case xc10 => first | k_is | rfl | decide +kernel); (case xd10 => first | k_is | rfl | decide +kernel)
    (case xe10 => first | k_is | rfl | decide +kernel); (case xf10 => first | k_is | rfl | decide +kernel); (case xg10 => first | k_is | rfl | decide +kernel); (case xh10 => first | k_is | rfl | decide +kernel); (case xi10 => first | k_is | rfl | decide +kernel); (case xj10 => first | k_is | rfl | decide +kernel)
    (case xk10 => first | k_is | rfl | decide +kernel); (case xl10 => first | k_is | rfl | decide +kernel); (case xw10 => first | k_is | rfl | decide +kernel); (case xx10 => first | k_is | rfl | decide +kernel); (case xo10 => first | k_is | rfl | decide +kernel); (case xp10 => first | k_is | rfl | decide +kernel)
    (case xq10 => first | k_is | rfl | decide +kernel); (case xr10 => first | k_is | rfl | decide +kernel); (case xs10 => first | k_is | rfl | decide +kernel); (case xt10 => first | k_is | rfl | decide +kernel); (case xu10 => first | k_is | rfl | decide +kernel); (case xv10 => first | k_is | rfl | decide +kernel)
    (case xy10 => first | k_is | rfl | decide +kernel); (case xz10 => first | k_is | rfl | decide +kernel); (case zsup => k_is); (case rq_a => first | k_is | rfl | decide +kernel); (case rq_b => first | k_is | rfl | decide +kernel); (case rq_c => first | k_is | rfl | decide +kernel)
    (case rq_d => first | k_is | rfl | decide +kernel); (case rq_e => first | k_is | rfl | decide +kernel); (case rq_f => first | k_is | rfl | decide +kernel); (case rq_g => first | k_is | rfl | decide +kernel); (case rq_h => first | k_is | rfl | decide +kernel); (case rq_i => first | k_is | rfl | decide +kernel)
    (case rq_n1 => first | k_is | rfl | decide +kernel); (case rq_n2 => first | k_is | rfl | decide +kernel); (case rq_n3 => first | k_is | rfl | decide +kernel); (case rq_n4 => first | k_is | rfl | decide +kernel); (case rq_n5 => first | k_is | rfl | decide +kernel); (case rq_n6 => first | k_is | rfl | decide +kernel)
    (case rq_n7 => first | k_is | rfl | decide +kernel); (case rq_d1 => first | k_is | rfl | decide +kernel); (case rq_d2 => first | k_is | rfl | decide +kernel); (case rq_d3 => first | k_is | rfl | decide +kernel); (case rq_d4 => first | k_is | rfl | decide +kernel); (case rq_d5 => first | k_is | rfl | decide +kernel)
    (case rq_d6 => first | k_is | rfl | decide +kernel); (case rq_d7 => first | k_is | rfl | decide +kernel); (case rq_j => first | k_is | rfl | decide +kernel); (case rq_k => first | k_is | rfl | decide +kernel); (case rq_l => first | k_is | rfl | decide +kernel); (case rq_m => first | k_is | rfl | decide +kernel)
    (case rq_noNoneType => first | k_is | rfl | decide +kernel); (case rq_nobool => first | k_is | rfl | decide +kernel); (case rq_noint => first | k_is | rfl | decide +kernel); (case rq_nostr => first | k_is | rfl | decide +kernel); (case rq_nolist => first | k_is | rfl | decide +kernel); (case rq_notuple => first | k_is | rfl | decide +kernel)
    (case rq_nodict => first | k_is | rfl | decide +kernel); (case rq_si => first | k_is | rfl | decide +kernel); (case rq_stbool => first | k_is | rfl | decide +kernel); (case rq_stint => first | k_is | rfl | decide +kernel); (case rq_ststr => first | k_is | rfl | decide +kernel); (case rq_stlist => first | k_is | rfl | decide +kernel)
    (case rq_sttuple => first | k_is | rfl | decide +kernel); (case rq_fi => first | k_is | rfl | decide +kernel); (case rq_fc => first | k_is | rfl | decide +kernel); (case rq_fk => first | k_is | rfl | decide +kernel); (case rq_ft => first | k_is | rfl | decide +kernel); (case rq_gc => first | k_is | rfl | decide +kernel)
    (case rq_oeq1 => first | k_is | rfl | decide +kernel); (case rq_oeq2 => first | k_is | rfl | decide +kernel); (case rq_oeq3 => first | k_is | rfl | decide +kernel); (case rq_oeq4 => first | k_is | rfl | decide +kernel); (case rq_oeq5 => first | k_is | rfl | decide +kernel); (case rq_one => first | k_is | rfl | decide +kernel)
    (case xca_1 => first | k_is | rfl | decide +kernel); (case xob_1 => first | k_is | rfl | decide +kernel); (case xca_2 => first | k_is | rfl | decide +kernel); (case xob_2 => first | k_is | rfl | decide +kernel); (case xca_4 => first | k_is | rfl | decide +kernel); (case xob_4 => first | k_is | rfl | decide +kernel)
    (case xca_5 => first | k_is | rfl | decide +kernel); (case xob_5 => first | k_is | rfl | decide +kernel); (case xca_7 => first | k_is | rfl | decide +kernel); (case xob_7 => first | k_is | rfl | decide +kernel); (case xisg1 => first | k_is | rfl | decide +kernel); (case xisg2 => first | k_is | rfl | decide +kernel)
    (case xq_1_4 => first | k_is | rfl | decide +kernel); (case xq_1_6 => first | k_is | rfl | decide +kernel); (case xq_1_7 => first | k_is | rfl | decide +kernel); (case xq_1_1 => first | k_is | rfl | decide +kernel); (case xq_1_5 => first | k_is | rfl | decide +kernel); (case xq_1_9 => first | k_is | rfl | decide +kernel)
    (case xq_1_8 => first | k_is | rfl | decide +kernel); (case xq_1_2 => first | k_is | rfl | decide +kernel); (case xq_1_10 => first | k_is | rfl | decide +kernel); (case xq_1_3 => first | k_is | rfl | decide +kernel); (case xy_1_4 => first | k_is | rfl | decide +kernel); (case xy_1_6 => first | k_is | rfl | decide +kernel)
    (case xy_1_7 => first | k_is | rfl | decide +kernel); (case xy_1_1 => first | k_is | rfl | decide +kernel); (case xy_1_5 => first | k_is | rfl | decide +kernel); (case xy_1_9 => first | k_is | rfl | decide +kernel); (case xy_1_8 => first | k_is | rfl | decide +kernel); (case xy_1_2 => first | k_is | rfl | decide +kernel)
    (case xy_1_3 => first | k_is | rfl | decide +kernel); (case xq_2_4 => first | k_is | rfl | decide +kernel); (case xq_2_6 => first | k_is | rfl | decide +kernel); (case xq_2_7 => first | k_is | rfl | decide +kernel); (case xq_2_1 => first | k_is | rfl | decide +kernel); (case xq_2_5 => first | k_is | rfl | decide +kernel)
    (case xq_2_9 => first | k_is | rfl | decide +kernel); (case xq_2_8 => first | k_is | rfl | decide +kernel); (case xq_2_2 => first | k_is | rfl | decide +kernel); (case xq_2_10 => first | k_is | rfl | decide +kernel); (case xq_2_3 => first | k_is | rfl | decide +kernel); (case xy_2_4 => first | k_is | rfl | decide +kernel)
    (case xy_2_6 => first | k_is | rfl | decide +kernel); (case xy_2_7 => first | k_is | rfl | decide +kernel); (case xy_2_1 => first | k_is | rfl | decide +kernel); (case xy_2_5 => first | k_is | rfl | decide +kernel); (case xy_2_9 => first | k_is | rfl | decide +kernel); (case xy_2_8 => first | k_is | rfl | decide +kernel)
    (case xy_2_2 => first | k_is | rfl | decide +kernel); (case xy_2_3 => first | k_is | rfl | decide +kernel); (case xq_4_4 => first | k_is | rfl | decide +kernel); (case xq_4_6 => first | k_is | rfl | decide +kernel); (case xq_4_7 => first | k_is | rfl | decide +kernel); (case xq_4_1 => first | k_is | rfl | decide +kernel)
    (case xq_4_5 => first | k_is | rfl | decide +kernel); (case xq_4_9 => first | k_is | rfl | decide +kernel); (case xq_4_8 => first | k_is | rfl | decide +kernel); (case xq_4_2 => first | k_is | rfl | decide +kernel); (case xq_4_10 => first | k_is | rfl | decide +kernel); (case xq_4_3 => first | k_is | rfl | decide +kernel)
    (case xy_4_4 => first | k_is | rfl | decide +kernel); (case xy_4_6 => first | k_is | rfl | decide +kernel); (case xy_4_7 => first | k_is | rfl | decide +kernel); (case xy_4_1 => first | k_is | rfl | decide +kernel); (case xy_4_5 => first | k_is | rfl | decide +kernel); (case xy_4_9 => first | k_is | rfl | decide +kernel)
    (case xy_4_8 => first | k_is | rfl | decide +kernel); (case xy_4_2 => first | k_is | rfl | decide +kernel); (case xy_4_3 => first | k_is | rfl | decide +kernel); (case xq_5_4 => first | k_is | rfl | decide +kernel); (case xq_5_6 => first | k_is | rfl | decide +kernel); (case xq_5_7 => first | k_is | rfl | decide +kernel)
    (case xq_5_1 => first | k_is | rfl | decide +kernel); (case xq_5_5 => first | k_is | rfl | decide +kernel); (case xq_5_9 => first | k_is | rfl | decide +kernel); (case xq_5_8 => first | k_is | rfl | decide +kernel); (case xq_5_2 => first | k_is | rfl | decide +kernel); (case xq_5_10 => first | k_is | rfl | decide +kernel)
    (case xq_5_3 => first | k_is | rfl | decide +kernel); (case xy_5_4 => first | k_is | rfl | decide +kernel); (case xy_5_6 => first | k_is | rfl | decide +kernel); (case xy_5_7 => first | k_is | rfl | decide +kernel); (case xy_5_1 => first | k_is | rfl | decide +kernel); (case xy_5_5 => first | k_is | rfl | decide +kernel)
    (case xy_5_9 => first | k_is | rfl | decide +kernel); (case xy_5_8 => first | k_is | rfl | decide +kernel); (case xy_5_2 => first | k_is | rfl | decide +kernel); (case xy_5_3 => first | k_is | rfl | decide +kernel); (case xq_7_4 => first | k_is | rfl | decide +kernel); (case xq_7_6 => first | k_is | rfl | decide +kernel)
    (case xq_7_7 => first | k_is | rfl | decide +kernel); (case xq_7_1 => first | k_is | rfl | decide +kernel); (case xq_7_5 => first | k_is | rfl | decide +kernel); (case xq_7_9 => first | k_is | rfl | decide +kernel); (case xq_7_8 => first | k_is | rfl | decide +kernel); (case xq_7_2 => first | k_is | rfl | decide +kernel)
    (case xq_7_10 => first | k_is | rfl | decide +kernel); (case xq_7_3 => first | k_is | rfl | decide +kernel); (case xy_7_4 => first | k_is | rfl | decide +kernel); (case xy_7_6 => first | k_is | rfl | decide +kernel); (case xy_7_7 => first | k_is | rfl | decide +kernel); (case xy_7_1 => first | k_is | rfl | decide +kernel)
    (case xy_7_5 => first | k_is | rfl | decide +kernel); (case xy_7_9 => first | k_is | rfl | decide +kernel); (case xy_7_8 => first | k_is | rfl | decide +kernel); (case xy_7_2 => first | k_is | rfl | decide +kernel); (case xy_7_3 => first | k_is | rfl | decide +kernel)
    (case tbk48 => rfl); (first | ((case tbt48 => exact Bf.qT_tabs Y _ List.mem_cons_self); (case tbc48 => rfl)) | ((case tbt48 => exact Bf.qT_tabs Y _ (List.mem_cons_of_mem _ List.mem_cons_self)); (case tbc48 => rfl)) | ((case tbt48 => exact Bf.qT_tabs Y _ (List.mem_cons_of_mem _ (List.mem_cons_of_mem _ List.mem_cons_self))); (case tbc48 => rfl))); (case tbn48 => first | rfl | decide +kernel)
    (case tbk49 => rfl); (first | ((case tbt49 => exact Bf.qT_tabs Y _ (List.mem_cons_of_mem _ List.mem_cons_self)); (case tbc49 => rfl)) | ((case tbt49 => exact Bf.qT_tabs Y _ List.mem_cons_self); (case tbc49 => rfl)) | ((case tbt49 => exact Bf.qT_tabs Y _ (List.mem_cons_of_mem _ (List.mem_cons_of_mem _ List.mem_cons_self))); (case tbc49 => rfl))); (case tbn49 => first | rfl | decide +kernel)
    (case tbk50 => rfl); (first | ((case tbt50 => exact Bf.qT_tabs Y _ (List.mem_cons_of_mem _ (List.mem_cons_of_mem _ List.mem_cons_self))); (case tbc50 => rfl)) | ((case tbt50 => exact Bf.qT_tabs Y _ List.mem_cons_self); (case tbc50 => rfl)) | ((case tbt50 => exact Bf.qT_tabs Y _ (List.mem_cons_of_mem _ List.mem_cons_self)); (case tbc50 => rfl))); (case tbn50 => first | rfl | decide +kernel)
    (case tbd_48_49 => first | decide | decide +kernel | (intro z; cases z))
    (case tbd_48_50 => first | decide | decide +kernel | (intro z; cases z))
    (case tbd_49_50 => first | decide | decide +kernel | (intro z; cases z))
