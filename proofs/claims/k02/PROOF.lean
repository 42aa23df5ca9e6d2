import PyProof.Rows.All
import Wide.All
import OpenK.AllK
import Wide.FinOn
import KE.KExcSuper
import HandS.Exc
import HandS.ForSpec
import HandS.ForMost
import HandS.ForExc
import HandS.Star
import HandS.IsInst
import HandS.TupAny
import HandS.Style
import KE.KDictKeyed
import KE.KDictLaw
import HandS.Wide
import HandS.RaiseMore
import HandS.Lambda
import HandS.Zip
import HandS.TupMul
import HandS.Property
import HandS.Gcd
import HandS.Defaults
import PyProof.NeKinds
import HandS.Walk
import HandS.Iter
import PyProof.Draws
import HandS.TryOnly
import HandS.ClsMeth
import HandS.RaiseFrom
import HandS.SuiteRaise
import PyProof.CompFree
import HandS.OwnEq
import KE.KCallOwn
import HandS.Text
import HandS.StrMore
import HandS.FStr
import PyProof.StrOps2
import KE.KExcInit
import HandS.TryMany
import KE.KExcIs
import HandS.TupLen
import KE.KDictPairs
import KE.KRevSl
import PyProof.P3In
import HandS.EndTab
import HandS.LawCells
import KE.KDictDisplayH
import HandS.Conv
import HandS.TupLe
import HandS.DictComp
import HandS.Records
import HandS.NoneIn
import HandS.Codes
import HandS.MakeKw
import KE.KNestM
import PySem.Challenge.RW_beamframes_k02_whole_ratios
set_option Elab.async false
set_option linter.all false
set_option maxRecDepth 100000
set_option maxHeartbeats 4000000
namespace Bf
open PySem PySem.Spec PySem.W PySem.Calls PyProof.Rows PySem.HandSPX
/-! ## Own errors: super().__init__('..'); self.f = v -/
def xA (f : Str) (p1 p2 : Pos) : Arguments := { posonlyargs := [], args := [{ arg := "self", annotation := none, pos := p1 }, { arg := f, annotation := none, pos := p2 }], vararg := none, kwonlyargs := [], kw_defaults := [], kwarg := none, defaults := [] }
def xB (f t : Str) (q : Nat → Pos) : List Stmt := [.Expr (.Call (.Attribute (.Call (.Name "super" (q 1)) [] [] (q 2)) "__init__" (q 3)) [.Constant (.str t) 0 (q 4)] [] (q 5)) (q 6), .Assign [.Attribute (.Name "self" (q 7)) f (q 8)] (.Name f (q 9)) (q 10)]
def xS (f : Str) : Scope := { kind := .function, names := [("self", .local), (f, .local), ("__class__", .free), ("super", .globalImplicit)], isGenerator := false, isCoroutine := false, more := [] }
/-- where the call stands in the file plays no part -/
def xCall (t : Str) (q : Nat → Pos) : Prop := ∀ env : Env, ∃ pl : Sem Bool, eval (.Call (.Attribute (.Call (.Name "super" (q 1)) [] [] (q 2)) "__init__" (q 3)) [.Constant (.str t) 0 (q 4)] [] (q 5)) env = (do
  let ov ← attributeBase (.Call (.Name "super" (q 1)) [] [] (q 2)) "__init__" env (eval (.Call (.Name "super" (q 1)) [] [] (q 2)) env)
  standAt (q 3).atName
  let (f, first) ← holding [ov] (getMethod ov "__init__" pl)
  callWith (q 5) f first (backTo (q 5) (starEach [.Constant (.str t) 0 (q 4)] env)) [])
structure BadTxt (prog : Program) (K : Frag) (f : Str) (C fI : Addr) : Prop where
  cls : ∃ nm q N bs bm sn sub ab col dd k0 k1 k2 k3 k5, K.lookup C = some (excClassObj nm q C N bs bm true sn sub ab col dd k0 k1 k2 k3 k5 "ValueError.__new__") ∧ refsVE bm = true
  sa : findIn K (.ref C) "__setattr__" = some (some (.builtin "object.__setattr__"))
  noN : findIn K (.ref C) f = some none
  iC : findIn K (.ref C) "__init__" = some (some (.ref fI))
  tC : typeIn K (.ref fI) = some (.type "function")
  sup : ks_superIn K C C "__init__" = some (some (.builtin "ValueError.__init__"))
  sub : subIn K (.ref C) (.type "ValueError") = some true
  self : mroIn K C (.ref C) = some true
  st : nsIn K cStatics "thirdparty.any" = some none
  fn : ∃ (oc ccl cl : Value) (od cdd cld : Option Addr) (doc pm ct : Value) (an : Option Addr) (osl ccs csl : Array (Option Value)) (qual t : Str) (p1 p2 : Pos) (q : Nat → Pos) (cc cda : Addr) (vs : Array Value) (file : Str) (tf : Tok),
    K.lookup fI = some ⟨oc, od, .func (fnX "__init__" qual (xA f p1 p2) (xB f t q) (xS f) [("__class__", cc)] .none .none doc pm an (.ref cda) ct), osl⟩ ∧ codeIn K (.ref cda) qual = true ∧ K.lookup cc = some ⟨cl, cld, .cell (some (.ref C)), csl⟩ ∧
    K.lookup cda = some ⟨ccl, cdd, .fields vs, ccs⟩ ∧ vs[2]? = some (.str file tf) ∧ ((prog.main.file : Str) == file) = true ∧ xCall t q ∧
    ∀ (s : Shared) (a b : Value), BindsTo s (fnX "__init__" qual (xA f p1 p2) (xB f t q) (xS f) [("__class__", cc)] .none .none doc pm an (.ref cda) ct) ⟨[a, b], []⟩ [(("self" : Str), a), (f, b)]
structure BadEnd (h h' : Heap) (f : Str) (x C dx t1 : Addr) (v : Value) : Prop where
  keep : ∀ b o, b ≠ x → h.get? b = some o → h'.get? b = some o
  obj : h'.get? x = some { cls := .ref C, dict := some dx, data := .fields #[.ref t1, .none, .none, .none, .bool false, .none] }
  dbig : h.objs.size ≤ dx
  dne : dx ≠ x
  ns : h'.Ns1 dx (fun y => if y = f then some v else none)
section
variable {prog : Program} {w : World} {A : Around} {E : Value → Shared → Prop} {R : Result → Shared → Prop} {s : Shared} {K : Frag} {mg mb : Str → Option Value} {C fI : Addr} {f : Str}
theorem bad_init (T : BadTxt prog K f C fI) {x t0 : Addr} {v : Value} (X : K.In s.heap) (hlim : s.heap.NoLimit) (hg : s.heap.Ns mainGlobals mg) (hb : s.heap.Ns builtinsNs mb) (hms : mg "super" = none) (hbs : mb "super" = some (.type "super"))
    (htop : (prog.main.scope.names.lookup ("super" : Str)).isSome = false) (hfn : f ≠ "self" ∧ f ≠ "super" ∧ f ≠ "__class__" ∧ f ≠ "__debug__") (hx : s.heap.get? x = some (excO C t0)) (hnx : K.lookup x = none) (hroom : A.depth < recursionLimit)
    (hq : ∀ h' tk dx t1, BadEnd s.heap h' f x C dx t1 v → R (.ok (.ret .none)) { s with heap := h', toks := tk }) :
    codeAny (model prog w) A (.call (.ref fI) ⟨[.ref x, v], []⟩) R s := by
  obtain ⟨oc, ccl, cl, od, cdd, cld, doc, pm, ct, an, osl, ccs, csl, qual, t, p1, p2, q, cc, cda, vs, file, tf, ho, hcd, hcell, hcode, hvs, hfile, hcall, hbind⟩ := T.fn
  obtain ⟨nm, qn, N, bs, bm, sn, sub, ab, col, dd, k0, k1, k2, k3, k5, hC, hbm⟩ := T.cls
  have hcl : clsIn K C = some { name := nm, bases := bs, mro := .ref C :: bm, ns := N, qualname := qn, hasDict := true, slotNames := sn, subclasses := sub, abstract := ab, collection := col, hasDel := false } := by unfold clsIn; rw [hC] <;> rfl
  obtain ⟨n1, n2, n3, n4⟩ := hfn
  have l1 : (xS f).names.lookup ("self" : Str) = some .local := by simp [xS, List.lookup]
  have l2 : (xS f).names.lookup f = some .local := by
    have : (f == ("self" : Str)) = false := by simpa using n1
    simp [xS, List.lookup, this]
  have l3 : (xS f).names.lookup ("__class__" : Str) = some .free := by
    have e1 : (("__class__" : Str) == f) = false := by simpa using n3.symm
    have e2 : (("__class__" : Str) == "self") = false := by decide
    simp [xS, List.lookup, e1, e2]
  have l4 : (xS f).names.lookup ("super" : Str) = some .globalImplicit := by
    have e1 : (("super" : Str) == f) = false := by simpa using n2.symm
    have e2 : (("super" : Str) == "self") = false := by decide
    have e3 : (("super" : Str) == "__class__") = false := by decide
    simp [xS, List.lookup, e1, e2, e3]
  refine ks_codeAny_call_defAt (fd := fnX "__init__" qual (xA f p1 p2) (xB f t q) (xS f) [("__class__", cc)] .none .none doc pm an (.ref cda) ct) (body := xB f t q) (binds := [(("self" : Str), .ref x), (f, v)]) hroom (X _ _ ho) rfl hlim (codeRec_of X hcd) rfl (hbind _ _ _) (by simp [xS]) (by simp [l1, l2]) (fun h₁ hns k => ?_) rfl rfl rfl
  have X₁ : K.In h₁ := X.keeps k
  have hx₁ := k _ _ hx
  have hC₁ := X₁ _ _ hC
  have m1 : (fun y => List.lookup y [(("self" : Str), Value.ref x), (f, v)].reverse) "self" = some (.ref x) := by
    have : (("self" : Str) == f) = false := by simpa using n1.symm
    simp [List.lookup, this]
  have m2 : (fun y => List.lookup y [(("self" : Str), Value.ref x), (f, v)].reverse) f = some v := by simp [List.lookup]
  have hxL : s.heap.objs.size ≠ x := Nat.ne_of_gt (Heap.lt_size hx)
  -- super()
  obtain ⟨pl, he⟩ := hcall (callEnv (fnX "__init__" qual (xA f p1 p2) (xB f t q) (xS f) [("__class__", cc)] .none .none doc pm an (.ref cda) ct) s.heap.objs.size fI)
  refine ks_wpAt_execs_cons (ks_wpAt_Expr_any (ks_wpAt_MethodCall ?_ he))
  refine ks_wpAt_super_base (f := fI) (cc := cda) (ar := { arg := "self", annotation := none, pos := p1 }) l4 l3 (by decide) rfl (X₁ _ _ ho) rfl rfl rfl (X₁ _ _ hcode) rfl hvs hfile htop ?_
  refine ks_loadName_global rfl l4 (loadGlobal_builtin (hg.keeps k) hms (hb.keeps k) hbs ⟨rfl, ?_⟩)
  refine wpAny_loadName_free rfl l3 rfl ⟨_, X₁ _ _ hcell, rfl⟩ ?_
  refine wpAny_loadName_local rfl l1 hns m1 ?_
  refine ks_wpAny_isType_cls hC₁ rfl ⟨rfl, ?_⟩
  refine ks_wpAny_call_super hC₁ rfl hx₁ rfl (fun c e => nomatch e) (looks_mroIn X₁ T.self) (fun h₂ e k2 => ?_)
  have X₂ : K.In h₂ := X₁.keeps k2
  -- .__init__
  have hne : x ≠ C := fun z => by rw [z, hC] at hnx; cases hnx
  have hsup : alongIn K "__init__" (((Value.ref C :: bm).dropWhile (· != .ref C)).drop 1) = some (some (.builtin "ValueError.__init__")) := by
    have := T.sup
    unfold ks_superIn at this
    rw [hcl] at this
    exact this
  have I2 : InstAt h₂ x (excO C t0) C none := ⟨k2 _ _ hx₁, rfl, rfl, trivial⟩
  refine kxs_getMethod kxs_ValueError e (looks_opaque X₂ T.st) (l₀ := Value.ref C :: bm) (fun A Q E s k q => wpAny_bind ((looks_clsIn X₂ hcl) A _ E s k (wpAny_pure q))) rfl X₂ hsup (I2.type.andThen (looks_subIn X₂ T.sub)) hne (by decide) ?_
  have k3 : ∀ b o, h₂.get? b = some o → (h₂.push (kxs_mw "ValueError.__init__" x)).get? b = some o := fun b o e => Heap.get?_push_of_some _ e
  have hu : (h₂.push (kxs_mw "ValueError.__init__" x)).get? h₂.objs.size = some (kxs_mw "ValueError.__init__" x) := Heap.get?_push_at rfl rfl
  refine kxs_callWith (i := "ValueError.__init__") (x := x) rfl ?_
  refine evalArgs_plain ?_
  refine spliced_more (Calls.Constant_str (spliced_none ⟨hu, ?_⟩)) rfl
  have hx₃ : (h₂.push (kxs_mw "ValueError.__init__" x)).get? x = some (excObj C t0 none .none) := k3 _ _ (k2 _ _ hx₁)
  have hC₃ := X₂.keeps k3 _ _ hC
  refine wpAny_call (codeAny_of_tree ?_)
  show wpAny _ _ (callAny (.ref h₂.objs.size) ⟨[.str t _], []⟩) _ _ _
  simp only [callAny]
  refine wpAny_bind (wpAny_load hu ?_)
  simp only [kxs_mw, show (Value.type "method-wrapper" == Value.type "method" || Value.type "method-wrapper" == Value.type "builtin_function_or_method" || Value.type "method-wrapper" == Value.type "method-wrapper") = true by decide, if_true]
  refine KFB.if_so (by decide) ?_
  refine wpAny_bind (check_bound_init PySem.F.excBase_ValueError.toExcCallFacts hC₃ hx₃ rfl ?_)
  refine wpAny_bind (wpAny_pure (wpAny_pure ?_))
  refine ⟨plainId_quiet PySem.F.excBase_ValueError.init.plain _, codeAny_builtin PySem.F.excBase_ValueError.initEntry ?_⟩
  refine exc_init_tree (cls := .ref C) (t0 := t0) (dv := none) (c2 := .none) (c3 := .none) (b4 := .bool false) hx₃ (by rw [sizeLine_eq]; show 1 ≤ 16777216; decide) fun h₄ k4 e4 t4 => ?_
  have up : ∀ b o, b ≠ x → h₁.get? b = some o → h₄.get? b = some o := fun b o hb e => k4 _ _ hb (k3 _ _ (k2 _ _ e))
  have X₄ : K.In h₄ := fun a o e => up a o (fun z => by rw [z, hnx] at e; cases e) (X₁ a o e)
  have hns₄ := hns.at (h' := h₄) fun o e => up _ _ hxL e
  -- self.f = v
  show _root_.PySem.wpAt _ _ _ (execs _ _) _ _ _
  refine ks_wpAt_execs_cons (ks_wpAt_Assign_Attr (wpAt_of_wpAny ?_))
  refine wpAny_Name (wpAny_loadName_local rfl l2 hns₄ m2 ?_) (by simpa using n4)
  refine wpAny_Name (wpAny_loadName_local rfl l1 hns₄ m1 ?_) (by decide)
  refine set_plain X₄ (ox := excO C (h₂.push (kxs_mw "ValueError.__init__" x)).objs.size) (od := none) ⟨e4, rfl, rfl, trivial⟩ T.sa ?_
  refine exc_osa X₄ e4 hcl (show refsVE (.ref C :: bm) = true from hbm) rfl T.noN (fun h₅ tk₅ dx k₅ dn dne hx₅ hn₅ => ?_)
  show _root_.PySem.wpAt _ _ _ (execs [] _) _ _ _
  refine wpAt_of_wpAny (wpAny_execs_nil (hq h₅ tk₅ dx (h₂.push (kxs_mw "ValueError.__init__" x)).objs.size ⟨fun b o hb e => k₅ b o hb (up b o hb (k b o e)), hx₅, Nat.le_of_lt (Nat.lt_of_lt_of_le hns₄.lt dn), dne, hn₅⟩))
end
end Bf
namespace Bf
open PySem PySem.Spec PySem.W PySem.Calls PyProof.Rows PySem.HandSPX
/-- a made error: new, its dict holds its field -/
structure BadMade (h h' : Heap) (f : Str) (e C d : Addr) (v : Value) : Prop where
  keep : ∀ b o, h.get? b = some o → h'.get? b = some o
  new : h.objs.size ≤ e
  obj : ∃ t1 : Addr, h'.get? e = some { cls := .ref C, dict := some d, data := .fields #[.ref t1, .none, .none, .none, .bool false, .none] }
  dbig : h.objs.size ≤ d
  dne : d ≠ e
  ns : h'.Ns1 d (fun y => if y = f then some v else none)
section
variable {prog : Program} {w : World} {A : Around} {R : Result → Shared → Prop} {s : Shared} {K : Frag} {mg mb : Str → Option Value} {C fI : Addr} {f : Str}
theorem bad_made (T : BadTxt prog K f C fI) {v : Value} (X : K.In s.heap) (hlim : s.heap.NoLimit) (hg : s.heap.Ns mainGlobals mg) (hb : s.heap.Ns builtinsNs mb) (hms : mg "super" = none) (hbs : mb "super" = some (.type "super"))
    (htop : (prog.main.scope.names.lookup ("super" : Str)).isSome = false) (hfn : f ≠ "self" ∧ f ≠ "super" ∧ f ≠ "__class__" ∧ f ≠ "__debug__") (hroom : A.depth + 1 < recursionLimit)
    (hq : ∀ h' tk e d, BadMade s.heap h' f e C d v → R (.ok (.ret (.ref e))) { s with heap := h', toks := tk }) : codeAny (model prog w) A (.call (.ref C) ⟨[v], []⟩) R s := by
  obtain ⟨nm, qn, N, bs, bm, sn, sub, ab, col, dd, k0, k1, k2, k3, k5, hC, hbm⟩ := T.cls
  obtain ⟨hp, g, dr, tk, os⟩ := s
  have k : ∀ b o, hp.get? b = some o → ((hp.push (kdv_tup [v])).push (excO C hp.objs.size)).get? b = some o := fun b o e => Heap.get?_push_of_some _ (Heap.get?_push_of_some _ e)
  have hget : ((hp.push (kdv_tup [v])).push (excO C hp.objs.size)).get? (hp.objs.size + 1) = some (excO C hp.objs.size) := by heap_get
  have hnx : K.lookup (hp.objs.size + 1) = none := by
    cases e : K.lookup (hp.objs.size + 1) with
    | none => rfl
    | some o => exact absurd (Nat.lt_of_succ_lt (Heap.lt_size (show hp.get? (hp.objs.size + 1) = some o from X _ _ e))) (Nat.lt_irrefl _)
  refine call_own PySem.F.excBase_ValueError (fun Y => refsVE_contains Y bm hbm) (X _ _ hC) (looks_findIn X T.iC) (fun self => bind_fn X self T.tC) (by rw [sizeLine_eq]; show 1 ≤ 16777216; decide) ?_
  refine bad_init (s := ⟨(hp.push (kdv_tup [v])).push (excO C hp.objs.size), g, dr, tk, os⟩) T (X.keeps k) (hlim.keeps k) (hg.keeps k) (hb.keeps k) hms hbs htop hfn hget hnx hroom fun h' tk' dx t1 M => ?_
  have old : ∀ b o, hp.get? b = some o → h'.get? b = some o := fun b o e => M.keep b o (Nat.ne_of_lt (Nat.lt_succ_of_lt (Heap.lt_size e))) (k b o e)
  have z : hp.objs.size ≤ dx := by
    have q := M.dbig
    first
      | (rw [show (Shared.heap ⟨(hp.push (kdv_tup [v])).push (excO C hp.objs.size), g, dr, tk, os⟩) = (hp.push (kdv_tup [v])).push (excO C hp.objs.size) from rfl, Heap.size_push, Heap.size_push] at q; omega)
      | (simp only [Heap.size_push] at q; omega)
  exact ⟨rfl, hq h' tk' (hp.objs.size + 1) dx ⟨old, Nat.le_succ _, ⟨t1, M.obj⟩, z, M.dne, M.ns⟩⟩
end
end Bf
/-! Data over the hand layer: a def's body read over plain data, the heap out of sight. -/
namespace Bf
open PySem PySem.Spec PyProof.Rows L2

/-! ### A. defs that are called where no guard runs (for repr) -/
structure GOk (P : Program) (w : World) (K : PySem.W.Frag) (mg : Str → Option Value) (base : Heap) (k : Nat) (f : Addr) (fd : FuncData) (ps : List Str) (sp : Sp) : Prop where
  len : ∀ vs H Q E, sp vs H Q E → vs.length = ps.length
  go : ∀ (A : Around) (out : List Env) (s : Shared) (H : Hp) (args : Args) (us : List Value) (vs : List V) (Q : VK) (E : XK),
    Room k A → A.guards = some [] → Env0 P w K mg base A out s H → BindsTo s fd args (ps.zip us) → Vals vs us → sp vs H Q E →
    codeAny (model P w) A (.call (.ref f) args) (CR (L2.CX P w) out P w H s Q E) s
section
variable {P : Program} {w : World} {K : PySem.W.Frag} {mg : Str → Option Value} {base : Heap}
theorem GOk.up {j k : Nat} {f : Addr} {fd : FuncData} {ps : List Str} {sp : Sp} (G : GOk P w K mg base j f fd ps sp) (h : j ≤ k) : GOk P w K mg base k f fd ps sp :=
  ⟨G.len, fun A out s H args us vs Q E r => G.go A out s H args us vs Q E (r.mono h)⟩
/-- a def by its body -/
theorem okG {x qual : Str} {st : Stmt} {f : Addr} {fd : FuncData} {N ps : List Str} {k : Nat} {sp : Sp} (F : Fun K x qual st f fd) (S : FnScope N ps (defScope st)) (len : ∀ vs H Q E, sp vs H Q E → vs.length = ps.length)
    (hb : ∀ (cdv : Value) (A : Around) (out : List Env) (s : Shared) (H : Hp) (vs : List V) (Q : VK) (E : XK), Room k (A.deeper (envOfC qual (defScope st) s.heap.objs.size f cdv)) → A.guards = some [] → sp vs H Q E →
      ∃ t, PSs (cxOf (L2.CX P w) P w K mg base N qual (defScope st) f cdv A out s H E) (defBody st) t ∧ t { nx := fun _ H' => Q .non H', rt := Q } (start N vs) H) :
    GOk P w K mg base (k + 1) f fd ps sp := by
  obtain ⟨oc, od, kV, doc, pm, an, cdv, ct, osl, rfl, lk, hcd⟩ := F.ex
  refine ⟨len, fun A out s H args us vs Q E hr hgd e0 hbi r hsp => ?_⟩
  refine StX.run_bnd lk hcd S hr e0 (G := fun xs H2 => xs = vs ∧ H2 = H) (fun A' Ex Q' h => ?_) fun s2 H2 xs ⟨ex, eH⟩ hr' => ?_
  · exact hbi _ _ _ _ (h s H vs us e0 Un.refl rfl (fun _ _ z => z) r (len _ _ _ _ hsp) ⟨rfl, rfl⟩)
  · subst ex eH
    exact hb cdv A out s2 _ _ Q E hr' hgd hsp
end
/-- how a def's arguments bind: all by place -/
def BPos (fd : FuncData) (ps : List Str) : Prop := ∀ (s : Shared) (us : List Value), us.length = ps.length → BindsTo s fd ⟨us, []⟩ (ps.zip us)
section
variable {X : Cx} {k : Nat} {f : Addr} {fd : FuncData} {ps ks : List Str} {sp : Sp} {E : XK} {x : Str} {p pos : Pos} {e : Expr} {es : List Expr} {kws : List Keyword} {t : TA}
theorem run_g {pins : List (Addr × Obj)} {σ : L2.St} {H : Hp} {s : Shared} {Q : VK} {args : Args} {us : List Value} {vs : List V} (G : GOk X.prog X.w X.K X.mg X.base k f fd ps sp) (hr : Room k X.A) (hgd : X.A.guards = some []) (hx : Passes (L2.CX X.prog X.w) X E)
    (I : Inv X pins σ H s) (hb : BindsTo s fd args (ps.zip us)) (r : Vals vs us) (h : sp vs H Q E) : wpAny (model X.prog X.w) X.A (call (.ref f) args.pos args.kw) (EP X pins σ Q) X.xe s := by
  refine wpAny_call (codeAny_mono (G.go X.A X.stack s H args us vs Q E hr hgd I.env0 hb r h) fun r' s' hq => ?_)
  match r', hq with
  | .error er, hq => exact hx pins σ H s er s' I hq
  | .ok (.ret u), hq => exact I.after hq
  | .ok .next, hq => exact hq.elim
  | .ok .brk, hq => exact hq.elim
  | .ok .cont, hq => exact hq.elim
/-- f(e, ..) -/
theorem pe_g (G : GOk X.prog X.w X.K X.mg X.base k f fd ps sp) (hb : BPos fd ps) (hm : X.mg x = some (.ref f)) (hk : PySem.W.keepIn X.K (.ref f) = true) (hr : Room k X.A) (hgd : X.A.guards = some []) (hx : Passes (L2.CX X.prog X.w) X E) (ha : PA X (e :: es) t)
    (hg : Gl X x := by rfl) (hdb : (x == ("__debug__" : Str)) = false := by decide) (he : starEach (e :: es) X.env = (false, eval e X.env) :: starEach es X.env := by rfl) (hpl : (backTo pos (starEach es X.env)).any (·.1) = false := by rfl) :
    PE X (.Call (.Name x p) (e :: es) [] pos) (tCall sp [] E t) := by
  refine ⟨fun pins s σ H Q I h => wpAny_Call_Name_kw (ld_glob I hg hm ?_ hdb)⟩
  refine PySem.W.callWith_K (h₀ := X.base) I.ok.mod.kin hk (thn (ha.run pos pins s σ H _ I h) fun us s1 ⟨vs, H1, I1, r, q⟩ => ⟨I1.kIn, ?_⟩) he hpl
  have q : sp (vs ++ []) H1 Q E := q
  rw [List.append_nil] at q
  exact run_g (args := ⟨us, []⟩) G hr hgd hx I1 (hb s1 us (r.length.symm.trans (G.len _ _ _ _ q))) r q
end

/-! ### B. plain data -/
inductive Dt where
  | non | bl (b : Bool) | int (i : Int) | str (x : Str) | lst (xs : List Dt) | tup (xs : List Dt)
  /-- an empty dict -/
  | dic
  /-- an instance: its class, its fields -/
  | ins (C : Addr) (ns : List Str) (xs : List Dt)
  /-- any value, by itself -/
  | raw (v : V)
  /-- the list at p -/
  | lat (p : Addr) (xs : List Dt)
  /-- an error that was caught or made: its class, its field -/
  | err (C : Addr) (f : Str) (d : Dt)
  /-- a dict by its keys (tuples) and its values -/
  | dct (ks xs : List Dt)
  /-- the dict at p whose keys are ints -/
  | dti (p : Addr) (ks : List Int) (xs : List Dt)
  /-- the dict at p whose keys are tuples -/
  | dat (p : Addr) (w : World) (ks xs : List Dt)
  /-- what is at p, whatever it holds -/
  | cel (p : Addr) (w : World)
/-- an error as an object: its class, its dict -/
def ErrO (cls : Value) (d : Option Addr) (a : Addr) : HO := .ext fun h => ∃ oe : Obj, h.get? a = some oe ∧ Zc cls d oe ∧ ∃ vs, oe.data = .fields vs

mutual
/-- hash(d), d without texts -/
def hKey : Dt → Int
  | .non => reduceHash 0xFCA86420
  | .bl b => hashInt (if b = true then 1 else 0)
  | .int i => hashInt i
  | .tup xs => reduceHash (Builtin.Tuple.tupleHashOf (hKeys xs))
  | _ => 0
def hKeys : List Dt → List Int
  | [] => []
  | x :: xs => hKey x :: hKeys xs
end
def ents : List Dt → List Addr → List Value → List DictEntry
  | k :: ks, a :: as, u :: us => ⟨hKey k, .ref a, u⟩ :: ents ks as us
  | _, _, _ => []
/-- a dict as an object: its keys (as data, and where they stand), its values -/
def DicO (ks : List Dt) (as : List Addr) (vs : List V) (d : Addr) : HO := .ext fun h => (d == sysModules) = false ∧ ∃ (o : Obj) (es : Array DictEntry) (ep : Nat) (us : List Value), h.get? d = some o ∧ o.ExactDict ∧ o.data = .dict es ep ∧ Vals vs us ∧ es.toList = ents ks as us
mutual
def nk : Dt → NestedKey
  | .bl b => .num (if b = true then 1 else 0)
  | .int i => .num i
  | .str x => .text x
  | .tup xs => .tup (nkA xs)
  | _ => .none
def nkA : List Dt → List NestedKey
  | [] => []
  | x :: xs => nk x :: nkA xs
end
/-- a dict's entries, by the keys' data -/
def entsW (w : World) : List Dt → List Addr → List Value → List DictEntry
  | k :: ks, a :: as, u :: us => ⟨(nk k).hash w, .ref a, u⟩ :: entsW w ks as us
  | _, _, _ => []
/-- a dict that may grow, as an object: its keys (as data, and where they stand), its values -/
def DatO (w : World) (ks : List Dt) (as : List Addr) (vs : List V) (d : Addr) : HO := .ext fun h => (d == sysModules) = false ∧ ∃ (o : Obj) (es : Array DictEntry) (ep : Nat) (us : List Value), h.get? d = some o ∧ o.ExactDict ∧ o.data = .dict es ep ∧ Vals vs us ∧ es.toList = entsW w ks as us
/-- a dict with ints as keys -/
def iK (ks : List Int) (vs : List V) : List (Key × V) := (ks.map Sum.inl).zip vs
/-- dicts whose first key is a text, and tables of code objects, are no data -/
def dob : HO → Bool
  | .dK ((.inr _, _) :: _) => false
  | .tbl _ => false
  | _ => true
theorem dob_iK : ∀ (ks : List Int) (vs : List V), dob (.dK (iK ks vs)) = true
  | [], _ => by simp [iK, dob]
  | _ :: _, [] => by simp [iK, dob]
  | _ :: _, _ :: _ => rfl
/-- data stay -/
def Gr (H H' : Hp) : Prop := ∀ a o, H a = some o → dob o = true → H' a = some o
theorem Gr.refl (H : Hp) : Gr H H := fun _ _ h _ => h
theorem Gr.trans {H H1 H2 : Hp} (a : Gr H H1) (b : Gr H1 H2) : Gr H H2 := fun c o h d => b c o (a c o h d) d
theorem _root_.L2.Same.gr {H H' : Hp} (s : Same H H') : Gr H H' := fun c o h _ => s c o h
theorem same_new {H : Hp} {p : Addr} {o : HO} (h : H p = none) : Same H (upd H p o) := fun b x e => by
  rw [upd_ne (ne_of_none e h)]
  exact e
theorem Gr.sqL {K : PySem.W.Frag} {H H' : Hp} {a : Addr} {xs : List V} (g : Gr H H') (h : SqL K H a xs) : SqL K H' a xs := by
  rcases h with (h | ⟨o, h⟩) | h
  · exact .inl (.inl (g _ _ h rfl))
  · exact .inl (.inr ⟨o, g _ _ h rfl⟩)
  · exact .inr h
theorem Gr.sqT {K : PySem.W.Frag} {H H' : Hp} {a : Addr} {xs : List V} (g : Gr H H') (h : SqT K H a xs) : SqT K H' a xs := by
  rcases h with (h | ⟨o, h⟩) | h
  · exact .inl (.inl (g _ _ h rfl))
  · exact .inl (.inr ⟨o, g _ _ h rfl⟩)
  · exact .inr h

mutual
inductive Rep (K : PySem.W.Frag) (H : Hp) : V → Dt → Prop
  | non : Rep K H .non .non
  | bl (b : Bool) : Rep K H (.bl b) (.bl b)
  | int (i : Int) : Rep K H (.int i) (.int i)
  | str (x : Str) : Rep K H (.str x) (.str x)
  | lst {a : Addr} {vs : List V} {ds : List Dt} : SqL K H a vs → RepA K H vs ds → Rep K H (.ref a) (.lst ds)
  | tup {a : Addr} {vs : List V} {ds : List Dt} : SqT K H a vs → RepA K H vs ds → Rep K H (.ref a) (.tup ds)
  | dic {a : Addr} : H a = some (.dK []) → Rep K H (.ref a) .dic
  | ins {a C dx : Addr} {ns : List Str} {vs : List V} {ds : List Dt} : H a = some (.ins C dx (ns.zip vs)) → RepA K H vs ds → Rep K H (.ref a) (.ins C ns ds)
  | raw (v : V) : Rep K H v (.raw v)
  | lat {p : Addr} {vs : List V} {ds : List Dt} : H p = some (.lst vs) → RepA K H vs ds → Rep K H (.ref p) (.lat p ds)
  | err {a C dd : Addr} {f : Str} {v : V} {d : Dt} : H a = some (ErrO (.ref C) (some dd) a) → H dd = some (.xd [(f, v)]) → Rep K H v d → Rep K H (.ref a) (.err C f d)
  | dti {p : Addr} {vs : List V} {ks : List Int} {ds : List Dt} : H p = some (.dK (iK ks vs)) → ks.length = ds.length → RepA K H vs ds → Rep K H (.ref p) (.dti p ks ds)
  | dat {p : Addr} {w : World} {as : List Addr} {vs : List V} {ks ds : List Dt} : H p = some (DatO w ks as vs p) → ks.length = ds.length → RepA K H (as.map V.ref) ks → RepA K H vs ds → Rep K H (.ref p) (.dat p w ks ds)
  | cel {p : Addr} {w : World} {o : HO} : H p = some o → dob o = true → Rep K H (.ref p) (.cel p w)
  | dct {a : Addr} {as : List Addr} {vs : List V} {ks ds : List Dt} : H a = some (DicO ks as vs a) → RepA K H (as.map V.ref) ks → RepA K H vs ds → Rep K H (.ref a) (.dct ks ds)
inductive RepA (K : PySem.W.Frag) (H : Hp) : List V → List Dt → Prop
  | nil : RepA K H [] []
  | cons {v : V} {vs : List V} {d : Dt} {ds : List Dt} : Rep K H v d → RepA K H vs ds → RepA K H (v :: vs) (d :: ds)
end
section
variable {K : PySem.W.Frag} {H H' : Hp}
mutual
theorem Rep.mono (g : Gr H H') : ∀ {v : V} {d : Dt}, Rep K H v d → Rep K H' v d
  | _, _, .non => .non
  | _, _, .bl b => .bl b
  | _, _, .int i => .int i
  | _, _, .str x => .str x
  | _, _, .lst h r => .lst (g.sqL h) (r.mono g)
  | _, _, .tup h r => .tup (g.sqT h) (r.mono g)
  | _, _, .dic h => .dic (g _ _ h rfl)
  | _, _, .ins h r => .ins (g _ _ h rfl) (r.mono g)
  | _, _, .raw v => .raw v
  | _, _, .lat h r => .lat (g _ _ h rfl) (r.mono g)
  | _, _, .err h1 h2 r => .err (g _ _ h1 rfl) (g _ _ h2 rfl) (r.mono g)
  | _, _, .dct h r1 r2 => .dct (g _ _ h rfl) (r1.mono g) (r2.mono g)
  | _, _, .dti h l r => .dti (g _ _ h (dob_iK _ _)) l (r.mono g)
  | _, _, .dat h l r1 r2 => .dat (g _ _ h rfl) l (r1.mono g) (r2.mono g)
  | _, _, .cel h e => .cel (g _ _ h e) e
theorem RepA.mono (g : Gr H H') : ∀ {vs : List V} {ds : List Dt}, RepA K H vs ds → RepA K H' vs ds
  | _, _, .nil => .nil
  | _, _, .cons h r => .cons (h.mono g) (r.mono g)
end
theorem RepA.len : ∀ {vs : List V} {ds : List Dt}, RepA K H vs ds → vs.length = ds.length
  | _, _, .nil => rfl
  | _, _, .cons _ r => congrArg (· + 1) r.len
theorem RepA.at_ : ∀ {vs : List V} {ds : List Dt} {i : Nat} {d : Dt}, RepA K H vs ds → ds[i]? = some d → ∃ v, vs[i]? = some v ∧ Rep K H v d
  | _, _, _, _, .nil, h => by simp at h
  | _, _, 0, _, .cons r _, h => ⟨_, rfl, by simp at h; exact h ▸ r⟩
  | _, _, i + 1, d, .cons _ r, h => by
    obtain ⟨v, e, q⟩ := RepA.at_ (i := i) (d := d) r (by simpa using h)
    exact ⟨v, by simpa using e, q⟩
theorem RepA.ta : ∀ {vs : List V} {ds : List Dt} {i : Nat} {v : V}, RepA K H vs ds → vs[i]? = some v → ∃ d, ds[i]? = some d ∧ Rep K H v d
  | _, _, _, _, .nil, h => by simp at h
  | _, _, 0, _, .cons r _, h => ⟨_, rfl, by simp at h; exact h ▸ r⟩
  | _, _, i + 1, v, .cons _ r, h => by
    obtain ⟨d, e, q⟩ := RepA.ta (i := i) (v := v) r (by simpa using h)
    exact ⟨d, by simpa using e, q⟩
theorem RepA.app : ∀ {vs ws : List V} {ds es : List Dt}, RepA K H vs ds → RepA K H ws es → RepA K H (vs ++ ws) (ds ++ es)
  | _, _, _, _, .nil, s => s
  | _, _, _, _, .cons h r, s => .cons h (r.app s)
theorem RepA.take : ∀ {vs : List V} {ds : List Dt} (n : Nat), RepA K H vs ds → RepA K H (vs.take n) (ds.take n)
  | _, _, 0, _ => .nil
  | _, _, _ + 1, .nil => .nil
  | _, _, n + 1, .cons h r => .cons h (r.take n)
theorem RepA.drop : ∀ {vs : List V} {ds : List Dt} (n : Nat), RepA K H vs ds → RepA K H (vs.drop n) (ds.drop n)
  | _, _, 0, r => r
  | _, _, _ + 1, .nil => .nil
  | _, _, n + 1, .cons _ r => r.drop n
theorem RepA.ints : ∀ {vs : List V} {ns : List Int}, RepA K H vs (ns.map Dt.int) → vs = ns.map V.int
  | _, [], .nil => rfl
  | _, _ :: _, .cons (.int _) r => congrArg _ r.ints
theorem Rep.tupI {v : V} {ds : List Dt} (h : Rep K H v (.tup ds)) : ∃ a vs, v = .ref a ∧ SqT K H a vs ∧ RepA K H vs ds := by
  cases h with
  | tup h r => exact ⟨_, _, rfl, h, r⟩
theorem Rep.latI {v : V} {p : Addr} {ds : List Dt} (h : Rep K H v (.lat p ds)) : v = .ref p ∧ ∃ vs, H p = some (.lst vs) ∧ RepA K H vs ds := by
  cases h with
  | lat h r => exact ⟨rfl, _, h, r⟩
theorem Rep.latL {v : V} {p : Addr} {ds : List Dt} (h : Rep K H v (.lat p ds)) : Rep K H v (.lst ds) := by
  obtain ⟨rfl, vs, h, r⟩ := h.latI
  exact .lst (SqL.of h) r
theorem Rep.lstI {v : V} {ds : List Dt} (h : Rep K H v (.lst ds)) : ∃ a vs, v = .ref a ∧ SqL K H a vs ∧ RepA K H vs ds := by
  cases h with
  | lst h r => exact ⟨_, _, rfl, h, r⟩
theorem Rep.intI {v : V} {i : Int} (h : Rep K H v (.int i)) : v = .int i := by cases h <;> rfl
theorem Rep.blI {v : V} {b : Bool} (h : Rep K H v (.bl b)) : v = .bl b := by cases h <;> rfl
theorem Rep.strI {v : V} {x : Str} (h : Rep K H v (.str x)) : v = .str x := by cases h <;> rfl
theorem Rep.rawI {v u : V} (h : Rep K H v (.raw u)) : v = u := by cases h <;> rfl
end

/-- what holds of the heap all along -/
structure Sta where
  I : Hp → Prop
  st : ∀ {H H' : Hp}, I H → Same H H' → I H'
/-- the slots' data -/
structure Slots (K : PySem.W.Frag) (H : Hp) (σ : L2.St) (ρ : List (Option Dt)) : Prop where
  len : σ.length = ρ.length
  val : ∀ (i : Nat) (d : Dt), ρ[i]? = some (some d) → ∃ v, σ[i]? = some (some v) ∧ Rep K H v d
section
variable {K : PySem.W.Frag} {H H' : Hp} {σ : L2.St} {ρ : List (Option Dt)}
theorem Slots.mono (s : Slots K H σ ρ) (g : Gr H H') : Slots K H' σ ρ := ⟨s.len, fun i d h => let ⟨v, e, r⟩ := s.val i d h; ⟨v, e, r.mono g⟩⟩
theorem Slots.set (s : Slots K H σ ρ) {v : V} {d : Dt} (r : Rep K H v d) (j : Nat) : Slots K H (σ.set j (some v)) (ρ.set j (some d)) := by
  refine ⟨by rw [List.length_set, List.length_set, s.len], fun i e h => ?_⟩
  by_cases hj : j = i
  · subst hj
    by_cases hl : j < ρ.length
    · rw [List.getElem?_set_self hl] at h
      cases h
      exact ⟨v, List.getElem?_set_self (by rw [s.len]; exact hl), r⟩
    · rw [List.getElem?_eq_none (by rw [List.length_set]; omega)] at h
      cases h
  · rw [List.getElem?_set_ne hj] at h
    obtain ⟨u, hu, q⟩ := s.val i e h
    exact ⟨u, by rw [List.getElem?_set_ne hj]; exact hu, q⟩
/-- a slot whose data are forgotten -/
theorem Slots.lose (s : Slots K H σ ρ) {ν : Option V} (j : Nat) : Slots K H (σ.set j ν) (ρ.set j none) := by
  refine ⟨by rw [List.length_set, List.length_set, s.len], fun i e h => ?_⟩
  by_cases hj : j = i
  · subst hj
    by_cases hl : j < ρ.length
    · rw [List.getElem?_set_self hl] at h
      cases h
    · rw [List.getElem?_eq_none (by rw [List.length_set]; omega)] at h
      cases h
  · rw [List.getElem?_set_ne hj] at h
    obtain ⟨u, hu, q⟩ := s.val i e h
    exact ⟨u, by rw [List.getElem?_set_ne hj]; exact hu, q⟩
def wipeD (ρ : List (Option Dt)) : List Nat → List (Option Dt)
  | [] => ρ
  | v :: vs => (wipeD ρ vs).set v none
theorem Slots.wipe (s : Slots K H σ ρ) : ∀ vs : List Nat, Slots K H (L2.wipe σ vs) (wipeD ρ vs)
  | [] => s
  | v :: vs => (s.wipe vs).lose v
end

/-! ### C. what an expression comes to -/
section
variable (K : PySem.W.Frag) (S S' : Sta)
def Ev (ρ : List (Option Dt)) (te : TE) (Φ : Dt → Prop) : Prop := ∀ (σ : L2.St) (H : Hp), S.I H → Slots K H σ ρ → ∀ Q : VK, (∀ v d H', Gr H H' → S'.I H' → Rep K H' v d → Φ d → Q v H') → te σ H Q
def EvT (ρ : List (Option Dt)) (tt : TT) (Φ : Bool → Prop) : Prop := ∀ (σ : L2.St) (H : Hp), S.I H → Slots K H σ ρ → ∀ Q : Bool → Hp → Prop, (∀ b H', Gr H H' → S'.I H' → Φ b → Q b H') → tt σ H Q
def EvA (ρ : List (Option Dt)) (ta : TA) (Φ : List Dt → Prop) : Prop := ∀ (σ : L2.St) (H : Hp), S.I H → Slots K H σ ρ → ∀ Q : List V → Hp → Prop, (∀ vs ds H', Gr H H' → S'.I H' → RepA K H' vs ds → Φ ds → Q vs H') → ta σ H Q
def EvO (ρ : List (Option Dt)) (to : TO) (Φ : Option Int → Prop) : Prop := ∀ (σ : L2.St) (H : Hp), S.I H → Slots K H σ ρ → ∀ Q : Option Int → Hp → Prop, (∀ o H', Gr H H' → S'.I H' → Φ o → Q o H') → to σ H Q
end
section
variable (K : PySem.W.Frag) (S : Sta)
/-- a two-place operation over data -/
def Rv2 (r : R2) (x y : Dt) (Φ : Dt → Prop) : Prop := ∀ (H : Hp) (v u : V), S.I H → Rep K H v x → Rep K H u y → ∀ Q : VK, (∀ v' d H', Gr H H' → S.I H' → Rep K H' v' d → Φ d → Q v' H') → r v u H Q
def RvC (r : List V → Hp → VK → Prop) (xs : List Dt) (Φ : Dt → Prop) : Prop := ∀ (H : Hp) (vs : List V), S.I H → RepA K H vs xs → ∀ Q : VK, (∀ v' d H', Gr H H' → S.I H' → Rep K H' v' d → Φ d → Q v' H') → r vs H Q
end
section
variable {K : PySem.W.Frag} {S S1 S2 S3 : Sta} {ρ : List (Option Dt)} {ta tb te : TE} {t u : TT} {Φ Ψ Θ : Dt → Prop} {x y z d : Dt}
theorem Ev.weak (h : Ev K S S1 ρ te Φ) (w : ∀ d, Φ d → Ψ d) : Ev K S S1 ρ te Ψ := fun σ H i s Q q => h σ H i s Q fun v d H' g i' r p => q v d H' g i' r (w d p)
theorem EvT.weak {Φ Ψ : Bool → Prop} (h : EvT K S S1 ρ t Φ) (w : ∀ d, Φ d → Ψ d) : EvT K S S1 ρ t Ψ := fun σ H i s Q q => h σ H i s Q fun v H' g i' p => q v H' g i' (w v p)
theorem Ev.to (h : Ev K S S1 ρ te (Eq x)) (e : x = y) : Ev K S S1 ρ te (Eq y) := e ▸ h
theorem EvT.to {a b : Bool} (h : EvT K S S1 ρ t (Eq a)) (e : a = b) : EvT K S S1 ρ t (Eq b) := e ▸ h
theorem ev_var {i : Nat} (h : ρ[i]? = some (some d)) : Ev K S S ρ (tVar i) (Eq d) := fun σ H hi s Q q => by
  obtain ⟨v, e, r⟩ := s.val i d h
  exact ⟨v, e, q v d H (Gr.refl H) hi r rfl⟩
theorem ev_lat {p : Addr} {xs : List Dt} (h : Ev K S S1 ρ te (Eq (.lat p xs))) : Ev K S S1 ρ te (Eq (.lst xs)) := fun σ H i s Q q => h σ H i s Q fun v d H' g i' r e => q v _ H' g i' ((show Dt.lat p xs = d from e) ▸ r).latL rfl
theorem ev_int {i : Int} : Ev K S S ρ (tC (.int i)) (Eq (.int i)) := fun σ H hi s Q q => q _ _ H (Gr.refl H) hi (.int i) rfl
theorem ev_bl {b : Bool} : Ev K S S ρ (tC (.bl b)) (Eq (.bl b)) := fun σ H hi s Q q => q _ _ H (Gr.refl H) hi (.bl b) rfl
theorem ev_non : Ev K S S ρ (tC .non) (Eq .non) := fun σ H hi s Q q => q _ _ H (Gr.refl H) hi .non rfl
theorem ev_str {x : Str} : Ev K S S ρ (tC (.str x)) (Eq (.str x)) := fun σ H hi s Q q => q _ _ H (Gr.refl H) hi (.str x) rfl
theorem ev_raw {v : V} : Ev K S S ρ (tC v) (Eq (.raw v)) := fun σ H hi s Q q => q _ _ H (Gr.refl H) hi (.raw v) rfl
theorem ev_opP {r : R2} (ha : Ev K S S1 ρ ta Φ) (hb : Ev K S1 S2 ρ tb Ψ) (hr : ∀ x y, Φ x → Ψ y → Rv2 K S2 r x y Θ) : Ev K S S2 ρ (tOp r ta tb) Θ := fun σ H i s Q q =>
  ha σ H i s _ fun v x H1 g1 i1 r1 p1 => hb σ H1 i1 (s.mono g1) _ fun u y H2 g2 i2 r2 p2 => hr x y p1 p2 H2 v u i2 (r1.mono g2) r2 Q fun v' d H3 g3 i3 r3 p3 => q v' d H3 ((g1.trans g2).trans g3) i3 r3 p3
theorem ev_op {r : R2} (ha : Ev K S S1 ρ ta (Eq x)) (hb : Ev K S1 S2 ρ tb (Eq y)) (hr : Rv2 K S2 r x y Θ) : Ev K S S2 ρ (tOp r ta tb) Θ := ev_opP ha hb fun _ _ e1 e2 => e1 ▸ e2 ▸ hr
theorem ev_un {r : V → Hp → VK → Prop} (ha : Ev K S S1 ρ ta (Eq x)) (hr : ∀ (H : Hp) (v : V), S1.I H → Rep K H v x → ∀ Q : VK, (∀ v' d H', Gr H H' → S1.I H' → Rep K H' v' d → Θ d → Q v' H') → r v H Q) : Ev K S S1 ρ (tUn r ta) Θ := fun σ H i s Q q =>
  ha σ H i s _ fun v x' H1 g1 i1 r1 p1 => hr H1 v i1 (p1 ▸ r1) Q fun v' d H3 g3 i3 r3 p3 => q v' d H3 (g1.trans g3) i3 r3 p3
/-! operations that hand back a plain value and leave the heap -/
theorem rv_at {r : R2} (h : ∀ H v u, S.I H → Rep K H v x → Rep K H u y → ∀ Q : VK, (∀ v', Rep K H v' z → Q v' H) → r v u H Q) : Rv2 K S r x y (Eq z) := fun H v u i r1 r2 Q q =>
  h H v u i r1 r2 Q fun v' r' => q v' z H (Gr.refl H) i r' rfl
theorem rv_I0 {g : Int → Int → V} {i j : Int} (hz : ∀ H, Rep K H (g i j) z) : Rv2 K S (rI0 g) (.int i) (.int j) (Eq z) := rv_at fun H v u _ r1 r2 Q q => ⟨i, j, r1.intI, r2.intI, q _ (hz H)⟩
theorem rv_I {C : Int → Int → Prop} {g : Int → Int → V} {i j : Int} (hc : C i j) (hz : ∀ H, Rep K H (g i j) z) : Rv2 K S (rI C g) (.int i) (.int j) (Eq z) := rv_at fun H v u _ r1 r2 Q q => ⟨i, j, r1.intI, r2.intI, hc, q _ (hz H)⟩
theorem rv_ii {g : Int → Int → Int} {i j : Int} : Rv2 K S (rI0 fun a b => .int (g a b)) (.int i) (.int j) (Eq (.int (g i j))) := rv_I0 fun _ => .int _
theorem rv_iic {C : Int → Int → Prop} {g : Int → Int → Int} {i j : Int} (hc : C i j) : Rv2 K S (rI C fun a b => .int (g a b)) (.int i) (.int j) (Eq (.int (g i j))) := rv_I hc fun _ => .int _
theorem rv_ib {g : Int → Int → Bool} {i j : Int} : Rv2 K S (rI0 fun a b => .bl (g a b)) (.int i) (.int j) (Eq (.bl (g i j))) := rv_I0 fun _ => .bl _
theorem rv_eqI {i j : Int} : Rv2 K S rEq (.int i) (.int j) (Eq (.bl (decide (i = j)))) := rv_at fun H v u _ r1 r2 Q q => by
  obtain rfl := r1.intI; obtain rfl := r2.intI
  exact ⟨rfl, by rw [show decide (V.int i = V.int j) = decide (i = j) by by_cases e : i = j <;> simp [e]]; exact q _ (.bl _)⟩
theorem rv_eqS {i j : Str} : Rv2 K S rEq (.str i) (.str j) (Eq (.bl (decide (i = j)))) := rv_at fun H v u _ r1 r2 Q q => by
  obtain rfl := r1.strI; obtain rfl := r2.strI
  exact ⟨rfl, by rw [show decide (V.str i = V.str j) = decide (i = j) by by_cases e : i = j <;> simp [e]]; exact q _ (.bl _)⟩
theorem rv_neS {i j : Str} : Rv2 K S rNe (.str i) (.str j) (Eq (.bl (!decide (i = j)))) := rv_at fun H v u _ r1 r2 Q q => by
  obtain rfl := r1.strI; obtain rfl := r2.strI
  exact ⟨rfl, by rw [show decide (V.str i = V.str j) = decide (i = j) by by_cases e : i = j <;> simp [e]]; exact q _ (.bl _)⟩
/-- is None -/
def Dt.isNon : Dt → Bool
  | .non => true
  | .raw .non => true
  | _ => false
theorem Rep.isNon {H : Hp} {v : V} (r : Rep K H v d) : decide (v = .non) = d.isNon := by
  cases r with
  | raw v => cases v <;> rfl
  | _ => rfl
theorem rv_notN : Rv2 K S (fun x y H Q => y = .non ∧ Q (.bl (!decide (x = .non))) H) d .non (Eq (.bl (!d.isNon))) := rv_at fun H v u _ r1 r2 Q q => by
  refine ⟨by cases r2; rfl, ?_⟩
  rw [r1.isNon]
  exact q _ (.bl _)
/-! argument lists, displays -/
theorem ea_nil : EvA K S S ρ tNil (Eq []) := fun σ H i s Q q => q _ _ H (Gr.refl H) i .nil rfl
theorem ea_consP {tr : TA} {Φl : List Dt → Prop} (ha : Ev K S S1 ρ ta Φ) (hr : EvA K S1 S2 ρ tr Φl) : EvA K S S2 ρ (tCons ta tr) (fun l => ∃ d ds, l = d :: ds ∧ Φ d ∧ Φl ds) := fun σ H i s Q q =>
  ha σ H i s _ fun v d H1 g1 i1 r1 p1 => hr σ H1 i1 (s.mono g1) _ fun vs ds H2 g2 i2 r2 p2 => q _ _ H2 (g1.trans g2) i2 (.cons (r1.mono g2) r2) ⟨d, ds, rfl, p1, p2⟩
theorem ea_cons {tr : TA} {ds : List Dt} (ha : Ev K S S1 ρ ta (Eq d)) (hr : EvA K S1 S2 ρ tr (Eq ds)) : EvA K S S2 ρ (tCons ta tr) (Eq (d :: ds)) := fun σ H i s Q q =>
  ha σ H i s _ fun v d' H1 g1 i1 r1 p1 => hr σ H1 i1 (s.mono g1) _ fun vs ds' H2 g2 i2 r2 p2 => q _ _ H2 (g1.trans g2) i2 (.cons (p1 ▸ r1.mono g2) (p2 ▸ r2)) rfl
theorem ev_tupP {t : TA} {Φl : List Dt → Prop} (h : EvA K S S1 ρ t Φl) (hz : ∀ ds, Φl ds → ds.length ≤ sizeLine) : Ev K S S1 ρ (tTup t) (fun d => ∃ ds, d = .tup ds ∧ Φl ds) := fun σ H i s Q q =>
  h σ H i s _ fun vs ds H1 g1 i1 r1 p1 => ⟨by rw [r1.len]; exact hz ds p1, fun p hp => q _ _ _ (g1.trans (same_new hp).gr) (S1.st i1 (same_new hp)) (.tup (SqT.of upd_same) (r1.mono (same_new hp).gr)) ⟨ds, rfl, p1⟩⟩
theorem ev_lstP {t : TA} {Φl : List Dt → Prop} (h : EvA K S S1 ρ t Φl) (hz : ∀ ds, Φl ds → ds.length ≤ sizeLine) : Ev K S S1 ρ (tLst t) (fun d => ∃ ds, d = .lst ds ∧ Φl ds) := fun σ H i s Q q =>
  h σ H i s _ fun vs ds H1 g1 i1 r1 p1 => ⟨by rw [r1.len]; exact hz ds p1, fun p hp => q _ _ _ (g1.trans (same_new hp).gr) (S1.st i1 (same_new hp)) (.lst (SqL.of upd_same) (r1.mono (same_new hp).gr)) ⟨ds, rfl, p1⟩⟩
theorem ev_tup {t : TA} {ds : List Dt} (h : EvA K S S1 ρ t (Eq ds)) (hz : ds.length ≤ sizeLine) : Ev K S S1 ρ (tTup t) (Eq (.tup ds)) := (ev_tupP h fun _ e => e ▸ hz).weak fun _ ⟨_, e, e'⟩ => e ▸ e' ▸ rfl
theorem ev_lst {t : TA} {ds : List Dt} (h : EvA K S S1 ρ t (Eq ds)) (hz : ds.length ≤ sizeLine) : Ev K S S1 ρ (tLst t) (Eq (.lst ds)) := (ev_lstP h fun _ e => e ▸ hz).weak fun _ ⟨_, e, e'⟩ => e ▸ e' ▸ rfl
theorem ev_dic : Ev K S S ρ tDNewK (Eq .dic) := fun σ H i s Q q p hp => q _ _ _ (same_new hp).gr (S.st i (same_new hp)) (.dic upd_same) rfl

/-! calls -/
/-- a def over data: from ds (n of them, such that pre) it hands back f ds and leaves all else -/
def spF (K : PySem.W.Frag) (n : Nat) (pre : List Dt → Prop) (f : List Dt → Dt) : Sp := fun vs H Q _ => ∃ ds, RepA K H vs ds ∧ ds.length = n ∧ pre ds ∧ ∀ v H', Same H H' → Rep K H' v (f ds) → Q v H'
theorem ev_callF {t : TA} {ds : List Dt} {n : Nat} {pre : List Dt → Prop} {f : List Dt → Dt} {E : XK} (ha : EvA K S S1 ρ t (Eq ds)) (hn : ds.length = n) (hp : pre ds) : Ev K S S1 ρ (tCall (spF K n pre f) [] E t) (Eq (f ds)) := fun σ H i s Q q =>
  ha σ H i s _ fun vs ds' H1 g1 i1 r1 p1 => by
    subst p1
    rw [List.append_nil]
    exact ⟨ds, r1, hn, hp, fun v H2 sm r => q v _ H2 (g1.trans sm.gr) (S1.st i1 sm) r rfl⟩
theorem ev_cbP {r : List V → Hp → VK → Prop} {t : TA} {Φl : List Dt → Prop} (ha : EvA K S S1 ρ t Φl) (hr : ∀ ds, Φl ds → RvC K S1 r ds Θ) : Ev K S S1 ρ (tCB r t) Θ := fun σ H i s Q q =>
  ha σ H i s _ fun vs ds' H1 g1 i1 r1 p1 => hr ds' p1 H1 vs i1 r1 Q fun v' d H3 g3 i3 r3 p3 => q v' d H3 (g1.trans g3) i3 r3 p3
theorem ev_cb {r : List V → Hp → VK → Prop} {t : TA} {ds : List Dt} (ha : EvA K S S1 ρ t (Eq ds)) (hr : RvC K S1 r ds Θ) : Ev K S S1 ρ (tCB r t) Θ := ev_cbP ha fun _ e => e ▸ hr
theorem rc_at {r : List V → Hp → VK → Prop} {xs : List Dt} (h : ∀ H vs, S.I H → RepA K H vs xs → ∀ Q : VK, (∀ v', Rep K H v' z → Q v' H) → r vs H Q) : RvC K S r xs (Eq z) := fun H vs i r1 Q q => h H vs i r1 Q fun v' r' => q v' z H (Gr.refl H) i r' rfl
theorem RepA.oneI {H : Hp} {vs : List V} (r : RepA K H vs [d]) : ∃ v, vs = [v] ∧ Rep K H v d := by
  cases r with
  | cons h r => cases r; exact ⟨_, rfl, h⟩
theorem RepA.twoI {H : Hp} {vs : List V} (r : RepA K H vs [x, y]) : ∃ v u, vs = [v, u] ∧ Rep K H v x ∧ Rep K H u y := by
  cases r with
  | cons h r => obtain ⟨u, rfl, q⟩ := r.oneI; exact ⟨_, _, rfl, h, q⟩
def rLen (K : PySem.W.Frag) : List V → Hp → VK → Prop := fun xs H Q => ∃ p ys, xs = [.ref p] ∧ (SqL K H p ys ∨ SqT K H p ys) ∧ Q (.int ys.length) H
theorem rc_lenT {xs : List Dt} : RvC K S (rLen K) [.tup xs] (Eq (.int xs.length)) := rc_at fun H vs i r Q q => by
  obtain ⟨v, rfl, r1⟩ := r.oneI
  obtain ⟨a, us, rfl, h, ra⟩ := r1.tupI
  exact ⟨a, us, rfl, .inr h, by rw [ra.len]; exact q _ (.int _)⟩
theorem rc_lenL {xs : List Dt} : RvC K S (rLen K) [.lst xs] (Eq (.int xs.length)) := rc_at fun H vs i r Q q => by
  obtain ⟨v, rfl, r1⟩ := r.oneI
  obtain ⟨a, us, rfl, h, ra⟩ := r1.lstI
  exact ⟨a, us, rfl, .inl h, by rw [ra.len]; exact q _ (.int _)⟩
/-! subscripts, slices, joined tuples -/
theorem atI_rep {H : Hp} {vs : List V} {ds : List Dt} {i : Int} (r : RepA K H vs ds) (h : atI ds i = some d) : ∃ v, atI vs i = some v ∧ Rep K H v d := by
  unfold atI at h ⊢
  rw [r.len]
  cases e : ixN ds.length i with
  | none => rw [e] at h; cases h
  | some j =>
    rw [e] at h
    exact r.at_ h
theorem rv_ixT {xs : List Dt} {i : Int} (h : atI xs i = some d) : Rv2 K S (rIxT K) (.tup xs) (.int i) (Eq d) := rv_at fun H v u _ r1 r2 Q q => by
  obtain ⟨a, us, rfl, ht, ra⟩ := r1.tupI
  obtain rfl := r2.intI
  obtain ⟨v, e, rv⟩ := atI_rep ra h
  exact ⟨a, us, i, v, rfl, rfl, ht, e, q v rv⟩
theorem rv_ixL {xs : List Dt} {i : Int} (h : atI xs i = some d) : Rv2 K S (rIxL K) (.lst xs) (.int i) (Eq d) := rv_at fun H v u _ r1 r2 Q q => by
  obtain ⟨a, us, rfl, ht, ra⟩ := r1.lstI
  obtain rfl := r2.intI
  obtain ⟨v, e, rv⟩ := atI_rep ra h
  exact ⟨a, us, i, v, rfl, rfl, ht, e, q v rv⟩
theorem rv_ixSL {xs : List Dt} {i : Int} (h : atI xs i = some d) : Rv2 K S (rIx K) (.lst xs) (.int i) (Eq d) := fun H v u hi r1 r2 Q q => .inl (rv_ixL h H v u hi r1 r2 Q q)
theorem rv_ixST {xs : List Dt} {i : Int} (h : atI xs i = some d) : Rv2 K S (rIx K) (.tup xs) (.int i) (Eq d) := fun H v u hi r1 r2 Q q => .inr (.inl (rv_ixT h H v u hi r1 r2 Q q))
theorem eo_none : EvO K S S ρ tNoPart (Eq none) := fun σ H i s Q q => q _ H (Gr.refl H) i rfl
theorem eo_some {i : Int} (h : Ev K S S1 ρ te (Eq (.int i))) : EvO K S S1 ρ (tPart te) (Eq (some i)) := fun σ H hi s Q q => h σ H hi s _ fun v d H1 g1 i1 r1 p1 => by
  subst p1
  exact ⟨i, r1.intI, q _ H1 g1 i1 rfl⟩
/-! choices -/
theorem ev_if {b : Bool} (ht : EvT K S S1 ρ t (Eq b)) (ha : b = true → Ev K S1 S2 ρ ta Φ) (hb : b = false → Ev K S1 S2 ρ tb Φ) : Ev K S S2 ρ (tIf t ta tb) Φ := fun σ H i s Q q =>
  ht σ H i s _ fun c H1 g1 i1 p1 => by
    subst p1
    cases b with
    | true => rw [if_pos rfl]; exact ha rfl σ H1 i1 (s.mono g1) Q fun v d H2 g2 => q v d H2 (g1.trans g2)
    | false => rw [if_neg Bool.false_ne_true]; exact hb rfl σ H1 i1 (s.mono g1) Q fun v d H2 g2 => q v d H2 (g1.trans g2)
theorem ev_and {a b : Bool} (ha : Ev K S S1 ρ ta (Eq (.bl a))) (hb : a = true → Ev K S1 S1 ρ tb (Eq (.bl b))) : Ev K S S1 ρ (tAndV ta tb) (Eq (.bl (a && b))) := fun σ H i s Q q =>
  ha σ H i s _ fun v d H1 g1 i1 r1 p1 => by
    subst p1
    refine ⟨a, r1.blI, ?_⟩
    cases a with
    | true => rw [if_pos rfl]; exact hb rfl σ H1 i1 (s.mono g1) Q fun v d H2 g2 => q v d H2 (g1.trans g2)
    | false => rw [if_neg Bool.false_ne_true]; exact q _ _ H1 g1 i1 (.bl _) rfl
theorem ev_or {a b : Bool} (ha : Ev K S S1 ρ ta (Eq (.bl a))) (hb : a = false → Ev K S1 S1 ρ tb (Eq (.bl b))) : Ev K S S1 ρ (tOrV ta tb) (Eq (.bl (a || b))) := fun σ H i s Q q =>
  ha σ H i s _ fun v d H1 g1 i1 r1 p1 => by
    subst p1
    refine ⟨a, r1.blI, ?_⟩
    cases a with
    | false => rw [if_neg Bool.false_ne_true]; exact hb rfl σ H1 i1 (s.mono g1) Q fun v d H2 g2 => q v d H2 (g1.trans g2)
    | true => rw [if_pos rfl]; exact q _ _ H1 g1 i1 (.bl _) rfl
theorem ev_not {a : Bool} (ha : Ev K S S1 ρ ta (Eq (.bl a))) : Ev K S S1 ρ (tNotV ta) (Eq (.bl (!a))) := fun σ H i s Q q =>
  ha σ H i s _ fun v d H1 g1 i1 r1 p1 => by
    subst p1
    exact ⟨a, r1.blI, q _ _ H1 g1 i1 (.bl _) rfl⟩
theorem et_B {a : Bool} (ha : Ev K S S1 ρ ta (Eq (.bl a))) : EvT K S S1 ρ (tB ta) (Eq a) := fun σ H i s Q q => ha σ H i s _ fun v d H1 g1 i1 r1 p1 => by
  subst p1
  exact ⟨a, r1.blI, q _ H1 g1 i1 rfl⟩
theorem et_test {a : Bool} (ha : Ev K S S1 ρ ta (Eq (.bl a))) : EvT K S S1 ρ (tTest ta) (Eq a) := fun σ H i s Q q => ha σ H i s _ fun v d H1 g1 i1 r1 p1 => by
  subst p1
  exact ⟨a, r1.blI, q _ H1 g1 i1 rfl⟩
theorem et_and {a b : Bool} (ha : EvT K S S1 ρ t (Eq a)) (hb : a = true → EvT K S1 S1 ρ u (Eq b)) : EvT K S S1 ρ (tAnd t u) (Eq (a && b)) := fun σ H i s Q q => ha σ H i s _ fun c H1 g1 i1 p1 => by
  subst p1
  cases a with
  | true => rw [if_pos rfl]; exact hb rfl σ H1 i1 (s.mono g1) Q fun v H2 g2 => q v H2 (g1.trans g2)
  | false => rw [if_neg Bool.false_ne_true]; exact q _ H1 g1 i1 rfl
theorem et_or {a b : Bool} (ha : EvT K S S1 ρ t (Eq a)) (hb : a = false → EvT K S1 S1 ρ u (Eq b)) : EvT K S S1 ρ (tOr t u) (Eq (a || b)) := fun σ H i s Q q => ha σ H i s _ fun c H1 g1 i1 p1 => by
  subst p1
  cases a with
  | false => rw [if_neg Bool.false_ne_true]; exact hb rfl σ H1 i1 (s.mono g1) Q fun v H2 g2 => q v H2 (g1.trans g2)
  | true => rw [if_pos rfl]; exact q _ H1 g1 i1 rfl
theorem et_not {a : Bool} (ha : EvT K S S1 ρ t (Eq a)) : EvT K S S1 ρ (tNot t) (Eq (!a)) := fun σ H i s Q q => ha σ H i s _ fun c H1 g1 i1 p1 => by
  subst p1
  exact q _ H1 g1 i1 rfl
end
end Bf
namespace Bf
open PySem PySem.Spec PyProof.Rows L2

/-! ### D. statements over data -/
structure Po where
  nx : List (Option Dt) → Prop := fun _ => False
  rt : Dt → Prop := fun _ => False
  bk : List (Option Dt) → Prop := fun _ => False
  ct : List (Option Dt) → Prop := fun _ => False
structure Ft (K : PySem.W.Frag) (S : Sta) (P : Po) (D : Ends) (H : Hp) : Prop where
  nx : ∀ (σ : L2.St) ρ H', Gr H H' → S.I H' → Slots K H' σ ρ → P.nx ρ → D.nx σ H'
  rt : ∀ v d H', Gr H H' → S.I H' → Rep K H' v d → P.rt d → D.rt v H'
  bk : ∀ (σ : L2.St) ρ H', Gr H H' → S.I H' → Slots K H' σ ρ → P.bk ρ → D.bk σ H'
  ct : ∀ (σ : L2.St) ρ H', Gr H H' → S.I H' → Slots K H' σ ρ → P.ct ρ → D.ct σ H'
/-- what holds at first holds at last -/
def Sta.Le (S SF : Sta) : Prop := ∀ H, S.I H → SF.I H
theorem Sta.Le.refl (S : Sta) : S.Le S := fun _ h => h
theorem Sta.Le.trans {S S1 S2 : Sta} (a : S.Le S1) (b : S1.Le S2) : S.Le S2 := fun H h => b H (a H h)
/-- from what holds at the base B on: the lists in L are newer than B and may be changed -/
structure Bs (SB : Sta) (L : List Addr) (B H : Hp) : Prop where
  gr : Gr B H
  i : SB.I B
  new : ∀ p ∈ L, B p = none
theorem Bs.up {SB : Sta} {L : List Addr} {B H H' : Hp} (b : Bs SB L B H) (g : Gr H H') : Bs SB L B H' := ⟨b.gr.trans g, b.i, b.new⟩
/-- S holds at first, SB at the base, SF at last -/
def Sg (K : PySem.W.Frag) (S SB SF : Sta) (L : List Addr) (ts : TS) (ρ : List (Option Dt)) (P : Po) : Prop := ∀ (D : Ends) (σ : L2.St) (B H : Hp), Bs SB L B H → S.I H → Slots K H σ ρ → Ft K SF P D B → ts D σ H
abbrev So (K : PySem.W.Frag) (S SF : Sta) (L : List Addr) (ts : TS) (ρ : List (Option Dt)) (P : Po) : Prop := Sg K S SF SF L ts ρ P
section
variable {K : PySem.W.Frag} {S S1 S2 SB SF : Sta} {L : List Addr} {ρ : List (Option Dt)} {P : Po} {ta tb te tl : TE} {c : TT} {t u w : TS} {Φ Ψ Θ : Dt → Prop} {x y z d : Dt} {D : Ends} {H H' : Hp}
theorem Ft.mono (f : Ft K SF P D H) (g : Gr H H') : Ft K SF P D H' := ⟨fun σ ρ H2 g2 => f.nx σ ρ H2 (g.trans g2), fun v d H2 g2 => f.rt v d H2 (g.trans g2), fun σ ρ H2 g2 => f.bk σ ρ H2 (g.trans g2), fun σ ρ H2 g2 => f.ct σ ρ H2 (g.trans g2)⟩
theorem Ft.le (f : Ft K SF P D H) (l : S.Le SF) : Ft K S P D H := ⟨fun σ ρ H2 g2 i2 => f.nx σ ρ H2 g2 (l _ i2), fun v d H2 g2 i2 => f.rt v d H2 g2 (l _ i2), fun σ ρ H2 g2 i2 => f.bk σ ρ H2 g2 (l _ i2), fun σ ρ H2 g2 i2 => f.ct σ ρ H2 g2 (l _ i2)⟩
theorem so_next (l : S.Le SF) (h : P.nx ρ) : Sg K S SB SF L tNext ρ P := fun D σ B H b i s f => f.nx σ ρ H b.gr (l _ i) s h
/-- a statement, then the rest -/
theorem so_seq {M : List (Option Dt) → Prop} (h1 : Sg K S SB SF L t ρ { P with nx := M }) (h2 : ∀ ρ', M ρ' → So K SF SF [] u ρ' P) : Sg K S SB SF L (tSeq t u) ρ P := fun D σ B H b i s f =>
  h1 { D with nx := u D } σ B H b i s ⟨fun σ' ρ' H' g i' s' m => h2 ρ' m D σ' H' H' ⟨Gr.refl H', i', fun _ z => nomatch z⟩ i' s' (f.mono g), f.rt, f.bk, f.ct⟩
/-- a statement that leaves what holds and the loose lists, in the middle -/
theorem so_mid {M : List (Option Dt) → Prop} (l : S.Le SF) (h1 : So K S S [] t ρ { P with nx := M }) (h2 : ∀ ρ', M ρ' → Sg K S SB SF L u ρ' P) : Sg K S SB SF L (tSeq t u) ρ P := fun D σ B H b i s f =>
  h1 { D with nx := u D } σ H H ⟨Gr.refl H, i, fun _ z => nomatch z⟩ i s ⟨fun σ' ρ' H' g i' s' m => h2 ρ' m D σ' B H' (b.up g) i' s' f, ((f.mono b.gr).le l).rt, ((f.mono b.gr).le l).bk, ((f.mono b.gr).le l).ct⟩
/-- a statement, then the rest, the loose lists kept -/
theorem so_seqG {M : List (Option Dt) → Prop} (l : S1.Le SF) (h1 : Sg K S SB S1 L t ρ { P with nx := M }) (h2 : ∀ ρ', M ρ' → Sg K S1 SB SF L u ρ' P) : Sg K S SB SF L (tSeq t u) ρ P := fun D σ B H b i s f =>
  h1 { D with nx := u D } σ B H b i s ⟨fun σ' ρ' H' g i' s' m => h2 ρ' m D σ' B H' ⟨g, b.i, b.new⟩ i' s' f, (f.le l).rt, (f.le l).bk, (f.le l).ct⟩
theorem so_skip (h : Sg K S SB SF L w ρ P) : Sg K S SB SF L (tSeq tNext w) ρ P := fun D σ B H b i s f => h D σ B H b i s f
theorem so_assoc (h : Sg K S SB SF L (tSeq t (tSeq u w)) ρ P) : Sg K S SB SF L (tSeq (tSeq t u) w) ρ P := fun D σ B H b i s f => h D σ B H b i s f
theorem so_ret (h : Ev K S S1 ρ te Φ) (l : S1.Le SF) (q : ∀ d, Φ d → P.rt d) : Sg K S SB SF L (tRet te) ρ P := fun D σ B H b i s f => h σ H i s _ fun v d H1 g1 i1 r1 p1 => f.rt v d H1 (b.gr.trans g1) (l _ i1) r1 (q d p1)
theorem so_retD (h : Ev K S S1 ρ te (Eq d)) (l : S1.Le SF) (q : P.rt d) : Sg K S SB SF L (tRet te) ρ P := so_ret h l fun _ e => e ▸ q
theorem so_ret1 (h : Ev K S S1 ρ te Φ) (l : S1.Le SF) (q : ∀ d, Φ d → P.rt d) : Sg K S SB SF L (tSeq (tRet te) w) ρ P := fun D σ B H b i s f => h σ H i s _ fun v d H1 g1 i1 r1 p1 => f.rt v d H1 (b.gr.trans g1) (l _ i1) r1 (q d p1)
theorem so_ret1D (h : Ev K S S1 ρ te (Eq d)) (l : S1.Le SF) (q : P.rt d) : Sg K S SB SF L (tSeq (tRet te) w) ρ P := so_ret1 h l fun _ e => e ▸ q
/-- x = e -/
theorem so_set {j : Nat} (h : Ev K S S1 ρ te Φ) (q : ∀ d, Φ d → Sg K S1 SB SF L w (ρ.set j (some d)) P) : Sg K S SB SF L (tSeq (tAsg te (gName j)) w) ρ P := fun D σ B H b i s f =>
  h σ H i s _ fun v d H1 g1 i1 r1 p1 => q d p1 D _ B H1 (b.up g1) i1 ((s.mono g1).set r1 j) f
theorem so_setD {j : Nat} (h : Ev K S S1 ρ te (Eq d)) (q : Sg K S1 SB SF L w (ρ.set j (some d)) P) : Sg K S SB SF L (tSeq (tAsg te (gName j)) w) ρ P := so_set h fun _ e => e ▸ q
theorem so_set0 {j : Nat} (h : Ev K S S1 ρ te Φ) (l : S1.Le SF) (q : ∀ d, Φ d → P.nx (ρ.set j (some d))) : Sg K S SB SF L (tAsg te (gName j)) ρ P := fun D σ B H b i s f =>
  h σ H i s _ fun v d H1 g1 i1 r1 p1 => f.nx _ _ H1 (b.gr.trans g1) (l _ i1) ((s.mono g1).set r1 j) (q d p1)
theorem so_set0D {j : Nat} (h : Ev K S S1 ρ te (Eq d)) (l : S1.Le SF) (q : P.nx (ρ.set j (some d))) : Sg K S SB SF L (tAsg te (gName j)) ρ P := so_set0 h l fun _ e => e ▸ q
theorem so_if {Φb : Bool → Prop} (h : EvT K S S1 ρ c Φb) (h1 : Φb true → Sg K S1 SB SF L (tSeq t w) ρ P) (h2 : Φb false → Sg K S1 SB SF L (tSeq u w) ρ P) : Sg K S SB SF L (tSeq (tIfS c t u) w) ρ P := fun D σ B H b i s f => h σ H i s _ fun k H1 g1 i1 p1 => by
  cases k with
  | true => rw [if_pos rfl]; exact h1 p1 D σ B H1 (b.up g1) i1 (s.mono g1) f
  | false => rw [if_neg Bool.false_ne_true]; exact h2 p1 D σ B H1 (b.up g1) i1 (s.mono g1) f
theorem so_if0 {Φb : Bool → Prop} (h : EvT K S S1 ρ c Φb) (h1 : Φb true → Sg K S1 SB SF L t ρ P) (h2 : Φb false → Sg K S1 SB SF L u ρ P) : Sg K S SB SF L (tIfS c t u) ρ P := fun D σ B H b i s f => h σ H i s _ fun k H1 g1 i1 p1 => by
  cases k with
  | true => rw [if_pos rfl]; exact h1 p1 D σ B H1 (b.up g1) i1 (s.mono g1) f
  | false => rw [if_neg Bool.false_ne_true]; exact h2 p1 D σ B H1 (b.up g1) i1 (s.mono g1) f
theorem so_ifD {k : Bool} (h : EvT K S S1 ρ c (Eq k)) (h1 : k = true → Sg K S1 SB SF L (tSeq t w) ρ P) (h2 : k = false → Sg K S1 SB SF L (tSeq u w) ρ P) : Sg K S SB SF L (tSeq (tIfS c t u) w) ρ P := so_if h h1 h2
theorem so_ifT (h : EvT K S S1 ρ c (Eq true)) (h1 : Sg K S1 SB SF L (tSeq t w) ρ P) : Sg K S SB SF L (tSeq (tIfS c t u) w) ρ P := so_if h (fun _ => h1) fun e => nomatch e
theorem so_ifF (h : EvT K S S1 ρ c (Eq false)) (h1 : Sg K S1 SB SF L (tSeq u w) ρ P) : Sg K S SB SF L (tSeq (tIfS c t u) w) ρ P := so_if h (fun e => nomatch e) fun _ => h1
theorem so_if0F (h : EvT K S S1 ρ c (Eq false)) (h1 : Sg K S1 SB SF L u ρ P) : Sg K S SB SF L (tIfS c t u) ρ P := so_if0 h (fun e => nomatch e) fun _ => h1
theorem so_par {i j : Nat} {ta : TA} {Φl : List Dt → Prop} (h : EvA K S S1 ρ ta Φl) (hl : ∀ l, Φl l → l.length = 2) (q : ∀ a b, Φl [a, b] → Sg K S1 SB SF L w ((ρ.set i (some a)).set j (some b)) P) : Sg K S SB SF L (tSeq (tPar i j ta) w) ρ P := fun D σ B H b hi s f =>
  h σ H hi s _ fun vs ds H1 g1 i1 r1 p1 => by
    match ds, hl ds p1, r1, p1 with
    | [x, y], _, r1, p1 =>
      obtain ⟨v, u, rfl, ra, rb⟩ := r1.twoI
      exact ⟨v, u, rfl, q x y p1 D _ B H1 (b.up g1) i1 (((s.mono g1).set ra i).set rb j) f⟩
/-- a, b, .. = e -/
def gNames : List Nat → TGs
  | [] => gNil
  | i :: is => gCons (gName i) (gNames is)
def setAll (ρ : List (Option Dt)) : List Nat → List Dt → List (Option Dt)
  | i :: is, d :: ds => setAll (ρ.set i (some d)) is ds
  | _, _ => ρ
theorem names_run {Q : L2.St → Hp → Prop} : ∀ {is : List Nat} {vs : List V} {ds : List Dt} {σ : L2.St} {ρ : List (Option Dt)}, Slots K H σ ρ → RepA K H vs ds → ds.length = is.length → (∀ σ', Slots K H σ' (setAll ρ is ds) → Q σ' H) → gNames is vs σ H Q
  | [], _, _, σ, ρ, s, .nil, _, q => ⟨rfl, q σ s⟩
  | i :: is, _, _, σ, ρ, s, .cons (v := v) (vs := vs) (d := d) (ds := ds) r ra, hl, q => ⟨v, vs, rfl, names_run (is := is) (s.set r i) ra (by simpa using hl) q⟩
  | [], _, _, _, _, _, .cons _ _, hl, _ => by simp at hl
  | _ :: _, _, _, _, _, _, .nil, hl, _ => by simp at hl
theorem so_unp {n : Nat} {g : TGs} {is : List Nat} {xs : List Dt} (h : Ev K S S1 ρ te (Eq (.tup xs))) (hg : g = gNames is) (hn : xs.length = n) (hi : xs.length = is.length) (q : Sg K S1 SB SF L w (setAll ρ is xs) P) : Sg K S SB SF L (tSeq (tAsg te (gTup K n g)) w) ρ P := fun D σ B H b i s f =>
  h σ H i s _ fun v d H1 g1 i1 r1 p1 => by
    subst p1 hg
    obtain ⟨a, vs, rfl, ht, ra⟩ := r1.tupI
    exact ⟨a, vs, rfl, ht, ra.len.trans hn, names_run (s.mono g1) ra hi fun σ' s' => q D σ' B H1 (b.up g1) i1 s' f⟩

/-! loops -/
theorem so_forT {j : Nat} {xs : List Dt} (h : Ev K S S ρ tl (Eq (.tup xs))) (J : Nat → List (Option Dt) → Prop) (h0 : J 0 ρ)
    (hs : ∀ i x ρ', xs[i]? = some x → J i ρ' → So K S S [] t (ρ'.set j (some x)) { P with nx := J (i + 1), ct := J (i + 1), bk := P.nx }) (hd : ∀ ρ', J xs.length ρ' → P.nx ρ') : Sg K S SB S L (tFor (iTup K tl) (gName j) t) ρ P := fun D σ B H b i s f0 =>
  have f := f0.mono b.gr
  h σ H i s _ fun v d H1 g1 i1 r1 p1 => by
    subst p1
    obtain ⟨a, vs, rfl, ht, ra⟩ := r1.tupI
    refine ⟨a, rfl, ⟨vs, ht⟩, for_tup (K := K) (a := a) (xs := vs) (fun n σ' H' => Gr H1 H' ∧ S.I H' ∧ ∃ ρ', Slots K H' σ' ρ' ∧ J n ρ') ⟨Gr.refl H1, i1, ρ, s.mono g1, h0⟩ (fun n σ' H' _ p => p.1.sqT ht) (fun n x σ' H' hx p => ?_) fun σ' H' p => ?_⟩
    · obtain ⟨g2, i2, ρ', s2, jn⟩ := p
      obtain ⟨d, hd', rd⟩ := ra.ta hx
      refine hs n d ρ' hd' jn _ _ H' H' ⟨Gr.refl H', i2, fun _ z => nomatch z⟩ i2 (s2.set (rd.mono g2) j) ⟨fun σ3 ρ3 H3 g3 i3 s3 q => ⟨g2.trans g3, i3, ρ3, s3, q⟩, fun v3 d3 H3 g3 => f.rt v3 d3 H3 ((g1.trans g2).trans g3), fun σ3 ρ3 H3 g3 i3 s3 q => f.nx σ3 ρ3 H3 ((g1.trans g2).trans g3) i3 s3 q, fun σ3 ρ3 H3 g3 i3 s3 q => ⟨g2.trans g3, i3, ρ3, s3, q⟩⟩
    · obtain ⟨g2, i2, ρ', s2, jn⟩ := p
      rw [ra.len] at jn
      exact f.nx σ' ρ' H' (g1.trans g2) i2 s2 (hd ρ' jn)
theorem so_forL {j : Nat} {xs : List Dt} (h : Ev K S S ρ tl (Eq (.lst xs))) (J : Nat → List (Option Dt) → Prop) (h0 : J 0 ρ)
    (hs : ∀ i x ρ', xs[i]? = some x → J i ρ' → So K S S [] t (ρ'.set j (some x)) { P with nx := J (i + 1), ct := J (i + 1), bk := P.nx }) (hd : ∀ ρ', J xs.length ρ' → P.nx ρ') : Sg K S SB S L (tFor (iList K tl) (gName j) t) ρ P := fun D σ B H b i s f0 =>
  have f := f0.mono b.gr
  h σ H i s _ fun v d H1 g1 i1 r1 p1 => by
    subst p1
    obtain ⟨a, vs, rfl, ht, ra⟩ := r1.lstI
    refine ⟨a, rfl, ⟨vs, ht⟩, for_list (K := K) (a := a) (xs := vs) (fun n σ' H' => Gr H1 H' ∧ S.I H' ∧ ∃ ρ', Slots K H' σ' ρ' ∧ J n ρ') ⟨Gr.refl H1, i1, ρ, s.mono g1, h0⟩ (fun n σ' H' _ p => p.1.sqL ht) (fun n x σ' H' hx p => ?_) fun σ' H' p => ?_⟩
    · obtain ⟨g2, i2, ρ', s2, jn⟩ := p
      obtain ⟨d, hd', rd⟩ := ra.ta hx
      refine hs n d ρ' hd' jn _ _ H' H' ⟨Gr.refl H', i2, fun _ z => nomatch z⟩ i2 (s2.set (rd.mono g2) j) ⟨fun σ3 ρ3 H3 g3 i3 s3 q => ⟨g2.trans g3, i3, ρ3, s3, q⟩, fun v3 d3 H3 g3 => f.rt v3 d3 H3 ((g1.trans g2).trans g3), fun σ3 ρ3 H3 g3 i3 s3 q => f.nx σ3 ρ3 H3 ((g1.trans g2).trans g3) i3 s3 q, fun σ3 ρ3 H3 g3 i3 s3 q => ⟨g2.trans g3, i3, ρ3, s3, q⟩⟩
    · obtain ⟨g2, i2, ρ', s2, jn⟩ := p
      rw [ra.len] at jn
      exact f.nx σ' ρ' H' (g1.trans g2) i2 s2 (hd ρ' jn)
/-- for i in range(n): what holds may turn with each round (Z) -/
theorem so_forR {j n : Nat} {ta : TA} {Z : Nat → Sta} (h : EvA K S (Z 0) ρ ta (Eq [.int n])) (hn : n < 2 ^ 62) (hz : ∀ i, i ≤ n → (Z i).Le SF) (hup : ∀ i, i < n → (Z i).Le (Z (i + 1))) (J : Nat → List (Option Dt) → Prop) (h0 : J 0 ρ)
    (hs : ∀ (i : Nat) ρ', i < n → J i ρ' → So K (Z i) (Z (i + 1)) [] t (ρ'.set j (some (.int i))) { P with nx := J (i + 1), ct := J (i + 1), bk := P.nx }) (hd : ∀ ρ', J n ρ' → P.nx ρ') : Sg K S SB SF L (tFor (iRng1 ta) (gName j) t) ρ P := fun D σ B H b i s f0 =>
  have f := f0.mono b.gr
  h σ H i s _ fun vs ds H1 g1 i1 r1 p1 => by
    subst p1
    obtain ⟨v, rfl, rv⟩ := r1.oneI
    obtain rfl := rv.intI
    refine ⟨n, rfl, by omega, by omega, ?_⟩
    rw [Int.toNat_natCast]
    refine for_range (lo := 0) (n := n) (fun m σ' H' => Gr H1 H' ∧ (Z m).I H' ∧ ∃ ρ', Slots K H' σ' ρ' ∧ J m ρ') ⟨Gr.refl H1, i1, ρ, s.mono g1, h0⟩ (fun m σ' H' hm p => ?_) fun σ' H' p => ?_
    · obtain ⟨g2, i2, ρ', s2, jn⟩ := p
      rw [Int.zero_add]
      have l := hz (m + 1) hm
      exact hs m ρ' hm jn _ _ H' H' ⟨Gr.refl H', hup m hm _ i2, fun _ z => nomatch z⟩ i2 (s2.set (.int _) j) ⟨fun σ3 ρ3 H3 g3 i3 s3 q => ⟨g2.trans g3, i3, ρ3, s3, q⟩, fun v3 d3 H3 g3 i3 => f.rt v3 d3 H3 ((g1.trans g2).trans g3) (l _ i3), fun σ3 ρ3 H3 g3 i3 s3 q => f.nx σ3 ρ3 H3 ((g1.trans g2).trans g3) (l _ i3) s3 q, fun σ3 ρ3 H3 g3 i3 s3 q => ⟨g2.trans g3, i3, ρ3, s3, q⟩⟩
    · obtain ⟨g2, i2, ρ', s2, jn⟩ := p
      exact f.nx σ' ρ' H' (g1.trans g2) (hz n (Nat.le_refl n) _ i2) s2 (hd ρ' jn)
end

/-! ### E. comprehensions: the list that grows is none of the items' -/
mutual
def nol : Dt → Bool
  | .lst _ => false
  | .lat _ _ => false
  | .tup xs => nolA xs
  | .ins _ _ xs => nolA xs
  | .err _ _ d => nol d
  | .dct ks xs => nolA ks && nolA xs
  | .dti _ _ xs => nolA xs
  | .dat _ _ ks xs => nolA ks && nolA xs
  | .cel _ _ => false
  | _ => true
def nolA : List Dt → Bool
  | [] => true
  | x :: xs => nol x && nolA xs
end
section
variable {K : PySem.W.Frag} {H : Hp} {D : Addr} {acc : List V} {o : HO}
theorem upd_other {a : Addr} {u : HO} (hD : H D = some (.lst acc)) (ha : H a = some u) (hu : ∀ xs, u ≠ .lst xs) : upd H D o a = some u := by
  rw [upd_ne (fun e => by rw [e, hD] at ha; exact hu acc (Option.some.inj ha).symm)]
  exact ha
mutual
theorem Rep.off (hD : H D = some (.lst acc)) : ∀ {v : V} {d : Dt}, nol d = true → Rep K H v d → Rep K (upd H D o) v d
  | _, _, _, .non => .non
  | _, _, _, .bl b => .bl b
  | _, _, _, .int i => .int i
  | _, _, _, .str x => .str x
  | _, _, h, .lst _ _ => by simp [nol] at h
  | _, _, h, .tup q r => .tup (by
      rcases q with (q | ⟨o', q⟩) | q
      · exact .inl (.inl (upd_other hD q fun _ z => nomatch z))
      · exact .inl (.inr ⟨o', upd_other hD q fun _ z => nomatch z⟩)
      · exact .inr q) (r.off hD (by simpa [nol] using h))
  | _, _, _, .dic h => .dic (upd_other hD h fun _ z => nomatch z)
  | _, _, h, .ins q r => .ins (upd_other hD q fun _ z => nomatch z) (r.off hD (by simpa [nol] using h))
  | _, _, _, .raw v => .raw v
  | _, _, h, .lat _ _ => by simp [nol] at h
  | _, _, h, .err q1 q2 r => .err (upd_other hD q1 fun _ z => nomatch (show HO.ext _ = HO.lst _ from z)) (upd_other hD q2 fun _ z => nomatch z) (r.off hD (by simpa [nol] using h))
  | _, _, h, .dct q r1 r2 => .dct (upd_other hD q fun _ z => nomatch (show HO.ext _ = HO.lst _ from z)) (r1.off hD (Bool.and_eq_true_iff.mp (by simpa only [nol] using h)).1) (r2.off hD (Bool.and_eq_true_iff.mp (by simpa only [nol] using h)).2)
  | _, _, h, .dti q l r => .dti (upd_other hD q fun _ z => nomatch (show HO.dK _ = HO.lst _ from z)) l (r.off hD (by simpa only [nol] using h))
  | _, _, h, .cel _ _ => by simp [nol] at h
  | _, _, h, .dat q l r1 r2 => .dat (upd_other hD q fun _ z => nomatch (show HO.ext _ = HO.lst _ from z)) l (r1.off hD (Bool.and_eq_true_iff.mp (by simpa only [nol] using h)).1) (r2.off hD (Bool.and_eq_true_iff.mp (by simpa only [nol] using h)).2)
theorem RepA.off (hD : H D = some (.lst acc)) : ∀ {vs : List V} {ds : List Dt}, nolA ds = true → RepA K H vs ds → RepA K (upd H D o) vs ds
  | _, _, _, .nil => .nil
  | _, _, h, .cons q r => by
    simp only [nolA, Bool.and_eq_true] at h
    exact .cons (q.off hD h.1) (r.off hD h.2)
end
end
theorem nolA_all : ∀ {xs : List Dt}, nolA xs = true ↔ ∀ x ∈ xs, nol x = true
  | [] => by simp [nolA]
  | x :: xs => by simp [nolA, nolA_all]
theorem wipe_set (ν : Option V) (j : Nat) : ∀ (vs : List Nat) (σ : L2.St), (L2.wipe (σ.set j ν) vs).set j none = (L2.wipe σ vs).set j none
  | [], σ => by simp [L2.wipe, List.set_set]
  | v :: vs, σ => by
    show ((L2.wipe (σ.set j ν) vs).set v none).set j none = ((L2.wipe σ vs).set v none).set j none
    by_cases h : v = j
    · subst h
      rw [wipe_set ν v vs σ]
    · rw [List.set_comm _ _ h, wipe_set ν j vs σ, List.set_comm _ _ h]
theorem wipe_in (ν : Option V) (j : Nat) : ∀ (vs : List Nat) (σ : L2.St), j ∈ vs → L2.wipe (σ.set j ν) vs = L2.wipe σ vs
  | v :: vs, σ, h => by
    show (L2.wipe (σ.set j ν) vs).set v none = (L2.wipe σ vs).set v none
    by_cases e : v = j
    · subst e
      exact wipe_set ν v vs σ
    · rw [wipe_in ν j vs σ ((List.mem_cons.mp h).resolve_left (Ne.symm e))]
theorem wipe_twice : ∀ (vs : List Nat) (σ : L2.St), L2.wipe (L2.wipe σ vs) vs = L2.wipe σ vs
  | [], σ => rfl
  | v :: vs, σ => by
    show (L2.wipe ((L2.wipe σ vs).set v none) vs).set v none = (L2.wipe σ vs).set v none
    rw [wipe_set none v vs, wipe_twice vs σ]
theorem wipe_put (ν : Option V) {j : Nat} {vs : List Nat} (σ : L2.St) (h : j ∈ vs) : L2.wipe ((L2.wipe σ vs).set j ν) vs = L2.wipe σ vs := by
  rw [wipe_in ν j vs _ h, wipe_twice]
/-- a list may turn under what holds all along -/
def Sta.Mu (S : Sta) : Prop := ∀ {H1 H : Hp} {D : Addr} {o : HO} {ws : List V}, S.I H1 → Gr H1 H → H1 D = none → H D = some (.lst ws) → S.I H → S.I (upd H D o)
theorem gr_off {H1 H : Hp} {D : Addr} {o : HO} (g : Gr H1 H) (h : H1 D = none) : Gr H1 (upd H D o) := fun a u e d => by
  rw [upd_ne (ne_of_none e h)]
  exact g a u e d
section
variable {K : PySem.W.Frag} {S S1 : Sta} {ρ : List (Option Dt)} {te tl : TE} {tt : TT} {vs : List Nat} {j : Nat}
/-- a comprehension over a source whose items are told; every item's data such that Φ i, or left out -/
theorem lc_turns {g : L2.St} {H1 : Hp} {D : Addr} {σ : L2.St} (hmu : ∀ {H2 : Hp} {o : HO} {ws : List V}, Gr H1 H2 → H2 D = some (.lst ws) → S1.I H2 → S1.I (upd H2 D o)) (le : S.Le S1) (hD : H1 D = none) {Z : Nat → List Dt → Prop} {i : Nat} {acc : List V} {ds : List Dt} {x : V} {dx : Dt} {H : Hp} (hj : j ∈ vs)
    {p : Bool} {Φ : Dt → Prop} (s : Slots K H1 σ ρ) (gH : Gr H1 H) (iH : S.I H) (hH : H D = some (.lst acc)) (ra : RepA K H acc ds) (hnol : nolA ds = true) (rx : Rep K H x dx)
    (hz : ds.length < sizeLine) (ht : EvT K S S ((wipeD ρ vs).set j (some dx)) tt (Eq p)) (he : p = true → Ev K S S1 ((wipeD ρ vs).set j (some dx)) te (fun d => Φ d ∧ nol d = true))
    {Pv : Hp → Prop} (hy : p = true → ∀ H' acc' d, Φ d → nol d = true → Gr H1 H' → S1.I H' → H' D = some (.lst acc') → RepA K H' acc' (ds ++ [d]) → Pv H') (hn : p = false → ∀ H', Gr H1 H' → S1.I H' → H' D = some (.lst acc) → RepA K H' acc ds → Pv H') :
    gName j x (L2.wipe σ vs) H fun σ2 H2 => L2.wipe σ2 vs = L2.wipe σ vs ∧ tt σ2 H2 fun b H3 => if b = true then te σ2 H3 fun y H4 => ∃ acc, H4 D = some (.lst acc) ∧ acc.length < sizeLine ∧ Pv (upd H4 D (.lst (acc ++ [y]))) else Pv H3 := by
  refine ⟨wipe_put _ σ hj, ht _ H iH (((s.mono gH).wipe vs).set rx j) _ fun b H3 g3 i3 p3 => ?_⟩
  subst p3
  have hH3 : H3 D = some (.lst acc) := g3 _ _ hH rfl
  cases p with
  | false =>
    rw [if_neg Bool.false_ne_true]
    exact hn rfl H3 (gH.trans g3) (le _ i3) hH3 (ra.mono g3)
  | true =>
    rw [if_pos rfl]
    refine he rfl _ H3 i3 (((s.mono (gH.trans g3)).wipe vs).set (rx.mono g3) j) _ fun y d H4 g4 i4 r4 p4 => ?_
    have hH4 : H4 D = some (.lst acc) := g4 _ _ hH3 rfl
    have ra4 := ra.mono (g3.trans g4)
    refine ⟨acc, hH4, by rw [ra4.len]; exact hz, hy rfl _ (acc ++ [y]) d p4.1 p4.2 (gr_off ((gH.trans g3).trans g4) hD) (hmu ((gH.trans g3).trans g4) hH4 i4) upd_same ?_⟩
    exact (ra4.off hH4 hnol).app (.cons (r4.off hH4 p4.2) .nil)
end

/-- all that was is as it was -/
def staSameQ (H : Hp) : Sta := ⟨fun H' => Same H H', fun a b => a.trans b⟩
/-! lists that may be changed -/
section
variable {K : PySem.W.Frag} {S SB SF : Sta} {L : List Addr} {ρ : List (Option Dt)} {P : Po} {te : TE} {w : TS} {x d : Dt} {D : Ends} {H H' : Hp}
/-- a list that is made on the way: it is new at some H1 in between, nothing else knows it -/
def EvN (K : PySem.W.Frag) (S S' : Sta) (ρ : List (Option Dt)) (te : TE) (xs : List Dt) : Prop := ∀ (σ : L2.St) (H : Hp), S.I H → Slots K H σ ρ → ∀ Q : VK,
  (∀ p vs H1 H', Gr H H1 → S'.I H1 → H1 p = none → Gr H1 H' → S'.I H' → H' p = some (.lst vs) → RepA K H' vs xs → Q (.ref p) H') → te σ H Q
theorem EvN.ev {S1 : Sta} {xs : List Dt} (h : EvN K S S1 ρ te xs) : Ev K S S1 ρ te (Eq (.lst xs)) := fun σ H i s Q q => h σ H i s Q fun p vs H1 H' g _ _ g2 i' e r => q _ _ H' (g.trans g2) i' (.lst (SqL.of e) r) rfl
theorem EvN.to {S1 : Sta} {xs ys : List Dt} (h : EvN K S S1 ρ te xs) (e : xs = ys) : EvN K S S1 ρ te ys := e ▸ h
theorem en_lst {S1 : Sta} {t : TA} {ds : List Dt} (h : EvA K S S1 ρ t (Eq ds)) (hz : ds.length ≤ sizeLine) : EvN K S S1 ρ (tLst t) ds := fun σ H i s Q q =>
  h σ H i s _ fun vs ds' H1 g1 i1 r1 e => by
    subst e
    exact ⟨by rw [r1.len]; exact hz, fun p hp => q p vs H1 _ g1 i1 hp (same_new hp).gr (S1.st i1 (same_new hp)) upd_same (r1.mono (same_new hp).gr)⟩
/-- what holds bears that a loose list is changed -/
def Loose (S SF : Sta) : Prop := ∀ {B H : Hp} {p : Addr} {vs : List V} {o : HO}, SF.I B → Gr B H → B p = none → H p = some (.lst vs) → S.I H → S.I (upd H p o)
end
end Bf
namespace Bf
open PySem PySem.Spec PyProof.Rows L2

/-! ### F. what kind a thing is -/
/-- the name of a thing's class (not of an instance, not of a value by itself) -/
def tyN : Dt → Option String
  | .non => some "NoneType"
  | .bl _ => some "bool"
  | .int _ => some "int"
  | .str _ => some "str"
  | .lst _ => some "list"
  | .tup _ => some "tuple"
  | .dic => some "dict"
  | .raw (.ty _) => none
  | _ => none
section
variable {K : PySem.W.Frag} {S : Sta} {ρ : List (Option Dt)} {H : Hp} {d : Dt} {v : V} {n T : String}
theorem Rep.ty (r : Rep K H v d) (h : tyN d = some n) : TyX K H v (.type n) := by
  cases r with
  | non => cases h; exact .base .non
  | bl b => cases h; exact .base (.bl b)
  | int i => cases h; exact .base (.int i)
  | str x => cases h; exact .base (.str x)
  | lst q r =>
    cases h
    rcases q with (q | ⟨o, q⟩) | ⟨o, its, n, hk, hc, _⟩
    · exact .base (.lst q)
    · exact .base (.frz q)
    · exact .kList hk hc
  | tup q r =>
    cases h
    rcases q with (q | ⟨o, q⟩) | ⟨o, its, n, hk, hc, _⟩
    · exact .base (.tup q)
    · exact .fTuple q
    · exact .kTuple hk hc
  | dic q => cases h; exact .base (.dK q)
  | ins q r => cases h
  | raw v => cases v <;> cases h
  | lat q r => cases h
  | err q1 q2 r => cases h
  | dct q r1 r2 => cases h
  | dti q l r => cases h
  | dat q l r1 r2 => cases h
  | cel q e => cases h
theorem rc_isi {b : Bool} (h : tyN d = some n) (hk : kitB n T = some b) : RvC K S (rIsi K) [d, .raw (.ty T)] (Eq (.bl b)) := rc_at fun H vs i r Q q => by
  obtain ⟨v, u, rfl, r1, r2⟩ := r.twoI
  obtain rfl := r2.rawI
  exact ⟨v, .ty T, _, _, b, rfl, .ty T, r1.ty h, kit_ty hk, q _ (.bl b)⟩
end

/-! ### G. == and repr of data without dicts, instances -/
mutual
def py : Dt → PyData
  | .non => .none
  | .bl b => .bool b
  | .int i => .int i
  | .str x => .str x
  | .lst xs => .list (pyA xs)
  | .tup xs => .tuple (pyA xs)
  | .dic => .dict []
  | .ins _ _ _ => .none
  | .raw _ => .none
  | .lat _ _ => .none
  | .err _ _ _ => .none
  | .dct _ _ => .none
  | .dti _ _ _ => .none
  | .dat _ _ _ _ => .none
  | .cel _ _ => .none
def pyA : List Dt → List PyData
  | [] => []
  | x :: xs => py x :: pyA xs
end
mutual
/-- no dict, no instance, no value by itself -/
def pur : Dt → Bool
  | .lst xs => purA xs
  | .tup xs => purA xs
  | .dic => false
  | .ins _ _ _ => false
  | .raw _ => false
  | .lat _ _ => false
  | .err _ _ _ => false
  | .dct _ _ => false
  | .dti _ _ _ => false
  | .dat _ _ _ _ => false
  | .cel _ _ => false
  | _ => true
def purA : List Dt → Bool
  | [] => true
  | x :: xs => pur x && purA xs
end
section
variable {K : PySem.W.Frag} {H : Hp}
mutual
theorem Rep.dp : ∀ {v : V} {d : Dt}, pur d = true → Rep K H v d → Dp K H v (py d)
  | _, _, _, .non => by unfold py; exact .non
  | _, _, _, .bl b => by unfold py; exact .bl b
  | _, _, _, .int i => by unfold py; exact .int i
  | _, _, _, .str x => by unfold py; exact .str x
  | _, _, h, .lst q r => by unfold py; exact .lst q (r.dp (by simpa [pur] using h))
  | _, _, h, .tup q r => by unfold py; exact .tup q (r.dp (by simpa [pur] using h))
  | _, _, h, .dic _ => by simp [pur] at h
  | _, _, h, .ins _ _ => by simp [pur] at h
  | _, _, h, .raw _ => by simp [pur] at h
  | _, _, h, .lat _ _ => by simp [pur] at h
  | _, _, h, .err _ _ _ => by simp [pur] at h
  | _, _, h, .dct _ _ _ => by simp [pur] at h
  | _, _, h, .dti _ _ _ => by simp [pur] at h
  | _, _, h, .dat _ _ _ _ => by simp [pur] at h
  | _, _, h, .cel _ _ => by simp [pur] at h
theorem RepA.dp : ∀ {vs : List V} {ds : List Dt}, purA ds = true → RepA K H vs ds → DpAll K H vs (pyA ds)
  | _, _, _, .nil => by unfold pyA; exact .nil
  | _, _, h, .cons q r => by
    simp only [purA, Bool.and_eq_true] at h
    unfold pyA
    exact .cons (q.dp h.1) (r.dp h.2)
end
end
/-- fit to be compared -/
def cmpOk (d : Dt) : Bool := pur d && SeqAt.shaped (py d)
section
variable {K : PySem.W.Frag} {S : Sta} {x y : Dt}
theorem rv_neD (hx : cmpOk x = true) (hy : cmpOk y = true) : Rv2 K S (rNeD K) x y (Eq (.bl (!PyData.eqv (py x) (py y)))) := rv_at fun H v u _ r1 r2 Q q => by
  simp only [cmpOk, Bool.and_eq_true] at hx hy
  exact ⟨_, _, r1.dp hx.1, r2.dp hy.1, hx.2, hy.2, q _ (.bl _)⟩
end
/-- repr(x) -/
def rRepr (K : PySem.W.Frag) : List V → Hp → VK → Prop := fun xs H Q => ∃ x d, xs = [x] ∧ Dp K H x d ∧ d.showable = true ∧ SeqAt.shaped d = true ∧ d.shown.length ≤ sizeLine ∧ Q (.str d.shown) H
theorem call_reprD {X : Cx} (hg : X.A.guards = some []) (hu : X.A.units + 70 < cLine) : CallR X (.builtin "repr") (rRepr X.K) := by
  intro pins s σ H xs us Q I r h
  obtain ⟨x, d, rfl, hd, hs, hsh, hz, q⟩ := h
  obtain ⟨u, rfl, ru⟩ := vals1 r
  have hq : ∀ t, EP X pins σ Q (.str d.shown t) { s with toks := s.toks + 1 } := fun t => ⟨.str _, H, I.tok _, ⟨_, rfl⟩, q⟩
  cases hd with
  | non => cases ru; exact PySem.P.repr_of_none (by simpa [PyData.shown] using hq _)
  | bl b => cases ru; exact PySem.P.repr_of_bool (by simpa [PyData.shown] using hq _)
  | int i =>
    obtain ⟨t, rfl⟩ := ru
    exact PySem.P.repr_of_int (by simpa [PyData.showable] using hs) (by simpa [PyData.shown] using hq _)
  | str y =>
    obtain ⟨t, rfl⟩ := ru
    exact PySem.P.repr_of_str (by simpa [PyData.shown] using hq _) (by simpa [PyData.shown] using hz)
  | lst q1 q2 =>
    cases ru
    obtain ⟨as, rd⟩ := Dp.reads I _ _ _ (Dp.lst q1 q2) rfl
    have hdep := SeqAt.depth_of_shaped hsh
    exact repr_of_reads' rd hs (PyData.noDict_hsm (PyData.hasDict_of_canLay _ (SeqAt.canLay_of_shaped hsh))) hg (by omega) (fun _ _ e => e) (fun h' u tk hk => ⟨.str _, H, I.kept (t' := tk) hk, ⟨_, rfl⟩, q⟩) hz
  | tup q1 q2 =>
    cases ru
    obtain ⟨as, rd⟩ := Dp.reads I _ _ _ (Dp.tup q1 q2) rfl
    have hdep := SeqAt.depth_of_shaped hsh
    exact repr_of_reads' rd hs (PyData.noDict_hsm (PyData.hasDict_of_canLay _ (SeqAt.canLay_of_shaped hsh))) hg (by omega) (fun _ _ e => e) (fun h' u tk hk => ⟨.str _, H, I.kept (t' := tk) hk, ⟨_, rfl⟩, q⟩) hz
/-- fit to be shown -/
def shwOk (d : Dt) : Prop := cmpOk d = true ∧ (py d).showable = true ∧ (py d).shown.length ≤ sizeLine
theorem rc_repr {K : PySem.W.Frag} {S : Sta} {d : Dt} (h : shwOk d) : RvC K S (rRepr K) [d] (Eq (.str (py d).shown)) := rc_at fun H vs i r Q q => by
  obtain ⟨v, rfl, rv⟩ := r.oneI
  have h1 := h.1
  simp only [cmpOk, Bool.and_eq_true] at h1
  exact ⟨v, _, rfl, rv.dp h1.1, h.2.1, h1.2, h.2.2, q _ (.str _)⟩

/-! ### H. lists joined, whatever their lists are -/
def rCatS (K : PySem.W.Frag) : R2 := fun x y H Q => ∃ l b xs zs, x = .ref l ∧ y = .ref b ∧ SqL K H l xs ∧ SqL K H b zs ∧ xs.length + zs.length ≤ sizeLine ∧ ∀ p, H p = none → Q (.ref p) (upd H p (.lst (xs ++ zs)))
theorem op_catS {X : Cx} : OpR X (binaryOp .Add) (rCatS X.K) := by
  intro pins s σ H x y v u Q I rx ry h
  obtain ⟨l, b, xs, zs, rfl, rfl, h1, h2, hz, q⟩ := h
  cases rx
  cases ry
  obtain ⟨its, r1, ⟨⟨c1, d1, dt1, sl1⟩, n1, o1, e1, _, f1⟩, _⟩ := I.list h1
  obtain ⟨jts, r2, ⟨⟨c2, d2, dt2, sl2⟩, n2, o2, e2, _, f2⟩, _⟩ := I.list h2
  simp only at e1 e2 f1 f2
  subst e1 e2 f1 f2
  have l1 := r1.length
  have l2 := r2.length
  refine concat_meets ⟨_, o1, rfl⟩ ⟨_, o2, rfl⟩ noFill_list_add seq_list_add PySem.F.slot_list_add PySem.F.entry_list_add (PySem.F.args_list_add_2 _ _)
    (list_addW l b its.toArray jts.toArray n1 n2 d1 d2 sl1 sl2 (by rw [List.size_toArray, List.size_toArray]; omega)) ⟨o1, o2, ?_⟩
  rw [show its.toArray ++ jts.toArray = (its ++ jts).toArray by simp]
  exact ⟨.ref _, _, I.lnew (t' := s.toks) (r1.append r2) (by rw [List.length_append]; omega), rfl, q _ I.fresh⟩
section
variable {K : PySem.W.Frag} {S : Sta} {ρ : List (Option Dt)} {x y d : Dt}
theorem rv_catL {xs ys : List Dt} (hz : xs.length + ys.length ≤ sizeLine) : Rv2 K S (rCatS K) (.lst xs) (.lst ys) (Eq (.lst (xs ++ ys))) := fun H v u i r1 r2 Q q => by
  obtain ⟨a, vs, rfl, h1, ra⟩ := r1.lstI
  obtain ⟨b, us, rfl, h2, rb⟩ := r2.lstI
  exact ⟨a, b, vs, us, rfl, rfl, h1, h2, by rw [ra.len, rb.len]; exact hz, fun p hp => q _ _ _ (same_new hp).gr (S.st i (same_new hp)) (.lst (SqL.of upd_same) ((ra.app rb).mono (same_new hp).gr)) rfl⟩
/-! tuple(..), list(..) -/
/-! int(True) -/
/-! in a written tuple of ints -/
end

/-! ### I. a def over data, by its body -/
def startD (n : Nat) (ds : List Dt) : List (Option Dt) := ds.map some ++ List.replicate (n - ds.length) none
theorem slots_start {K : PySem.W.Frag} {H : Hp} {N : List Str} {vs : List V} {ds : List Dt} (r : RepA K H vs ds) : Slots K H (L2.start N vs) (startD N.length ds) := by
  refine ⟨by simp [L2.start, startD, r.len], fun i d h => ?_⟩
  unfold startD at h
  unfold L2.start
  by_cases hi : i < ds.length
  · rw [List.getElem?_append_left (by simpa using hi), List.getElem?_map] at h
    cases e : ds[i]? with
    | none => rw [e] at h; cases h
    | some d' =>
      rw [e] at h
      cases h
      obtain ⟨v, hv, rv⟩ := r.at_ e
      exact ⟨v, by rw [List.getElem?_append_left (by rw [List.length_map, r.len]; exact hi), List.getElem?_map, hv]; rfl, rv⟩
  · rw [List.getElem?_append_right (by simpa using hi), List.getElem?_replicate] at h
    split at h <;> cases h
/-- all that was is as it was -/
abbrev staSame (H : Hp) : Sta := staSameQ H
theorem staSame_mu {H : Hp} : (staSame H).Mu := fun {H1 H2 D o ws} i1 _ hD _ i2 b u e => by
  have hb : b ≠ D := fun z => by
    have y := i1 b u e
    rw [z, hD] at y
    cases y
  rw [upd_ne hb]
  exact i2 b u e
theorem okF {P : Program} {w : World} {K : PySem.W.Frag} {mg : Str → Option Value} {base : Heap} {x qual : Str} {st : Stmt} {f : Addr} {fd : FuncData} {N ps : List Str} {k : Nat} {pre : List Dt → Prop} {F : List Dt → Dt} (Fu : Fun K x qual st f fd) (Sc : FnScope N ps (defScope st))
    (hb : ∀ (cdv : Value) (A : Around) (out : List Env) (s : Shared) (H : Hp) (E : XK), Room k (A.deeper (envOfC qual (defScope st) s.heap.objs.size f cdv)) → A.guards = some [] →
      ∃ t, PSs (cxOf (L2.CX P w) P w K mg base N qual (defScope st) f cdv A out s H E).nox (defBody st) t ∧ ∀ (S : Sta), S.Mu → ∀ ds : List Dt, ds.length = ps.length → pre ds → So K S S [] t (startD N.length ds) { nx := fun _ => F ds = .non, rt := Eq (F ds) }) :
    GOk P w K mg base (k + 1) f fd ps (spF K ps.length pre F) := by
  refine okG Fu Sc (fun vs H Q E h => ?_) fun cdv A out s H vs Q E hr hg h => ?_
  · obtain ⟨ds, r, hl, _⟩ := h
    exact r.len.trans hl
  · obtain ⟨ds, r, hl, hp, q⟩ := h
    obtain ⟨t, ht, so⟩ := hb cdv A out s H E hr hg
    refine ⟨t, ht.nox, so (staSame H) staSame_mu ds hl hp _ _ H H ⟨Gr.refl H, Same.refl H, fun _ z => nomatch z⟩ (Same.refl H) (slots_start r) ⟨fun σ ρ H' g i s' e => ?_, fun v d H' g i r' e => ?_, fun _ _ _ _ _ _ z => z.elim, fun _ _ _ _ _ _ z => z.elim⟩⟩
    · exact q _ H' i ((show F ds = .non from e) ▸ .non)
    · exact q v H' i ((show F ds = d from e) ▸ r')

end Bf
namespace Bf
open PySem PySem.Spec PyProof.Rows L2
/-! ### J. the readings' names -/
abbrev rAddI : R2 := rI0 fun i j => .int (i + j)
abbrev rSubI : R2 := rI0 fun i j => .int (i - j)
abbrev rMulW : R2 := rI CMulW fun i j => .int (i * j)
abbrev rDivW : R2 := rI CDivW fun i j => .int (i / j)
abbrev rModI : R2 := rI (fun _ j => 0 < j) fun i j => .int (i % j)
abbrev rPowI : R2 := rI CPow fun i j => .int (i ^ j.toNat)
abbrev rLtI : R2 := rI0 fun i j => .bl (decide (i < j))
abbrev rLeI : R2 := rI0 fun i j => .bl (decide (i ≤ j))
abbrev rGtI : R2 := rI0 fun i j => .bl (decide (j < i))
abbrev rGeI : R2 := rI0 fun i j => .bl (decide (j ≤ i))
abbrev rNoNo : R2 := fun x y H Q => y = .non ∧ Q (.bl (!decide (x = .non))) H
abbrev rNegI : V → Hp → VK → Prop := rU fun i => .int (-i)
section
variable {K : PySem.W.Frag} {S S1 S2 : Sta} {ρ : List (Option Dt)} {te tl ta : TE} {vs : List Nat} {j : Nat} {x y d : Dt} {t u : TT}
theorem ev_neg {i : Int} (h : Ev K S S1 ρ ta (Eq (.int i))) : Ev K S S1 ρ (tUn rNegI ta) (Eq (.int (-i))) := ev_un h fun H v _ r Q q => ⟨i, r.intI, q _ _ H (Gr.refl H) (by assumption) (.int _) rfl⟩
/-! and, or where the first answer decides -/
theorem ev_andT {b : Bool} {tb : TE} (ha : Ev K S S1 ρ ta (Eq (.bl true))) (hb : Ev K S1 S1 ρ tb (Eq (.bl b))) : Ev K S S1 ρ (tAndV ta tb) (Eq (.bl b)) := (ev_and ha fun _ => hb).to (by rw [Bool.true_and])
theorem ev_andF {tb : TE} (ha : Ev K S S1 ρ ta (Eq (.bl false))) : Ev K S S1 ρ (tAndV ta tb) (Eq (.bl false)) := (ev_and (b := false) ha fun e => nomatch e).to (by rw [Bool.false_and])
theorem et_andT {b : Bool} (ha : EvT K S S1 ρ t (Eq true)) (hb : EvT K S1 S1 ρ u (Eq b)) : EvT K S S1 ρ (tAnd t u) (Eq b) := (et_and ha fun _ => hb).to (by rw [Bool.true_and])
theorem et_andF (ha : EvT K S S1 ρ t (Eq false)) : EvT K S S1 ρ (tAnd t u) (Eq false) := (et_and (b := false) ha fun e => nomatch e).to (by rw [Bool.false_and])
theorem et_orT (ha : EvT K S S1 ρ t (Eq true)) : EvT K S S1 ρ (tOr t u) (Eq true) := (et_or (b := true) ha fun e => nomatch e).to (by rw [Bool.true_or])
theorem et_orF {b : Bool} (ha : EvT K S S1 ρ t (Eq false)) (hb : EvT K S1 S1 ρ u (Eq b)) : EvT K S S1 ρ (tOr t u) (Eq b) := (et_or ha fun _ => hb).to (by rw [Bool.false_or])
theorem et_notT (ha : EvT K S S1 ρ t (Eq true)) : EvT K S S1 ρ (tNot t) (Eq false) := (et_not ha).to rfl
theorem ev_ifT {Φ : Dt → Prop} {tb : TE} (ht : EvT K S S1 ρ t (Eq true)) (ha : Ev K S1 S2 ρ ta Φ) : Ev K S S2 ρ (tIf t ta tb) Φ := ev_if ht (fun _ => ha) fun e => nomatch e
theorem ev_ifF {Φ : Dt → Prop} {tb : TE} (ht : EvT K S S1 ρ t (Eq false)) (hb : Ev K S1 S2 ρ tb Φ) : Ev K S S2 ρ (tIf t ta tb) Φ := ev_if ht (fun e => nomatch e) fun _ => hb
/-! a < b < c where the first already fails, or not -/

/-! isinstance -/
def okN (d : Dt) : Bool := (tyN d).isSome
def isIntD : Dt → Bool
  | .int _ => true
  | .bl _ => true
  | _ => false
def isBlD : Dt → Bool
  | .bl _ => true
  | _ => false
def isStrD : Dt → Bool
  | .str _ => true
  | _ => false
theorem rc_isInt (h : okN d = true) : RvC K S (rIsi K) [d, .raw (.ty "int")] (Eq (.bl (isIntD d))) := by
  cases d with
  | non => exact rc_isi (b := false) rfl (by decide +kernel)
  | bl => exact rc_isi (b := true) rfl (by decide +kernel)
  | int => exact rc_isi (b := true) rfl (by decide +kernel)
  | str => exact rc_isi (b := false) rfl (by decide +kernel)
  | lst => exact rc_isi (b := false) rfl (by decide +kernel)
  | tup => exact rc_isi (b := false) rfl (by decide +kernel)
  | dic => exact rc_isi (b := false) rfl (by decide +kernel)
  | ins => cases h
  | raw v => cases v <;> cases h
  | lat => cases h
  | err => cases h
  | dct => cases h
  | dti => cases h
  | dat => cases h
  | cel => cases h
theorem rc_isBl (h : okN d = true) : RvC K S (rIsi K) [d, .raw (.ty "bool")] (Eq (.bl (isBlD d))) := by
  cases d with
  | non => exact rc_isi (b := false) rfl (by decide +kernel)
  | bl => exact rc_isi (b := true) rfl (by decide +kernel)
  | int => exact rc_isi (b := false) rfl (by decide +kernel)
  | str => exact rc_isi (b := false) rfl (by decide +kernel)
  | lst => exact rc_isi (b := false) rfl (by decide +kernel)
  | tup => exact rc_isi (b := false) rfl (by decide +kernel)
  | dic => exact rc_isi (b := false) rfl (by decide +kernel)
  | ins => cases h
  | raw v => cases v <;> cases h
  | lat => cases h
  | err => cases h
  | dct => cases h
  | dti => cases h
  | dat => cases h
  | cel => cases h
theorem rc_isStr (h : okN d = true) : RvC K S (rIsi K) [d, .raw (.ty "str")] (Eq (.bl (isStrD d))) := by
  cases d with
  | non => exact rc_isi (b := false) rfl (by decide +kernel)
  | bl => exact rc_isi (b := false) rfl (by decide +kernel)
  | int => exact rc_isi (b := false) rfl (by decide +kernel)
  | str => exact rc_isi (b := true) rfl (by decide +kernel)
  | lst => exact rc_isi (b := false) rfl (by decide +kernel)
  | tup => exact rc_isi (b := false) rfl (by decide +kernel)
  | dic => exact rc_isi (b := false) rfl (by decide +kernel)
  | ins => cases h
  | raw v => cases v <;> cases h
  | lat => cases h
  | err => cases h
  | dct => cases h
  | dti => cases h
  | dat => cases h
  | cel => cases h
/-! [te for x in a list for y in (a tuple)] -/
end
end Bf
namespace Bf
open PySem PySem.Spec PyProof.Rows L2

/-! ### K. a def of the text -/
structure Cal (K : PySem.W.Frag) (mg : Str → Option Value) (x : Str) (st : Stmt) (ps : List Str) (f : Addr) (fd : FuncData) : Prop where
  fn : Fun K x x st f fd
  gl : mg x = some (.ref f)
  bp : BPos fd ps
def swpL : List Value → List Value
  | [a, b] => [b, a]
  | ws => ws
def swpV : List V → List V
  | [a, b] => [b, a]
  | ws => ws
theorem kws {n : Nat} : ∀ {vs : List V} {us : List Value}, Vals vs us → vs.length = n → Vals (swpV vs) (swpL us)
  | _, _, .nil, _ => .nil
  | _, _, .cons a .nil, _ => .cons a .nil
  | _, _, .cons a (.cons b .nil), _ => .cons b (.cons a .nil)
  | _, _, .cons a (.cons b (.cons c r)), _ => .cons a (.cons b (.cons c r))
/-! ### L. the draws' dict -/
def rSetD : TSet := fun o i v H Q => ∃ a H', o = .ref a ∧ DPut H a i v H' ∧ Q H'
theorem set_dict {X : Cx} (hu : X.A.units + 1 < cLine) : PSet X rSetD := by
  intro pins s σ H o i v ov iv u Q I ro ri rv h
  obtain ⟨a, H', rfl, g, q⟩ := h
  obtain rfl : ov = Value.ref a := ro
  exact d_setItem hu I g ri rv fun s4 I4 => ⟨H', I4, q⟩
def drK (c : Addr) (i l u : Int) : List (Key × V) := [(.inr "cells", .ref c), (.inr "at", .int i), (.inr "left", .int l), (.inr "used", .int u)]
section
variable {c : Addr} {i l u x : Int}
theorem dr_cells : valV (drK c i l u) (.inr "cells") = some (.ref c) := by with_unfolding_all rfl
theorem dr_at : valV (drK c i l u) (.inr "at") = some (.int i) := by with_unfolding_all rfl
theorem dr_left : valV (drK c i l u) (.inr "left") = some (.int l) := by with_unfolding_all rfl
theorem dr_used : valV (drK c i l u) (.inr "used") = some (.int u) := by with_unfolding_all rfl
theorem dr_pat : putK (drK c i l u) (.inr "at") (.int x) = drK c x l u := by with_unfolding_all rfl
theorem dr_pleft : putK (drK c i l u) (.inr "left") (.int x) = drK c i x u := by with_unfolding_all rfl
theorem dr_pused : putK (drK c i l u) (.inr "used") (.int x) = drK c i l x := by with_unfolding_all rfl
theorem dr_merge : mergeK [] [((.inr "cells" : Key), V.ref c), (.inr "at", .int i), (.inr "left", .int l), (.inr "used", .int u)] = drK c i l u := by with_unfolding_all rfl
end
/-- where the cells stand; the tables of code objects, and the name that each bears -/
structure CT where
  p : Addr
  tb : List (Addr × Str)
/-- an object that is no table and no code object turns: the tables stay -/
theorem tabs_upd {T : List (Addr × Str)} {H : Hp} {D : Addr} {o u : HO} (h : LamX.Tabs T H) (e : H D = some u) (h1 : ∀ ps, u ≠ .tbl ps) (h2 : ∀ f, u ≠ .ext f) : LamX.Tabs T (upd H D o) := fun p hp => by
  obtain ⟨ps, a1, a2, a3⟩ := h p hp
  have keep : ∀ {b : Addr} {x : HO}, H b = some x → x ≠ u → upd H D o b = some x := fun {b x} e' hn => by
    rw [upd_ne (fun z => by rw [z, e] at e'; exact hn (Option.some.inj e').symm)]
    exact e'
  refine ⟨ps, keep a1 (fun z => h1 ps z.symm), a2, fun pos cv hc => ?_⟩
  obtain ⟨c', e1, e2⟩ := a3 pos cv hc
  exact ⟨c', e1, keep e2 (fun z => h2 _ z.symm)⟩
theorem tabs_off {T : List (Addr × Str)} {H : Hp} {D : Addr} {o : HO} {ws : List V} (h : LamX.Tabs T H) (e : H D = some (.lst ws)) : LamX.Tabs T (upd H D o) := tabs_upd h e (fun _ z => nomatch z) fun _ z => nomatch z
/-- the draws' dict at a, its cells cs at c: just so -/
def DS (K : PySem.W.Frag) (a : Addr) (c : CT) (cs : List Int) (i l u : Int) : Sta :=
  ⟨fun H => H a = some (.dK (drK c.p i l u)) ∧ SqL K H c.p (cs.map V.int) ∧ LamX.Tabs c.tb H, fun h s => ⟨s _ _ h.1, s.seq h.2.1, h.2.2.ext fun b o e => s b o e⟩⟩
/-- .. with counts up to n -/
def DW (K : PySem.W.Frag) (a : Addr) (c : CT) (cs : List Int) (n : Nat) : Sta :=
  ⟨fun H => ∃ i l u, (DS K a c cs i l u).I H ∧ 0 ≤ i ∧ i ≤ n ∧ 0 ≤ l ∧ 0 ≤ u ∧ u ≤ n, fun ⟨i, l, u, h, r⟩ s => ⟨i, l, u, (DS K a c cs i l u).st h s, r⟩⟩
section
variable {K : PySem.W.Frag} {a : Addr} {c : CT} {cs : List Int} {i l u x : Int} {n m : Nat} {S S1 SF : Sta} {L : List Addr} {ρ : List (Option Dt)} {P : Po} {te : TE} {w : TS} {Φ : Dt → Prop}
theorem dw_le (h : n ≤ m) : (DW K a c cs n).Le (DW K a c cs m) := fun H ⟨i, l, u, h0, h1, h2, h3, h4, h5⟩ => ⟨i, l, u, h0, h1, by omega, h3, h4, by omega⟩
theorem dw_of (h0 : 0 ≤ i) (h1 : i ≤ n) (h2 : 0 ≤ l) (h3 : 0 ≤ u) (h4 : u ≤ n) : (DS K a c cs i l u).Le (DW K a c cs n) := fun H h => ⟨i, l, u, h, h0, h1, h2, h3, h4⟩
theorem ds_off {H1 H : Hp} {D : Addr} {o : HO} {ws : List V} (ha : ∃ o, H1 a = some o) (hc : SqL K H1 c.p (cs.map V.int)) (g : Gr H1 H) (hD : H1 D = none) (hd : H D = some (.lst ws)) (h : (DS K a c cs i l u).I H) : (DS K a c cs i l u).I (upd H D o) := by
  obtain ⟨o1, e⟩ := ha
  refine ⟨?_, (gr_off g hD).sqL hc, tabs_off h.2.2 hd⟩
  rw [upd_ne (ne_of_none e hD)]
  exact h.1
theorem dw_off {H1 H : Hp} {D : Addr} {o : HO} {ws : List V} (h1 : (DW K a c cs m).I H1) (g : Gr H1 H) (hD : H1 D = none) (hd : H D = some (.lst ws)) (h : (DW K a c cs n).I H) : (DW K a c cs n).I (upd H D o) := by
  obtain ⟨i1, l1, u1, hh, _⟩ := h1
  obtain ⟨i, l, u, h, r⟩ := h
  exact ⟨i, l, u, ds_off ⟨_, hh.1⟩ hh.2.1 g hD hd h, r⟩
theorem dw_mu : (DW K a c cs n).Mu := fun i1 g hD e i2 => dw_off i1 g hD e i2
/-- what is so by cases -/
theorem so_open (h : ∀ i l u : Int, 0 ≤ i → i ≤ n → 0 ≤ l → 0 ≤ u → u ≤ n → So K (DS K a c cs i l u) SF L w ρ P) : So K (DW K a c cs n) SF L w ρ P := fun D σ B H b ⟨i, l, u, h0, h1, h2, h3, h4, h5⟩ s f => h i l u h1 h2 h3 h4 h5 D σ B H b h0 s f
theorem ev_dget {k : Str} {v : V} {d : Dt} {j : Nat} (hj : ρ[j]? = some (some (.raw (.ref a)))) (hk : valV (drK c.p i l u) (.inr k) = some v) (hd : ∀ H, (DS K a c cs i l u).I H → Rep K H v d) : Ev K (DS K a c cs i l u) (DS K a c cs i l u) ρ (tDGet (tVar j) (tC (.str k))) (Eq d) := fun σ H h s Q q => by
  obtain ⟨v0, hv, rv⟩ := s.val j _ hj
  obtain rfl := rv.rawI
  exact ⟨.ref a, hv, a, v, rfl, hk ▸ DGet.k (k := Sum.inr k) h.1, q _ _ H (Gr.refl H) h (hd H h) rfl⟩
theorem ev_dat {j : Nat} (hj : ρ[j]? = some (some (.raw (.ref a)))) : Ev K (DS K a c cs i l u) (DS K a c cs i l u) ρ (tDGet (tVar j) (tC (.str "at"))) (Eq (.int i)) := ev_dget hj dr_at fun _ _ => .int i
theorem ev_dleft {j : Nat} (hj : ρ[j]? = some (some (.raw (.ref a)))) : Ev K (DS K a c cs i l u) (DS K a c cs i l u) ρ (tDGet (tVar j) (tC (.str "left"))) (Eq (.int l)) := ev_dget hj dr_left fun _ _ => .int l
theorem ev_dused {j : Nat} (hj : ρ[j]? = some (some (.raw (.ref a)))) : Ev K (DS K a c cs i l u) (DS K a c cs i l u) ρ (tDGet (tVar j) (tC (.str "used"))) (Eq (.int u)) := ev_dget hj dr_used fun _ _ => .int u
theorem rep_ints {H : Hp} : ∀ ns : List Int, RepA K H (ns.map V.int) (ns.map Dt.int)
  | [] => .nil
  | n :: ns => .cons (.int n) (rep_ints ns)
theorem ev_dcells {j : Nat} (hj : ρ[j]? = some (some (.raw (.ref a)))) : Ev K (DS K a c cs i l u) (DS K a c cs i l u) ρ (tDGet (tVar j) (tC (.str "cells"))) (Eq (.lst (cs.map Dt.int))) := ev_dget hj dr_cells fun _ h => .lst h.2.1 (rep_ints cs)
/-- draw[k] = e -/
theorem so_dset {k : Str} {j : Nat} {i' l' u' : Int} (h : Ev K S (DS K a c cs i l u) ρ te (Eq (.int x))) (hj : ρ[j]? = some (some (.raw (.ref a)))) (hk : putK (drK c.p i l u) (.inr k) (.int x) = drK c.p i' l' u') (q : So K (DS K a c cs i' l' u') SF L w ρ P) :
    So K S SF L (tSeq (tAsg te (gSub (tVar j) (tC (.str k)) rSetD)) w) ρ P := fun D σ B H b hi s f => h σ H hi s _ fun v d H1 g1 i1 r1 e => by
  subst e
  obtain rfl := r1.intI
  obtain ⟨v0, hv, rv⟩ := (s.mono g1).val j _ hj
  obtain rfl := rv.rawI
  have gg : ∀ {C : Hp}, Gr C H1 → Gr C (upd H1 a (.dK (drK c.p i' l' u'))) := fun {C} g p o e d => by
    by_cases hp : p = a
    · subst hp
      have y := g p o e d
      rw [i1.1] at y
      cases y
      cases d
    · rw [upd_ne hp]
      exact g p o e d
  refine ⟨.ref a, hv, a, _, rfl, DPut.k (k := Sum.inr k) i1.1 (by show 4 < sizeLine; decide), ?_⟩
  rw [hk]
  exact q D σ B _ ⟨gg (b.gr.trans g1), b.i, b.new⟩ ⟨upd_same, (gg (Gr.refl H1)).sqL i1.2.1, tabs_upd i1.2.2 i1.1 (fun _ z => nomatch z) fun _ z => nomatch z⟩ ((s.mono g1).mono (gg (Gr.refl H1))) f
/-- cell, draw["left"] = (x, y) -/
theorem so_dset2 {j m : Nat} {ta : TA} {x y : Int} (h : EvA K S (DS K a c cs i l u) ρ ta (Eq [.int x, .int y])) (hj : ρ[j]? = some (some (.raw (.ref a)))) (hm : m ≠ j) (q : So K (DS K a c cs i y u) SF L w (ρ.set m (some (.int x))) P) :
    So K S SF L (tSeq (tAsg (tTup ta) (gTup K 2 (gCons (gName m) (gCons (gSub (tVar j) (tC (.str "left")) rSetD) gNil)))) w) ρ P := fun D σ B H b hi s f => h σ H hi s _ fun vs ds H1 g1 i1 r1 e => by
  subst e
  obtain ⟨v, u', rfl, ra, rb⟩ := r1.twoI
  obtain rfl := ra.intI
  obtain rfl := rb.intI
  refine ⟨by show 2 ≤ sizeLine; decide, fun p hp => ?_⟩
  have s2 := same_new (o := .tup [.int x, .int y]) hp
  have i2 := (DS K a c cs i l u).st i1 s2
  have g2 := g1.trans s2.gr
  have hs := ((s.mono g2).set (v := .int x) (d := .int x) (.int x) m)
  obtain ⟨v0, hv, rv⟩ := hs.val j (.raw (.ref a)) (by rw [List.getElem?_set_ne hm]; exact hj)
  obtain rfl := rv.rawI
  have gg : ∀ {C : Hp}, Gr C (upd H1 p (.tup [.int x, .int y])) → Gr C (upd (upd H1 p (.tup [.int x, .int y])) a (.dK (drK c.p i y u))) := fun {C} g p' o e d => by
    by_cases hp : p' = a
    · subst hp
      have z := g p' o e d
      rw [i2.1] at z
      cases z
      cases d
    · rw [upd_ne hp]
      exact g p' o e d
  refine ⟨p, _, rfl, SqT.of upd_same, rfl, .int x, [.int y], rfl, .int y, [], rfl, .ref a, hv, a, _, rfl, DPut.k (k := Sum.inr "left") i2.1 (by show 4 < sizeLine; decide), rfl, ?_⟩
  rw [dr_pleft]
  exact q D _ B _ ⟨gg (b.gr.trans g2), b.i, b.new⟩ ⟨upd_same, (gg (Gr.refl _)).sqL i2.2.1, tabs_upd i2.2.2 i2.1 (fun _ z => nomatch z) fun _ z => nomatch z⟩ (hs.mono (gg (Gr.refl _))) f

/-! ### M. defs that draw -/
def spD (K : PySem.W.Frag) (nargs : Nat) (pre : List Dt → Prop) (Φ : List Dt → Dt → Prop) (cost : Nat) : Sp := fun vs H Q _ => ∃ a c cs n ds ws, vs = .ref a :: ws ∧ RepA K H ws ds ∧ ds.length = nargs ∧ pre ds ∧ cs ≠ [] ∧ n + cost ≤ 1000000 ∧ (DW K a c cs n).I H ∧
  ∀ v d H', Gr H H' → (DW K a c cs (n + cost)).I H' → Rep K H' v d → Φ ds d → Q v H'
theorem ev_callD {t : TA} {ds : List Dt} {k cost : Nat} {pre : List Dt → Prop} {Φ : List Dt → Dt → Prop} {E : XK} (ha : EvA K S (DW K a c cs n) ρ t (Eq (.raw (.ref a) :: ds))) (hn : ds.length = k) (hp : pre ds) (hc : cs ≠ []) (hb : n + cost ≤ 1000000) :
    Ev K S (DW K a c cs (n + cost)) ρ (tCall (spD K k pre Φ cost) [] E t) (Φ ds) := fun σ H i s Q q =>
  ha σ H i s _ fun vs ds' H1 g1 i1 r1 p1 => by
    subst p1
    rw [List.append_nil]
    cases r1 with
    | cons r0 r1 =>
      obtain rfl := r0.rawI
      exact ⟨a, c, cs, n, ds, _, rfl, r1, hn, hp, hc, hb, i1, fun v d H' g i' r p => q v d H' (g1.trans g) i' r p⟩
theorem okD {P : Program} {w : World} {mg : Str → Option Value} {base : Heap} {x qual : Str} {st : Stmt} {f : Addr} {fd : FuncData} {N ps : List Str} {k na cost : Nat} {pre : List Dt → Prop} {Φ : List Dt → Dt → Prop} (Fu : Fun K x qual st f fd) (Sc : FnScope N ps (defScope st)) (hps : ps.length = na + 1)
    (hb : ∀ (cdv : Value) (A : Around) (out : List Env) (s : Shared) (H : Hp) (E : XK), Room k (A.deeper (envOfC qual (defScope st) s.heap.objs.size f cdv)) → A.guards = some [] →
      ∃ t, PSs (cxOf (L2.CX P w) P w K mg base N qual (defScope st) f cdv A out s H E).nox (defBody st) t ∧ ∀ (a : Addr) (c : CT) (cs : List Int) (n : Nat) (ds : List Dt), cs ≠ [] → n + cost ≤ 1000000 → ds.length = na → pre ds →
        So K (DW K a c cs n) (DW K a c cs (n + cost)) [] t (startD N.length (.raw (.ref a) :: ds)) { nx := fun _ => Φ ds .non, rt := Φ ds }) :
    GOk P w K mg base (k + 1) f fd ps (spD K na pre Φ cost) := by
  refine okG Fu Sc (fun vs H Q E h => ?_) fun cdv A out s H vs Q E hr hg h => ?_
  · obtain ⟨a, c, cs, n, ds, ws, rfl, r, hl, _⟩ := h
    rw [List.length_cons, r.len, hl, hps]
  · obtain ⟨a, c, cs, n, ds, ws, rfl, r, hl, hp, hc, hn, hi, q⟩ := h
    obtain ⟨t, ht, so⟩ := hb cdv A out s H E hr hg
    refine ⟨t, ht.nox, so a c cs n ds hc hn hl hp _ _ H H ⟨Gr.refl H, dw_le (Nat.le_add_right n cost) H hi, fun _ z => nomatch z⟩ hi (slots_start (.cons (.raw _) r)) ⟨fun σ ρ H' g i s' e => ?_, fun v d H' g i r' e => ?_, fun _ _ _ _ _ _ z => z.elim, fun _ _ _ _ _ _ z => z.elim⟩⟩
    · exact q _ _ H' g i .non e
    · exact q v d H' g i r' e
end
end Bf
namespace Bf
open PySem PySem.Spec PyProof.Rows L2
/-! ### N. the operations by their names -/
section
variable {K : PySem.W.Frag} {S S1 S2 S3 : Sta} {ρ : List (Option Dt)} {i j : Int} {ta tb tc te : TE} {d x y : Dt}
theorem rv_add : Rv2 K S rAddI (.int i) (.int j) (Eq (.int (i + j))) := rv_ii
theorem rv_sub : Rv2 K S rSubI (.int i) (.int j) (Eq (.int (i - j))) := rv_ii
theorem rv_mul (h : CMulW i j) : Rv2 K S rMulW (.int i) (.int j) (Eq (.int (i * j))) := rv_iic h
theorem rv_div (h : CDivW i j) : Rv2 K S rDivW (.int i) (.int j) (Eq (.int (i / j))) := rv_iic h
theorem rv_mod (h : 0 < j) : Rv2 K S rModI (.int i) (.int j) (Eq (.int (i % j))) := rv_iic (C := fun _ j => 0 < j) h
theorem rv_pow (h : CPow i j) : Rv2 K S rPowI (.int i) (.int j) (Eq (.int (i ^ j.toNat))) := rv_iic h
theorem rv_lt : Rv2 K S rLtI (.int i) (.int j) (Eq (.bl (decide (i < j)))) := rv_ib
theorem rv_le : Rv2 K S rLeI (.int i) (.int j) (Eq (.bl (decide (i ≤ j)))) := rv_ib
theorem rv_gt : Rv2 K S rGtI (.int i) (.int j) (Eq (.bl (decide (j < i)))) := rv_ib
theorem rv_ge : Rv2 K S rGeI (.int i) (.int j) (Eq (.bl (decide (j ≤ i)))) := rv_ib
theorem rv_noNo : Rv2 K S rNoNo d .non (Eq (.bl (!d.isNon))) := rv_notN
/-- the class's name as an argument -/
theorem ev_ty {T : String} : Ev K S S ρ (tC (.ty T)) (Eq (.raw (.ty T))) := ev_raw
theorem ev_isInt (h : Ev K S S1 ρ ta (Eq d)) (hd : okN d = true) : Ev K S S1 ρ (tCB (rIsi K) (tCons ta (tCons (tC (.ty "int")) tNil))) (Eq (.bl (isIntD d))) := ev_cb (ea_cons h (ea_cons ev_ty ea_nil)) (rc_isInt hd)
theorem ev_isBl (h : Ev K S S1 ρ ta (Eq d)) (hd : okN d = true) : Ev K S S1 ρ (tCB (rIsi K) (tCons ta (tCons (tC (.ty "bool")) tNil))) (Eq (.bl (isBlD d))) := ev_cb (ea_cons h (ea_cons ev_ty ea_nil)) (rc_isBl hd)
theorem ev_isStr (h : Ev K S S1 ρ ta (Eq d)) (hd : okN d = true) : Ev K S S1 ρ (tCB (rIsi K) (tCons ta (tCons (tC (.ty "str")) tNil))) (Eq (.bl (isStrD d))) := ev_cb (ea_cons h (ea_cons ev_ty ea_nil)) (rc_isStr hd)
theorem ev_lenT {xs : List Dt} (h : Ev K S S1 ρ ta (Eq (.tup xs))) : Ev K S S1 ρ (tCB (rLen K) (tCons ta tNil)) (Eq (.int xs.length)) := ev_cb (ea_cons h ea_nil) rc_lenT
theorem ev_lenL {xs : List Dt} (h : Ev K S S1 ρ ta (Eq (.lst xs))) : Ev K S S1 ρ (tCB (rLen K) (tCons ta tNil)) (Eq (.int xs.length)) := ev_cb (ea_cons h ea_nil) rc_lenL
theorem ev_ixL {xs : List Dt} (h : Ev K S S1 ρ ta (Eq (.lst xs))) (hb : Ev K S1 S2 ρ tb (Eq (.int i))) (hi : atI xs i = some d) : Ev K S S2 ρ (tOp (rIx K) ta tb) (Eq d) := ev_op h hb (rv_ixSL hi)
theorem ev_ixLP {xs : List Dt} {Φ Θ : Dt → Prop} (h : Ev K S S1 ρ ta (Eq (.lst xs))) (hb : Ev K S1 S2 ρ tb Φ) (hi : ∀ y, Φ y → ∃ k d, y = .int k ∧ atI xs k = some d ∧ Θ d) : Ev K S S2 ρ (tOp (rIx K) ta tb) Θ := ev_opP h hb fun x y e p => by
  obtain ⟨k, d, rfl, hk, hd⟩ := hi y p
  subst e
  exact fun H v u i r1 r2 Q q => rv_ixSL hk H v u i r1 r2 Q fun v' d' H' g i' r e => q v' d' H' g i' r (e ▸ hd)
end
/-! ### O. plain through and through -/
mutual
def pl : Dt → Bool
  | .lst xs => plA xs
  | .tup xs => plA xs
  | .ins _ _ _ => false
  | .raw _ => false
  | .lat _ _ => false
  | .err _ _ _ => false
  | .dct _ _ => false
  | .dti _ _ _ => false
  | .dat _ _ _ _ => false
  | .cel _ _ => false
  | _ => true
def plA : List Dt → Bool
  | [] => true
  | x :: xs => pl x && plA xs
end
theorem pl_okN {d : Dt} (h : pl d = true) : okN d = true := by
  cases d with
  | ins => simp [pl] at h
  | raw => simp [pl] at h
  | lat => simp [pl] at h
  | err => simp [pl] at h
  | dct => simp [pl] at h
  | dti => simp [pl] at h
  | dat => simp [pl] at h
  | cel => simp [pl] at h
  | _ => rfl
theorem plA_all : ∀ {xs : List Dt}, plA xs = true ↔ ∀ x ∈ xs, pl x = true
  | [] => by simp [plA]
  | x :: xs => by simp [plA, plA_all]
end Bf
namespace Bf
open PySem PySem.Spec PyProof.Rows L2
/-! ## Lists that are changed within loops -/
section
variable {K : PySem.W.Frag} {S S0 S1 SB SF : Sta} {L : List Addr} {ρ : List (Option Dt)} {P : Po} {te tl t1 t2 : TE} {w t : TS} {d : Dt} {p q : Addr} {j : Nat} {xs ys : List Dt} {H : Hp} {σ : L2.St}
/-- what holds bears that the list at p is changed -/
def LooseP (S S0 : Sta) (p : Addr) : Prop := ∀ {B H : Hp} {vs : List V} {o : HO}, S0.I B → Gr B H → B p = none → H p = some (.lst vs) → S.I H → S.I (upd H p o)
theorem Loose.at_ (h : Loose S S0) (p : Addr) : LooseP S S0 p := fun i g hp e k => h i g hp e k
theorem mu_looseP (h : S.Mu) : LooseP S S p := fun i g hp e k => h i g hp e k
/-- d is not touched where the list at p is changed -/
def offOk (p : Addr) : Dt → Prop
  | .lat q xs => q ≠ p ∧ nolA xs = true
  | d => nol d = true
theorem Rep.offK {v : V} {acc : List V} {o : HO} (hD : H p = some (.lst acc)) (h : offOk p d) (r : Rep K H v d) : Rep K (upd H p o) v d := by
  cases d with
  | lat q xs =>
    obtain ⟨rfl, vs, e, ra⟩ := r.latI
    exact .lat (by rw [upd_ne h.1]; exact e) (ra.off hD h.2)
  | _ => exact r.off hD h
def Offs (p : Addr) (ρ : List (Option Dt)) (j : Nat) : Prop := ∀ (i : Nat) (d : Dt), i ≠ j → ρ[i]? = some (some d) → offOk p d
/-- slot by slot -/
def offL (p : Addr) (j : Nat) : Nat → List (Option Dt) → Prop
  | _, [] => True
  | n, o :: r => (n ≠ j → ∀ d, o = some d → offOk p d) ∧ offL p j (n + 1) r
theorem offs_of : ∀ {ρ : List (Option Dt)} {n : Nat}, offL p j n ρ → ∀ (i : Nat) (d : Dt), i + n ≠ j → ρ[i]? = some (some d) → offOk p d
  | [], _, _, i, d, _, e => by simp at e
  | o :: r, n, h, 0, d, hi, e => h.1 (by omega) d (by simpa using e)
  | o :: r, n, h, i + 1, d, hi, e => offs_of h.2 i d (by omega) (by simpa using e)
theorem Offs.mk (h : offL p j 0 ρ) : Offs p ρ j := fun i d hi e => offs_of h i d (by omega) e
theorem slots_offK {vs us : List V} (s : Slots K H σ ρ) (hj : ρ[j]? = some (some (.lat p xs))) (hn : Offs p ρ j) (hp : H p = some (.lst vs)) (r : RepA K (upd H p (.lst us)) us ys) : Slots K (upd H p (.lst us)) σ (ρ.set j (some (.lat p ys))) := by
  refine ⟨by rw [List.length_set]; exact s.len, fun i d h => ?_⟩
  by_cases hij : j = i
  · subst hij
    have hl : j < ρ.length := (List.getElem?_eq_some_iff.mp hj).1
    rw [List.getElem?_set_self hl] at h
    cases h
    obtain ⟨v, hv, rv⟩ := s.val j _ hj
    obtain ⟨rfl, _⟩ := rv.latI
    exact ⟨_, hv, .lat upd_same r⟩
  · rw [List.getElem?_set_ne hij] at h
    obtain ⟨v, hv, rv⟩ := s.val i d h
    exact ⟨v, hv, rv.offK hp (hn i d (Ne.symm hij) h)⟩
/-- the list at p is changed -/
theorem sg_put {D : Ends} {B : Hp} {vs us : List V} (hL : p ∈ L) (hlo : LooseP S SB p) (hj : ρ[j]? = some (some (.lat p xs))) (hn : Offs p ρ j) (b : Bs SB L B H) (i : S.I H) (s : Slots K H σ ρ) (f : Ft K SF P D B) (hp : H p = some (.lst vs)) (r : RepA K (upd H p (.lst us)) us ys)
    (k : Sg K S SB SF L w (ρ.set j (some (.lat p ys))) P) : w D σ (upd H p (.lst us)) :=
  k D σ B _ ⟨gr_off b.gr (b.new p hL), b.i, b.new⟩ (hlo b.i b.gr (b.new p hL) hp i) (slots_offK s hj hn hp r) f
/-- xs.append(e) -/
theorem so_appP (hL : p ∈ L) (hlo : LooseP S SB p) (hj : ρ[j]? = some (some (.lat p xs))) (hx : nolA xs = true) (hn : Offs p ρ j) (hz : xs.length < 100000) (h : Ev K S S ρ te (Eq d)) (hd : nol d = true)
    (k : Sg K S SB SF L w (ρ.set j (some (.lat p (xs ++ [d])))) P) : Sg K S SB SF L (tSeq (tDrop (tBM K "list" rAppend (tVar j) (tCons te tNil))) w) ρ P := fun D σ B H b i s f => by
  obtain ⟨v, hv, rv⟩ := s.val j _ hj
  obtain ⟨rfl, vs, hp, ra⟩ := rv.latI
  refine ⟨.ref p, hv, .inl ⟨rfl, _, SqL.of hp⟩, h σ H i s _ fun u d' H1 g1 i1 r1 e => ?_⟩
  subst e
  have hp1 : H1 p = some (.lst vs) := g1 _ _ hp rfl
  have ra1 := ra.mono g1
  refine ⟨p, vs, u, rfl, rfl, hp1, by rw [ra1.len]; exact Nat.lt_of_lt_of_le hz (by decide), ?_⟩
  exact sg_put (w := w) (D := D) hL hlo hj hn (b.up g1) i1 (s.mono g1) f hp1 ((ra1.off hp1 hx).app (.cons (r1.off hp1 hd) .nil)) k
/-- .. as the last statement -/
theorem sg_last (h : Sg K S SB SF L (tSeq t tNext) ρ P) : Sg K S SB SF L t ρ P := fun D σ B H b i s f => h D σ B H b i s f
theorem RepA.front {vs : List V} : ∀ {us : List V} {ds : List Dt} {d : Dt}, RepA K H us (ds ++ [d]) → RepA K H us.dropLast ds ∧ ∃ v, us[us.length - 1]? = some v ∧ Rep K H v d
  | _, [], _, .cons r .nil => ⟨.nil, _, rfl, r⟩
  | _, a :: ds, _, .cons (v := v) (vs := vs') r ra => by
    obtain ⟨h1, u, h2, h3⟩ := RepA.front (vs := vs) ra
    have hne : vs' ≠ [] := fun e => by rw [e] at h2; simp at h2
    refine ⟨by rw [List.dropLast_cons_of_ne_nil hne]; exact .cons r h1, u, ?_, h3⟩
    have hl : 0 < vs'.length := List.length_pos_iff.mpr hne
    rw [List.length_cons, Nat.add_sub_cancel]
    obtain ⟨m, hm⟩ : ∃ m, vs'.length = m + 1 := ⟨vs'.length - 1, by omega⟩
    rw [hm, List.getElem?_cons_succ]
    rwa [hm, Nat.add_sub_cancel] at h2
theorem RepA.setI {vs : List V} {ds : List Dt} (r : RepA K H vs ds) {i : Nat} {v : V} {d : Dt} (rv : Rep K H v d) : RepA K H (vs.set i v) (ds.set i d) := by
  induction ds generalizing vs i with
  | nil => cases r; exact .nil
  | cons x xs ih =>
    cases r with
    | cons r0 ra =>
      cases i with
      | zero => exact .cons rv ra
      | succ i => exact .cons r0 (ih ra)
/-- x = a new list, no list of ours before -/
theorem so_newF {i : Nat} (h : EvN K S S1 ρ te xs) (l : S1.Le SF) (k : ∀ p, (∀ (i : Nat) (p' : Addr) (zs : List Dt), ρ[i]? = some (some (Dt.lat p' zs)) → p' ≠ p) → So K S1 SF [p] w (ρ.set i (some (.lat p xs))) P) : Sg K S SB SF L (tSeq (tAsg te (gName i)) w) ρ P := fun D σ B H b i s f =>
  h σ H i s _ fun p vs H1 H2 g1 i1 hp g2 i2 e r => k p (fun i p' zs e2 e3 => by
      obtain ⟨v, _, rv⟩ := (s.mono g1).val i _ e2
      obtain ⟨_, vs', hp', _⟩ := rv.latI
      rw [e3, hp] at hp'
      cases hp') D _ H1 H2 ⟨g2, l _ i1, fun a ha => by rw [List.mem_singleton.mp ha]; exact hp⟩ i2 ((s.mono (g1.trans g2)).set (.lat e r) _) (f.mono (b.gr.trans g1))
/-! ### loops in which loose lists are changed -/
theorem SqT.offP {a : Addr} {vs ws : List V} {o : HO} (hD : H p = some (.lst ws)) (q : SqT K H a vs) : SqT K (upd H p o) a vs := by
  rcases q with (q | ⟨o', q⟩) | q
  · exact .inl (.inl (upd_other hD q fun _ z => nomatch z))
  · exact .inl (.inr ⟨o', upd_other hD q fun _ z => nomatch z⟩)
  · exact .inr q
end
end Bf
namespace Bf
open PySem PySem.Spec PyProof.Rows L2
/-! ## a tuple times 0 or 1 -/
theorem mul_zero (l : Addr) (items : Array Value) (n : Nat) (dd : Option Addr) (sl : Array (Option Value)) (u : Tok) (hi : items.isEmpty = false) :
    Meets (Builtin.«tuple.__mul__» ⟨[.ref l, .int 0 u], []⟩) (fun _ R s => s.heap.get? l = some { cls := .type "tuple", dict := dd, data := .seq items n, slots := sl } ∧ R (.ok (.ret (Value.ref s.heap.objs.size))) { s with heap := s.heap.push { cls := Value.type "tuple", data := Data.seq #[] }, toks := s.toks }) :=
  .of_wp fun prog w A R s h => by
    obtain ⟨hp, g, d, tk, os⟩ := s
    obtain ⟨hl, h⟩ := h
    have f1 := AutoSeq1.idx_int
    have c0 : (decide ((0 : Int) < -(2 ^ 63)) || decide ((0 : Int) ≥ 2 ^ 63)) = false := by decide
    have c1 : (items.isEmpty || (0 : Int) == 1) = false := by rw [hi]; rfl
    have c2 : (decide ((0 : Int) ≤ 0) || items.isEmpty) = true := by rw [hi]; rfl
    wp_walk using wpAny_loadPart' hl
    repeat (first
      | (refine wpAny_ite_false (decide_eq_false (by rw [c0]; exact Bool.false_ne_true)) ?_; wp_walk using wpAny_loadPart' hl)
      | (refine wpAny_ite_false (decide_eq_false (by rw [c1]; exact Bool.false_ne_true)) ?_; wp_walk using wpAny_loadPart' hl)
      | (refine wpAny_ite_true (decide_eq_true c2) ?_; wp_walk using wpAny_loadPart' hl))
    exact ⟨_, rfl, h⟩
end Bf
namespace Bf
open PySem PySem.Spec PyProof.Rows L2
/-! ## Promises by a relation -/
section
variable {K : PySem.W.Frag} {S S1 S2 SB SF : Sta} {L : List Addr} {ρ : List (Option Dt)} {P : Po} {te tl : TE} {w t : TS} {d : Dt} {j : Nat} {vs : List Nat} {xs : List Dt}
def spR (K : PySem.W.Frag) (n : Nat) (R : List Dt → Dt → Prop) : Sp := fun vs H Q _ => ∃ ds d, RepA K H vs ds ∧ ds.length = n ∧ R ds d ∧ ∀ v H', Same H H' → Rep K H' v d → Q v H'
theorem ev_callR {t : TA} {ds : List Dt} {n : Nat} {R : List Dt → Dt → Prop} {E : XK} (ha : EvA K S S1 ρ t (Eq ds)) (hn : ds.length = n) (hp : R ds d) : Ev K S S1 ρ (tCall (spR K n R) [] E t) (Eq d) := fun σ H i s Q q =>
  ha σ H i s _ fun vs ds' H1 g1 i1 r1 p1 => by
    subst p1
    rw [List.append_nil]
    exact ⟨ds, d, r1, hn, hp, fun v H2 sm r => q v _ H2 (g1.trans sm.gr) (S1.st i1 sm) r rfl⟩
theorem okR {P : Program} {w : World} {mg : Str → Option Value} {base : Heap} {x qual : Str} {st : Stmt} {f : Addr} {fd : FuncData} {N ps : List Str} {k : Nat} {R : List Dt → Dt → Prop} (Fu : Fun K x qual st f fd) (Sc : FnScope N ps (defScope st))
    (hb : ∀ (cdv : Value) (A : Around) (out : List Env) (s : Shared) (H : Hp) (E : XK), Room k (A.deeper (envOfC qual (defScope st) s.heap.objs.size f cdv)) → A.guards = some [] →
      ∃ t, PSs (cxOf (L2.CX P w) P w K mg base N qual (defScope st) f cdv A out s H E).nox (defBody st) t ∧ ∀ (S : Sta), S.Mu → ∀ (ds : List Dt) (d : Dt), ds.length = ps.length → R ds d → So K S S [] t (startD N.length ds) { nx := fun _ => d = .non, rt := Eq d }) :
    GOk P w K mg base (k + 1) f fd ps (spR K ps.length R) := by
  refine okG Fu Sc (fun vs H Q E h => ?_) fun cdv A out s H vs Q E hr hg h => ?_
  · obtain ⟨ds, d, r, hl, _⟩ := h
    exact r.len.trans hl
  · obtain ⟨ds, d, r, hl, hp, q⟩ := h
    obtain ⟨t, ht, so⟩ := hb cdv A out s H E hr hg
    refine ⟨t, ht.nox, so (staSame H) staSame_mu ds d hl hp _ _ H H ⟨Gr.refl H, Same.refl H, fun _ z => nomatch z⟩ (Same.refl H) (slots_start r) ⟨fun σ ρ H' g i s' e => ?_, fun v d' H' g i r' e => ?_, fun _ _ _ _ _ _ z => z.elim, fun _ _ _ _ _ _ z => z.elim⟩⟩
    · exact q _ H' i ((show d = .non from e) ▸ .non)
    · exact q v H' i ((show d = d' from e) ▸ r')
end
end Bf
namespace Bf
open PySem PySem.Spec PyProof.Rows L2
/-! ## raise C(e), C an own error with a field -/
/-- what is known of the class at C, by the name x -/
structure BadCls (prog : Program) (K : PySem.W.Frag) (mg : Str → Option Value) (x f : Str) (C fI : Addr) : Prop where
  T : BadTxt prog K f C fI
  gC : mg x = some (.ref C)
  kC : PySem.W.keepIn K (.ref C) = true
  exC : PySem.W.subIn K (.ref C) (.type "BaseException") = some true
  tyC : PySem.W.typeIn K (.ref C) = some (.type "type")
  ga : PySem.W.findIn K (.ref C) "__getattribute__" = some (some (.builtin "BaseException.__getattribute__"))
  gg : PySem.W.findIn K (.ref C) "__getattr__" = some none
  hdC : PySem.W.hasDictIn K C = true
  te : PySem.W.exmOne K (.ref C) (.ref C) = some true
  ms : mg "super" = none
  top : (prog.main.scope.names.lookup ("super" : Str)).isSome = false
  fn : f ≠ "self" ∧ f ≠ "super" ∧ f ≠ "__class__" ∧ f ≠ "__debug__"
theorem relO_one {f : Str} {v : V} {v' : Value} (r : RelV v v') (g : Str) : RelO (List.lookup g [(f, v)]) (if g = f then some v' else none) := by
  by_cases h : g = f
  · subst h
    rw [if_pos rfl]
    have q : List.lookup g [(g, v)] = some v := by simp [List.lookup]
    rw [q]
    exact r
  · rw [if_neg h]
    have q1 : (g == f) = false := by simpa using h
    have q2 : List.lookup g [(f, v)] = none := by simp [List.lookup, q1]
    rw [q2]
    trivial
section
variable {X : Cx} {C fI : Addr} {x f : Str}
def tMkB (C : Addr) (f : Str) (ta : TA) : L2.St → Hp → XK → Prop := fun σ H Q => ta σ H fun vs H1 => ∃ v, vs = [v] ∧ ∀ d, H1 d = none → Q (.ref C) (some d) (upd H1 d (.xd [(f, v)]))
theorem pmk_bad {a : Expr} {ta : TA} {p pos : Pos} {k : Nat} (T : BadCls X.prog X.K X.mg x f C fI) (hr : Room k X.A) (ha : PA X [a] ta) (hg : Gl X x := by rfl) (hdb : (x == ("__debug__" : Str)) = false := by decide)
    (he : starEach (a :: []) X.env = (false, eval a X.env) :: starEach [] X.env := by rfl) (hpl : (backTo pos (starEach [] X.env)).any (·.1) = false := by rfl) :
    PMk X (.Call (.Name x p) [a] [] pos) (tMkB C f ta) := by
  intro pins s σ H Q I h
  refine wpAny_Call_Name_kw (ld_glob I hg T.gC ?_ hdb)
  refine PySem.W.callWith_K (h₀ := X.base) I.ok.mod.kin T.kC (thn (ha.run pos pins s σ H _ I h) fun us s1 hh => ?_) he hpl
  obtain ⟨vs, H1, I1, r1, v, rfl, q1⟩ := hh
  refine ⟨I1.kIn, ?_⟩
  obtain ⟨u, rfl, ru⟩ := r1.one
  show wpAny _ _ (call (.ref C) [u]) _ _ _
  have hlim := I1.nolimit
  obtain ⟨mb, hb1, hb2⟩ := I1.mod.blt
  have hg1 := I1.mod.glob.keeps I1.bk
  have hb3 := hb1.keeps I1.bk
  obtain ⟨hp, g, dr, tk, os⟩ := s1
  refine wpAny_call (bad_made T.T I1.kIn hlim hg1 hb3 T.ms ((hb2 _ (by decide)).trans (by first | rfl | decide +kernel)) T.top T.fn (by have := hr.dp; omega) fun h' tk' e d M => ?_)
  show MkP X pins σ Q (.ref e) ⟨h', g, dr, tk', os⟩
  obtain ⟨t1, hoe⟩ := M.obj
  obtain ⟨G', g1, g2⟩ := restrict h' fun b => decide (b ≠ e)
  have gk : ∀ b, b ≠ e → G'.get? b = h'.get? b := fun b hb => g1 b (decide_eq_true hb)
  have ge : G'.get? e = none := g2 e (by simp)
  have old : ∀ b o, hp.get? b = some o → G'.get? b = some o := fun b o q => (gk b (Nat.ne_of_lt (Nat.lt_of_lt_of_le (Heap.lt_size q) M.new))).trans (M.keep b o q)
  have ob : ObjOk X.prog X.w (upd H1 d (.xd [(f, v)])) G' d (.xd [(f, v)]) := ⟨_, M.ns.at (fun o q => (gk d M.dne).trans q), fun y => relO_one ru y⟩
  have J : Inv X pins σ (upd H1 d (.xd [(f, v)])) ⟨G', g, dr, tk', os⟩ := I1.laid (t' := tk') old M.dbig ob
  refine ⟨e, _, _, ⟨G', g, dr, tk', os⟩, _, .ref C, some d, rfl, J, fun b o q => ?_, ge, hoe, ⟨rfl, rfl⟩, rfl, rfl, ?_, rfl, I1.bare, raises_own T.exC T.tyC, q1 d (I1.hok.fresh M.dbig)⟩
  · by_cases hb : b = e
    · have q' : G'.get? b = some o := q
      rw [hb, ge] at q'
      cases q'
    · exact (gk b hb).symm.trans q
  · rw [upd_ne (Ne.symm M.dne)]
    exact I1.hok.fresh M.new
/-- raise C(e) -/
def tRaiseB (C : Addr) (f : Str) (W : WX) (ta : TA) : TS := fun _ σ H => tMkB C f ta σ H fun cls d H' => W cls d σ H'
theorem ps_raiseB {a : Expr} {ta : TA} {W : WX} {p pos pos2 : Pos} {k : Nat} (hc : X.calm = true) (T : BadCls X.prog X.K X.mg x f C fI) (hr : Room k X.A) (tk : Takes X W) (ha : PA X [a] ta) (hg : Gl X x := by rfl) (hdb : (x == ("__debug__" : Str)) = false := by decide)
    (he : starEach (a :: []) X.env = (false, eval a X.env) :: starEach [] X.env := by rfl) (hpl : (backTo pos (starEach [] X.env)).any (·.1) = false := by rfl) :
    PS X (.Raise (some (.Call (.Name x p) [a] [] pos)) none pos2) (tRaiseB C f W ta) := ps_raise hc tk (pmk_bad T hr ha hg hdb he hpl)
/-- n.f, n the error that the suite holds (at a; its class cls, its dict d) -/
def tFld (C : Addr) (f : Str) (a : Addr) (cls : Value) (d : Option Addr) (te : TE) : TE := fun σ H Q => te σ H fun y H1 => y = .ref a ∧ cls = .ref C ∧ ∃ (dd : Addr) (v : V), d = some dd ∧ H1 dd = some (.xd [(f, v)]) ∧ Q v H1
theorem pe_fld {a : Addr} {oe : Obj} {cls : Value} {d : Option Addr} {pn : List (Addr × Obj)} {e : Expr} {te : TE} {pos : Pos} (T : BadCls X.prog X.K X.mg x f C fI) (hz : Zc cls d oe) (hf : ∃ vs, oe.data = .fields vs) (he : PE (X.suite a ((a, oe) :: pn)) e te)
    (hb : attributeBase e f X.env (eval e X.env) = eval e X.env := by rfl) :
    PE (X.suite a ((a, oe) :: pn)) (.Attribute e f pos) (tFld C f a cls d te) := by
  refine ⟨fun pins s σ H Q I h => ?_⟩
  refine attr_of hb (thn (he.run pins s σ H _ I h) fun u s1 hq => ?_)
  obtain ⟨y, H1, I1, rx, rfl, rfl, dd, v, rfl, ea, q⟩ := hq
  obtain rfl : u = Value.ref a := rx
  obtain ⟨ha, _⟩ := I1.pin (a, oe) (List.mem_append_left _ List.mem_cons_self)
  obtain ⟨vs, hd⟩ := hf
  obtain ⟨mA, hns, hr⟩ := show ObjOk X.prog X.w H1 s1.heap dd (.xd [(f, v)]) from I1.hok dd _ ea
  obtain ⟨od, ho, hl⟩ := lookIn_ns hns
  have l : List.lookup f [(f, v)] = some v := by simp [List.lookup]
  obtain ⟨u, hu, ru⟩ := RelO.some_of (v := v) (o := mA f) (by rw [← l]; exact hr f)
  have J : PySem.W.InstAt s1.heap a oe C (some od) := ⟨ha, hz.1, by unfold PySem.W.notCls; rw [hd] <;> rfl, by rw [hz.2]; exact ho⟩
  exact HandSPX.exc_get I1.kIn J T.ga T.gg T.exC (PySem.W.findObj_own T.hdC T.T.noN rfl (by rw [hl, hu])) (handed_of ru) ⟨v, H1, I1.tok _, ru, q⟩
end
end Bf
namespace Bf
open PySem PySem.Spec PyProof.Rows L2
/-! ## Defs that raise, over data -/
section
variable {X : Cx} {k : Nat} {f : Addr} {fd : FuncData} {ps : List Str} {sp : Sp} {E : L2.St → XK} {x : Str} {p pos : Pos} {e : Expr} {es : List Expr} {t : TA}
end
/-- what a call comes to -/
inductive Out where
  | ok (d : Dt)
  | er (C : Addr) (f : Str) (d : Dt)
def spX (K : PySem.W.Frag) (n : Nat) (R : List Dt → Out → Prop) : Sp := fun vs H Q E => ∃ ds o, RepA K H vs ds ∧ ds.length = n ∧ R ds o ∧ match o with
  | .ok d => ∀ v H', Same H H' → Rep K H' v d → Q v H'
  | .er C f d => ∀ a v H', Same H H' → H' a = some (.xd [(f, v)]) → Rep K H' v d → E (.ref C) (some a) H'
/-- E takes the error -/
def XW (K : PySem.W.Frag) (S : Sta) (C : Addr) (f : Str) (d : Dt) (E : XK) : Prop := ∀ a v H', S.I H' → H' a = some (.xd [(f, v)]) → Rep K H' v d → E (.ref C) (some a) H'
def PO : Out → Po
  | .ok d => { nx := fun _ => d = .non, rt := Eq d }
  | .er _ _ _ => {}
section
variable {K : PySem.W.Frag} {S S1 S2 SB SF : Sta} {L : List Addr} {ρ : List (Option Dt)} {P : Po} {te ta tb : TE} {tt : TT} {w t u : TS} {tl : TA} {d : Dt} {j n : Nat} {ds : List Dt} {R : List Dt → Out → Prop} {E : XK} {C : Addr} {f : Str}
/-- te raises, whatever is wished of its value -/
def EvR (K : PySem.W.Frag) (S : Sta) (ρ : List (Option Dt)) (te : TE) : Prop := ∀ (σ : L2.St) (H : Hp), S.I H → Slots K H σ ρ → ∀ Q : VK, te σ H Q
theorem so_raise1B (h : Ev K S S1 ρ te (Eq d)) (hw : XW K S1 C f d E) : Sg K S SB SF L (tSeq (tRaiseB C f (fun cls d _ H => E cls d H) (tCons te tNil)) w) ρ P := fun D σ B H b i s ft =>
  h σ H i s _ fun v d' H1 g1 i1 r1 e => by
    subst e
    exact ⟨v, rfl, fun a ha => hw a v _ (S1.st i1 (same_new ha)) upd_same (r1.mono (same_new ha).gr)⟩
/-! ### try .. except C as n -/
theorem Slots.none_ {H : Hp} {σ : L2.St} (s : Slots K H σ ρ) (j : Nat) : Slots K H (σ.set j none) (ρ.set j none) := by
  refine ⟨by rw [List.length_set, List.length_set]; exact s.len, fun i d h => ?_⟩
  by_cases hij : j = i
  · subst hij
    by_cases hl : j < ρ.length
    · rw [List.getElem?_set_self hl] at h
      cases h
    · rw [List.getElem?_eq_none (by rw [List.length_set]; omega)] at h
      cases h
  · rw [List.getElem?_set_ne hij] at h
    obtain ⟨v, hv, rv⟩ := s.val i d h
    exact ⟨v, by rw [List.getElem?_set_ne hij]; exact hv, rv⟩
variable {c : Value} {i : Nat} {tw : WX → TS} {ts : Addr → Value → Option Addr → TS} {Wout : WX}
/-! at one place: what is wished plays no part -/
section
variable {σ : L2.St} {H : Hp} {D : Ends}
end
end
end Bf
namespace Bf
open PySem PySem.Spec PyProof.Rows L2
/-! ## Tables: the defs over data, and their readings -/
/-! ### is_whole, is_whole_from, is_duration, is_bit_count -/
def isW (d : Dt) : Bool := isIntD d && !isBlD d
def one1 (g : Dt → Dt) : List Dt → Dt
  | [d] => g d
  | _ => .non
abbrev p_is_whole (K : PySem.W.Frag) : Sp := spF K 1 (fun ds => ∃ d, ds = [d] ∧ okN d = true) (one1 fun d => .bl (isW d))
/-- what a pure def's body is to come to -/
abbrev Pu (d : Dt) : Po := { nx := fun _ => d = .non, rt := Eq d }
abbrev t_is_whole (K : PySem.W.Frag) : TS := (tRet (tAndV (tCB (rIsi K) (tCons (tVar 0) (tCons (tC (.ty "int")) tNil))) (tNotV (tCB (rIsi K) (tCons (tVar 0) (tCons (tC (.ty "bool")) tNil))))))
section
variable {K : PySem.W.Frag} {S : Sta} {ds : List Dt}
theorem so_is_whole (hmu : S.Mu) (hp : ∃ d, ds = [d] ∧ okN d = true) : So K S S [] (t_is_whole K) (startD 1 ds) (Pu (one1 (fun d => .bl (isW d)) ds)) := by
  obtain ⟨d, rfl, hd⟩ := hp
  exact so_retD (ev_and (ev_isInt (ev_var rfl) hd) fun _ => ev_not (ev_isBl (ev_var rfl) hd)) (Sta.Le.refl S) rfl
end
/-! ### are_durations, is_pulse_and_gap -/
/-- plain, and its tuple not too long -/
def plS (d : Dt) : Bool := pl d && match d with
  | .tup xs => decide (xs.length ≤ 100000)
  | _ => true
section
variable {K : PySem.W.Frag} {S : Sta} {ds : List Dt}
end
/-! ### begins_with, the first wrong part -/
def plSA (xs : List Dt) : Bool := xs.all plS
section
variable {K : PySem.W.Frag} {S : Sta} {ds : List Dt}
end
end Bf
namespace Bf
open PySem PySem.Spec PyProof.Rows L2
/-! ## Right tables, words -/
/-- a right table's parts -/
inductive Tab where
  | ha (u b : Int)
  | pa (h : List Int) (z1 z2 o1 o2 s b : Int)
def tI (ns : List Int) : Dt := .tup (ns.map Dt.int)
def Tab.d : Tab → Dt
  | .ha u b => .tup [.str "halves", .int u, .int b]
  | .pa h z1 z2 o1 o2 s b => .tup [.str "pairs", tI h, tI [z1, z2], tI [o1, o2], .int s, .int b]
def Tab.b : Tab → Int
  | .ha _ b => b
  | .pa _ _ _ _ _ _ b => b
def dur (i : Int) : Prop := 1 ≤ i ∧ i ≤ 99999
def Tab.ok : Tab → Prop
  | .ha u b => dur u ∧ 1 ≤ b ∧ b ≤ 8
  | .pa h z1 z2 o1 o2 s b => (h.length = 0 ∨ h.length = 2 ∨ h.length = 4) ∧ (∀ x ∈ h, dur x) ∧ dur z1 ∧ dur z2 ∧ dur o1 ∧ dur o2 ∧ ¬ (o1 = z1 ∧ o2 = z2) ∧ dur s ∧ 1 ≤ b ∧ b ≤ 8
theorem Tab.b1 {T : Tab} (h : T.ok) : 1 ≤ T.b ∧ T.b ≤ 8 := by
  cases T with
  | ha u b => exact h.2
  | pa => exact ⟨h.2.2.2.2.2.2.2.2.1, h.2.2.2.2.2.2.2.2.2⟩
section
variable {K : PySem.W.Frag} {S : Sta} {ds : List Dt}
end
/-! ### is_word -/
section
variable {K : PySem.W.Frag} {S : Sta} {ds : List Dt}
end
/-! ### words -/
def wordsL : Nat → List (List Int)
  | 0 => [[]]
  | n + 1 => (wordsL n).flatMap fun w => [w ++ [0], w ++ [1]]
section
variable {K : PySem.W.Frag} {S : Sta} {ds : List Dt}
end
end Bf
namespace Bf
open PySem PySem.Spec PyProof.Rows L2
/-! ## need_table for any plain data -/
def plD (d : Dt) : Prop := pl d = true ∧ ∀ xs, d = .tup xs → plSA xs = true
section
variable {K : PySem.W.Frag} {S : Sta} {ds : List Dt} {o : Out} {C : Addr} {E : XK}
end
end Bf
namespace Bf
open PySem PySem.Spec PyProof.Rows L2
/-! ## Small data may be compared and shown -/
mutual
/-- n deep, at most ten things each, ints below 10^12, texts of at most 40 signs -/
def gd : Nat → Dt → Bool
  | _, .non => true
  | _, .bl _ => true
  | _, .int i => decide (i.natAbs < 10 ^ 12)
  | _, .str x => x.cps.all (· < 0x110000) && decide (x.cps.size ≤ 40)
  | n + 1, .lst xs => gdA n xs && decide (xs.length ≤ 10)
  | n + 1, .tup xs => gdA n xs && decide (xs.length ≤ 10)
  | _, _ => false
def gdA : Nat → List Dt → Bool
  | _, [] => true
  | n, x :: xs => gd n x && gdA n xs
end
def wB : Nat → Nat
  | 0 => 64
  | n + 1 => 10 * (wB n + 1)
theorem wB_ge : ∀ n, 64 ≤ wB n
  | 0 => Nat.le_refl _
  | n + 1 => by have := wB_ge n; simp only [wB]; omega
structure GdW (n : Nat) (d : Dt) : Prop where
  p : pur d = true
  c : (py d).canLay0 = true
  t : (py d).depth ≤ n
  i : (py d).intsShort 13 = true
  s : (py d).showable = true
  w : (py d).weight ≤ wB n
structure GdWA (n m : Nat) (xs : List Dt) : Prop where
  p : purA xs = true
  c : PyData.canLayAll0 (pyA xs) = true
  t : PyData.depthAll (pyA xs) ≤ n
  i : PyData.intsShortAll 13 (pyA xs) = true
  s : PyData.showableAll (pyA xs) = true
  w : PyData.weightAll (pyA xs) ≤ m * (wB n + 1)
theorem log_lt {i : Int} (h : i.natAbs < 10 ^ 12) : i.natAbs.log2 < 40 := by
  by_cases h0 : i.natAbs = 0
  · rw [h0]; decide
  · exact (Nat.log2_lt h0).mpr (Nat.lt_trans h (by decide))
mutual
theorem gd_w : ∀ (n : Nat) (d : Dt), gd n d = true → GdW n d
  | n, .non, _ => ⟨rfl, rfl, Nat.zero_le _, rfl, rfl, Nat.zero_le _⟩
  | n, .bl b, _ => ⟨rfl, rfl, Nat.zero_le _, rfl, rfl, Nat.zero_le _⟩
  | n, .int i, h => by
    have h : i.natAbs < 10 ^ 12 := by simpa [gd] using h
    have hl := log_lt h
    refine ⟨rfl, rfl, Nat.zero_le _, ?_, ?_, ?_⟩
    · unfold py
      simp only [PyData.intsShort, decide_eq_true_eq]
      exact PyData.shown_int_le h
    · unfold py
      simp only [PyData.showable, decide_eq_true_eq]
      omega
    · unfold py
      simp only [PyData.weight]
      have := wB_ge n
      split <;> omega
  | n, .str x, h => by
    have h : x.cps.all (· < 0x110000) = true ∧ x.cps.size ≤ 40 := by simpa only [gd, Bool.and_eq_true, decide_eq_true_eq] using h
    refine ⟨rfl, ?_, Nat.zero_le _, rfl, rfl, ?_⟩
    · unfold py
      simp only [PyData.canLay0, PyData.strOk]
      exact h.1
    · unfold py
      simp only [PyData.weight]
      have := wB_ge n
      omega
  | n + 1, .lst xs, h => by
    simp only [gd, Bool.and_eq_true, decide_eq_true_eq] at h
    have g := gdA_w n xs h.1
    refine ⟨by unfold pur; exact g.p, by unfold py; simp only [PyData.canLay0]; exact g.c, by unfold py; simp only [PyData.depth]; have := g.t; omega, by unfold py; simp only [PyData.intsShort]; exact g.i, by unfold py; simp only [PyData.showable]; exact g.s, ?_⟩
    unfold py
    simp only [PyData.weight, wB]
    exact Nat.le_trans g.w (Nat.mul_le_mul_right _ h.2)
  | n + 1, .tup xs, h => by
    simp only [gd, Bool.and_eq_true, decide_eq_true_eq] at h
    have g := gdA_w n xs h.1
    refine ⟨by unfold pur; exact g.p, by unfold py; simp only [PyData.canLay0]; exact g.c, by unfold py; simp only [PyData.depth]; have := g.t; omega, by unfold py; simp only [PyData.intsShort]; exact g.i, by unfold py; simp only [PyData.showable]; exact g.s, ?_⟩
    unfold py
    simp only [PyData.weight, wB]
    exact Nat.le_trans g.w (Nat.mul_le_mul_right _ h.2)
  | 0, .lst xs, h => by simp [gd] at h
  | 0, .tup xs, h => by simp [gd] at h
  | n, .dic, h => by simp [gd] at h
  | n, .ins _ _ _, h => by simp [gd] at h
  | n, .raw _, h => by simp [gd] at h
  | n, .lat _ _, h => by simp [gd] at h
theorem gdA_w : ∀ (n : Nat) (xs : List Dt), gdA n xs = true → GdWA n xs.length xs
  | n, [], _ => ⟨rfl, rfl, Nat.zero_le _, rfl, rfl, Nat.zero_le _⟩
  | n, x :: xs, h => by
    simp only [gdA, Bool.and_eq_true] at h
    have g := gd_w n x h.1
    have r := gdA_w n xs h.2
    refine ⟨by unfold purA; rw [g.p, r.p]; rfl, by unfold pyA; simp only [PyData.canLayAll0]; rw [g.c, r.c]; rfl, by unfold pyA; simp only [PyData.depthAll]; exact Nat.max_le.mpr ⟨g.t, r.t⟩, by unfold pyA; simp only [PyData.intsShortAll]; rw [g.i, r.i]; rfl, by unfold pyA; simp only [PyData.showableAll]; rw [g.s, r.s]; rfl, ?_⟩
    unfold pyA
    simp only [PyData.weightAll, List.length_cons]
    have h1 := g.w
    have h2 := r.w
    rw [Nat.add_mul]
    omega
end
theorem gd_cmp {n : Nat} {d : Dt} (h : gd n d = true) (hn : n ≤ 64) : cmpOk d = true := by
  have g := gd_w n d h
  simp only [cmpOk, SeqAt.shaped, Bool.and_eq_true, decide_eq_true_eq]
  exact ⟨g.p, g.c, Nat.le_trans g.t hn⟩
end Bf
namespace Bf
open PySem PySem.Spec PyProof.Rows L2
/-! ## The end: the law's def is called with the script -/
theorem lt70 {k : Nat} {A : Around} (hr : Room k A) : A.units + 70 < cLine := by
  have := hr.un
  omega
section
variable {P : Program} {w : World} {K : PySem.W.Frag} {mg mb : Str → Option Value} {k : Nat} {fa a : Addr} {fd : FuncData} {x : Str} {sp : Sp} {s₁ : Shared} {vs : List Value} {ns : List Int}
end
/-- a constant of the module -/
theorem pe_gc {X : Cx} {x : Str} {v : V} {pos : Pos} (hg : Gl X x) (hm : ∃ u, X.mg x = some u ∧ RelV v u) (hd : (x == ("__debug__" : Str)) = false := by decide) : PE X (.Name x pos) (tC v) := by
  obtain ⟨u, e, r⟩ := hm
  exact pe_glob hg e r hd
end Bf
namespace Bf
open PySem PySem.Spec PyProof.Rows L2
/-! ## The law's draws -/
/-- a number below ds' one -/
def nextR : List Dt → Dt → Prop := fun ds d => ∃ m r, ds = [.int m] ∧ d = .int r ∧ 0 ≤ r ∧ r < m
abbrev p__law_next (K : PySem.W.Frag) : Sp := spD K 1 (fun ds => ∃ m, ds = [.int m] ∧ 0 < m ∧ m.natAbs < 2 ^ 8000) nextR 1
abbrev t__law_next (K : PySem.W.Frag) : TS := (tSeq (tIfS (tTest (tOp rGtI (tDGet (tVar 0) (tC (.str "left"))) (tC (.int 0)))) (tSeq (tAsg (tTup (tCons (tDGet (tVar 0) (tC (.str "left"))) (tCons (tOp rDivW (tDGet (tVar 0) (tC (.str "left"))) (tVar 1)) tNil))) (gTup K 2 (gCons (gName 2) (gCons (gSub (tVar 0) (tC (.str "left")) rSetD) gNil))))
    (tRet (tOp rModI (tVar 2) (tVar 1)))) tNext)
    (tSeq (tAsg (tDGet (tVar 0) (tC (.str "cells"))) (gName 3))
    (tSeq (tAsg (tOp (rIx K) (tVar 3) (tOp rModI (tDGet (tVar 0) (tC (.str "at"))) (tCB (rLen K) (tCons (tVar 3) tNil)))) (gName 2))
    (tSeq (tAsg (tOp rAddI (tDGet (tVar 0) (tC (.str "at"))) (tC (.int 1))) (gSub (tVar 0) (tC (.str "at")) rSetD))
    (tSeq (tIfS (tAnd (tTest (tOp rGeI (tVar 2) (tOp rPowI (tC (.int 10)) (tC (.int 18))))) (tTest (tOp rLeI (tDGet (tVar 0) (tC (.str "at"))) (tCB (rLen K) (tCons (tVar 3) tNil))))) (tSeq (tAsg (tOp rDivW (tVar 2) (tVar 1)) (gSub (tVar 0) (tC (.str "left")) rSetD))
    (tRet (tOp rModI (tVar 2) (tVar 1)))) tNext)
    (tSeq (tAsg (tOp rAddI (tDGet (tVar 0) (tC (.str "used"))) (tC (.int 1))) (gSub (tVar 0) (tC (.str "used")) rSetD))
    (tSeq (tAsg (tOp rAddI (tOp rModI (tVar 2) (tC (.int 1000000007))) (tOp rMulW (tOp rMulW (tC (.int 7919)) (tDGet (tVar 0) (tC (.str "used")))) (tDGet (tVar 0) (tC (.str "used"))))) (gName 4))
    (tSeq (tFor (iTup K (tTup (tCons (tDGet (tVar 0) (tC (.str "at"))) (tCons (tDGet (tVar 0) (tC (.str "used"))) tNil)))) (gName 5) (tSeq (tAsg (tOp rModI (tOp rMulW (tOp rAddI (tOp rAddI (tVar 4) (tOp rMulW (tC (.int 31)) (tVar 5))) (tC (.int 7))) (tC (.int 48271))) (tC (.int 2147483647))) (gName 4))
    (tAsg (tOp rModI (tOp rMulW (tVar 4) (tOp rAddI (tC (.int 69621)) (tOp rMulW (tC (.int 2)) (tOp rModI (tVar 5) (tC (.int 1000)))))) (tC (.int 2147483629))) (gName 4))))
    (tRet (tOp rModI (tOp rDivW (tVar 4) (tC (.int 7))) (tVar 1)))))))))))
theorem mul_in {x y B C : Int} (h1 : 0 ≤ x) (h2 : x ≤ B) (h3 : 0 ≤ y) (h4 : y ≤ C) : 0 ≤ x * y ∧ x * y ≤ B * C :=
  ⟨Int.mul_nonneg h1 h3, Int.mul_le_mul h2 h4 h3 (Int.le_trans h1 h2)⟩
theorem cmul {x y : Int} (h1 : 0 ≤ x) (h2 : x < 2 ^ 100) (h3 : 0 ≤ y) (h4 : y < 2 ^ 100) : CMulW x y := wide_mul (a := 100) (b := 100) (by omega) (by omega) (by decide) (by decide) (by decide)
theorem cdivs {x y : Int} (h : 0 < y) (hb : y.natAbs < 2 ^ 8000) : CDivW x y := wide_div (b := 8000) h hb (by decide) (by decide)
section
variable {K : PySem.W.Frag} {a : Addr} {c : CT} {cs : List Int} {n : Nat} {ds : List Dt}
theorem so__law_next (hc : cs ≠ []) (hn : n + 1 ≤ 1000000) (hp : ∃ m, ds = [.int m] ∧ 0 < m ∧ m.natAbs < 2 ^ 8000) :
    So K (DW K a c cs n) (DW K a c cs (n + 1)) [] (t__law_next K) (startD 6 (.raw (.ref a) :: ds)) { nx := fun _ => nextR ds .non, rt := nextR ds } := by
  obtain ⟨m, rfl, hm, hmb⟩ := hp
  refine so_open fun i l u i0 i1 l0 u0 u1 => ?_
  have fin : ∀ x : Int, nextR [.int m] (.int (x % m)) := fun x => ⟨m, _, rfl, rfl, Int.emod_nonneg _ (by omega), Int.emod_lt_of_pos _ hm⟩
  refine so_ifD (et_test (ev_op (ev_dleft rfl) ev_int rv_gt)) (fun e => ?_) fun e => so_skip ?_
  · have hl : 0 < l := of_decide_eq_true e
    refine so_assoc (so_dset2 (ea_cons (ev_dleft rfl) (ea_cons (ev_op (ev_dleft rfl) (ev_var rfl) (rv_div (cdivs hm hmb))) ea_nil)) rfl (by decide) ?_)
    exact so_ret1D (ev_op (ev_var rfl) (ev_var rfl) (rv_mod hm)) (dw_of i0 (by omega) (Int.ediv_nonneg (by omega) (by omega)) u0 (by omega)) (fin _)
  · have hcl : 0 < cs.length := List.length_pos_iff.mpr hc
    have hcm : (0 : Int) < ((cs.map Dt.int).length : Nat) := by rw [List.length_map]; omega
    have hix : 0 ≤ i % ((cs.map Dt.int).length : Nat) ∧ i % ((cs.map Dt.int).length : Nat) < (cs.length : Nat) := ⟨Int.emod_nonneg _ (by omega), by have := Int.emod_lt_of_pos i hcm; rw [List.length_map] at this ⊢; exact this⟩
    obtain ⟨cell, hcell⟩ : ∃ cell : Int, atI (cs.map Dt.int) (i % ((cs.map Dt.int).length : Nat)) = some (.int cell) := by
      have hlt : (i % ((cs.map Dt.int).length : Nat)).toNat < cs.length := by omega
      refine ⟨cs[(i % ((cs.map Dt.int).length : Nat)).toNat], ?_⟩
      have e1 : ((i % ((cs.map Dt.int).length : Nat)).toNat : Int) = i % ((cs.map Dt.int).length : Nat) := Int.toNat_of_nonneg hix.1
      have := atI_nat (xs := cs.map Dt.int) (j := (i % ((cs.map Dt.int).length : Nat)).toNat) (v := .int cs[(i % ((cs.map Dt.int).length : Nat)).toNat]) (by rw [List.getElem?_map, List.getElem?_eq_getElem hlt]; rfl)
      rwa [e1] at this
    refine so_setD (ev_dcells rfl) ?_
    refine so_setD (ev_ixL (ev_var rfl) (ev_op (ev_dat rfl) (ev_lenL (ev_var rfl)) (rv_mod hcm)) hcell) ?_
    refine so_dset (ev_op (ev_dat rfl) ev_int rv_add) rfl dr_pat ?_
    refine so_ifD (et_and (et_test (ev_op (ev_var rfl) (ev_op ev_int ev_int (rv_pow ⟨by decide, by decide, by decide⟩)) rv_ge)) fun _ => et_test (ev_op (ev_dat rfl) (ev_lenL (ev_var rfl)) rv_le)) (fun e2 => ?_) fun e2 => so_skip ?_
    · have hbig : (10 : Int) ^ (18 : Int).toNat ≤ cell := of_decide_eq_true (Bool.and_eq_true_iff.mp e2).1
      have hpos : 0 ≤ cell := Int.le_trans (by decide) hbig
      refine so_assoc (so_dset (ev_op (ev_var rfl) (ev_var rfl) (rv_div (cdivs hm hmb))) rfl dr_pleft ?_)
      exact so_ret1D (ev_op (ev_var rfl) (ev_var rfl) (rv_mod hm)) (dw_of (by omega) (by omega) (Int.ediv_nonneg hpos (by omega)) u0 (by omega)) (fin _)
    · refine so_dset (ev_op (ev_dused rfl) ev_int rv_add) rfl dr_pused ?_
      have u2 : 0 ≤ u + 1 ∧ u + 1 ≤ 1000001 := by omega
      have q1 := mul_in (x := 7919) (y := u + 1) (B := 7919) (C := 1000001) (by decide) (Int.le_refl _) u2.1 u2.2
      have q2 := mul_in (x := 7919 * (u + 1)) (y := u + 1) (B := 7919 * 1000001) (C := 1000001) q1.1 q1.2 u2.1 u2.2
      have c0 := Int.emod_nonneg cell (show (1000000007 : Int) ≠ 0 by decide)
      have c1 := Int.emod_lt_of_pos cell (show (0 : Int) < 1000000007 by decide)
      refine so_setD (ev_op (ev_op (ev_var rfl) ev_int (rv_mod (by decide))) (ev_op (ev_op ev_int (ev_dused rfl) (rv_mul (cmul (by decide) (by decide) u2.1 (by omega)))) (ev_dused rfl) (rv_mul (cmul q1.1 (by omega) u2.1 (by omega)))) rv_add) ?_
      have le1 : (DS K a c cs (i + 1) l (u + 1)).Le (DW K a c cs (n + 1)) := dw_of (by omega) (by omega) l0 u2.1 (by omega)
      refine so_mid (M := fun ρ' => ∃ (num : Int) (x : Option Dt), 0 ≤ num ∧ num < 2 ^ 64 ∧ ρ' = [some (.raw (.ref a)), some (.int m), some (.int cell), some (.lst (cs.map Dt.int)), some (.int num), x]) le1
        (so_forT (xs := [.int (i + 1), .int (u + 1)]) (ev_tup (ea_cons (ev_dat rfl) (ea_cons (ev_dused rfl) ea_nil)) (by show 2 ≤ sizeLine; decide)) (fun _ ρ' => ∃ (num : Int) (x : Option Dt), 0 ≤ num ∧ num < 2 ^ 64 ∧ ρ' = [some (.raw (.ref a)), some (.int m), some (.int cell), some (.lst (cs.map Dt.int)), some (.int num), x])
          ⟨_, _, ?_, ?_, rfl⟩ (fun t x ρ' hx hJ => ?_) fun ρ' h => h) fun ρ' hM => ?_
      · omega
      · have e7 : (7919 * 1000001 * 1000001 : Int) = 7919015838007919 := by decide
        omega
      · obtain ⟨num, y, n0, n1, rfl⟩ := hJ
        obtain ⟨k, rfl, k0, k1⟩ : ∃ k : Int, x = .int k ∧ 0 ≤ k ∧ k ≤ 1000001 := by
          match t, hx with
          | 0, hx => exact ⟨i + 1, (by simpa using hx.symm), by omega, by omega⟩
          | 1, hx => exact ⟨u + 1, (by simpa using hx.symm), by omega, by omega⟩
          | t + 2, hx => simp at hx
        have s0 := Int.emod_nonneg ((num + 31 * k + 7) * 48271) (show (2147483647 : Int) ≠ 0 by decide)
        have s1 := Int.emod_lt_of_pos ((num + 31 * k + 7) * 48271) (show (0 : Int) < 2147483647 by decide)
        have k2 := Int.emod_nonneg k (show (1000 : Int) ≠ 0 by decide)
        have k3 := Int.emod_lt_of_pos k (show (0 : Int) < 1000 by decide)
        refine so_setD (ev_op (ev_op (ev_op (ev_op (ev_var rfl) (ev_op ev_int (ev_var rfl) (rv_mul (cmul (by decide) (by decide) k0 (by omega)))) rv_add) ev_int rv_add) ev_int (rv_mul (cmul (by omega) (by omega) (by decide) (by decide)))) ev_int (rv_mod (by decide))) ?_
        refine so_set0D (ev_op (ev_op (ev_var rfl) (ev_op ev_int (ev_op ev_int (ev_op (ev_var rfl) ev_int (rv_mod (by decide))) (rv_mul (cmul (by decide) (by decide) k2 (by omega)))) rv_add) (rv_mul (cmul s0 (by omega) (by omega) (by omega)))) ev_int (rv_mod (by decide))) (Sta.Le.refl _) ⟨_, _, Int.emod_nonneg _ (by decide), ?_, rfl⟩
        have := Int.emod_lt_of_pos ((num + 31 * k + 7) * 48271 % 2147483647 * (69621 + 2 * (k % 1000))) (show (0 : Int) < 2147483629 by decide)
        omega
      · obtain ⟨num, y, n0, n1, rfl⟩ := hM
        exact so_retD (ev_op (ev_op (ev_var rfl) ev_int (rv_div (cdivs (by decide) (by decide)))) (ev_var rfl) (rv_mod hm)) le1 (fin _)
theorem ev__law_next {S : Sta} {ρ : List (Option Dt)} {ta tm : TE} {m : Int} (h : EvA K S (DW K a c cs n) ρ (tCons ta (tCons tm tNil)) (Eq [.raw (.ref a), .int m])) (hc : cs ≠ []) (hn : n + 1 ≤ 1000000) (h0 : 0 < m) (h1 : m.natAbs < 2 ^ 8000) :
    Ev K S (DW K a c cs (n + 1)) ρ (tCall (p__law_next K) [] E0 (tCons ta (tCons tm tNil))) (fun d => ∃ r, d = .int r ∧ 0 ≤ r ∧ r < m) :=
  (ev_callD (ds := [.int m]) h rfl ⟨m, rfl, h0, h1⟩ hc hn).weak fun d ⟨m', r, e, e2, r0, r1⟩ => by cases e; exact ⟨r, e2, r0, r1⟩
end
/-! ### _law_pick -/
def pickR : List Dt → Dt → Prop := fun ds d => ∃ xs, (ds = [.lst xs] ∨ ds = [.tup xs]) ∧ d ∈ xs
abbrev p__law_pick (K : PySem.W.Frag) : Sp := spD K 1 (fun ds => ∃ xs, (ds = [.lst xs] ∨ ds = [.tup xs]) ∧ xs ≠ [] ∧ xs.length ≤ 100000) pickR 1
abbrev t__law_pick (K : PySem.W.Frag) : TS := (tRet (tOp (rIx K) (tVar 1) (tCall (p__law_next K) [] E0 (tCons (tVar 0) (tCons (tCB (rLen K) (tCons (tVar 1) tNil)) tNil)))))
section
variable {K : PySem.W.Frag} {a : Addr} {c : CT} {cs : List Int} {n : Nat} {ds : List Dt}
theorem at_in {xs : List Dt} {r : Int} (h0 : 0 ≤ r) (h1 : r < (xs.length : Nat)) : ∃ d, atI xs r = some d ∧ d ∈ xs := by
  have hlt : r.toNat < xs.length := by omega
  have e1 : (r.toNat : Int) = r := Int.toNat_of_nonneg h0
  have := atI_nat (xs := xs) (j := r.toNat) (v := xs[r.toNat]) (List.getElem?_eq_getElem hlt)
  rw [e1] at this
  exact ⟨_, this, List.getElem_mem hlt⟩
theorem so__law_pick (hc : cs ≠ []) (hn : n + 1 ≤ 1000000) (hp : ∃ xs, (ds = [.lst xs] ∨ ds = [.tup xs]) ∧ xs ≠ [] ∧ xs.length ≤ 100000) :
    So K (DW K a c cs n) (DW K a c cs (n + 1)) [] (t__law_pick K) (startD 2 (.raw (.ref a) :: ds)) { nx := fun _ => pickR ds .non, rt := pickR ds } := by
  obtain ⟨xs, h, hx, hz⟩ := hp
  have hl : 0 < xs.length := List.length_pos_iff.mpr hx
  have hb : (xs.length : Int).natAbs < 2 ^ 8000 := Nat.lt_of_le_of_lt (show (xs.length : Int).natAbs ≤ 100000 by omega) (by decide)
  rcases h with rfl | rfl
  · refine so_ret (ev_ixLP (ev_var rfl) (ev__law_next (ea_cons (ev_var rfl) (ea_cons (ev_lenL (ev_var rfl)) ea_nil)) hc hn (by omega) hb) (fun y ⟨r, e, r0, r1⟩ => ?_)) (Sta.Le.refl _) fun d p => p
    obtain ⟨d, h1, h2⟩ := at_in r0 r1
    exact ⟨r, d, e, h1, xs, .inl rfl, h2⟩
  · refine so_ret (ev_opP (ev_var rfl) (ev__law_next (ea_cons (ev_var rfl) (ea_cons (ev_lenT (ev_var rfl)) ea_nil)) hc hn (by omega) hb) (fun x y e ⟨r, e2, r0, r1⟩ => ?_)) (Sta.Le.refl _) fun d p => p
    obtain ⟨d, h1, h2⟩ := at_in r0 r1
    subst e e2
    exact fun H v u i r1 r2 Q q => rv_ixST h1 H v u i r1 r2 Q fun v' d' H' g i' r e => q v' d' H' g i' r (e ▸ ⟨xs, .inr rfl, h2⟩)
theorem ev__law_pick {S : Sta} {ρ : List (Option Dt)} {ta tm : TE} {xs : List Dt} (h : EvA K S (DW K a c cs n) ρ (tCons ta (tCons tm tNil)) (Eq [.raw (.ref a), .lst xs])) (hc : cs ≠ []) (hn : n + 1 ≤ 1000000) (h0 : xs ≠ []) (h1 : xs.length ≤ 100000) :
    Ev K S (DW K a c cs (n + 1)) ρ (tCall (p__law_pick K) [] E0 (tCons ta (tCons tm tNil))) (fun d => d ∈ xs) :=
  (ev_callD (ds := [.lst xs]) h rfl ⟨xs, .inl rfl, h0, h1⟩ hc hn).weak fun d ⟨ys, e, hd⟩ => by
    rcases e with e | e <;> cases e
    exact hd
end
/-! ### _law_size, _law_table -/
section
variable {K : PySem.W.Frag} {a : Addr} {c : CT} {cs : List Int} {n : Nat} {ds : List Dt}
theorem ev_addP {S S1 S2 : Sta} {ρ : List (Option Dt)} {ta tb : TE} {i : Int} {Φ : Dt → Prop} (ha : Ev K S S1 ρ ta (Eq (.int i))) (hb : Ev K S1 S2 ρ tb Φ) {Θ : Dt → Prop} (h : ∀ y, Φ y → ∃ r, y = .int r ∧ Θ (.int (i + r))) : Ev K S S2 ρ (tOp rAddI ta tb) Θ := ev_opP ha hb fun x y e p => by
  obtain ⟨r, rfl, q⟩ := h y p
  subst e
  exact fun H v u i' r1 r2 Q k => rv_add H v u i' r1 r2 Q fun v' d' H' g i2 r e => k v' d' H' g i2 r (e ▸ q)
end
section
variable {K : PySem.W.Frag} {a : Addr} {c : CT} {cs : List Int} {n : Nat} {ds : List Dt}
theorem ea_twoP {S S1 S2 : Sta} {ρ : List (Option Dt)} {ta tb : TE} {Φ Ψ : Dt → Prop} (ha : Ev K S S1 ρ ta Φ) (hb : Ev K S1 S2 ρ tb Ψ) : EvA K S S2 ρ (tCons ta (tCons tb tNil)) (fun l => ∃ x y, l = [x, y] ∧ Φ x ∧ Ψ y) := fun σ H i s Q q =>
  ea_consP ha (ea_consP hb ea_nil) σ H i s Q fun vs ds H' g i' r ⟨x, xs, e, hx, y, ys, e2, hy, e3⟩ => q vs ds H' g i' r ⟨x, y, by rw [e, e2, ← e3], hx, hy⟩
end
end Bf
namespace Bf
open PySem PySem.Spec PyProof.Rows L2
/-! ## Ratios: instances of an own class with two attributes -/
/-- the n-th statement of a class's body -/
def clsSt (s : Stmt) (n : Nat) : Stmt := match s with
  | .ClassDef _ _ _ b _ _ _ _ _ _ _ => b.getD n s
  | _ => s
def rat (C : Addr) (n d : Int) : Dt := .ins C ["_num", "_den"] [.int n, .int d]
section
variable {K : PySem.W.Frag} {H : Hp} {v : V} {C : Addr} {n d : Int}
theorem Rep.ratI (h : Rep K H v (rat C n d)) : ∃ a dx, v = .ref a ∧ H a = some (.ins C dx [("_num", .int n), ("_den", .int d)]) := by
  unfold rat at h
  cases h with
  | ins e r =>
    cases r with
    | cons r1 r =>
      cases r with
      | cons r2 r =>
        cases r
        obtain rfl := r1.intI
        obtain rfl := r2.intI
        exact ⟨_, _, rfl, e⟩
theorem rep_rat {a dx : Addr} (e : H a = some (.ins C dx [("_num", .int n), ("_den", .int d)])) : Rep K H (.ref a) (rat C n d) :=
  .ins (ns := ["_num", "_den"]) (vs := [.int n, .int d]) e (.cons (.int n) (.cons (.int d) .nil))
end
theorem look_den {n m : V} : ([(("_num" : Str), n), ("_den", m)] : List (Str × V)).lookup ("_den" : Str) = some m := by
  have : (("_den" : Str) == "_num") = false := by decide
  simp [List.lookup, this]
/-- what is known of the class -/
structure RatT (K : PySem.W.Frag) (mg : Str → Option Value) (C fI pN gN pD gD : Addr) : Prop where
  cl : Cls K C
  mK : Mk K C fI
  pn : PropOf K C "num" pN gN
  pd : PropOf K C "den" pD gD
  an : NoAttr K C "_num"
  ad : NoAttr K C "_den"
  gC : mg "Ratio" = some (.ref C)
  c1 : PySem.W.findIn K (.ref C) "__class__" = some (some (.builtin "object.__class__"))
  c2 : PySem.W.specialIn K (.builtin "object.__class__") "__get__" = some (some (.builtin "getset_descriptor.__get__"))
  c3 : PySem.W.takesIn K (.builtin "object.__class__") = some true
  c4 : PySem.W.mroIn K C (.type "object") = some true
  no : ∀ T ∈ ["NoneType", "bool", "int", "str", "list", "tuple", "dict"], PySem.W.kitOne K (.type T) (.ref C) = some false
  si : PySem.W.kitOne K (.ref C) (.ref C) = some true
  sT : ∀ T ∈ ["bool", "int", "str", "list", "tuple"], PySem.W.kitOne K (.ref C) (.type T) = some false
/-- any plain thing, or a ratio -/
def okRt (C : Addr) (d : Dt) : Prop := okN d = true ∨ ∃ n m, d = rat C n m
def isRatD : Dt → Bool
  | .ins _ _ _ => true
  | _ => false
section
variable {K : PySem.W.Frag} {mg : Str → Option Value} {C fI pN gN pD gD : Addr} {S S1 : Sta} {ρ : List (Option Dt)} {te : TE} {d : Dt} {n m : Int}
theorem ty_rat {H : Hp} {v : V} (T : RatT K mg C fI pN gN pD gD) (r : Rep K H v (rat C n m)) : TyX K H v (.ref C) := by
  obtain ⟨a, dx, rfl, e⟩ := r.ratI
  exact .base (.ins e T.cl T.c1 T.c2 T.c3 T.c4)
/-- isinstance(x, Ratio) -/
theorem rc_isRat (T : RatT K mg C fI pN gN pD gD) (h : okRt C d) : RvC K S (rIsi K) [d, .raw (.ref C)] (Eq (.bl (isRatD d))) := rc_at fun H vs i r Q q => by
  obtain ⟨v, u, rfl, r1, r2⟩ := r.twoI
  obtain rfl := r2.rawI
  rcases h with h | ⟨n, m, rfl⟩
  · cases d with
    | non => exact ⟨v, .ref C, _, _, _, rfl, .own C, r1.ty rfl, T.no _ (by simp), q _ (.bl _)⟩
    | bl => exact ⟨v, .ref C, _, _, _, rfl, .own C, r1.ty rfl, T.no _ (by simp), q _ (.bl _)⟩
    | int => exact ⟨v, .ref C, _, _, _, rfl, .own C, r1.ty rfl, T.no _ (by simp), q _ (.bl _)⟩
    | str => exact ⟨v, .ref C, _, _, _, rfl, .own C, r1.ty rfl, T.no _ (by simp), q _ (.bl _)⟩
    | lst => exact ⟨v, .ref C, _, _, _, rfl, .own C, r1.ty rfl, T.no _ (by simp), q _ (.bl _)⟩
    | tup => exact ⟨v, .ref C, _, _, _, rfl, .own C, r1.ty rfl, T.no _ (by simp), q _ (.bl _)⟩
    | dic => exact ⟨v, .ref C, _, _, _, rfl, .own C, r1.ty rfl, T.no _ (by simp), q _ (.bl _)⟩
    | ins => cases h
    | raw u => cases u <;> cases h
    | lat => cases h
    | err => cases h
    | dct => cases h
    | dti => cases h
    | dat => cases h
    | cel => cases h
  · exact ⟨v, .ref C, _, _, _, rfl, .own C, ty_rat T r1, T.si, q _ (.bl _)⟩
theorem ev_isRat (T : RatT K mg C fI pN gN pD gD) (h : Ev K S S1 ρ te (Eq d)) (hd : okRt C d) : Ev K S S1 ρ (tCB (rIsi K) (tCons te (tCons (tC (.ref C)) tNil))) (Eq (.bl (isRatD d))) := ev_cb (ea_cons h (ea_cons ev_raw ea_nil)) (rc_isRat T hd)
/-- isinstance(a ratio, T) -/
theorem ev_ratIs {t : String} (T : RatT K mg C fI pN gN pD gD) (h : Ev K S S1 ρ te (Eq (rat C n m))) (ht : t ∈ ["bool", "int", "str", "list", "tuple"]) : Ev K S S1 ρ (tCB (rIsi K) (tCons te (tCons (tC (.ty t)) tNil))) (Eq (.bl false)) :=
  ev_cb (ea_cons h (ea_cons ev_ty ea_nil)) (rc_at fun H vs i r Q q => by
    obtain ⟨v, u, rfl, r1, r2⟩ := r.twoI
    obtain rfl := r2.rawI
    exact ⟨v, .ty t, _, _, _, rfl, .ty t, ty_rat T r1, T.sT t ht, q _ (.bl _)⟩)
/-- x.num, x.den -/
theorem ev_num {E : XK} (h : Ev K S S1 ρ te (Eq (rat C n m))) : Ev K S S1 ρ (tProp C (getSp C "_num") [] E te) (Eq (.int n)) := fun σ H i s Q q =>
  h σ H i s _ fun v d H1 g1 i1 r1 e => by
    subst e
    obtain ⟨a, dx, rfl, ea⟩ := r1.ratI
    exact ⟨a, dx, _, rfl, ea, a, dx, _, .int n, rfl, ea, by simp [List.lookup], q _ _ H1 g1 i1 (.int n) rfl⟩
theorem ev_den {E : XK} (h : Ev K S S1 ρ te (Eq (rat C n m))) : Ev K S S1 ρ (tProp C (getSp C "_den") [] E te) (Eq (.int m)) := fun σ H i s Q q =>
  h σ H i s _ fun v d H1 g1 i1 r1 e => by
    subst e
    obtain ⟨a, dx, rfl, ea⟩ := r1.ratI
    exact ⟨a, dx, _, rfl, ea, a, dx, _, .int m, rfl, ea, by rw [look_den], q _ _ H1 g1 i1 (.int m) rfl⟩
end
/-! ### Ratio(a, b) -/
/-- a right one is made -/
def spRI (C : Addr) : Sp := fun vs H Q _ => ∃ (x dx : Addr) (n m : Int), vs = [.ref x, .int n, .int m] ∧ H x = some (.ins C dx []) ∧ 0 ≤ n ∧ 1 ≤ m ∧ m.natAbs < 2 ^ 8000 ∧
  ∀ H', (∀ b o, b ≠ x → H b = some o → dob o = true → H' b = some o) → (∀ b o, b ≠ x → H b = some o → H' b = some o) → H' x = some (.ins C dx [("_num", .int (n / (Nat.gcd n.natAbs m.natAbs : Nat))), ("_den", .int (m / (Nat.gcd n.natAbs m.natAbs : Nat)))]) → Q .non H'
section
variable {X : Cx} {k : Nat} {f C : Addr} {fd : FuncData} {ps : List Str} {sp : Sp} {E : XK} {x : Str} {p pos : Pos} {e : Expr} {es : List Expr} {t : TA} {dvs : List V} {ds : List Value}
/-- C(e, ..) by an __init__ of the law's promises -/
theorem pe_makeG (M : Mk X.K C f) (F : GOk X.prog X.w X.K X.mg X.base k f fd ps sp) (hr : Room (k + 1) X.A) (hgd : X.A.guards = some []) (hm : X.mg x = some (.ref C)) (hb : Binds X.K fd ps ds) (hd : Vals dvs ds) (hx : Passes (L2.CX X.prog X.w) X E)
    (ha : PA X (e :: es) t) (hg : Gl X x := by rfl) (hdb : (x == ("__debug__" : Str)) = false := by decide) (he : starEach (e :: es) X.env = (false, eval e X.env) :: starEach es X.env := by rfl) (hpl : (backTo pos (starEach es X.env)).any (·.1) = false := by rfl) :
    PE X (.Call (.Name x p) (e :: es) [] pos) (tMake C sp dvs E t) := by
  refine ⟨fun pins s σ H Q I h => ?_⟩
  refine wpAny_Call_Name_kw (ld_glob I hg hm ?_ hdb)
  refine PySem.W.callWith_K (h₀ := X.base) I.ok.mod.kin M.kp (thn (ha.run pos pins s σ H _ I h) fun us s1 ⟨vs, H1, I1, r, q⟩ => ⟨I1.kIn, ?_⟩) he hpl
  have hq := q (s1.heap.objs.size + 1) s1.heap.objs.size (I1.hok.fresh (Nat.le_succ _)) (I1.hok.fresh (Nat.le_refl _)) (Nat.ne_of_lt (Nat.lt_succ_self _))
  have I2 := L2.Inv.made (C := C) I1
  have r2 : Vals (V.ref (s1.heap.objs.size + 1) :: (vs ++ dvs)) (Value.ref (s1.heap.objs.size + 1) :: (us ++ ds)) := .cons rfl (r.append hd)
  have hl : (Value.ref (s1.heap.objs.size + 1) :: us ++ ds).length = ps.length := by
    have e := r2.length
    rw [F.len _ _ _ _ hq] at e
    exact e.symm
  refine wpAny_call (make_map (f := f) I1.kIn M.makes M.init (beq_iff_eq.mp M.fn) (codeAny_mono (F.go _ X.stack _ _ ⟨Value.ref (s1.heap.objs.size + 1) :: us, []⟩ (Value.ref (s1.heap.objs.size + 1) :: (us ++ ds)) _ _ E (hr.make C us []) (by first | exact hgd | (simpa [Around.under] using hgd))
    (I2.env0.make C us []) (hb _ (Value.ref (s1.heap.objs.size + 1) :: us) I2.kIn hl) r2 hq) fun r s' hq' => ?_))
  cases r with
  | error e => exact hx pins σ _ _ e s' I2 hq'
  | ok fl =>
    cases fl with
    | ret u =>
      obtain ⟨v, H', I3, rv, ev, q3⟩ := I2.after hq'
      subst ev
      exact ⟨rv, ⟨V.ref (s1.heap.objs.size + 1), H', I3, rfl, q3⟩⟩
    | next => exact False.elim hq'
    | brk => exact False.elim hq'
    | cont => exact False.elim hq'
/-- a def with defaults, by its body -/
theorem okGD {P : Program} {w : World} {K : PySem.W.Frag} {mg : Str → Option Value} {base : Heap} {x qual : Str} {params : Arguments} {body : List Stmt} {scope : Scope} {dv : List V} {kws : List (Str × V)} {f : Addr} {fd : FuncData} {N ps : List Str} {k : Nat} {sp : Sp} (F : FunD K x qual params body scope dv kws f fd) (S : FnScope N ps scope) (len : ∀ vs H Q E, sp vs H Q E → vs.length = ps.length)
    (hb : ∀ (cdv : Value) (A : Around) (out : List Env) (s : Shared) (H : Hp) (vs : List V) (Q : VK) (E : XK), Room k (A.deeper (envOfC qual scope s.heap.objs.size f cdv)) → A.guards = some [] → sp vs H Q E →
      ∃ t, PSs (cxOf (L2.CX P w) P w K mg base N qual scope f cdv A out s H E) body t ∧ t { nx := fun _ H' => Q .non H', rt := Q } (start N vs) H) :
    GOk P w K mg base (k + 1) f fd ps sp := by
  obtain ⟨oc, od, dV, kV, doc, pm, an, cdv, ct, osl, rfl, lk, hcd, _, _⟩ := F.ex
  refine ⟨len, fun A out s H args us vs Q E hr hgd e0 hbi r hsp => ?_⟩
  refine StX.run_bnd lk hcd S hr e0 (G := fun xs H2 => xs = vs ∧ H2 = H) (fun A' Ex Q' h => ?_) fun s2 H2 xs ⟨ex, eH⟩ hr' => ?_
  · exact hbi _ _ _ _ (h s H vs us e0 Un.refl rfl (fun _ _ z => z) r (len _ _ _ _ hsp) ⟨rfl, rfl⟩)
  · subst ex eH
    exact hb cdv A out s2 _ _ Q E hr' hgd hsp
end
abbrev t_rat_init (K : PySem.W.Frag) : TS := (tSeq (tIfS (tNot (tAnd (tB (tCall (p_is_whole K) [] E0 (tCons (tVar 1) tNil))) (tAnd (tB (tCall (p_is_whole K) [] E0 (tCons (tVar 2) tNil))) (tAnd (tTest (tOp rGeI (tVar 1) (tC (.int 0)))) (tTest (tOp rGeI (tVar 2) (tC (.int 1)))))))) tNever tNext)
    (tSeq (tAsg (tCB rGcd (tCons (tVar 1) (tCons (tVar 2) tNil))) (gName 3))
    (tSeq (sFld K (tVar 0) (tOp rDivW (tVar 1) (tVar 3)) "_num") (sFld K (tVar 0) (tOp rDivW (tVar 2) (tVar 3)) "_den"))))
theorem run_ifF {K : PySem.W.Frag} {S S1 : Sta} {ρ : List (Option Dt)} {c : TT} {t u w : TS} {D : Ends} {σ : L2.St} {H : Hp} (h : EvT K S S1 ρ c (Eq false)) (i : S.I H) (s : Slots K H σ ρ) (k : ∀ H1, Gr H H1 → S1.I H1 → (tSeq u w) D σ H1) : (tSeq (tIfS c t u) w) D σ H := h σ H i s _ fun b H1 g1 i1 e => by
  subst e
  rw [if_neg Bool.false_ne_true]
  exact k H1 g1 i1
/-- nothing but the instance changes -/
theorem rd_rat_init {K : PySem.W.Frag} {mg : Str → Option Value} {C fI pN gN pD gD : Addr} (T : RatT K mg C fI pN gN pD gD) {vs : List V} {H : Hp} {Q : VK} {E : XK} (h : spRI C vs H Q E) : t_rat_init K { nx := fun _ H' => Q .non H', rt := Q } (start ["self", "num", "den", "shared"] vs) H := by
  obtain ⟨x, dx, n, m, rfl, hx, n0, m1, mb, q⟩ := h
  have s0 : Slots K H (start ["self", "num", "den", "shared"] [.ref x, .int n, .int m]) [some (.raw (.ref x)), some (.int n), some (.int m), none] := slots_start (N := ["self", "num", "den", "shared"]) (ds := [.raw (.ref x), .int n, .int m]) (.cons (.raw _) (.cons (.int n) (.cons (.int m) .nil)))
  have hw : ∀ (i : Nat) (j : Int), ([some (Dt.raw (.ref x)), some (.int n), some (.int m), none] : List (Option Dt))[i]? = some (some (.int j)) → EvT K (staSame H) (staSame H) [some (.raw (.ref x)), some (.int n), some (.int m), none] (tB (tCall (p_is_whole K) [] E0 (tCons (tVar i) tNil))) (Eq true) := fun i j hi =>
    (et_B (ev_callF (ds := [.int j]) (f := one1 fun d => .bl (isW d)) (ea_cons (ev_var hi) ea_nil) rfl ⟨.int j, rfl, rfl⟩)).to rfl
  have hc : EvT K (staSame H) (staSame H) [some (.raw (.ref x)), some (.int n), some (.int m), none] (tNot (tAnd (tB (tCall (p_is_whole K) [] E0 (tCons (tVar 1) tNil))) (tAnd (tB (tCall (p_is_whole K) [] E0 (tCons (tVar 2) tNil))) (tAnd (tTest (tOp rGeI (tVar 1) (tC (.int 0)))) (tTest (tOp rGeI (tVar 2) (tC (.int 1)))))))) (Eq false) := (et_not (et_andT (hw 1 n rfl) (et_andT (hw 2 m rfl) (et_andT ((et_test (ev_op (ev_var rfl) ev_int rv_ge)).to (decide_eq_true n0)) ((et_test (ev_op (ev_var rfl) ev_int rv_ge)).to (decide_eq_true m1)))))).to rfl
  refine run_ifF hc (Same.refl H) s0 fun H1 g1 i1 => ?_
  have hx1 := i1 _ _ hx
  have mp : (0 : Int) < (Nat.gcd n.natAbs m.natAbs : Nat) := by
    have : 0 < Nat.gcd n.natAbs m.natAbs := Nat.gcd_pos_of_pos_right _ (by omega)
    omega
  have gb : ((Nat.gcd n.natAbs m.natAbs : Nat) : Int).natAbs < 2 ^ 8000 := by
    rw [Int.natAbs_natCast]
    exact Nat.lt_of_le_of_lt (Nat.le_of_dvd (by omega) (Nat.gcd_dvd_right _ _)) mb
  refine ⟨_, rfl, _, rfl, n, m, rfl, ?_⟩
  refine ⟨_, rfl, _, rfl, n, _, rfl, rfl, cdivs mp gb, ?_⟩
  refine ⟨_, rfl, x, C, dx, [], rfl, hx1, T.cl, T.an, by decide, ?_⟩
  refine ⟨_, rfl, _, rfl, m, _, rfl, rfl, cdivs mp gb, ?_⟩
  refine ⟨_, rfl, x, C, dx, _, rfl, upd_same, T.cl, T.ad, by show 1 < 1000; decide, ?_⟩
  rw [upd_upd]
  refine q _ (fun b o hb ho _ => ?_) (fun b o hb ho => ?_) ?_
  · rw [upd_ne hb]; exact i1 _ _ ho
  · rw [upd_ne hb]; exact i1 _ _ ho
  · rw [upd_same]; rfl
section
variable {K : PySem.W.Frag} {S S1 : Sta} {ρ : List (Option Dt)} {tl : TA} {n m : Int} {C : Addr} {E : XK}
/-- in lowest terms -/
def ratL (C : Addr) (n m : Int) : Dt := rat C (n / (Nat.gcd n.natAbs m.natAbs : Nat)) (m / (Nat.gcd n.natAbs m.natAbs : Nat))
theorem ev_mkrat (h : EvA K S S1 ρ tl (Eq [.int n, .int m])) (h0 : 0 ≤ n) (h1 : 1 ≤ m) (hb : m.natAbs < 2 ^ 8000) : Ev K S S1 ρ (tMake C (spRI C) [] E tl) (Eq (ratL C n m)) := fun σ H i s Q q =>
  h σ H i s _ fun vs ds H1 g1 i1 r1 e => by
    subst e
    obtain ⟨v, u, rfl, ra, rb⟩ := r1.twoI
    obtain rfl := ra.intI
    obtain rfl := rb.intI
    intro x dx hx hdx ne
    refine ⟨x, dx, n, m, rfl, upd_same, h0, h1, hb, fun H' _ k e => ⟨rfl, ?_⟩⟩
    have sm : Same H1 H' := fun b o eb => by
      have hbx : b ≠ x := ne_of_none eb hx
      have hbd : b ≠ dx := ne_of_none eb hdx
      refine k b o hbx ?_
      rw [upd_ne hbx, upd_ne hbd]
      exact eb
    exact q _ _ H' (g1.trans sm.gr) (S1.st i1 sm) (rep_rat e) rfl
end
end Bf
namespace Bf
open PySem PySem.Spec PyProof.Rows L2 PySem.SeqAt
open AutoSeq1 (wpAny_loadPart')
/-! ## == of tuples that hold instances -/
theorem tuple_eqFirst (l b : Addr) (items items2 : Array Value) (n n2 : Nat) (dd dd2 : Option Addr) (sl sl2 : Array (Option Value)) :
    Meets (Builtin.«tuple.__eq__» ⟨[.ref l, .ref b], []⟩)
      (fun A R s => s.heap.get? l = some { cls := .type "tuple", dict := dd, data := .seq items n, slots := sl } ∧ s.heap.get? b = some { cls := .type "tuple", dict := dd2, data := .seq items2 n2, slots := sl2 } ∧
        (∃ (h1 : 0 < items.size) (h2 : 0 < items2.size), EqAt A.in1 s items[0] items2[0] false) ∧ R (.ok (.ret (.bool false))) s) :=
  .of_wp fun prog w A R s h => by
    obtain ⟨hp, g, d, tk, os⟩ := s; obtain ⟨hl, hb, ⟨h1, h2, he⟩, h⟩ := h
    have f2 := AutoSeq1.sub_tuple_tuple
    have hZ : 0 < (items.toList.zip items2.toList).length := by simp; omega
    wp_walk using wpAny_loadPart' hl, wpAny_loadPart' hb, wpAny_forIn_list _ (fun rest b s' => b.1 = none ∧ s' = ⟨hp, g, d, tk, os⟩ ∧ rest = items.toList.zip items2.toList) _
    case turn =>
      rintro ⟨y, x⟩ rest b s' ⟨hb', rfl, hz⟩
      have hz' : (items.toList.zip items2.toList) = (items.toList.zip items2.toList)[0] :: (items.toList.zip items2.toList).drop 1 := by
        rw [← List.drop_eq_getElem_cons hZ, List.drop_zero]
      rw [hz'] at hz
      injection hz with hyx hrest
      have hy : y = items[0] := by have := congrArg Prod.fst hyx; simpa using this
      have hx : x = items2[0] := by have := congrArg Prod.snd hyx; simpa using this
      subst hy hx
      refine wpAny_bind (he prog w _ _ ?_)
      wp_walk
      exact ⟨_, rfl, h⟩
    case fin =>
      rintro ⟨b1, b2⟩ s' ⟨hb', rfl, hz⟩
      rw [← hz] at hZ
      exact absurd hZ (by simp)
    case h =>
      exact ⟨rfl, rfl, rfl⟩
theorem dict_eq_declines_tuple (l b : Addr) (o : Obj) (items2 : Array Value) (n2 : Nat) (dd2 : Option Addr) (sl2 : Array (Option Value)) :
    Meets (Builtin.«dict.__eq__» ⟨[.ref l, .ref b], []⟩) (fun _ R s => s.heap.get? l = some o ∧ o.cls = .type "dict" ∧ s.heap.get? b = some { cls := .type "tuple", dict := dd2, data := .seq items2 n2, slots := sl2 } ∧ R (.ok (.ret .notImplemented)) s) :=
  .of_wp fun prog w A R s h => by obtain ⟨hp, g, d, tk, os⟩ := s; obtain ⟨hl, hc, hb, h⟩ := h; have f1 := F.sub_tuple_dict; wp_walk using wpAny_loadPart' hl, wpAny_loadPart' hb; exact ⟨_, rfl, h⟩
theorem tuple_eq_declines_dict (l b : Addr) (o : Obj) (items : Array Value) (n : Nat) (dd : Option Addr) (sl : Array (Option Value)) :
    Meets (Builtin.«tuple.__eq__» ⟨[.ref l, .ref b], []⟩) (fun _ R s => s.heap.get? l = some { cls := .type "tuple", dict := dd, data := .seq items n, slots := sl } ∧ s.heap.get? b = some o ∧ o.cls = .type "dict" ∧ R (.ok (.ret .notImplemented)) s) :=
  .of_wp fun prog w A R s h => by
    obtain ⟨hp, g, d, tk, os⟩ := s
    obtain ⟨hl, hb, hc, h⟩ := h
    obtain ⟨cls2, dd2, data2, sl2⟩ := o
    simp only at hc
    subst hc
    have f1 := F.sub_dict_tuple
    wp_walk using wpAny_loadPart' hl, wpAny_loadPart' hb
    exact ⟨_, rfl, h⟩
section
variable {A : Around} {s : Shared}
theorem RcAt_first {l b : Addr} {items items2 : Array Value} (hl : s.heap.IsTuple l items) (hb : s.heap.IsTuple b items2) (hu : A.units < cLine)
    (he : ∃ (h1 : 0 < items.size) (h2 : 0 < items2.size), EqAt A.in1 s items[0] items2[0] false) : RcAt A s (.ref l) (.ref b) false := fun prog w E Q h => by
  obtain ⟨⟨cls, dd, data, sl⟩, ho, hc, n, hd⟩ := id hl
  obtain ⟨⟨cls2, dd2, data2, sl2⟩, ho2, hc2, n2, hd2⟩ := id hb
  simp only at hc hd hc2 hd2
  subst hc hd hc2 hd2
  exact richCompare_meets_room (op := .Eq) ⟨_, ho, rfl⟩ ⟨_, ho2, rfl⟩ F.slot_tuple_eq F.entry_tuple_eq (F.args_tuple_eq_2 _ _) (tuple_eqFirst l b items items2 n n2 dd dd2 sl sl2)
    ⟨ho, ho2, he, show Value.bool false ≠ Value.notImplemented ∧ Q (.bool false) s from ⟨(fun x => nomatch x), h⟩⟩ hu
end
section
variable {A : Around} {s : Shared}
theorem RcAt_dict_tuple {l b : Addr} {o : Obj} {items2 : Array Value} (ho : s.heap.get? l = some o) (hc : o.cls = .type "dict") (hb : s.heap.IsTuple b items2) (hu : A.units < cLine) : RcAt A s (.ref l) (.ref b) false := fun prog w E Q h => by
  obtain ⟨⟨cls2, dd2, data2, sl2⟩, ho2, hc2, n2, hd2⟩ := id hb
  simp only at hc2 hd2
  subst hc2 hd2
  have hne : l ≠ b := fun e => by
    subst e
    rw [ho] at ho2
    cases ho2
    exact absurd hc (by simp)
  exact (rc_eq_decline_or (k := false) ⟨_, ho, hc⟩ ⟨_, ho2, rfl⟩ (by decide) F.sub_tuple_dict F.slot_dict_eq F.slot_tuple_eq_refl
    (fun _ hq => call_meets F.slot_dict_eq ⟨_, ho, hc⟩ F.entry_dict_eq (F.args_dict_eq_2 _ _) (dict_eq_declines_tuple l b o items2 n2 dd2 sl2) ⟨ho, hc, ho2, hq⟩)
    (fun _ hq => call_meets F.slot_tuple_eq_refl ⟨_, ho2, rfl⟩ F.entry_tuple_eq (F.args_tuple_eq_2 _ _) (tuple_eq_declines_dict b l o items2 n2 dd2 sl2) ⟨ho2, ho, hc, hq⟩)
    (fun _ hq => wpAny_isSame_ref_other hne ho ho2 (by rw [hc]; simp) hq) (.inr hu) h)
end
/-- how two values are seen to be equal, or not, by their first things; n deep -/
inductive EqW (K : PySem.W.Frag) (H : Hp) : Nat → V → V → Bool → Prop
  | same {n : Nat} {a : Addr} {xs : List V} : SqT K H a xs → EqW K H n (.ref a) (.ref a) true
  | nonT {n : Nat} {b : Addr} {ys : List V} : SqT K H b ys → EqW K H n .non (.ref b) false
  | intT {n : Nat} {i : Int} {b : Addr} {ys : List V} : SqT K H b ys → EqW K H n (.int i) (.ref b) false
  | strT {n : Nat} {x : Str} {b : Addr} {ys : List V} : SqT K H b ys → EqW K H n (.str x) (.ref b) false
  | tStr {n : Nat} {x : Str} {a : Addr} {xs : List V} : SqT K H a xs → EqW K H n (.ref a) (.str x) false
  | lstT {n : Nat} {a b : Addr} {xs ys : List V} : SqL K H a xs → SqT K H b ys → EqW K H n (.ref a) (.ref b) false
  | dicT {n : Nat} {a b : Addr} {ys : List V} : H a = some (.dK []) → SqT K H b ys → EqW K H n (.ref a) (.ref b) false
  | nilT {n : Nat} {a b : Addr} {y : V} {ys : List V} : SqT K H a [] → SqT K H b (y :: ys) → EqW K H n (.ref a) (.ref b) false
  | fst {n : Nat} {a b : Addr} {x y : V} {xs ys : List V} : SqT K H a (x :: xs) → SqT K H b (y :: ys) → x :: xs ≠ y :: ys → EqW K H n x y false → EqW K H (n + 1) (.ref a) (.ref b) false
theorem EqW.at_ {X : Cx} {pins : List (Addr × Obj)} {σ : L2.St} {H : Hp} {s : Shared} (I : L2.Inv X pins σ H s) : ∀ {n : Nat} {x y : V} {b : Bool}, EqW X.K H n x y b → ∀ {A : Around} {u v : Value}, A.units + n < cLine → RelV x u → RelV y v → RcAt A s u v b ∧ EqAt A s u v b
  | _, _, _, _, .same (a := a) ht, A, u, v, hu, ru, rv => by
    cases (show u = Value.ref a from ru)
    cases (show v = Value.ref a from rv)
    obtain ⟨its, r, p, _⟩ := I.tuple ht
    refine ⟨?_, EqAt.same _⟩
    have := RcAt.tuples (e := fun _ => true) p p (A := A) (s := s) (by omega) fun j h1 h2 => EqAt.same _
    have e : ((List.range (min its.toArray.size its.toArray.size)).all (fun _ => true) && its.toArray.size == its.toArray.size) = true := by simp
    rw [e] at this
    exact this
  | _, _, _, _, .nonT (b := b) ht, A, u, v, hu, ru, rv => by
    cases (show u = Value.none from ru)
    cases (show v = Value.ref b from rv)
    obtain ⟨its, r, p, _⟩ := I.tuple ht
    exact ⟨RcAt.none_tuple p (by omega), EqAt.none_tuple p (by omega)⟩
  | _, _, _, _, .intT (b := b) ht, A, u, v, hu, ru, rv => by
    obtain ⟨t, q⟩ := (show ∃ t, u = Value.int _ t from ru)
    cases q
    cases (show v = Value.ref b from rv)
    obtain ⟨its, r, p, _⟩ := I.tuple ht
    exact ⟨RcAt.int_tuple _ _ p (by omega), EqAt.int_tuple _ _ p (by omega)⟩
  | _, _, _, _, .strT (b := b) ht, A, u, v, hu, ru, rv => by
    obtain ⟨t, q⟩ := (show ∃ t, u = Value.str _ t from ru)
    cases q
    cases (show v = Value.ref b from rv)
    obtain ⟨its, r, p, _⟩ := I.tuple ht
    exact ⟨RcAt.str_tuple _ _ p (by omega), EqAt.str_tuple _ _ p (by omega)⟩
  | _, _, _, _, .tStr (a := a) ht, A, u, v, hu, ru, rv => by
    cases (show u = Value.ref a from ru)
    obtain ⟨t, q⟩ := (show ∃ t, v = Value.str _ t from rv)
    cases q
    obtain ⟨its, r, p, _⟩ := I.tuple ht
    exact ⟨RcAt.tuple_str _ _ p (by omega), EqAt.tuple_str _ _ p (by omega)⟩
  | _, _, _, _, .lstT (a := a) (b := b) hl ht, A, u, v, hu, ru, rv => by
    cases (show u = Value.ref a from ru)
    cases (show v = Value.ref b from rv)
    obtain ⟨its, r, p, _⟩ := I.tuple ht
    obtain ⟨its2, r2, p2, _⟩ := I.list hl
    exact ⟨RcAt.list_tuple p2.isList p (by omega), EqAt.list_tuple p2.isList p (by omega)⟩
  | _, _, _, _, .dicT (a := a) (b := b) hd ht, A, u, v, hu, ru, rv => by
    cases (show u = Value.ref a from ru)
    cases (show v = Value.ref b from rv)
    obtain ⟨its, r, p, _⟩ := I.tuple ht
    obtain ⟨_, _, vs, _, o, es, ep, h1, h2, _⟩ := (show ObjOk X.prog X.w H s.heap a (.dK []) from I.hok a _ hd)
    have rc := RcAt_dict_tuple (A := A) (s := s) h1 h2.1 p (by omega)
    have hne : a ≠ b := fun e => by
      subst e
      obtain ⟨o2, ho2, hc2, _⟩ := p
      rw [h1] at ho2
      cases ho2
      rw [h2.1] at hc2
      exact absurd hc2 (by simp)
    exact ⟨rc, .of_refs hne rc⟩
  | _, _, _, _, .nilT (a := a) (b := b) h1 h2, A, u, v, hu, ru, rv => by
    cases (show u = Value.ref a from ru)
    cases (show v = Value.ref b from rv)
    obtain ⟨its, r, p, _⟩ := I.tuple h1
    obtain ⟨its2, r2, p2, _⟩ := I.tuple h2
    cases r
    have hl := r2.length
    have rc := RcAt.tuples (e := fun _ => true) p p2 (A := A) (s := s) (by omega) fun j h1 h2 => absurd h1 (by simp)
    have e : ((List.range (min ([] : List Value).toArray.size its2.toArray.size)).all (fun _ => true) && ([] : List Value).toArray.size == its2.toArray.size) = false := by
      have : its2.length ≠ 0 := by rw [← hl]; simp
      simp
      intro z
      exact this (by rw [z])
    rw [e] at rc
    have hne : a ≠ b := fun z => by
      subst z
      have := I.tuple_inj h1 h2
      cases this
    exact ⟨rc, .of_refs hne rc⟩
  | _, _, _, _, .fst (a := a) (b := b) h1 h2 hd h, A, u, v, hu, ru, rv => by
    cases (show u = Value.ref a from ru)
    cases (show v = Value.ref b from rv)
    obtain ⟨its, r, p, _⟩ := I.tuple h1
    obtain ⟨its2, r2, p2, _⟩ := I.tuple h2
    cases r with
    | cons ra rr =>
      cases r2 with
      | cons rb rr2 =>
        have q := EqW.at_ I h (A := A.in1) (by rw [units_in1]; omega) ra rb
        have rc := RcAt_first (A := A) (s := s) p p2 (by omega) ⟨by simp, by simp, by simpa using q.2⟩
        have hne : a ≠ b := fun z => by
          subst z
          exact hd (I.tuple_inj h1 h2)
        exact ⟨rc, .of_refs hne rc⟩
end Bf
namespace Bf
open PySem PySem.Spec PyProof.Rows L2
open AutoSeq1 (wpAny_loadPart')
/-! ## enumerate(a tuple) -/
section
variable {prog : Program} {w : World} {A : Around} {E : Value → Shared → Prop} {s : Shared}
end
section
variable {prog : Program} {w : World} {A : Around} {E : Value → Shared → Prop} {s : Shared}
end
section
variable {K : PySem.W.Frag} {S SB : Sta} {L : List Addr} {ρ : List (Option Dt)} {P : Po} {tl : TE} {t : TS}
end
end Bf
namespace Bf
open PySem PySem.Spec PyProof.Rows L2
/-! ## Ratios' members in terms -/
structure RatG (K : PySem.W.Frag) (C gN : Addr) (hN : FuncData) (gD : Addr) (hD : FuncData) : Prop where
  n : ∀ (P : Program) (w : World) (mg : Str → Option Value) (base : Heap), FnOk P w K mg base CX0 1 gN hN ["self"] (getSp C "_num")
  d : ∀ (P : Program) (w : World) (mg : Str → Option Value) (base : Heap), FnOk P w K mg base CX0 1 gD hD ["self"] (getSp C "_den")
  bn : Binds K hN ["self"] []
  bd : Binds K hD ["self"] []
structure RatI (P : Program) (K : PySem.W.Frag) (mg : Str → Option Value) (fI : Addr) (fd : FuncData) (C : Addr) : Prop where
  i : ∀ (w : World) (base : Heap), GOk P w K mg base 2 fI fd ["self", "num", "den"] (spRI C)
  b2 : Binds K fd ["self", "num", "den"] []
  b1 : ∃ ds, Vals [V.int 1] ds ∧ Binds K fd ["self", "num", "den"] ds
section
variable {X : Cx} {C fI pN gN pD gD : Addr} {hN hD fd : FuncData} {e : Expr} {es : List Expr} {te : TE} {t : TA} {p pos : Pos}
theorem pe_num (T : RatT X.K X.mg C fI pN gN pD gD) (G : RatG X.K C gN hN gD hD) (hr : Room 2 X.A) (he : PE X e te) (hab : attributeBase e "num" X.env (eval e X.env) = eval e X.env := by rfl) : PE X (.Attribute e "num" pos) (tProp C (getSp C "_num") [] E0 te) :=
  pe_prop he T.cl T.pn (G.n _ _ _ _) hr G.bn .nil pass0 hab
theorem pe_den (T : RatT X.K X.mg C fI pN gN pD gD) (G : RatG X.K C gN hN gD hD) (hr : Room 2 X.A) (he : PE X e te) (hab : attributeBase e "den" X.env (eval e X.env) = eval e X.env := by rfl) : PE X (.Attribute e "den" pos) (tProp C (getSp C "_den") [] E0 te) :=
  pe_prop he T.cl T.pd (G.d _ _ _ _) hr G.bd .nil pass0 hab
theorem pe_mk2 (T : RatT X.K X.mg C fI pN gN pD gD) (I : RatI X.prog X.K X.mg fI fd C) (hr : Room 3 X.A) (hgd : X.A.guards = some []) (ha : PA X (e :: es) t) (hg : Gl X "Ratio" := by rfl)
    (he : starEach (e :: es) X.env = (false, eval e X.env) :: starEach es X.env := by rfl) (hpl : (backTo pos (starEach es X.env)).any (·.1) = false := by rfl) : PE X (.Call (.Name "Ratio" p) (e :: es) [] pos) (tMake C (spRI C) [] E0 t) :=
  pe_makeG T.mK (I.i _ _) hr hgd T.gC I.b2 .nil passL ha hg (by decide) he hpl
end
section
variable {K : PySem.W.Frag} {S S1 : Sta} {ρ : List (Option Dt)} {tl : TA} {n : Int} {C : Addr} {E : XK}
end
/-! ### try .. except C: without a name -/
section
variable {K : PySem.W.Frag} {S S1 SB SF : Sta} {L : List Addr} {ρ : List (Option Dt)} {P : Po} {te : TE} {w : TS} {d : Dt} {f : Str} {C : Addr} {c : Value} {tw : WX → TS} {ts : Addr → Value → Option Addr → TS} {Wout : WX}
end
end Bf
namespace Bf
open PySem PySem.Spec PyProof.Rows L2
/-! ## C.m(..), m a classmethod; c(..), c a local that holds a class -/
section
variable {X : Cx} {k : Nat} {f C p g : Addr} {fd : FuncData} {ps : List Str} {sp : Sp} {E : XK} {x m : Str} {q pos apos : Pos} {e o : Expr} {es : List Expr} {t : TA} {ta : TE} {dvs : List V} {ds : List Value} {i : Nat} {mc : Value} {pl : Sem Bool}
/-- c(e, ..): the class stands in a slot -/
def tMakeL (i : Nat) (C : Addr) (sp : Sp) (dvs : List V) (E : XK) (t : TA) : TE := fun σ H Q => σ[i]? = some (some (.ref C)) ∧ tMake C sp dvs E t σ H Q
theorem pe_makeL (M : Mk X.K C f) (F : GOk X.prog X.w X.K X.mg X.base k f fd ps sp) (hr : Room (k + 1) X.A) (hgd : X.A.guards = some []) (hN : X.N[i]? = some x) (hv : Vis X.env.scope x) (hb : Binds X.K fd ps ds) (hd : Vals dvs ds) (hx : Passes (L2.CX X.prog X.w) X E)
    (ha : PA X (e :: es) t) (hdb : (x == ("__debug__" : Str)) = false := by decide) (hcd : (x == ("__classdict__" : Str)) = false := by decide) (he : starEach (e :: es) X.env = (false, eval e X.env) :: starEach es X.env := by rfl) (hpl : (backTo pos (starEach es X.env)).any (·.1) = false := by rfl) :
    PE X (.Call (.Name x q) (e :: es) [] pos) (tMakeL i C sp dvs E t) := by
  refine ⟨fun pins s0 σ H0 Q I0 h => ?_⟩
  obtain ⟨hs, h⟩ := h
  refine wpAny_Call_Name_kw (thn ((pe_var (pos := q) hN hv hdb hcd).run pins s0 σ H0 (fun v H1 => v = .ref C ∧ H1 = H0) I0 ⟨.ref C, hs, rfl, rfl⟩) fun u s ⟨v, H, I, r1, q1⟩ => ?_)
  obtain ⟨rfl, rfl⟩ := q1
  cases r1
  refine PySem.W.callWith_K (h₀ := X.base) I.ok.mod.kin M.kp (thn (ha.run pos pins s σ _ _ I h) fun us s1 ⟨vs, H1, I1, r, q⟩ => ⟨I1.kIn, ?_⟩) he hpl
  have hq := q (s1.heap.objs.size + 1) s1.heap.objs.size (I1.hok.fresh (Nat.le_succ _)) (I1.hok.fresh (Nat.le_refl _)) (Nat.ne_of_lt (Nat.lt_succ_self _))
  have I2 := L2.Inv.made (C := C) I1
  have r2 : Vals (V.ref (s1.heap.objs.size + 1) :: (vs ++ dvs)) (Value.ref (s1.heap.objs.size + 1) :: (us ++ ds)) := .cons rfl (r.append hd)
  have hl : (Value.ref (s1.heap.objs.size + 1) :: us ++ ds).length = ps.length := by
    have e := r2.length
    rw [F.len _ _ _ _ hq] at e
    exact e.symm
  refine wpAny_call (make_map (f := f) I1.kIn M.makes M.init (beq_iff_eq.mp M.fn) (codeAny_mono (F.go _ X.stack _ _ ⟨Value.ref (s1.heap.objs.size + 1) :: us, []⟩ (Value.ref (s1.heap.objs.size + 1) :: (us ++ ds)) _ _ E (hr.make C us []) (by first | exact hgd | (simpa [Around.under] using hgd))
    (I2.env0.make C us []) (hb _ (Value.ref (s1.heap.objs.size + 1) :: us) I2.kIn hl) r2 hq) fun r s' hq' => ?_))
  cases r with
  | error e => exact hx pins σ _ _ e s' I2 hq'
  | ok fl =>
    cases fl with
    | ret u =>
      obtain ⟨v, H', I3, rv, ev, q3⟩ := I2.after hq'
      subst ev
      exact ⟨rv, ⟨V.ref (s1.heap.objs.size + 1), H', I3, rfl, q3⟩⟩
    | next => exact False.elim hq'
    | brk => exact False.elim hq'
    | cont => exact False.elim hq'
/-- the call of a bound classmethod -/
theorem run_cmG {pins : List (Addr × Obj)} {σ : L2.St} {H : Hp} {s : Shared} {Q : VK} {us : List Value} {vs : List V} {b : Addr} (F : GOk X.prog X.w X.K X.mg X.base k g fd ps sp) (hr : Room k X.A) (hgd : X.A.guards = some []) (hb : Binds X.K fd ps []) (hx : Passes (L2.CX X.prog X.w) X E) (I : Inv X ((b, PySem.W.methodObj (.ref g) (.ref C)) :: pins) σ H s)
    (r : Vals vs us) (h : sp (.ref C :: vs) H Q E) : wpAny (model X.prog X.w) X.A (call (.ref b) us) (EP X pins σ Q) X.xe s := by
  have r2 : Vals (V.ref C :: vs) (Value.ref C :: us) := .cons rfl r
  have hl : (Value.ref C :: us ++ []).length = ps.length := by
    have e := r2.length
    rw [F.len _ _ _ _ h] at e
    rw [List.append_nil]
    exact e.symm
  have z : wpAny (model X.prog X.w) X.A (call (.ref b) us) (EP X ((b, PySem.W.methodObj (.ref g) (.ref C)) :: pins) σ Q) X.xe s := by
    refine wpAny_call (PySem.W.method_call (ClX.pin_at I) ?_)
    refine codeAny_mono (F.go X.A X.stack s H ⟨.ref C :: us, []⟩ (.ref C :: us) _ Q E hr hgd I.env0 (by
      have := hb s (.ref C :: us) I.kIn hl
      simpa using this) r2 h) fun r' s' hq => ?_
    match r', hq with
    | .error er, hq => exact hx _ σ H s er s' I hq
    | .ok (.ret u), hq => exact I.after hq
    | .ok .next, hq => exact hq.elim
    | .ok .brk, hq => exact hq.elim
    | .ok .cont, hq => exact hq.elim
  exact thn z fun _ _ y => ClX.unpinE y
/-- C.m(e, ..) -/
theorem pe_cmG (he : PE X o ta) (r : ClX.CRead X.K C mc) (c : ClX.CMet X.K C mc m p g) (F : GOk X.prog X.w X.K X.mg X.base k g fd ps sp) (hr : Room k X.A) (hgd : X.A.guards = some []) (hb : Binds X.K fd ps []) (hx : Passes (L2.CX X.prog X.w) X E) (ha : PA X (e :: es) t)
    (hst : starEach (e :: es) X.env = (false, eval e X.env) :: starEach es X.env := by rfl) (hpl : (backTo pos (starEach es X.env)).any (·.1) = false := by rfl)
    (ht : eval (.Call (.Attribute o m apos) (e :: es) [] pos) X.env = (do
      let ov ← eval o X.env
      standAt apos.atName
      let (f, first) ← holding [ov] (getMethod ov m pl)
      callWith pos f first (backTo pos (starEach (e :: es) X.env)) (backToKw pos (keywordEach [] X.env))) := by rfl) :
    PE X (.Call (.Attribute o m apos) (e :: es) [] pos) (ClX.tCMeth C sp E ta t) := by
  refine ⟨fun pins s σ H Q I h => ?_⟩
  refine PySem.W.methodCall_KW (pl := pl) (thn (he.run pins s σ H _ I h) fun u s1 ⟨x, H1, I1, rx, ex, q⟩ => ?_) ht
  subst ex
  obtain rfl : u = Value.ref C := rx
  refine ClX.getmethcm_ok I1 r c fun s2 I2 => ?_
  refine ClX.callwith_cm I2 (ClX.base_none I1 (Nat.le_refl _)) c.fi (thn (ha.run pos _ s2 σ H1 _ I2 q) fun us s3 ⟨vs, H2, I3, rv, q2⟩ => ⟨⟨ClX.pin_at I3, I3.kIn⟩, ?_⟩) hst hpl
  exact run_cmG F hr hgd hb hx I3 rv q2
end
end Bf
namespace Bf
open PySem PySem.Spec PyProof.Rows L2
/-! ## defs whose exceptions have no context; raise C(e) from None where an error is handled -/
structure GOkN (P : Program) (w : World) (K : PySem.W.Frag) (mg : Str → Option Value) (base : Heap) (k : Nat) (f : Addr) (fd : FuncData) (ps : List Str) (sp : Sp) : Prop where
  len : ∀ vs H Q E, sp vs H Q E → vs.length = ps.length
  go : ∀ (A : Around) (out : List Env) (s : Shared) (H : Hp) (args : Args) (us : List Value) (vs : List V) (Q : VK) (E : XK),
    Room k A → A.guards = some [] → Env0 P w K mg base A out s H → BindsTo s fd args (ps.zip us) → Vals vs us → sp vs H Q E →
    codeAny (model P w) A (.call (.ref f) args) (CR (L2N.CX P w) out P w H s Q E) s
section
variable {P : Program} {w : World} {K : PySem.W.Frag} {mg : Str → Option Value} {base : Heap}
theorem cxN_cx {out : List Env} {H : Hp} {s s' : Shared} {E : XK} {u : Value} (c : L2N.CX P w out H s E u s') : L2.CX P w out H s E u s' := by
  obtain ⟨a, B, H', cls, d, rfl, fl, r⟩ := c
  exact ⟨a, B, H', cls, d, rfl, L2H.flyingZ_imp (fun o z => z.zc) fl, r⟩
theorem GOkN.g {k : Nat} {f : Addr} {fd : FuncData} {ps : List Str} {sp : Sp} (G : GOkN P w K mg base k f fd ps sp) : GOk P w K mg base k f fd ps sp :=
  ⟨G.len, fun A out s H args us vs Q E r hg e b rv h => codeAny_mono (G.go A out s H args us vs Q E r hg e b rv h) fun r s' q => match r, q with
    | .error er, q => cxN_cx q
    | .ok (.ret u), q => q
    | .ok .next, q => q
    | .ok .brk, q => q
    | .ok .cont, q => q⟩
theorem okGN {x qual : Str} {st : Stmt} {f : Addr} {fd : FuncData} {N ps : List Str} {k : Nat} {sp : Sp} (F : Fun K x qual st f fd) (S : FnScope N ps (defScope st)) (len : ∀ vs H Q E, sp vs H Q E → vs.length = ps.length)
    (hb : ∀ (cdv : Value) (A : Around) (out : List Env) (s : Shared) (H : Hp) (vs : List V) (Q : VK) (E : XK), Room k (A.deeper (envOfC qual (defScope st) s.heap.objs.size f cdv)) → A.guards = some [] → sp vs H Q E →
      ∃ t, PSs (cxOf (L2N.CX P w) P w K mg base N qual (defScope st) f cdv A out s H E) (defBody st) t ∧ t { nx := fun _ H' => Q .non H', rt := Q } (start N vs) H) :
    GOkN P w K mg base (k + 1) f fd ps sp := by
  obtain ⟨oc, od, kV, doc, pm, an, cdv, ct, osl, rfl, lk, hcd⟩ := F.ex
  refine ⟨len, fun A out s H args us vs Q E hr hgd e0 hbi r hsp => ?_⟩
  refine StX.run_bnd lk hcd S hr e0 (G := fun xs H2 => xs = vs ∧ H2 = H) (fun A' Ex Q' h => ?_) fun s2 H2 xs ⟨ex, eH⟩ hr' => ?_
  · exact hbi _ _ _ _ (h s H vs us e0 Un.refl rfl (fun _ _ z => z) r (len _ _ _ _ hsp) ⟨rfl, rfl⟩)
  · subst ex eH
    exact hb cdv A out s2 _ _ Q E hr' hgd hsp
theorem okXN {x qual : Str} {st : Stmt} {g : Addr} {fd : FuncData} {N ps : List Str} {k : Nat} {R : List Dt → Out → Prop} (Fu : Fun K x qual st g fd) (Sc : FnScope N ps (defScope st))
    (hb : ∀ (cdv : Value) (A : Around) (out : List Env) (s : Shared) (H : Hp) (E : XK), Room k (A.deeper (envOfC qual (defScope st) s.heap.objs.size g cdv)) → A.guards = some [] →
      ∃ t, PSs (cxOf (L2N.CX P w) P w K mg base N qual (defScope st) g cdv A out s H E) (defBody st) t ∧ ∀ (S : Sta), S.Mu → ∀ (ds : List Dt) (o : Out), ds.length = ps.length → R ds o → (∀ C f d, o = .er C f d → XW K S C f d E) → So K S S [] t (startD N.length ds) (PO o)) :
    GOkN P w K mg base (k + 1) g fd ps (spX K ps.length R) := by
  refine okGN Fu Sc (fun vs H Q E h => ?_) fun cdv A out s H vs Q E hr hg h => ?_
  · obtain ⟨ds, o, r, hl, _⟩ := h
    exact r.len.trans hl
  · obtain ⟨ds, o, r, hl, hp, q⟩ := h
    obtain ⟨t, ht, so⟩ := hb cdv A out s H E hr hg
    have hw : ∀ C f d, o = .er C f d → XW K (staSame H) C f d E := fun C f d e a v H' i ha rv => by
      subst e
      exact q a v H' i ha rv
    refine ⟨t, ht, so (staSame H) staSame_mu ds o hl hp hw _ _ H H ⟨Gr.refl H, Same.refl H, fun _ z => nomatch z⟩ (Same.refl H) (slots_start r) ⟨fun σ ρ H' g i s' e => ?_, fun v d' H' g i r' e => ?_, fun σ ρ H' g i s' e => ?_, fun σ ρ H' g i s' e => ?_⟩⟩
    · cases o with
      | ok d => exact q _ H' i ((show d = .non from e) ▸ .non)
      | er => exact (show False from e).elim
    · cases o with
      | ok d => exact q v H' i ((show d = d' from e) ▸ r')
      | er => exact (show False from e).elim
    · cases o <;> exact (show False from e).elim
    · cases o <;> exact (show False from e).elim
end
section
variable {X : Cx} {C fI : Addr} {x f : Str}
theorem pmk5_bad {a : Expr} {ta : TA} {p pos : Pos} (T : BadCls X.prog X.K X.mg x f C fI) (hd : X.A.depth + 1 < recursionLimit) (ha : PA X [a] ta) (hg : Gl X x := by rfl) (hdb : (x == ("__debug__" : Str)) = false := by decide)
    (he : starEach (a :: []) X.env = (false, eval a X.env) :: starEach [] X.env := by rfl) (hpl : (backTo pos (starEach [] X.env)).any (·.1) = false := by rfl) :
    L2H.PMk5 X (.Call (.Name x p) [a] [] pos) (tMkB C f ta) := by
  intro pins s σ H Q I h
  refine wpAny_Call_Name_kw (ld_glob I hg T.gC ?_ hdb)
  refine PySem.W.callWith_K (h₀ := X.base) I.ok.mod.kin T.kC (thn (ha.run pos pins s σ H _ I h) fun us s1 hh => ?_) he hpl
  obtain ⟨vs, H1, I1, r1, v, rfl, q1⟩ := hh
  refine ⟨I1.kIn, ?_⟩
  obtain ⟨u, rfl, ru⟩ := r1.one
  show wpAny _ _ (call (.ref C) [u]) _ _ _
  have hlim := I1.nolimit
  obtain ⟨mb, hb1, hb2⟩ := I1.mod.blt
  have hg1 := I1.mod.glob.keeps I1.bk
  have hb3 := hb1.keeps I1.bk
  obtain ⟨hp, g, dr, tk, os⟩ := s1
  refine wpAny_call (bad_made T.T I1.kIn hlim hg1 hb3 T.ms ((hb2 _ (by decide)).trans (by first | rfl | decide +kernel)) T.top T.fn hd fun h' tk' e d M => ?_)
  show L2N.MkP X pins σ Q (.ref e) ⟨h', g, dr, tk', os⟩ ∧ L2H.Six (.ref e) ⟨h', g, dr, tk', os⟩
  obtain ⟨t1, hoe⟩ := M.obj
  obtain ⟨G', g1, g2⟩ := restrict h' fun b => decide (b ≠ e)
  have gk : ∀ b, b ≠ e → G'.get? b = h'.get? b := fun b hb => g1 b (decide_eq_true hb)
  have ge : G'.get? e = none := g2 e (by simp)
  have old : ∀ b o, hp.get? b = some o → G'.get? b = some o := fun b o q => (gk b (Nat.ne_of_lt (Nat.lt_of_lt_of_le (Heap.lt_size q) M.new))).trans (M.keep b o q)
  have ob : ObjOk X.prog X.w (upd H1 d (.xd [(f, v)])) G' d (.xd [(f, v)]) := ⟨_, M.ns.at (fun o q => (gk d M.dne).trans q), fun y => relO_one ru y⟩
  have J : Inv X pins σ (upd H1 d (.xd [(f, v)])) ⟨G', g, dr, tk', os⟩ := I1.laid (t' := tk') old M.dbig ob
  refine ⟨⟨e, _, _, ⟨G', g, dr, tk', os⟩, _, .ref C, some d, rfl, J, fun b o q => ?_, ge, hoe, ⟨rfl, rfl, fun vs hv => by cases hv; rfl⟩, rfl, rfl, ?_, rfl, I1.bare, raises_own T.exC T.tyC, q1 d (I1.hok.fresh M.dbig)⟩, fun a' oe vs ea2 hg2 hd2 => ?_⟩
  · by_cases hb : b = e
    · have q' : G'.get? b = some o := q
      rw [hb, ge] at q'
      cases q'
    · exact (gk b hb).symm.trans q
  · rw [upd_ne (Ne.symm M.dne)]
    exact I1.hok.fresh M.new
  · cases ea2
    have hg2' : h'.get? e = some oe := hg2
    rw [hoe] at hg2'
    cases hg2'
    cases hd2
    show 4 < 6
    decide
/-- raise C(e), the context None -/
theorem ps_raiseBN {a : Expr} {ta : TA} {W : WX} {p pos pos2 : Pos} (hc : X.calm = true) (T : BadCls X.prog X.K X.mg x f C fI) (hd : X.A.depth + 1 < recursionLimit) (tk : L2N.Takes X W) (ha : PA X [a] ta) (hg : Gl X x := by rfl) (hdb : (x == ("__debug__" : Str)) = false := by decide)
    (he : starEach (a :: []) X.env = (false, eval a X.env) :: starEach [] X.env := by rfl) (hpl : (backTo pos (starEach [] X.env)).any (·.1) = false := by rfl) :
    PS X (.Raise (some (.Call (.Name x p) [a] [] pos)) none pos2) (tRaiseB C f W ta) := L2N.ps_raise hc tk (pmk5_bad T hd ha hg hdb he hpl).pmk
end
section
variable {X : Cx} {k : Nat} {f C p g : Addr} {fd : FuncData} {ps : List Str} {sp : Sp} {E : L2.St → XK} {m : Str} {q pos apos : Pos} {e o : Expr} {es : List Expr} {t : TA} {ta : TE} {mc : Value} {pl : Sem Bool}
end
/-! ### over data -/
section
variable {K : PySem.W.Frag} {S S1 SB SF : Sta} {L : List Addr} {ρ : List (Option Dt)} {P : Po} {tl : TA} {w : TS} {n : Nat} {R : List Dt → Out → Prop} {E : XK} {C D0 : Addr} {f : Str} {d : Dt} {ds : List Dt} {c : TT} {u : TS}
theorem ev_cm (ha : EvA K S S1 ρ tl (Eq ds)) (hn : ds.length + 1 = n) (hp : R (.raw (.ref C) :: ds) (.ok d)) : Ev K S S1 ρ (ClX.tCMeth C (spX K n R) E (tC (.ref C)) tl) (Eq d) := fun σ H i s Q q =>
  ⟨rfl, ha σ H i s _ fun vs ds' H1 g1 i1 r1 p1 => by
    subst p1
    exact ⟨_, .ok d, .cons (.raw _) r1, hn, hp, fun v H2 sm r => q v _ H2 (g1.trans sm.gr) (S1.st i1 sm) r rfl⟩⟩
theorem er_cm (ha : EvA K S S1 ρ tl (Eq ds)) (hn : ds.length + 1 = n) (hp : R (.raw (.ref C) :: ds) (.er D0 f d)) (hw : XW K S1 D0 f d E) : EvR K S ρ (ClX.tCMeth C (spX K n R) E (tC (.ref C)) tl) := fun σ H i s Q =>
  ⟨rfl, ha σ H i s _ fun vs ds' H1 g1 i1 r1 p1 => by
    subst p1
    exact ⟨_, .er D0 f d, .cons (.raw _) r1, hn, hp, fun a v H2 sm ea rv => hw a v H2 (S1.st i1 sm) ea rv⟩⟩
theorem so_while1F (h : EvT K S S1 ρ c (Eq false)) (q : Sg K S1 SB SF L w ρ P) : Sg K S SB SF L (tSeq (tWhile c u) w) ρ P := fun D σ B H b i s ft =>
  ⟨fun _ σ' H' => σ' = σ ∧ H' = H, ⟨0, rfl, rfl⟩, fun m σ' H' ⟨e1, e2⟩ => by
    subst e1 e2
    refine h σ' H' i s _ fun b' H1 g1 i1 p1 => ?_
    subst p1
    rw [if_neg Bool.false_ne_true]
    exact q D σ' B H1 (b.up g1) i1 (s.mono g1) ft⟩
end
end Bf
namespace Bf
open PySem PySem.Spec PyProof.Rows L2
/-! ## a comprehension whose step may raise: what leaves its block -/
section
variable {M : Model} {A : Around} {E : Value → Shared → Prop} {s : Shared} {env : Env}
end
section
variable {X : Cx} {W : XK} {pins pins' : List (Addr × Obj)} {σ σ' : L2.St} {H3 H' : Hp} {s3 s' s2 : Shared} {fp : List Addr} {sc : Scope} {ce : Env} {xe' : Value → Shared → Prop} {use : Option (Value → Sem Unit)} {Qf : Value → Shared → Prop} {acc x : Value}
end
end Bf
namespace Bf
open PySem PySem.Spec PyProof.Rows L2
/-! ## a comprehension whose step may raise -/
/-- a call within the block let an exception out -/
def XB (X Y : Cx) (W : XK) (u : Value) (s' : Shared) : Prop := ∃ (pins : List (Addr × Obj)) (σ : L2.St) (H : Hp) (s : Shared), Inv Y pins σ H s ∧ L2.CX X.prog X.w X.stack H s W u s'
/-- the block's context -/
abbrev bCx (X : Cx) (W : XK) (s : Shared) (H : Hp) (sc : Scope) (ce : Env) (fp : List Addr) : Cx := { X.blk s H sc ce fp with xe := XB X (X.blk s H sc ce fp) W }
section
variable {X : Cx} {W : XK} {s : Shared} {H : Hp} {sc : Scope} {ce : Env} {fp : List Addr}
end
/-- the step's parts, in the block -/
structure BlkP (X : Cx) (W : XK) (sc : Scope) (elt tg : Expr) (ifs : List Expr) (g : TG) (tt : TT) (te : TE) : Prop where
  g : ∀ (s : Shared) (H : Hp) (C : Addr) (cl : List (Str × Addr)) (fp : List Addr), PG (bCx X W s H sc (compEnvC sc cl C X.env) fp) tg g
  t : ∀ (s : Shared) (H : Hp) (C : Addr) (cl : List (Str × Addr)) (fp : List Addr), PTs (bCx X W s H sc (compEnvC sc cl C X.env) fp) ifs tt
  e : ∀ (s : Shared) (H : Hp) (C : Addr) (cl : List (Str × Addr)) (fp : List Addr), PE (bCx X W s H sc (compEnvC sc cl C X.env) fp) elt te
section
variable {X : Cx} {W : XK}
end
end Bf
namespace Bf
open PySem PySem.Spec PyProof.Rows L2
/-! ## x op y by an own method: both of the same class -/
def rOwn (C : Addr) (sp : Sp) : R2 := fun x y H Q => ∃ a b dx dy fs gs, x = .ref a ∧ y = .ref b ∧ H a = some (.ins C dx fs) ∧ H b = some (.ins C dy gs) ∧ sp [x, y] H Q E0
theorem cmp_back {X : Cx} {pins : List (Addr × Obj)} {σ : L2.St} {Q : VK} {u : Value} {v : V} {s : Shared} {H : Hp} (I : L2.Inv X pins σ H s) (r : RelV v u) (q : Q v H) : PySem.W.CmpBack (EP X pins σ Q) u s := by
  have e : EP X pins σ Q u s := ⟨v, H, I, r, q⟩
  cases v with
  | non => cases (show u = Value.none from r); exact e
  | bl b => cases (show u = Value.bool b from r); exact e
  | int i => obtain ⟨t, e1⟩ := (show ∃ t, u = Value.int i t from r); cases e1; exact e
  | str x => obtain ⟨t, e1⟩ := (show ∃ t, u = Value.str x t from r); cases e1; exact e
  | byt b => obtain ⟨t, e1⟩ := (show ∃ t, u = Value.bytes b t from r); cases e1; exact e
  | flt b => obtain ⟨t, e1⟩ := (show ∃ t, u = Value.float b t from r); cases e1; exact e
  | ref a => cases (show u = Value.ref a from r); exact e
  | ty n => cases (show u = Value.type n from r); exact e
theorem op_ownR {X : Cx} {op : CmpOp} {C f : Addr} {fd : FuncData} {ps : List Str} {sp : Sp} {n : Nat} (F : GOk X.prog X.w X.K X.mg X.base n f fd ps sp) (hs : PySem.W.findIn X.K (.ref C) (cmpInfo op).2.1 = some (some (.ref f))) (hf : PySem.W.isFn X.K (.ref f) = true)
    (hb : Binds X.K fd ps []) (hr : Room n X.A) (hg : X.A.guards = some []) (hc : ∀ v u, compareOp op v u = richCompare op v u) (hx : Passes (L2.CX X.prog X.w) X E0 := passL) : OpR X (compareOp op) (rOwn C sp) := by
  intro pins s σ H x y v u Q I rx ry h
  obtain ⟨a, b, dx, dy, fs, gs, rfl, rfl, ha, hb', hsp⟩ := h
  cases rx
  cases ry
  rw [hc]
  obtain ⟨mA, J, _⟩ := ins_get I.hok ha
  obtain ⟨mB, J', _⟩ := ins_get I.hok hb'
  obtain ⟨od, J, _⟩ := J.look
  obtain ⟨od', J', _⟩ := J'.look
  obtain ⟨m, hF⟩ := I.fr
  refine PySem.W.cmp_K (op := op) (tb := .ref C) hr.units0 hF I.ok.mod.kin J J'.type (by simp [PySem.W.notFirst]) hs hf ?_
  have hl := F.len _ _ _ _ hsp
  have r2 : Vals [V.ref a, V.ref b] [Value.ref a, Value.ref b] := .cons rfl (.cons rfl .nil)
  refine wpAny_call (codeAny_mono (F.go X.A X.stack s H ⟨[.ref a, .ref b], []⟩ [.ref a, .ref b] [.ref a, .ref b] _ E0 hr hg I.env0 (by
    have := hb s [.ref a, .ref b] I.kIn (by simpa using hl)
    simpa using this) r2 hsp) fun r s' hq => ?_)
  cases r with
  | error e => exact hx pins σ H s e s' I hq
  | ok fl =>
    cases fl with
    | ret w =>
      obtain ⟨z, H', I', rz, q⟩ := I.after hq
      exact cmp_back I' rz q
    | next => exact False.elim hq
    | brk => exact False.elim hq
    | cont => exact False.elim hq
end Bf
namespace Bf
open PySem PySem.Spec PyProof.Rows L2
/-! ## x != y by the text's own ==, through object.__ne__ -/
section
variable {M : Model} {prog : Program} {w : World} {A : Around} {E : Value → Shared → Prop} {s : Shared} {K : PySem.W.Frag} {x C L f : Addr} {h₀ : Heap} {m : Str → Option Value} {ox : Obj} {od : Option Obj} {b tb : Value}
theorem ifBound_slot {T : String} {name : Str} {id : String} {args : List Value} {Q : Option Value → Shared → Prop} (S : Slot T name id) (X : K.In s.heap) (I : PySem.W.InstAt s.heap x ox C od) (hs : PySem.W.findIn K (.ref C) name = some (some (.builtin id)))
    (h : wpAny M A (call (.builtin id) (.ref x :: args)) (fun v => Q (some v)) E s) : wpAny M A (callSpecialIfBound? (.ref x) name args) Q E s := by
  simp only [callSpecialIfBound?, bindSpecialIfBound?]
  refine wpAny_holding (wpAny_bind (wpAny_bind (wpAny_bind (I.type.here ((PySem.W.looks_findIn X hs).here ?_)))))
  refine wpAny_bind (wpAny_askSetting (wpAny_ite ?_))
  have fin : wpAny M A (call (.builtin id) ([.ref x] ++ args) >>= fun v => pure (some v)) Q E s := wpAny_bind (wpAny_mono h (fun v s' h' => wpAny_pure h') fun _ _ h' => h')
  split
  · exact wpAny_bind (wpAny_of_eq (S.bind _) (wpAny_pure (by exact fin)))
  · exact wpAny_tryCatch (wpAny_bind (wpAny_of_eq (S.bind _) (wpAny_pure (by exact fin))))
theorem objNe_own (hu : A.units < cLine) (X : K.In s.heap) (I : PySem.W.InstAt s.heap x ox C od) (hs : PySem.W.findIn K (.ref C) "__eq__" = some (some (.ref f))) (hf : PySem.W.isFn K (.ref f) = true) {Q : Fin → Shared → Prop}
    (h : wpAny (model prog w) A (call (.ref f) [.ref x, b]) (fun v s' => ∃ k, v = .bool k ∧ Q (.done (.ret (.bool (!k)))) s') E s) :
    wpAny (model prog w) A (Builtin.«object.__ne__» ⟨[.ref x, b], []⟩) Q E s := by
  unfold Builtin.«object.__ne__»
  repeat (first
    | with_reducible refine wpAny_cRoomFor hu ?_
    | (refine wpAny_bind (m := callSpecialIfBound? (.ref x) (Str.ofString "__eq__") [b])
        (PySem.W.ifBound_K X I hs hf (wpAny_mono h (fun r s' hr => by
          obtain ⟨k, rfl, hq⟩ := hr
          repeat (first | exact hq | exact wpAny_pure hq | exact wpAny_truthy_bool hq | (refine wpAny_bind (m := truthy (.bool _)) (wpAny_truthy_bool ?_)) | wp_step)) fun _ _ e => e)))
    | wp_step)
theorem cmpNe_K {Q : Value → Shared → Prop} (hu : A.units + 1 < cLine) (F : Fr h₀ L s.heap m) (X₀ : K.In h₀) (I : PySem.W.InstAt s.heap x ox C od) (hb : PySem.W.Looks (model prog w) s.heap (typeOf b) (.ref C)) (hm : PySem.W.mroIn K C (.type "object") = some true)
    (hn : PySem.W.findIn K (.ref C) "__ne__" = some (some (.builtin "object.__ne__"))) (hs : PySem.W.findIn K (.ref C) "__eq__" = some (some (.ref f))) (hf : PySem.W.isFn K (.ref f) = true)
    (h : wpAny (model prog w) A.in1 (call (.ref f) [.ref x, b]) (fun v s' => ∃ k, v = .bool k ∧ Q (.bool (!k)) s') E s) : wpAny (model prog w) A (richCompare .NotEq (.ref x) b) Q E s := by
  have X := X₀.keeps F.keep
  have one : wpAny (model prog w) A (tryCompare (.ref x) (cmpInfo .NotEq).2.1 b) (fun r s' => ∃ k, r = some (.bool k) ∧ Q (.bool k) s') E s := by
    unfold tryCompare
    refine wpAny_bind (ifBound_slot PySem.F.cmp_object.ne X I hn (wpAny_call (codeAny_call_builtin PySem.F.cmp_object.ne.plain PySem.F.cmpEntry_ne (PySem.W.check_slot PySem.F.cmpKind_ne PySem.F.cmpSplit_ne (I.type.andThen (PySem.W.looks_mroIn X hm)) (PySem.F.cmpArgs_ne _ _)
      (objNe_own (A := A.in1) (by rw [units_in1]; exact hu) X I hs hf (wpAny_mono h (fun v s' hv => ?_) fun _ _ e => e))))))
    obtain ⟨k, rfl, hq⟩ := hv
    exact ⟨k, rfl, wpAny_pure ⟨_, rfl, hq⟩⟩
  unfold richCompare
  simp only [oneThing_ref]
  refine wpAny_holding (wpAny_bind (wpAny_cRoomFor (Nat.lt_of_succ_lt hu) ?_))
  refine wpAny_bind (I.type.here (wpAny_bind (hb.here ?_)))
  rw [show (Value.ref C != Value.ref C) = false from by simp]
  simp only [Bool.false_eq_true, if_false]
  refine wpAny_bind (wpAny_pure ?_)
  simp only [Bool.false_eq_true, if_false]
  refine wpAny_bind (wpAny_mono one (fun r s' z => ?_) fun _ _ e => e)
  obtain ⟨k, rfl, hq⟩ := z
  exact wpAny_pure hq
end
def rOwnN (C : Addr) (sp : Sp) : R2 := fun x y H Q => ∃ a b dx dy fs gs, x = .ref a ∧ y = .ref b ∧ H a = some (.ins C dx fs) ∧ H b = some (.ins C dy gs) ∧ sp [x, y] H (fun v H' => ∃ k, v = .bl k ∧ Q (.bl (!k)) H') E0
theorem op_ownN {X : Cx} {C f : Addr} {fd : FuncData} {ps : List Str} {sp : Sp} {n : Nat} (F : GOk X.prog X.w X.K X.mg X.base n f fd ps sp) (hm : PySem.W.mroIn X.K C (.type "object") = some true) (hn : PySem.W.findIn X.K (.ref C) "__ne__" = some (some (.builtin "object.__ne__")))
    (hs : PySem.W.findIn X.K (.ref C) "__eq__" = some (some (.ref f))) (hf : PySem.W.isFn X.K (.ref f) = true)
    (hb : Binds X.K fd ps []) (hr : Room (n + 1) X.A) (hg : X.A.guards = some []) (hx : Passes (L2.CX X.prog X.w) X E0 := passL) : OpR X (compareOp .NotEq) (rOwnN C sp) := by
  intro pins s σ H x y v u Q I rx ry h
  obtain ⟨a, b, dx, dy, fs, gs, rfl, rfl, ha, hb', hsp⟩ := h
  cases rx
  cases ry
  obtain ⟨mA, J, _⟩ := ins_get I.hok ha
  obtain ⟨mB, J', _⟩ := ins_get I.hok hb'
  obtain ⟨od, J, _⟩ := J.look
  obtain ⟨od', J', _⟩ := J'.look
  obtain ⟨m, hF⟩ := I.fr
  show wpAny (model X.prog X.w) X.A (richCompare .NotEq (.ref a) (.ref b)) _ _ _
  refine cmpNe_K (by have := hr.units; omega) hF I.ok.mod.kin J J'.type hm hn hs hf ?_
  have hl := F.len _ _ _ _ hsp
  have r2 : Vals [V.ref a, V.ref b] [Value.ref a, Value.ref b] := .cons rfl (.cons rfl .nil)
  have e0 : Env0 X.prog X.w X.K X.mg X.base X.A.in1 X.stack s H := by
    have e := I.env0
    exact ⟨e.frames, e.mod, e.bs, e.bsz, e.funs, e.frf, e.hok, e.bare⟩
  refine wpAny_call (codeAny_mono (F.go X.A.in1 X.stack s H ⟨[.ref a, .ref b], []⟩ [.ref a, .ref b] [.ref a, .ref b] _ E0 hr.in1 hg e0 (by
    have := hb s [.ref a, .ref b] I.kIn (by simpa using hl)
    simpa using this) r2 hsp) fun r s' hq => ?_)
  cases r with
  | error e => exact hx pins σ H s e s' I hq
  | ok fl =>
    cases fl with
    | ret w =>
      obtain ⟨z, H', I', rz, k, ez, q⟩ := I.after hq
      subst ez
      cases rz
      exact ⟨k, rfl, .bl (!k), H', I', rfl, q⟩
    | next => exact False.elim hq
    | brk => exact False.elim hq
    | cont => exact False.elim hq
end Bf
namespace Bf
open PySem PySem.Spec PyProof.Rows L2 PySem.SeqAt
open AutoSeq1 (wpAny_loadPart')
/-! ## == and != of tuples that hold ratios: equal ones are seen to be equal -/
section
variable {prog : Program} {w : World} {A : Around} {R : Result → Shared → Prop}
/-- tuple.__ne__ of tuples with as many items, one by one equal; each look may change the heap -/
theorem tuple_neG (l b : Addr) (items items2 : Array Value) (n n2 : Nat) (dd dd2 : Option Addr) (sl sl2 : Array (Option Value)) (hsz : items.size = items2.size) (I : Nat → Shared → Prop)
    (turn : ∀ i (h1 : i < items.size) (h2 : i < items2.size) s, I i s → wpAny (model prog w) A.in1 (eqBool items[i] items2[i]) (fun r s' => r = true ∧ I (i + 1) s') (fun e s' => R (.error e) s') s)
    (fin : ∀ s, I items.size s → R (.ok (.ret (.bool false))) s) {s : Shared} (hl1 : s.heap.get? l = some { cls := .type "tuple", dict := dd, data := .seq items n, slots := sl }) (hb1 : s.heap.get? b = some { cls := .type "tuple", dict := dd2, data := .seq items2 n2, slots := sl2 }) (h : I 0 s) :
    wpAny (model prog w) A.in1 (Builtin.«tuple.__ne__» ⟨[.ref l, .ref b], []⟩) (GQ.FinOf prog w A R) (fun e s' => R (.error e) s') s := by
  have f2 := AutoSeq1.sub_tuple_tuple
  have hZ : (items.toList.zip items2.toList).length = items.size := by simp [hsz]
  have h0 := h
  obtain ⟨hp, g, d, tk, os⟩ := s
  wp_walk using wpAny_loadPart' hl1, wpAny_loadPart' hb1, wpAny_forIn_list _ (fun rest b s' => b.1 = none ∧ ∃ i, rest = (items.toList.zip items2.toList).drop i ∧ i ≤ items.size ∧ I i s') _
  case turn =>
    rintro ⟨y, x⟩ rest b s' ⟨hb', i, hz, hi, hI⟩
    have hlt : i < (items.toList.zip items2.toList).length := Nat.lt_of_not_le fun h' => by rw [List.drop_of_length_le h'] at hz; cases hz
    have h1 : i < items.size := hZ ▸ hlt
    have h2 : i < items2.size := hsz ▸ h1
    rw [List.drop_eq_getElem_cons hlt] at hz
    injection hz with hyx hrest
    have hy : y = items[i] := by have := congrArg Prod.fst hyx; simpa using this
    have hx : x = items2[i] := by have := congrArg Prod.snd hyx; simpa using this
    subst hy hx
    refine wpAny_bind (wpAny_mono (turn i h1 h2 s' hI) (fun r s2 q2 => ?_) fun _ _ x => x)
    obtain ⟨hr, q2⟩ := q2
    subst hr
    wp_walk
    exact ⟨rfl, i + 1, hrest, h1, q2⟩
  case fin =>
    rintro ⟨b1, b2⟩ s' ⟨hb', i, hz, hi, hI⟩
    simp only at hb'
    subst hb'
    have hge : items.size ≤ i := Nat.le_of_not_lt fun h' => by rw [List.drop_eq_getElem_cons (hZ ▸ h')] at hz; cases hz
    have hR : R (.ok (.ret (.bool false))) s' := fin s' ((Nat.le_antisymm hge hi) ▸ hI)
    wp_walk
    simpa [Builtin.Tuple.tupleCompareSizes, hsz] using hR
  case h =>
    exact ⟨rfl, 0, rfl, Nat.zero_le _, h0⟩
end
section
variable {prog : Program} {w : World} {A : Around} {E : Value → Shared → Prop} {s : Shared}
theorem rcNe_tupG {l b : Addr} {items items2 : Array Value} {Q : Value → Shared → Prop} (hsz : items.size = items2.size) (hu : A.units < cLine) (I : Nat → Shared → Prop)
    (hl : s.heap.IsTuple l items) (hb : s.heap.IsTuple b items2)
    (turn : ∀ i (h1 : i < items.size) (h2 : i < items2.size) s, I i s → wpAny (model prog w) A.in1 (eqBool items[i] items2[i]) (fun r s' => r = true ∧ I (i + 1) s') E s)
    (fin : ∀ s, I items.size s → Q (.bool false) s) (h : I 0 s) : wpAny (model prog w) A (richCompare .NotEq (.ref l) (.ref b)) Q E s := by
  obtain ⟨⟨cls, dd, data, sl⟩, ho, hc, n, hd⟩ := id hl
  obtain ⟨⟨cls2, dd2, data2, sl2⟩, ho2, hc2, n2, hd2⟩ := id hb
  simp only at hc hd hc2 hd2
  subst hc hd hc2 hd2
  refine wpAny_richCompare_same_room (op := .NotEq) ⟨_, ho, rfl⟩ ⟨_, ho2, rfl⟩ F.slot_tuple_ne (GQ.call_here F.slot_tuple_ne ⟨_, ho, rfl⟩ F.entry_tuple_ne (F.args_tuple_ne_2 _ _) ?_) hu
  exact tuple_neG (R := wants (fun v s' => v ≠ .notImplemented ∧ Q v s') E) l b items items2 n n2 dd dd2 sl sl2 hsz I turn (fun s' q => ⟨(fun x => nomatch x), fin s' q⟩) ho ho2 h
end
/-- somewhere below a body without guards, with room -/
structure SubG (X : Cx) (n : Nat) (A : Around) : Prop where
  room : Room n A
  fr : A.frames = X.A.frames
  gd : A.guards = some []
theorem SubG.in1 {X : Cx} {n : Nat} {A : Around} (s : SubG X (n + 1) A) : SubG X n A.in1 := ⟨s.room.in1, s.fr, s.gd⟩
theorem SubG.mono {X : Cx} {n m : Nat} {A : Around} (s : SubG X n A) (h : m ≤ n) : SubG X m A := ⟨s.room.mono h, s.fr, s.gd⟩
theorem SubG.sub {X : Cx} {n : Nat} {A : Around} (s : SubG X n A) : Sub X n A := ⟨s.room, s.fr⟩
/-- == inside a builtin gives True for what D says, and only makes objects -/
def EqP (X : Cx) (n : Nat) (D : Eqv) : Prop :=
  ∀ (A : Around) (pins : List (Addr × Obj)) (s : Shared) (σ : L2.St) (H : Hp) (x y : V) (u v : Value), SubG X n A → L2.Inv X pins σ H s → RelV x u → RelV y v → D x y H →
    wpAny (model X.prog X.w) A (eqBool u v) (fun r s' => r = true ∧ ∃ H', L2.Inv X pins σ H' s' ∧ Ext H H') X.xe s
def RcP (X : Cx) (n : Nat) (D : Eqv) : Prop :=
  ∀ (A : Around) (pins : List (Addr × Obj)) (s : Shared) (σ : L2.St) (H : Hp) (x y : V) (u v : Value), SubG X n A → L2.Inv X pins σ H s → RelV x u → RelV y v → D x y H →
    wpAny (model X.prog X.w) A (richCompare .Eq u v) (fun r s' => r = .bool true ∧ ∃ H', L2.Inv X pins σ H' s' ∧ Ext H H') X.xe s
section
variable {X : Cx} {n m : Nat} {D D' : Eqv}
theorem EqP.mono (h : EqP X n D) (hn : n ≤ m) : EqP X m D := fun A pins s σ H x y u v sb => h A pins s σ H x y u v (sb.mono hn)
theorem _root_.L2.EqG.p (h : EqG X n D) : EqP X n D := fun A pins s σ H x y u v sb => h A pins s σ H x y u v sb.sub
theorem EqP.or (h : EqP X n D) (h' : EqP X n D') : EqP X n (fun x y H => D x y H ∨ D' x y H) := fun A pins s σ H x y u v sb I rx ry d => by
  rcases d with d | d
  · exact h A pins s σ H x y u v sb I rx ry d
  · exact h' A pins s σ H x y u v sb I rx ry d
theorem EqP.imp (h : EqP X n D) (hd : ∀ x y H, D' x y H → D x y H) : EqP X n D' := fun A pins s σ H x y u v sb I rx ry d => h A pins s σ H x y u v sb I rx ry (hd x y H d)
theorem turnP (hD : Mon D) (h : EqP X n D) {A : Around} (sb : SubG X (n + 1) A) {pins : List (Addr × Obj)} {σ : L2.St} {H : Hp} {xs ys : List V} {its its2 : List Value} (p : Prs D xs ys H) (r : Vals xs its) (r2 : Vals ys its2)
    (i : Nat) (h1 : i < its.toArray.size) (h2 : i < its2.toArray.size) (s' : Shared) (l : LoopI X pins σ H s') :
    wpAny (model X.prog X.w) A.in1 (eqBool its.toArray[i] its2.toArray[i]) (fun r s2 => r = true ∧ LoopI X pins σ H s2) X.xe s' := by
  obtain ⟨H1, I1, e1⟩ := l
  have g1 : its[i]? = some its.toArray[i] := by
    have h1' : i < its.length := by simpa using h1
    rw [List.getElem?_eq_getElem h1'] <;> simp
  have g2 : its2[i]? = some its2.toArray[i] := by
    have h2' : i < its2.length := by simpa using h2
    rw [List.getElem?_eq_getElem h2'] <;> simp
  have k1 : i < xs.length := by rw [r.length]; simpa using h1
  have k2 : i < ys.length := by rw [r2.length]; simpa using h2
  obtain ⟨u, hu, ru⟩ := r.get (List.getElem?_eq_getElem k1)
  obtain ⟨v, hv, rv⟩ := r2.get (List.getElem?_eq_getElem k2)
  rw [g1] at hu
  rw [g2] at hv
  rw [Option.some.inj hu, Option.some.inj hv]
  refine wpAny_mono (h A.in1 pins s' σ H1 _ _ u v sb.in1 I1 ru rv (hD _ _ _ _ e1 (p.2 i _ _ (List.getElem?_eq_getElem k1) (List.getElem?_eq_getElem k2)))) (fun r s2 q => ?_) fun _ _ x => x
  obtain ⟨hr, H2, I2, e2⟩ := q
  exact ⟨hr, H2, I2, e1.trans e2⟩
theorem rcP_tup (hD : Mon D) (h : EqP X n D) : RcP X (n + 1) (DTup X.K D) := by
  intro A pins s σ H x y u v sb I rx ry d
  obtain ⟨a, b, xs, ys, rfl, rfl, ha, hb, p⟩ := d
  cases rx
  cases ry
  obtain ⟨its, r, e, z⟩ := I.tuple ha
  obtain ⟨its2, r2, e2, z2⟩ := I.tuple hb
  have hsz : its.toArray.size = its2.toArray.size := by rw [List.size_toArray, List.size_toArray, ← r.length, ← r2.length]; exact p.1
  exact GQ.rc_tupG hsz sb.room.units0 (fun _ s' => LoopI X pins σ H s') e e2 (fun i h1 h2 s' q => turnP hD h sb p r r2 i h1 h2 s' q) (fun s' q => ⟨rfl, q⟩) ⟨H, I, Ext.rfl'⟩
theorem neP_tup (hD : Mon D) (h : EqP X n D) {A : Around} {pins : List (Addr × Obj)} {s : Shared} {σ : L2.St} {H : Hp} {x y : V} {u v : Value} (sb : SubG X (n + 1) A) (I : L2.Inv X pins σ H s) (rx : RelV x u) (ry : RelV y v) (d : DTup X.K D x y H) :
    wpAny (model X.prog X.w) A (richCompare .NotEq u v) (fun r s' => r = .bool false ∧ ∃ H', L2.Inv X pins σ H' s' ∧ Ext H H') X.xe s := by
  obtain ⟨a, b, xs, ys, rfl, rfl, ha, hb, p⟩ := d
  cases rx
  cases ry
  obtain ⟨its, r, e, z⟩ := I.tuple ha
  obtain ⟨its2, r2, e2, z2⟩ := I.tuple hb
  have hsz : its.toArray.size = its2.toArray.size := by rw [List.size_toArray, List.size_toArray, ← r.length, ← r2.length]; exact p.1
  exact rcNe_tupG hsz sb.room.units0 (fun _ s' => LoopI X pins σ H s') e e2 (fun i h1 h2 s' q => turnP hD h sb p r r2 i h1 h2 s' q) (fun s' q => ⟨rfl, q⟩) ⟨H, I, Ext.rfl'⟩
theorem RcP.eqP (h : RcP X n D) (hr : ∀ x y H, D x y H → ∃ a b, x = .ref a ∧ y = .ref b) : EqP X n D := by
  intro A pins s σ H x y u v sb I rx ry d
  obtain ⟨a, b, rfl, rfl⟩ := hr _ _ _ d
  cases rx
  cases ry
  by_cases hab : a = b
  · subst hab
    exact SeqAt.EqAt.same (A := A) (s := s) (.ref a) X.prog X.w X.xe _ ⟨rfl, H, I, Ext.rfl'⟩
  · refine GQ.eqBool_refG hab (wpAny_mono (h A pins s σ H (.ref a) (.ref b) _ _ sb I rfl rfl d) (fun r s' q => ?_) fun _ _ x => x)
    obtain ⟨hr', q⟩ := q
    exact ⟨true, hr', rfl, q⟩
theorem eqP_tup (hD : Mon D) (h : EqP X n D) : EqP X (n + 1) (DTup X.K D) := (rcP_tup hD h).eqP fun _ _ _ d => let ⟨a, b, _, _, hx, hy, _⟩ := d; ⟨a, b, hx, hy⟩
end
/-- what Ratio's == says -/
def r_req (C : Addr) (ds : List Dt) (a : Dt) : Prop := ∃ n m i j, ds = [rat C n m, rat C i j] ∧ a = .bl (decide (n = i) && decide (m = j))
abbrev p_req (K : PySem.W.Frag) (C : Addr) : Sp := spR K 2 (r_req C)
/-- what the class is known for by its == -/
structure RatE (P : Program) (w : World) (K : PySem.W.Frag) (mg : Str → Option Value) (base : Heap) (C q : Addr) (qd : FuncData) : Prop where
  g : GOk P w K mg base 2 q qd ["self", "other"] (p_req K C)
  s : PySem.W.findIn K (.ref C) "__eq__" = some (some (.ref q))
  n : PySem.W.findIn K (.ref C) "__ne__" = some (some (.builtin "object.__ne__"))
  f : PySem.W.isFn K (.ref q) = true
  m : PySem.W.mroIn K C (.type "object") = some true
  b : Binds K qd ["self", "other"] []
section
variable {X : Cx} {C q : Addr} {qd : FuncData}
/-- two ratios with the same parts -/
def DRat (K : PySem.W.Frag) (C : Addr) : Eqv := fun x y H => ∃ n m, Rep K H x (rat C n m) ∧ Rep K H y (rat C n m)
theorem rcP_rat (T : RatE X.prog X.w X.K X.mg X.base C q qd) : RcP X 2 (DRat X.K C) := by
  intro A pins s σ H x y u v sb I rx ry d
  obtain ⟨n, m, r1, r2⟩ := d
  obtain ⟨a, dx, rfl, ha⟩ := r1.ratI
  obtain ⟨b, dy, rfl, hb'⟩ := r2.ratI
  cases rx
  cases ry
  obtain ⟨mA, J, _⟩ := ins_get I.hok ha
  obtain ⟨mB, J', _⟩ := ins_get I.hok hb'
  obtain ⟨od, J, _⟩ := J.look
  obtain ⟨od', J', _⟩ := J'.look
  obtain ⟨mm, hF⟩ := I.fr
  refine PySem.W.cmp_K (op := .Eq) (tb := .ref C) sb.room.units0 hF I.ok.mod.kin J J'.type (by simp [PySem.W.notFirst]) T.s T.f ?_
  have hsp : p_req X.K C [.ref a, .ref b] H (fun v H' => v = .bl true ∧ Ext H H') E0 := ⟨[rat C n m, rat C n m], .bl true, .cons r1 (.cons r2 .nil), rfl, ⟨n, m, n, m, rfl, by simp⟩, fun v H' sm rv => ⟨rv.blI, sm⟩⟩
  have e0 : Env0 X.prog X.w X.K X.mg X.base A X.stack s H := by
    have e := I.env0
    exact ⟨by rw [sb.fr]; exact e.frames, e.mod, e.bs, e.bsz, e.funs, e.frf, e.hok, e.bare⟩
  have rv2 : Vals [V.ref a, V.ref b] [Value.ref a, Value.ref b] := .cons rfl (.cons rfl .nil)
  refine wpAny_call (codeAny_mono (T.g.go A X.stack s H ⟨[.ref a, .ref b], []⟩ [.ref a, .ref b] [.ref a, .ref b] _ E0 sb.room sb.gd e0 (by
    have := T.b s [.ref a, .ref b] I.kIn rfl
    simpa using this) rv2 hsp) fun r s' hq => ?_)
  cases r with
  | error e => exact (passL : Passes (L2.CX X.prog X.w) X E0) pins σ H s e s' I hq
  | ok fl =>
    cases fl with
    | ret w =>
      obtain ⟨z, H', I', rz, ez, ex⟩ := I.after hq
      subst ez
      cases rz
      exact ⟨rfl, H', I', ex⟩
    | next => exact False.elim hq
    | brk => exact False.elim hq
    | cont => exact False.elim hq
theorem eqP_rat (T : RatE X.prog X.w X.K X.mg X.base C q qd) : EqP X 2 (DRat X.K C) := (rcP_rat T).eqP fun x y H d => by
  obtain ⟨n, m, r1, r2⟩ := d
  obtain ⟨a, dx, rfl, ha⟩ := r1.ratI
  obtain ⟨b, dy, rfl, hb'⟩ := r2.ratI
  exact ⟨a, b, rfl, rfl⟩
/-- None, bools, ints, texts, ratios, and tuples of these, so deep -/
def eqK (C : Addr) : Nat → Dt → Prop
  | 0, d => d = .non ∨ (∃ b, d = .bl b) ∨ (∃ i, d = .int i) ∨ (∃ x, d = .str x) ∨ ∃ a b, d = rat C a b
  | n + 1, d => (d = .non ∨ (∃ b, d = .bl b) ∨ (∃ i, d = .int i) ∨ (∃ x, d = .str x) ∨ ∃ a b, d = rat C a b) ∨ ∃ xs, d = .tup xs ∧ ∀ x ∈ xs, eqK C n x
def DRep (K : PySem.W.Frag) (C : Addr) (n : Nat) : Eqv := fun x y H => ∃ d, Rep K H x d ∧ Rep K H y d ∧ eqK C n d
theorem ext_gr {H H' : Hp} (e : Ext H H') : Gr H H' := fun a o h _ => e a o h
theorem mon_rep {K : PySem.W.Frag} {n : Nat} : Mon (DRep K C n) := fun x y H H' e d => by
  obtain ⟨d, r1, r2, k⟩ := d
  exact ⟨d, r1.mono (ext_gr e), r2.mono (ext_gr e), k⟩
theorem prs_rep {K : PySem.W.Frag} {n : Nat} {H : Hp} : ∀ {xs ys : List V} {ds : List Dt}, RepA K H xs ds → RepA K H ys ds → (∀ d ∈ ds, eqK C n d) → Prs (DRep K C n) xs ys H
  | _, _, _, .nil, .nil, _ => .nil
  | _, _, _, .cons r1 h1, .cons r2 h2, hk => .cons ⟨_, r1, r2, hk _ List.mem_cons_self⟩ (prs_rep h1 h2 fun d hd => hk d (List.mem_cons_of_mem _ hd))
theorem rep_base {K : PySem.W.Frag} {x y : V} {H : Hp} {d : Dt} (r1 : Rep K H x d) (r2 : Rep K H y d) (h : d = .non ∨ (∃ b, d = .bl b) ∨ (∃ i, d = .int i) ∨ (∃ x, d = .str x) ∨ ∃ a b, d = rat C a b) : DFlat x y H ∨ DRat K C x y H := by
  rcases h with rfl | ⟨b, rfl⟩ | ⟨i, rfl⟩ | ⟨t, rfl⟩ | ⟨a, b, rfl⟩
  · cases r1
    cases r2
    exact .inl ⟨rfl, rfl, rfl⟩
  · obtain rfl := r1.blI
    obtain rfl := r2.blI
    exact .inl ⟨rfl, rfl, by cases b <;> rfl⟩
  · obtain rfl := r1.intI
    obtain rfl := r2.intI
    exact .inl ⟨rfl, rfl, by simp [eqV]⟩
  · obtain rfl := r1.strI
    obtain rfl := r2.strI
    exact .inl ⟨rfl, rfl, by simp [eqV]⟩
  · exact .inr ⟨a, b, r1, r2⟩
theorem eqP_rep (T : RatE X.prog X.w X.K X.mg X.base C q qd) : ∀ n, EqP X (n + 2) (DRep X.K C n)
  | 0 => ((eqG_flat.p.mono (Nat.zero_le 2)).or (eqP_rat T)).imp fun x y H d => by
    obtain ⟨d, r1, r2, k⟩ := d
    exact rep_base r1 r2 k
  | n + 1 => (((eqG_flat.p.mono (Nat.zero_le (n + 1 + 2))).or ((eqP_rat T).mono (by omega))).or (eqP_tup mon_rep (eqP_rep T n))).imp fun x y H d => by
    obtain ⟨d, r1, r2, k⟩ := d
    rcases k with k | ⟨xs, rfl, k⟩
    · exact .inl (rep_base r1 r2 k)
    · obtain ⟨a, us, rfl, ha, ra⟩ := r1.tupI
      obtain ⟨b, vs, rfl, hb, rb⟩ := r2.tupI
      exact .inr ⟨a, b, us, vs, rfl, rfl, ha, hb, prs_rep ra rb k⟩
/-- x != y: Nones, ratios, or tuples of the same things -/
def rNeQ (K : PySem.W.Frag) (C : Addr) : R2 := fun x y H Q => (DTup K (DRep K C 4) x y H ∧ ∀ H', Same H H' → Q (.bl false) H') ∨ rNeD K x y H Q ∨ rOwnN C (p_req K C) x y H Q
theorem op_neQ (T : RatE X.prog X.w X.K X.mg X.base C q qd) (hr : Room 7 X.A) (hg : X.A.guards = some []) : OpR X (compareOp .NotEq) (rNeQ X.K C) := by
  intro pins s σ H x y v u Q I rx ry h
  rcases h with ⟨d, q⟩ | h | h
  · show wpAny (model X.prog X.w) X.A (richCompare .NotEq v u) (EP X pins σ Q) X.xe s
    refine wpAny_mono (neP_tup mon_rep (eqP_rep T 4) ⟨hr, rfl, hg⟩ I rx ry d) (fun r s' z => ?_) fun _ _ x => x
    obtain ⟨hr', H', I', e⟩ := z
    subst hr'
    exact ⟨.bl false, H', I', rfl, q H' e⟩
  · exact op_neD hr.units pins s σ H x y v u Q I rx ry h
  · exact op_ownN T.g T.m T.n T.s T.f T.b (hr.mono (by decide)) hg passL pins s σ H x y v u Q I rx ry h
end
section
variable {K : PySem.W.Frag} {S : Sta} {C : Addr} {d : Dt} {n m i j : Int}
theorem rv_neRat : Rv2 K S (rNeQ K C) (rat C n m) (rat C i j) (Eq (.bl (!(decide (n = i) && decide (m = j))))) := fun H v u hi r1 r2 Q q => by
  obtain ⟨a, dx, rfl, ha⟩ := r1.ratI
  obtain ⟨b, dy, rfl, hb⟩ := r2.ratI
  exact .inr (.inr ⟨a, b, dx, dy, _, _, rfl, rfl, ha, hb, [rat C n m, rat C i j], _, .cons r1 (.cons r2 .nil), rfl, ⟨n, m, i, j, rfl, rfl⟩, fun v' H' sm rv => ⟨_, rv.blI, q _ _ H' sm.gr (S.st hi sm) (.bl _) rfl⟩⟩)
end
end Bf
namespace Bf
open PySem PySem.Spec PyProof.Rows L2 PySem.SeqAt
open AutoSeq1 (wpAny_loadPart')
open MeetsSeq MeetsSeq2 MeetsSeq3 SeqRoads2
/-! ## == and != of lists that hold ratios: equal ones are seen to be equal -/
section
variable {prog : Program} {w : World} {A : Around} {R : Result → Shared → Prop} {E : Value → Shared → Prop} {s : Shared}
/-- both lists are read anew at each turn -/
def ListJ (prog : Program) (w : World) (A : Around) (E : Value → Shared → Prop) (l b : Addr) (N : Nat) (I : Nat → Shared → Prop) : Prop :=
  ∀ i s, I i s → ∃ (xs ys : Array Value) (n n2 : Nat) (dd dd2 : Option Addr) (sl sl2 : Array (Option Value)), s.heap.get? l = some { cls := .type "list", dict := dd, data := .seq xs n, slots := sl } ∧ s.heap.get? b = some { cls := .type "list", dict := dd2, data := .seq ys n2, slots := sl2 } ∧ xs.size = N ∧ ys.size = N ∧
    ∀ (h1 : i < xs.size) (h2 : i < ys.size), wpAny (model prog w) A.in1 (eqBool xs[i] ys[i]) (fun r s' => r = true ∧ I (i + 1) s') E s
theorem list_turns {code : Int} {res : Bool} (hc : (code = 2 ∧ res = true) ∨ (code = 3 ∧ res = false)) (l b : Addr) (N : Nat) (I : Nat → Shared → Prop) (hl : ListJ prog w A (fun e s' => R (.error e) s') l b N I) (fin : ∀ s, I N s → R (.ok (.ret (.bool res))) s) :
    ∀ k i : Nat, N - i = k → i ≤ N → ∀ s, I i s → wpAny (model prog w) A.in1 (Builtin.«list.__eq__.loop» ⟨[.ref l, .ref b, rawInt i, rawInt code], []⟩) (GQ.FinOf prog w A R) (fun e s' => R (.error e) s') s
  | 0, i, hk, hi, s, h => by
    obtain ⟨xs, ys, n, n2, dd, dd2, sl, sl2, hx, hy, z1, z2, _⟩ := hl _ _ h
    have hR : R (.ok (.ret (.bool res))) s := fin s ((show i = N by omega) ▸ h)
    have g1 : xs[((i : Nat) : Int).toNat]? = none := by simp; omega
    have g2 : ys[((i : Nat) : Int).toNat]? = none := by simp; omega
    obtain ⟨hp, g, d, tk, os⟩ := s
    rcases hc with ⟨rfl, rfl⟩ | ⟨rfl, rfl⟩
    · wp_walk using wpAny_loadPart' hx, wpAny_loadPart' hy
      rw [g1, g2]
      wp_walk using wpAny_loadPart' hx, wpAny_loadPart' hy
      show R (.ok (.ret (.bool (xs.size == ys.size)))) _
      rw [z1, z2]
      simpa using hR
    · wp_walk using wpAny_loadPart' hx, wpAny_loadPart' hy
      rw [g1, g2]
      wp_walk using wpAny_loadPart' hx, wpAny_loadPart' hy
      show R (.ok (.ret (.bool (xs.size != ys.size)))) _
      rw [z1, z2]
      simpa using hR
  | k + 1, i, hk, hi, s, h => by
    obtain ⟨xs, ys, n, n2, dd, dd2, sl, sl2, hx, hy, z1, z2, turn⟩ := hl _ _ h
    have lt1 : i < xs.size := by omega
    have lt2 : i < ys.size := by omega
    have ht := turn lt1 lt2
    have g1 : xs[((i : Nat) : Int).toNat]? = some xs[i] := by simp [lt1]
    have g2 : ys[((i : Nat) : Int).toNat]? = some ys[i] := by simp [lt2]
    have ec : ((i : Int) + 1) = ((i + 1 : Nat) : Int) := by omega
    have again := fun s2 (q : I (i + 1) s2) => list_turns hc l b N I hl fin k (i + 1) (by omega) (by omega) s2 q
    obtain ⟨hp, g, d, tk, os⟩ := s
    rcases hc with ⟨rfl, rfl⟩ | ⟨rfl, rfl⟩ <;>
    · wp_walk using wpAny_loadPart' hx, wpAny_loadPart' hy
      rw [g1, g2]
      refine wpAny_bind (wpAny_mono ht (fun r s2 q => ?_) fun _ _ x => x)
      obtain ⟨rfl, q⟩ := q
      have ha := again s2 q
      obtain ⟨hp2, gg2, d2, tk2, os2⟩ := s2
      wp_walk
      rw [ec]
      exact ⟨plainId_quiet plain_eq_loop _, codeAny_builtin entry_eq_loop (by
        rw [Around.under_plainId plain_eq_loop _]
        exact ha)⟩
theorem list_both {op : CmpOp} {res : Bool} (hop : (op = .Eq ∧ res = true) ∨ (op = .NotEq ∧ res = false)) {l b : Addr} {N : Nat} {Q : Value → Shared → Prop} (hu : A.units < cLine) (I : Nat → Shared → Prop) (hl : ListJ prog w A E l b N I)
    (fin : ∀ s, I N s → Q (.bool res) s) (h : I 0 s) : wpAny (model prog w) A (richCompare op (.ref l) (.ref b)) Q E s := by
  obtain ⟨xs, ys, n, n2, dd, dd2, sl, sl2, hx, hy, z1, z2, _⟩ := hl _ _ h
  have hne : ¬ (xs.size != ys.size) = true := by simp [z1, z2]
  have f3 := AutoSeq1.sub_list_list
  rcases hop with ⟨rfl, rfl⟩ | ⟨rfl, rfl⟩
  · have loop := list_turns (A := A) (R := wants (fun v s' => v ≠ .notImplemented ∧ Q v s') E) (.inl ⟨rfl, rfl⟩) l b N I hl (fun s' q => ⟨(fun x => nomatch x), fin s' q⟩) _ 0 rfl (Nat.zero_le _) s h
    refine wpAny_richCompare_same_room (op := .Eq) ⟨_, hx, rfl⟩ ⟨_, hy, rfl⟩ F.slot_list_eq (GQ.call_here F.slot_list_eq ⟨_, hx, rfl⟩ F.entry_list_eq (F.args_list_eq_2 _ _) ?_) hu
    obtain ⟨hp, g, d, tk, os⟩ := s
    wp_walk using wpAny_loadPart' hx, wpAny_loadPart' hy
    exact ⟨plainId_quiet plain_eq_loop _, codeAny_builtin entry_eq_loop (by
      rw [Around.under_plainId plain_eq_loop _]
      exact loop)⟩
  · have loop := list_turns (A := A) (R := wants (fun v s' => v ≠ .notImplemented ∧ Q v s') E) (.inr ⟨rfl, rfl⟩) l b N I hl (fun s' q => ⟨(fun x => nomatch x), fin s' q⟩) _ 0 rfl (Nat.zero_le _) s h
    refine wpAny_richCompare_same_room (op := .NotEq) ⟨_, hx, rfl⟩ ⟨_, hy, rfl⟩ F.slot_list_ne (GQ.call_here F.slot_list_ne ⟨_, hx, rfl⟩ F.entry_list_ne (F.args_list_ne_2 _ _) ?_) hu
    obtain ⟨hp, g, d, tk, os⟩ := s
    wp_walk using wpAny_loadPart' hx, wpAny_loadPart' hy
    exact ⟨plainId_quiet plain_eq_loop _, codeAny_builtin entry_eq_loop (by
      rw [Around.under_plainId plain_eq_loop _]
      exact loop)⟩
end
def DLst (K : PySem.W.Frag) (D : Eqv) : Eqv := fun x y H => ∃ a b xs ys, x = .ref a ∧ y = .ref b ∧ SqL K H a xs ∧ SqL K H b ys ∧ Prs D xs ys H
section
variable {X : Cx} {n : Nat} {D : Eqv}
theorem cmp_lst {op : CmpOp} {res : Bool} (hop : (op = .Eq ∧ res = true) ∨ (op = .NotEq ∧ res = false)) (hD : Mon D) (h : EqP X n D) {A : Around} {pins : List (Addr × Obj)} {s : Shared} {σ : L2.St} {H : Hp} {x y : V} {u v : Value} (sb : SubG X (n + 1) A) (I : L2.Inv X pins σ H s) (rx : RelV x u) (ry : RelV y v) (d : DLst X.K D x y H) :
    wpAny (model X.prog X.w) A (richCompare op u v) (fun r s' => r = .bool res ∧ ∃ H', L2.Inv X pins σ H' s' ∧ Ext H H') X.xe s := by
  obtain ⟨a, b, xs, ys, rfl, rfl, ha, hb, p⟩ := d
  cases rx
  cases ry
  refine list_both hop (N := xs.length) sb.room.units0 (fun _ s' => LoopI X pins σ H s') (fun i s' q => ?_) (fun s' q => ⟨rfl, q⟩) ⟨H, I, Ext.rfl'⟩
  obtain ⟨H1, I1, e1⟩ := id q
  obtain ⟨its, r, t1, _⟩ := I1.list (ha.ext e1)
  obtain ⟨its2, r2, t2, _⟩ := I1.list (hb.ext e1)
  obtain ⟨⟨cls, dd, data, sl⟩, ho, hc, k, hd⟩ := t1.isList
  obtain ⟨⟨cls2, dd2, data2, sl2⟩, ho2, hc2, k2, hd2⟩ := t2.isList
  simp only at hc hd hc2 hd2
  subst hc hd hc2 hd2
  exact ⟨its.toArray, its2.toArray, k, k2, dd, dd2, sl, sl2, ho, ho2, by rw [List.size_toArray, ← r.length], by rw [List.size_toArray, ← r2.length, ← p.1], fun h1 h2 => turnP hD h sb p r r2 i h1 h2 s' q⟩
theorem eqP_lst (hD : Mon D) (h : EqP X n D) : EqP X (n + 1) (DLst X.K D) := RcP.eqP (fun A pins s σ H x y u v sb I rx ry d => cmp_lst (.inl ⟨rfl, rfl⟩) hD h sb I rx ry d) fun _ _ _ d => let ⟨a, b, _, _, hx, hy, _⟩ := d; ⟨a, b, hx, hy⟩
end
/-- .. and lists of these -/
def eqL (C : Addr) : Nat → Dt → Prop
  | 0, d => eqK C 0 d
  | n + 1, d => eqK C 0 d ∨ (∃ xs, d = .tup xs ∧ ∀ x ∈ xs, eqL C n x) ∨ ∃ xs, d = .lst xs ∧ ∀ x ∈ xs, eqL C n x
def DRepL (K : PySem.W.Frag) (C : Addr) (n : Nat) : Eqv := fun x y H => ∃ d, Rep K H x d ∧ Rep K H y d ∧ eqL C n d
section
variable {X : Cx} {C q : Addr} {qd : FuncData}
theorem mon_repL {K : PySem.W.Frag} {n : Nat} : Mon (DRepL K C n) := fun x y H H' e d => by
  obtain ⟨d, r1, r2, k⟩ := d
  exact ⟨d, r1.mono (ext_gr e), r2.mono (ext_gr e), k⟩
theorem prs_repL {K : PySem.W.Frag} {n : Nat} {H : Hp} : ∀ {xs ys : List V} {ds : List Dt}, RepA K H xs ds → RepA K H ys ds → (∀ d ∈ ds, eqL C n d) → Prs (DRepL K C n) xs ys H
  | _, _, _, .nil, .nil, _ => .nil
  | _, _, _, .cons r1 h1, .cons r2 h2, hk => .cons ⟨_, r1, r2, hk _ List.mem_cons_self⟩ (prs_repL h1 h2 fun d hd => hk d (List.mem_cons_of_mem _ hd))
theorem eqP_repL (T : RatE X.prog X.w X.K X.mg X.base C q qd) : ∀ n, EqP X (n + 2) (DRepL X.K C n)
  | 0 => (eqP_rep T 0).imp fun x y H d => d
  | n + 1 => ((((eqP_rep T 0).mono (by omega)).or (eqP_tup mon_repL (eqP_repL T n))).or (eqP_lst mon_repL (eqP_repL T n))).imp fun x y H d => by
    obtain ⟨d, r1, r2, k⟩ := d
    rcases k with k | ⟨xs, rfl, k⟩ | ⟨xs, rfl, k⟩
    · exact .inl (.inl ⟨d, r1, r2, k⟩)
    · obtain ⟨a, us, rfl, ha, ra⟩ := r1.tupI
      obtain ⟨b, vs, rfl, hb, rb⟩ := r2.tupI
      exact .inl (.inr ⟨a, b, us, vs, rfl, rfl, ha, hb, prs_repL ra rb k⟩)
    · obtain ⟨a, us, rfl, ha, ra⟩ := r1.lstI
      obtain ⟨b, vs, rfl, hb, rb⟩ := r2.lstI
      exact .inr ⟨a, b, us, vs, rfl, rfl, ha, hb, prs_repL ra rb k⟩
end
end Bf
namespace Bf
open PySem PySem.Spec PyProof.Rows L2
/-! ## str(x) by an own __str__ -/
def rStrO (C : Addr) (sp : Sp) : List V → Hp → VK → Prop := fun xs H Q => ∃ a dx fs, xs = [.ref a] ∧ H a = some (.ins C dx fs) ∧ sp [.ref a] H (fun v H' => ∃ y, v = .str y ∧ Q v H') E0
theorem call_strO {X : Cx} {C f : Addr} {fd : FuncData} {ps : List Str} {sp : Sp} {n : Nat} (F : GOk X.prog X.w X.K X.mg X.base n f fd ps sp) (hs : PySem.W.findIn X.K (.ref C) "__str__" = some (some (.ref f))) (hf : PySem.W.isFn X.K (.ref f) = true)
    (hb : Binds X.K fd ps []) (hr : Room (n + 2) X.A) (hg : X.A.guards = some []) (hx : Passes (L2.CX X.prog X.w) X E0 := passL) : CallR X (.type "str") (rStrO C sp) := by
  intro pins s σ H xs us Q I rs h
  obtain ⟨a, dx, fs, rfl, ha, hsp⟩ := h
  cases rs with
  | cons r1 rs =>
    cases rs
    cases r1
    obtain ⟨mA, J, _⟩ := ins_get I.hok ha
    obtain ⟨od, J, _⟩ := J.look
    refine PySem.W.kso_call (K := X.K) (by have := hr.units; show X.A.units + 1 + 1 < _; omega) I.kIn J hs hf ?_
    have hl := F.len _ _ _ _ hsp
    have e0 : Env0 X.prog X.w X.K X.mg X.base X.A.in1.in1 X.stack s H := I.env0.in1.in1
    refine wpAny_call (codeAny_mono (F.go X.A.in1.in1 X.stack s H ⟨[.ref a], []⟩ [.ref a] [.ref a] _ E0 hr.in1.in1 hg e0 (by
      have := hb s [.ref a] I.kIn (by simpa using hl)
      simpa using this) (.cons rfl .nil) hsp) fun r s' hq => ?_)
    cases r with
    | error e => exact hx pins σ H s e s' I hq
    | ok fl =>
      cases fl with
      | ret w =>
        obtain ⟨z, H', I', rz, ⟨y, ez, q⟩⟩ := I.after hq
        subst ez
        obtain ⟨t, rfl⟩ := rz
        exact ⟨.str y, H', I', ⟨t, rfl⟩, q⟩
      | next => exact False.elim hq
      | brk => exact False.elim hq
      | cont => exact False.elim hq
end Bf
namespace Bf
open PySem PySem.Spec PyProof.Rows L2
/-! ## numerals in texts -/
abbrev sg (x : Str) : List Nat := x.cps.toList
theorem sg_len (x : Str) : (sg x).length = x.length := Array.length_toList
theorem sg_ext {x y : Str} (h : sg x = sg y) : x = y := Str.ext' (Array.toList_inj.mp h)
def isDg (c : Nat) : Bool := decide (48 ≤ c) && decide (c ≤ 57)
/-- one to k digits without needless zeros -/
def numW (k : Nat) (x : Str) : Bool := decide (1 ≤ (sg x).length) && decide ((sg x).length ≤ k) && (sg x).all isDg && (decide ((sg x).length = 1) || !decide ((sg x).head? = some 48))
def valW (x : Str) : Nat := NumText.digitsVal (sg x)
theorem dig_ascii : ∀ c, c < 128 → Unicode.isDigit c = isDg c := by
  intro c h
  have k : ∀ n : _root_.Fin 128, Unicode.isDigit n.val = isDg n.val := by decide +kernel
  exact k ⟨c, h⟩
theorem asc_dig (x : Str) : (Txt.isascii x && Txt.isdigit x) = (decide (1 ≤ (sg x).length) && (sg x).all isDg) := by
  have e1 : Txt.isascii x = (sg x).all fun c => decide (c < 128) := by
    show x.cps.all (· < 128) = _
    rw [← Array.all_toList]
  have e2 : Txt.isdigit x = (decide (0 < (sg x).length) && (sg x).all Unicode.isDigit) := by
    show (decide (x.length > 0) && x.cps.all Unicode.isDigit) = _
    rw [← Array.all_toList, sg_len]
  rw [e1, e2]
  by_cases h : (sg x).all (fun c => decide (c < 128)) = true
  · rw [h, Bool.true_and]
    congr 1
    rw [Bool.eq_iff_iff, List.all_eq_true, List.all_eq_true]
    have h' := List.all_eq_true.mp h
    constructor
    · intro z c hc
      rw [← dig_ascii c (of_decide_eq_true (h' c hc))]
      exact z c hc
    · intro z c hc
      rw [dig_ascii c (of_decide_eq_true (h' c hc))]
      exact z c hc
  · rw [Bool.eq_false_iff.mpr h, Bool.false_and]
    symm
    rw [Bool.and_eq_false_iff]
    right
    rw [Bool.eq_false_iff]
    intro z
    refine h (List.all_eq_true.mpr fun c hc => decide_eq_true ?_)
    have := List.all_eq_true.mp z c hc
    unfold isDg at this
    rw [Bool.and_eq_true, decide_eq_true_eq, decide_eq_true_eq] at this
    omega
theorem sg_zero : sg ("0" : Str) = [48] := by decide
theorem stw_zero (x : Str) : Txt.startswith x "0" = decide ((sg x).head? = some 48) := by
  have hl : (sg x).length = x.length := sg_len x
  show (decide (0 + ("0" : Str).length ≤ x.length) && Builtin.Str.subAt x "0" 0) = _
  rw [← hl, PySem.StrLaws.subAt_eq]
  show (decide (0 + 1 ≤ (sg x).length) && (((sg x).drop 0).take 1 == [48])) = _
  rw [List.drop_zero]
  cases sg x with
  | nil => decide
  | cons c r =>
    rw [decide_eq_true (by simp : 0 + 1 ≤ (c :: r).length), Bool.true_and]
    show ([c] == [48]) = _
    by_cases hc : c = 48
    · subst hc; rfl
    · rw [decide_eq_false (by simpa using hc)]
      exact beq_eq_false_iff_ne.mpr fun z => hc (List.cons.inj z).1
theorem eq_zero (x : Str) : decide (x = ("0" : Str)) = (decide ((sg x).length = 1) && decide ((sg x).head? = some 48)) := by
  rw [Bool.eq_iff_iff, Bool.and_eq_true, decide_eq_true_eq, decide_eq_true_eq, decide_eq_true_eq]
  constructor
  · rintro rfl; decide
  · rintro ⟨h1, h2⟩
    refine sg_ext ?_
    rw [sg_zero]
    match h : sg x, h1, h2 with
    | [c], _, h2 => simp at h2; rw [h2]
/-- as the program looks -/
theorem numeral_eq (x : Str) (k : Nat) : ((Txt.isascii x && Txt.isdigit x) && !decide (k < (sg x).length) && (decide (x = ("0" : Str)) || !Txt.startswith x "0")) = numW k x := by
  rw [asc_dig, stw_zero, eq_zero]
  unfold numW
  have e : (!decide (k < (sg x).length)) = decide ((sg x).length ≤ k) := by
    rw [Bool.eq_iff_iff]; simp
  rw [e]
  cases decide (1 ≤ (sg x).length) <;> cases (sg x).all isDg <;> cases decide ((sg x).length ≤ k) <;> cases decide ((sg x).length = 1) <;> cases decide ((sg x).head? = some 48) <;> rfl
/-- what int says -/
theorem num_int {k : Nat} {x : Str} (h : numW k x = true) (hk : k ≤ 640) : intText? x = some (valW x : Int) ∧ x.length ≤ 640 := by
  unfold numW at h
  simp only [Bool.and_eq_true, decide_eq_true_eq] at h
  obtain ⟨⟨⟨h1, h2⟩, h3⟩, _⟩ := h
  have hl : (sg x).length = x.length := sg_len x
  have hd : NumText.AllDigits (sg x) := by
    intro c hc
    have := List.all_eq_true.mp h3 c hc
    unfold isDg at this
    rw [Bool.and_eq_true, decide_eq_true_eq, decide_eq_true_eq] at this
    exact this
  exact ⟨intText_digits hd (fun e => by rw [show sg x = [] from e] at h1; simp at h1) (by omega), by omega⟩
theorem val_lt {x : Str} : ∀ (l : List Nat) (a : Nat), l.all isDg = true → l.foldl (fun acc c => acc * 10 + (c - 48)) a < (a + 1) * 10 ^ l.length
  | [], a, _ => by simp
  | c :: l, a, h => by
    rw [List.all_cons, Bool.and_eq_true] at h
    have hc := h.1
    unfold isDg at hc
    rw [Bool.and_eq_true, decide_eq_true_eq, decide_eq_true_eq] at hc
    have := val_lt (x := x) l (a * 10 + (c - 48)) h.2
    rw [List.foldl_cons, List.length_cons, Nat.pow_succ]
    refine Nat.lt_of_lt_of_le this ?_
    have h1 : (a * 10 + (c - 48) + 1) ≤ (a + 1) * 10 := by omega
    have h2 := Nat.mul_le_mul_right (10 ^ l.length) h1
    have e : (a + 1) * 10 * 10 ^ l.length = (a + 1) * (10 ^ l.length * 10) := by ac_rfl
    omega
theorem num_lt {k : Nat} {x : Str} (h : numW k x = true) : valW x < 10 ^ k := by
  unfold numW at h
  simp only [Bool.and_eq_true, decide_eq_true_eq] at h
  obtain ⟨⟨⟨h1, h2⟩, h3⟩, _⟩ := h
  have := val_lt (x := x) (sg x) 0 h3
  have e : (0 + 1) * 10 ^ (sg x).length = 10 ^ (sg x).length := by omega
  rw [e] at this
  exact Nat.lt_of_lt_of_le this (Nat.pow_le_pow_right (by decide) h2)
/-- the text of a number -/
def numT (n : Nat) : Str := Str.ofString (toString ((n : Nat) : Int))
theorem sg_num (n : Nat) : sg (numT n) = TL.numL n := TL.tl_num n
theorem numL_head : ∀ n : Nat, 1 ≤ n → (TL.numL n).head? ≠ some 48 := by
  intro n
  induction n using Nat.strongRecOn with
  | ind n ih =>
    intro h
    rcases Nat.lt_or_ge n 10 with z | z
    · rw [TL.numL_lt z]
      simp
      omega
    · rw [TL.numL_step z]
      have := ih (n / 10) (by omega) (by omega)
      have hne := TL.numL_ne (n / 10)
      cases e : TL.numL (n / 10) with
      | nil => exact absurd e hne
      | cons c r => rw [e] at this; simpa using this
theorem num_txt {n k : Nat} (hk : 0 < k) (h : n < 10 ^ k) : numW k (numT n) = true ∧ valW (numT n) = n := by
  unfold numW valW
  rw [sg_num]
  have h1 := TL.numL_ne n
  have h2 := TL.numL_len hk h
  have h3 := TL.numL_digits n
  refine ⟨?_, TL.numL_val n⟩
  rw [Bool.and_eq_true, Bool.and_eq_true, Bool.and_eq_true]
  refine ⟨⟨⟨decide_eq_true ?_, decide_eq_true h2⟩, List.all_eq_true.mpr fun c hc => ?_⟩, ?_⟩
  · have := List.length_pos_iff.mpr h1; omega
  · have := h3 c hc
    unfold isDg
    rw [decide_eq_true this.1, decide_eq_true this.2]; rfl
  · rcases Nat.eq_zero_or_pos n with z | z
    · subst z
      rw [show TL.numL 0 = [48] from TL.numL_lt (by decide)]
      rfl
    · rw [decide_eq_false (numL_head n z)]
      simp
end Bf
namespace Bf
open PySem PySem.Spec PyProof.Rows L2 PySem.SeqAt
/-! ## a list == [], isinstance(x, (T, U, ..)) -/
section
variable {K : PySem.W.Frag} {S S1 S2 : Sta} {ρ : List (Option Dt)} {te tl : TE} {xs : List Dt} {d : Dt}
end
end Bf
namespace Bf
open PySem PySem.Spec PyProof.Rows L2
/-! ## texts, over data -/
abbrev rAsc : V → List V → Hp → VK → Prop := fun x xs H Q => ∃ a, x = .str a ∧ xs = [] ∧ True ∧ Q (.bl (Txt.isascii a)) H
abbrev rDig : V → List V → Hp → VK → Prop := fun x xs H Q => ∃ a, x = .str a ∧ xs = [] ∧ True ∧ Q (.bl (Txt.isdigit a)) H
abbrev rStw : V → List V → Hp → VK → Prop := fun x xs H Q => ∃ a b, x = .str a ∧ xs = [.str b] ∧ Q (.bl (Txt.startswith a b)) H
abbrev rSplit : V → List V → Hp → VK → Prop := fun x xs H Q => ∃ a b, x = .str a ∧ xs = [.str b] ∧ (b.length == 0) = false ∧ a.length + 2 ≤ sizeLine ∧ rNewStrs (Txt.split a b) H Q
abbrev rPart : V → List V → Hp → VK → Prop := fun x xs H Q => ∃ a b, x = .str a ∧ xs = [.str b] ∧ (b.length == 0) = false ∧ a.length ≤ sizeLine ∧
    ∀ p, H p = none → Q (.ref p) (upd H p (.tup [.str (Txt.partition a b).1, .str (Txt.partition a b).2.1, .str (Txt.partition a b).2.2]))
abbrev rJoin (K : PySem.W.Frag) : V → List V → Hp → VK → Prop := fun x xs H Q => ∃ a p, ∃ ys : List Str, x = .str a ∧ xs = [.ref p] ∧ (SqL K H p (ys.map V.str) ∨ SqT K H p (ys.map V.str)) ∧
    (ys.map (·.length)).sum + ys.length * a.length ≤ 16777216 ∧ Q (.str (Txt.join a ys)) H
/-- str(a text or an int) -/
def rStrX : List V → Hp → VK → Prop := fun xs H Q => (∃ i : Int, xs = [.int i] ∧ i.natAbs.log2 < 1920 ∧ Q (.str (toString i)) H) ∨ ∃ a, xs = [.str a] ∧ Q (.str a) H
abbrev rIntS : List V → Hp → VK → Prop := fun xs H Q => ∃ a n, xs = [.str a] ∧ PySem.intText? a = some n ∧ a.length ≤ 640 ∧ Q (.int n) H
abbrev rNotInSg : R2 := fun x y H Q => ∃ (c : Nat) (z : Str), x = .str ⟨#[c]⟩ ∧ y = .str z ∧ Q (.bl (!decide (c ∈ z.cps.toList))) H
/-- a text n times, n at least 1 -/
def rMulS : R2 := fun x y H Q => ∃ (a : Str) (n : Int), x = .str a ∧ y = .int n ∧ (1 ≤ n ∧ n ≤ 1000) ∧ (1 ≤ a.length ∧ a.length ≤ 1000) ∧ Q (.str ⟨(List.replicate n.toNat a.cps).foldl (· ++ ·) #[]⟩) H
section
variable {X : Cx}
theorem call_strX : CallR X (.type "str") rStrX := by
  intro pins s σ H xs us Q I rs h
  rcases h with h | h
  · exact call_str_int pins s σ H xs us Q I rs h
  · exact SkE.call_str_str pins s σ H xs us Q I rs h
theorem rep_size (c : Array Nat) : ∀ (k : Nat) (acc : Array Nat), (List.foldl (· ++ ·) acc (List.replicate k c)).size = acc.size + k * c.size
  | 0, acc => by simp
  | k + 1, acc => by
    rw [List.replicate_succ, List.foldl_cons, rep_size c k, Array.size_append, Nat.succ_mul]
    omega
theorem op_mulS : OpR X (binaryOp .Mult) rMulS := by
  intro pins s σ H x y v u Q I rx ry h
  obtain ⟨a, n, rfl, rfl, ⟨h1, h2⟩, ⟨h3, h4⟩, q⟩ := h
  obtain ⟨t, rfl⟩ := rx
  obtain ⟨t', rfl⟩ := ry
  have e1 : (decide (n < -(2 ^ 63 : Int)) || decide (n ≥ 2 ^ 63)) = false := by
    rw [decide_eq_false (by omega), decide_eq_false (by omega)]; rfl
  by_cases hn1 : n = 1
  · subst hn1
    have e2 : (((1 : Int) == 1) || a.length == 0) = true := rfl
    refine PySem.P.mul_str e1 (fun _ z => by rw [e2] at z; cases z) (fun _ z => by rw [e2] at z; cases z) ?_
    rw [if_neg (by omega), if_pos e2]
    have e : (⟨(List.replicate (1 : Int).toNat a.cps).foldl (· ++ ·) #[]⟩ : Str) = a := by
      show (⟨#[] ++ a.cps⟩ : Str) = a
      rw [Array.empty_append]
    rw [e] at q
    exact ⟨.str _, H, I, ⟨_, rfl⟩, q⟩
  have e2 : (n == 1 || a.length == 0) = false := by
    rw [beq_eq_false_iff_ne.mpr (by omega), beq_eq_false_iff_ne.mpr (by omega)]; rfl
  have hl : a.length * n.toNat ≤ 1000000 := by
    have : n.toNat ≤ 1000 := by omega
    exact Nat.le_trans (Nat.mul_le_mul h4 this) (by decide)
  refine PySem.P.mul_str e1 (fun _ _ => ?_) (fun _ _ => ?_) ?_
  · have : (1000 : Int) ≤ (2 ^ 63 - 1) / n := by
      apply (Int.le_ediv_iff_mul_le (by omega)).mpr
      have := Int.mul_le_mul_of_nonneg_left h2 (show (0 : Int) ≤ 1000 by decide)
      omega
    omega
  · exact PyProof.Rows.short24 (by omega)
  · rw [if_neg (by omega), if_neg (by rw [e2]; decide)]
    refine ⟨?_, ?_⟩
    · show (List.foldl (· ++ ·) #[] (List.replicate n.toNat a.cps)).size ≤ sizeLine
      rw [rep_size]
      have e : a.cps.size = a.length := rfl
      rw [e, Nat.mul_comm, Array.size_empty, Nat.zero_add]
      exact Nat.le_trans hl (by decide)
    · exact ⟨.str _, H, I.tok _, ⟨_, rfl⟩, q⟩
end
def mulT (a : Str) (n : Nat) : Str := ⟨(List.replicate n a.cps).foldl (· ++ ·) #[]⟩
def oneS (c : Nat) : Str := ⟨#[c]⟩
section
variable {K : PySem.W.Frag} {S S1 S2 S3 : Sta} {ρ : List (Option Dt)} {te ta tb tl : TE} {tt : TT} {a b : Str} {n : Int} {xs : List Dt} {j j2 : Nat} {vs : List Nat}
theorem strs_V {H : Hp} : ∀ {vs : List V} {ys : List Str}, RepA K H vs (ys.map Dt.str) → vs = ys.map V.str
  | _, [], r => by cases r; rfl
  | _, y :: ys, r => by
    cases r with
    | cons r1 r2 =>
      rw [r1.strI, strs_V r2]
      rfl
theorem rep_strs {H : Hp} : ∀ ys : List Str, RepA K H (ys.map V.str) (ys.map Dt.str)
  | [] => .nil
  | y :: ys => .cons (.str y) (rep_strs ys)
theorem ev_m0 {r : V → List V → Hp → VK → Prop} {d : Dt} (h : Ev K S S1 ρ te (Eq (.str a))) (hr : ∀ H (Q : VK), (∀ v, Rep K H v d → Q v H) → r (.str a) [] H Q) : Ev K S S1 ρ (tM0 r te) (Eq d) := fun σ H i s Q q =>
  h σ H i s _ fun v d' H1 g1 i1 r1 e => by
    subst e
    obtain rfl := r1.strI
    exact ⟨⟨a, rfl⟩, hr H1 Q fun v r2 => q v _ H1 g1 i1 r2 rfl⟩
theorem ev_asc (h : Ev K S S1 ρ te (Eq (.str a))) : Ev K S S1 ρ (tM0 rAsc te) (Eq (.bl (Txt.isascii a))) := ev_m0 h fun H Q q => ⟨a, rfl, rfl, trivial, q _ (.bl _)⟩
theorem ev_dig (h : Ev K S S1 ρ te (Eq (.str a))) : Ev K S S1 ρ (tM0 rDig te) (Eq (.bl (Txt.isdigit a))) := ev_m0 h fun H Q q => ⟨a, rfl, rfl, trivial, q _ (.bl _)⟩
theorem ev_m1 {r : V → List V → Hp → VK → Prop} {y d : Dt} (h : Ev K S S1 ρ te (Eq (.str a))) (h2 : Ev K S1 S2 ρ tb (Eq y)) (hr : ∀ H v (Q : VK), S2.I H → Rep K H v y → (∀ v' H', Gr H H' → S2.I H' → Rep K H' v' d → Q v' H') → r (.str a) [v] H Q) : Ev K S S2 ρ (tM1 r te tb) (Eq d) := fun σ H i s Q q =>
  h σ H i s _ fun v d' H1 g1 i1 r1 e => by
    subst e
    obtain rfl := r1.strI
    exact ⟨⟨a, rfl⟩, h2 σ H1 i1 (s.mono g1) _ fun u d2 H2 g2 i2 r2 e2 => by
      subst e2
      exact hr H2 u Q i2 r2 fun v' H' g3 i3 r3 => q v' _ H' ((g1.trans g2).trans g3) i3 r3 rfl⟩
theorem ev_stw (h : Ev K S S1 ρ te (Eq (.str a))) (h2 : Ev K S1 S2 ρ tb (Eq (.str b))) : Ev K S S2 ρ (tM1 rStw te tb) (Eq (.bl (Txt.startswith a b))) := ev_m1 h h2 fun H v Q i r q => by
  obtain rfl := r.strI
  exact ⟨a, b, rfl, rfl, q _ H (Gr.refl H) i (.bl _)⟩
theorem ev_join {ys : List Str} (h : Ev K S S1 ρ te (Eq (.str a))) (h2 : Ev K S1 S2 ρ tb (Eq (.lst (ys.map Dt.str)))) (hz : (ys.map (·.length)).sum + ys.length * a.length ≤ 16777216) : Ev K S S2 ρ (tM1 (rJoin K) te tb) (Eq (.str (Txt.join a ys))) := ev_m1 h h2 fun H v Q i r q => by
  obtain ⟨p, vs, rfl, hp, ra⟩ := r.lstI
  obtain rfl := strs_V ra
  exact ⟨a, p, ys, rfl, rfl, .inl hp, hz, q _ H (Gr.refl H) i (.str _)⟩
theorem ev_part (h : Ev K S S1 ρ te (Eq (.str a))) (h2 : Ev K S1 S2 ρ tb (Eq (.str b))) (hb : (b.length == 0) = false) (hz : a.length ≤ sizeLine) : Ev K S S2 ρ (tM1 rPart te tb) (Eq (.tup [.str (Txt.partition a b).1, .str (Txt.partition a b).2.1, .str (Txt.partition a b).2.2])) := ev_m1 h h2 fun H v Q i r q => by
  obtain rfl := r.strI
  refine ⟨a, b, rfl, rfl, hb, hz, fun p hp => ?_⟩
  have sm := same_new (o := .tup [.str (Txt.partition a b).1, .str (Txt.partition a b).2.1, .str (Txt.partition a b).2.2]) hp
  exact q _ _ sm.gr (S2.st i sm) (.tup (SqT.of upd_same) (.cons (.str _) (.cons (.str _) (.cons (.str _) .nil))))
/-- x.split(sep), a new list -/
theorem en_split (h : Ev K S S1 ρ te (Eq (.str a))) (h2 : Ev K S1 S2 ρ tb (Eq (.str b))) (hb : (b.length == 0) = false) (hz : a.length + 2 ≤ sizeLine) : EvN K S S2 ρ (tM1 rSplit te tb) ((Txt.split a b).map Dt.str) := fun σ H i s Q q =>
  h σ H i s _ fun v d' H1 g1 i1 r1 e => by
    subst e
    obtain rfl := r1.strI
    exact ⟨⟨a, rfl⟩, h2 σ H1 i1 (s.mono g1) _ fun u d2 H2 g2 i2 r2 e2 => by
      subst e2
      obtain rfl := r2.strI
      exact ⟨a, b, rfl, rfl, hb, hz, fun p hp => q p _ H2 _ (g1.trans g2) i2 hp (same_new hp).gr (S2.st i2 (same_new hp)) upd_same (rep_strs _)⟩⟩
theorem rc_strXI (hn : n.natAbs.log2 < 1920) : RvC K S rStrX [.int n] (Eq (.str (toString n))) := rc_at fun H vs i r Q q => by
  obtain ⟨v, rfl, r1⟩ := r.oneI
  obtain rfl := r1.intI
  exact .inl ⟨n, rfl, hn, q _ (.str _)⟩
theorem rc_intS (h : intText? a = some n) (hl : a.length ≤ 640) : RvC K S rIntS [.str a] (Eq (.int n)) := rc_at fun H vs i r Q q => by
  obtain ⟨v, rfl, r1⟩ := r.oneI
  obtain rfl := r1.strI
  exact ⟨a, n, rfl, h, hl, q _ (.int _)⟩
theorem rv_notInSg {c : Nat} {z : Str} : Rv2 K S rNotInSg (.str (oneS c)) (.str z) (Eq (.bl (!decide (c ∈ sg z)))) := rv_at fun H v u _ r1 r2 Q q => by
  obtain rfl := r1.strI
  obtain rfl := r2.strI
  exact ⟨c, z, rfl, rfl, q _ (.bl _)⟩
theorem rv_mulS {k : Nat} (h : 1 ≤ k ∧ k ≤ 1000) (ha : 1 ≤ a.length ∧ a.length ≤ 1000) : Rv2 K S rMulS (.str a) (.int k) (Eq (.str (mulT a k))) := rv_at fun H v u _ r1 r2 Q q => by
  obtain rfl := r1.strI
  obtain rfl := r2.intI
  refine ⟨a, k, rfl, rfl, by omega, ha, ?_⟩
  rw [Int.toNat_natCast]
  exact q _ (.str _)
theorem ev_slS {tlo thi : TO} {lo hi : Option Int} (ha : Ev K S S1 ρ te (Eq (.str a))) (hl : EvO K S1 S2 ρ tlo (Eq lo)) (hh : EvO K S2 S3 ρ thi (Eq hi)) (hz : a.length ≤ sizeLine) : Ev K S S3 ρ (tSl rSlS te tlo thi) (Eq (.str (cutS a lo hi))) := fun σ H i s Q q =>
  ha σ H i s _ fun v d' H1 g1 i1 r1 p1 => hl σ H1 i1 (s.mono g1) _ fun l H2 g2 i2 p2 => hh σ H2 i2 (s.mono (g1.trans g2)) _ fun u H3 g3 i3 p3 => by
    subst p1 p2 p3
    obtain rfl := r1.strI
    exact ⟨a, rfl, hz, q _ _ H3 ((g1.trans g2).trans g3) i3 (.str _) rfl⟩
theorem rv_ixS {i : Int} {c : Nat} (hz : a.length ≤ sizeLine) (h : atI (sg a) i = some c) : Rv2 K S (rIx K) (.str a) (.int i) (Eq (.str (oneS c))) := rv_at fun H v u _ r1 r2 Q q => by
  obtain rfl := r1.strI
  obtain rfl := r2.intI
  exact .inr (.inr ⟨a, i, c, rfl, rfl, hz, h, q _ (.str _)⟩)
/-- [x for x in a text if ..] -/
theorem ev_lcStr {p : Nat → Bool} (hmu : S.Mu) (h : Ev K S S ρ tl (Eq (.str a))) (hj : j ∈ vs) (hjl : j < ρ.length) (hz : (sg a).length ≤ 100000) (ht : ∀ c ∈ sg a, EvT K S S ((wipeD ρ vs).set j (some (.str (oneS c)))) tt (Eq (p c))) :
    Ev K S S ρ (tLc (iStr tl) (gName j) tt (tVar j) vs) (Eq (.lst (((sg a).filter p).map fun c => .str (oneS c)))) := fun σ H i s Q q =>
  h σ H i s _ fun v d H1 g1 i1 r1 p1 => by
    subst p1
    obtain rfl := r1.strI
    refine ⟨a, rfl, fun D hD => lc_it (walk_str (z := a)) (fun n H' => Gr H1 H' ∧ S.I H' ∧ ∃ acc, H' D = some (.lst acc) ∧ RepA K H' acc ((((sg a).take n).filter p).map fun c => .str (oneS c))) ⟨(same_new hD).gr, S.st i1 (same_new hD), [], upd_same, .nil⟩
      (fun n H' _ q' => trivial) (fun n x H' H2 hn q' y => ?_) fun H' q' => ?_⟩
    · obtain ⟨rfl, c, hc, rfl⟩ := y
      obtain ⟨g2, i2, acc, ha, rac⟩ := q'
      have hc' : (sg a)[n]? = some c := by rw [← hc]; simp
      have hmem : c ∈ sg a := List.mem_of_getElem? hc'
      have htake : (sg a).take (n + 1) = (sg a).take n ++ [c] := by rw [List.take_add_one, hc']; rfl
      have hnol : nolA ((((sg a).take n).filter p).map fun c => Dt.str (oneS c)) = true := nolA_all.mpr fun y hy => by
        obtain ⟨z, _, rfl⟩ := List.mem_map.mp hy
        rfl
      refine lc_turns (g := σ) (Z := fun _ _ => True) (i := n) (acc := acc) (ds := (((sg a).take n).filter p).map fun c => .str (oneS c)) (dx := .str (oneS c)) (p := p c) (Φ := Eq (.str (oneS c))) (S := S) (S1 := S) (fun g e i => hmu i1 g hD e i) (Sta.Le.refl S) hD hj (s.mono g1) g2 i2 ha rac hnol (.str _) ?_ (ht c hmem) (fun e => (ev_var (d := .str (oneS c)) (List.getElem?_set_self (by rw [wipeD_lenT]; exact hjl))).weak fun d e2 => ⟨e2, e2 ▸ rfl⟩) (fun e H2 acc' d e1 _ g3 i3 h3 r3 => ?_) fun e H2 g3 i3 h3 r3 => ?_
      · rw [List.length_map]
        refine Nat.lt_of_le_of_lt (List.length_filter_le _ _) ?_
        refine Nat.lt_of_le_of_lt (List.length_take_le _ _) (Nat.lt_of_lt_of_le hn ?_)
        have : a.cps.size = (sg a).length := by simp
        rw [this]
        exact Nat.le_trans hz (by decide)
      · subst e1
        refine ⟨g3, i3, acc', h3, ?_⟩
        rw [htake, List.filter_append, List.map_append]
        simpa [List.filter_cons, e] using r3
      · refine ⟨g3, i3, acc, h3, ?_⟩
        rw [htake, List.filter_append, List.map_append]
        simpa [List.filter_cons, e] using r3
    · obtain ⟨g2, i2, acc, ha, rac⟩ := q'
      rw [List.take_of_length_le (by simp)] at rac
      exact q _ _ H' (g1.trans g2) i2 (.lst (SqL.of ha) rac) rfl
where
  wipeD_lenT : ∀ {vs : List Nat} {ρ : List (Option Dt)}, (wipeD ρ vs).length = ρ.length := fun {vs} => by
    induction vs with
    | nil => intro ρ; rfl
    | cons v vs ih =>
      intro ρ
      show ((wipeD ρ vs).set v none).length = _
      rw [List.length_set, ih]
end
end Bf
namespace Bf
open PySem PySem.Spec PyProof.Rows L2
/-! ## Reading a table's words: by their shape, and as the law reads them -/
abbrev sl : Str := "/"
abbrev Fnd := List (List Int)
end Bf
namespace Bf
open PySem PySem.Spec PyProof.Rows L2
/-! ## Frames and places -/
structure Site where
  k : Int
  rest : List Int
  o : Str
def Site.d (s : Site) : Dt := .tup [.int s.k, tI s.rest, .str s.o]
def fhS (bit : Int) : Str := if bit = 1 then "pulse" else "gap"
def ohS (h : Str) : Str := if h = "pulse" then "gap" else "pulse"
def Tab.beg : Tab → Site
  | .ha u _ => ⟨0, [u], "gap"⟩
  | .pa h .. => ⟨0, h, ""⟩
/-- what a bit of halves leaves: the durations, the half under way -/
def haP (u bit : Int) (o : Str) : List Int × Str := if fhS bit = o then ([2 * u], ohS o) else ([u, u], o)
def haS (u bit : Int) (o : Str) (last : Bool) : List Int × Str := if last && decide ((haP u bit o).2 = "pulse") then ((haP u bit o).1 ++ [u], "gap") else haP u bit o
def Tab.sett : Tab → Site → Int → Site
  | .ha u b, s, bit => ⟨s.k + 1, (haS u bit s.o (decide (s.k + 1 = b))).1, (haS u bit s.o (decide (s.k + 1 = b))).2⟩
  | .pa _ z1 z2 o1 o2 st b, s, bit => ⟨s.k + 1, (if bit = 1 then [o1, o2] else [z1, z2]) ++ (if decide (s.k + 1 = b) = true then [st] else []), ""⟩
/-- what a step tells -/
def stD (x : Dt) (s : Site) : Dt := .tup [x, .int (s.rest.headD 0), (Site.mk s.k s.rest.tail s.o).d]
def Tab.steps (T : Tab) (s : Site) : List Dt :=
  if decide (s.k = T.b) && decide (s.rest = []) then [] else if s.rest ≠ [] then [stD .non s] else [stD (.int 0) (T.sett s 0), stD (.int 1) (T.sett s 1)]
/-- the durations from a place on, with these bits to come -/
def Tab.ahead (T : Tab) : Site → List Int → List Int
  | s, [] => s.rest
  | s, bit :: ws => s.rest ++ T.ahead ⟨(T.sett s bit).k, (T.sett s bit).rest, (T.sett s bit).o⟩ ws
/-- the frame -/
def Tab.frame (T : Tab) (w : List Int) : List Int := T.ahead T.beg w
/-! ### pairs -/
/-! ### halves -/
/-- durations of halves: one under way since cur -/
def runs (u : Int) : Str → Int → List Str → List Int
  | _, cur, [] => [cur]
  | prev, cur, l :: ls => if l = prev then runs u l (cur + u) ls else cur :: runs u l u ls
def hvs (w : List Int) : List Str := w.flatMap fun bit => [fhS bit, ohS (fhS bit)]
end Bf
namespace Bf
open PySem PySem.Spec PyProof.Rows L2
/-! ## frames.py over data -/
section
variable {K : PySem.W.Frag} {S : Sta} {ds : List Dt} {d : Dt}
section
variable {S1 : Sta} {ρ : List (Option Dt)} {ta tb tc td : TE}
end
/-! ### the frame of pairs -/
end
end Bf
namespace Bf
open PySem PySem.Spec PyProof.Rows L2
/-! ## _law_begin, _law_words -/
/-- .. with tables of code objects -/
def spBT (K : PySem.W.Frag) : Sp := fun vs H Q _ => ∃ s ns T, vs = [.ref s] ∧ SqL K H s (ns.map V.int) ∧ ns.length ≤ 63 ∧ LamX.Tabs T H ∧ ∀ (p : Addr) (c : Addr) H', Gr H H' → (DS K p ⟨c, T⟩ (ns ++ [0]) 0 0 0).I H' → Q (.ref p) H'
abbrev t__law_begin (K : PySem.W.Frag) : TS := (tRet (tDisp [((tC (.str "cells")), (tOp (rCatS K) (tVar 0) (tLst (tCons (tC (.int 0)) tNil)))), ((tC (.str "at")), (tC (.int 0))), ((tC (.str "left")), (tC (.int 0))), ((tC (.str "used")), (tC (.int 0)))]))
theorem rd__law_beginT {K : PySem.W.Frag} {D : Ends} {σ : L2.St} {H : Hp} {s : Addr} {ns : List Int} (hs : σ[0]? = some (some (.ref s))) (h : SqL K H s (ns.map V.int)) (hl : ns.length ≤ 63)
    {T : List (Addr × Str)} (hT : LamX.Tabs T H) (q : ∀ (p c : Addr) H', Gr H H' → (DS K p ⟨c, T⟩ (ns ++ [0]) 0 0 0).I H' → D.rt (.ref p) H') : t__law_begin K D σ H := by
  intro p hp
  have s1 := same_new (o := .dK []) hp
  refine ⟨.ref s, hs, (by show 1 ≤ sizeLine; decide), fun t ht => ?_⟩
  have s2 := same_new (o := .lst [.int 0]) ht
  refine ⟨s, t, ns.map V.int, [.int 0], rfl, rfl, s2.seq (s1.seq h), SqL.of upd_same, (by rw [List.length_map]; exact Nat.le_trans (show ns.length + 1 ≤ 64 by omega) (by decide)), fun c hc => ?_⟩
  have s3 := same_new (o := .lst (ns.map V.int ++ [.int 0])) hc
  have hp3 := s3 _ _ (s2 _ _ (upd_same (H := H) (a := p) (o := .dK [])))
  refine ⟨hp3, [((.inr "cells" : Key), V.ref c), (.inr "at", .int 0), (.inr "left", .int 0), (.inr "used", .int 0)], rfl, (by show 4 ≤ 15; decide), ?_⟩
  rw [dr_merge]
  have hcp : c ≠ p := fun e => by
    rw [e] at hc
    rw [s2 _ _ (upd_same (H := H) (a := p) (o := .dK []))] at hc
    cases hc
  have hk : ∀ b o, H b = some o → upd (upd (upd (upd H p (.dK [])) t (.lst [.int 0])) c (.lst (ns.map V.int ++ [.int 0]))) p (.dK (drK c 0 0 0)) b = some o := fun b o e => by
    rw [upd_ne (ne_of_none e hp)]
    exact s3 _ _ (s2 _ _ (s1 _ _ e))
  exact q p c _ (fun b o e d => hk b o e) ⟨upd_same, SqL.of (by
    rw [upd_ne hcp, upd_same, List.map_append]
    rfl), hT.ext hk⟩
section
variable {K : PySem.W.Frag} {S : Sta} {ds : List Dt}
end
/-! ### all words of up to eight bits may be compared and shown -/
theorem cmp_refl {d : Dt} (h : cmpOk d = true) : PyData.eqv (py d) (py d) = true := by
  simp only [cmpOk, Bool.and_eq_true] at h
  exact SeqAt.eqv_refl _ (SeqAt.canLay_of_shaped h.2)
/-! ### the word in the middle of which something else is put -/
end Bf
namespace Bf
open PySem PySem.Spec PyProof.Rows L2
/-! ## The parts of a frame: what each bit adds -/
def Tab.oOk : Tab → Str → Prop
  | .ha _ _, o => o = "pulse" ∨ o = "gap"
  | .pa .., o => o = ""
def Tab.part : Tab → Str → Int → Bool → List Int
  | .ha u _, o, bit, l => (haS u bit o l).1
  | .pa _ z1 z2 o1 o2 st _, _, bit, l => (if bit = 1 then [o1, o2] else [z1, z2]) ++ (if l = true then [st] else [])
theorem sett_rest (T : Tab) (s : Site) (bit : Int) : (T.sett s bit).rest = T.part s.o bit (decide (s.k + 1 = T.b)) := by cases T <;> rfl
theorem part_len {T : Tab} {o : Str} {bit : Int} {l : Bool} : 1 ≤ (T.part o bit l).length ∧ (T.part o bit l).length ≤ 3 := by
  cases T with
  | ha u b =>
    simp only [Tab.part, haS, haP]
    repeat' split
    all_goals exact ⟨by simp, by simp⟩
  | pa h z1 z2 o1 o2 st b =>
    simp only [Tab.part]
    repeat' split
    all_goals exact ⟨by simp, by simp⟩
section
variable {K : PySem.W.Frag} {S : Sta} {ds : List Dt} {d : Dt}
section
variable {S1 : Sta} {ρ : List (Option Dt)} {ta tb tc td : TE} {T : Tab} {o : Str} {bit : Int} {l : Bool}
end
section
variable {S1 : Sta} {ρ : List (Option Dt)} {ta tb tc td : TE} {T : Tab} {o : Str} {bit : Int} {l : Bool}
end
/-! ### enumerate of a tuple while lists change -/
section
variable {SB : Sta} {L : List Addr} {ρ : List (Option Dt)} {P : Po} {tl : TE} {t : TS}
end
end
end Bf
namespace Bf
open PySem PySem.Spec PySem.W PySem.Calls PyProof.Rows PySem.HandSPX Builtin Builtin.ObjectAttr
/-! ## Own errors over any base, made by place or by keyword -/
/-- a built-in base of own errors -/
structure BaseOf (B newId initId : String) (bmB : List Value) (rf : List Value → Bool) : Prop where
  F : ExcBaseFacts B newId initId bmB
  X : KxsFacts B initId
  con : ∀ (Y : String) (l : List Value), rf l = true → l.contains (.type Y) = bmB.contains (.type Y)
  ne : ∀ l : List Value, rf l = true → l.isEmpty = false
  pass : ∀ (me : Value) (l : List Value), rf l = true → refuseLoop me "__setattr__" l = pure ()
  ref : ∀ (c : Addr) (l : List Value), rf (.ref c :: l) = rf l
  obj : bmB.contains (.type "object") = true
structure ErrTxt (B newId initId : String) (rf : List Value → Bool) (prog : Program) (K : Frag) (f : Str) (C fI : Addr) : Prop where
  cls : ∃ nm q N bs bm sn sub ab col dd k0 k1 k2 k3 k5, K.lookup C = some (excClassObj nm q C N bs bm true sn sub ab col dd k0 k1 k2 k3 k5 newId) ∧ rf bm = true
  sa : findIn K (.ref C) "__setattr__" = some (some (.builtin "object.__setattr__"))
  noN : findIn K (.ref C) f = some none
  iC : findIn K (.ref C) "__init__" = some (some (.ref fI))
  tC : typeIn K (.ref fI) = some (.type "function")
  sup : ks_superIn K C C "__init__" = some (some (.builtin initId))
  sub : subIn K (.ref C) (.type B) = some true
  self : mroIn K C (.ref C) = some true
  st : nsIn K cStatics "thirdparty.any" = some none
  fn : ∃ (oc ccl cl : Value) (od cdd cld : Option Addr) (doc pm ct : Value) (an : Option Addr) (osl ccs csl : Array (Option Value)) (qual t : Str) (p1 p2 : Pos) (q : Nat → Pos) (cc cda : Addr) (vs : Array Value) (file : Str) (tf : Tok),
    K.lookup fI = some ⟨oc, od, .func (fnX "__init__" qual (xA f p1 p2) (xB f t q) (xS f) [("__class__", cc)] .none .none doc pm an (.ref cda) ct), osl⟩ ∧ codeIn K (.ref cda) qual = true ∧ K.lookup cc = some ⟨cl, cld, .cell (some (.ref C)), csl⟩ ∧
    K.lookup cda = some ⟨ccl, cdd, .fields vs, ccs⟩ ∧ vs[2]? = some (.str file tf) ∧ ((prog.main.file : Str) == file) = true ∧ xCall t q ∧
    ∀ (s : Shared) (a b : Value), (BindsTo s (fnX "__init__" qual (xA f p1 p2) (xB f t q) (xS f) [("__class__", cc)] .none .none doc pm an (.ref cda) ct) ⟨[a, b], []⟩ [(("self" : Str), a), (f, b)] ∧ BindsTo s (fnX "__init__" qual (xA f p1 p2) (xB f t q) (xS f) [("__class__", cc)] .none .none doc pm an (.ref cda) ct) ⟨[a], [(f, b)]⟩ [(("self" : Str), a), (f, b)])
section
variable {B newId initId : String} {bmB : List Value} {rf : List Value → Bool} {prog : Program} {w : World} {A : Around} {R : Result → Shared → Prop} {h0 : Heap} {gn : Array GenState} {dw : Drawn} {tk0 : Nat} {o0 : OsState}
end
section
variable {B newId initId : String} {bmB : List Value} {rf : List Value → Bool} {prog : Program} {w : World} {A : Around} {E : Value → Shared → Prop} {R : Result → Shared → Prop} {s : Shared} {K : Frag} {mg mb : Str → Option Value} {C fI : Addr} {f : Str}
end
section
variable {M : Model} {A : Around} {E : Value → Shared → Prop} {h : Heap} {gn : Array GenState} {dw : Drawn} {tk0 : Nat} {o0 : OsState} {nm qn : Str} {C N : Addr} {bs bm bmB : List Value} {hd : Bool} {sn : List Str} {sb : List Value} {ab : Bool} {col : Option Bool} {dd : Option Addr} {k0 k1 k2 k3 k5 : Option Value} {B newId initId : String} {ps : List Value} {kws : List (Str × Value)}
end
section
variable {prog : Program} {w : World} {A : Around} {E : Value → Shared → Prop} {R : Result → Shared → Prop} {h : Heap} {gn : Array GenState} {dw : Drawn} {tk0 : Nat} {o0 : OsState} {nm qn : Str} {C N fI : Addr} {bs bm bmB : List Value} {hd : Bool} {sn : List Str} {sb : List Value} {ab : Bool} {col : Option Bool} {dd : Option Addr} {k0 k1 k2 k3 k5 : Option Value} {B newId initId : String} {ps : List Value} {kws : List (Str × Value)}
end
section
variable {B newId initId : String} {bmB : List Value} {rf : List Value → Bool} {prog : Program} {w : World} {A : Around} {R : Result → Shared → Prop} {s : Shared} {K : Frag} {mg mb : Str → Option Value} {C fI : Addr} {f : Str}
end
end Bf
namespace Bf
open PySem PySem.Spec PyProof.Rows L2
/-! ## try .. except C as n, and except (C, D, ..) as n: the error that was caught is kept as a value -/
theorem errO_ok {P : Program} {w : World} {H : Hp} {h : Heap} {a : Addr} {cls : Value} {d : Option Addr} {oe : Obj} (e : h.get? a = some oe) (z : Zc cls d oe) (hv : ∃ vs, oe.data = .fields vs) : ObjOk P w H h a (ErrO cls d a) :=
  ⟨⟨oe, e, z, hv⟩, ⟨oe, e⟩, fun _ _ ⟨o, x1, x2, x3⟩ k => ⟨o, k o x1, x2, x3⟩⟩
section
variable {X : Cx} {pins pn' : List (Addr × Obj)} {σ : L2.St} {H : Hp} {s : Shared}
/-- the suite's error is tracked from now on -/
theorem inv_unsuiteK {a : Addr} {oe : Obj} {cls : Value} {d : Option Addr} (I : Inv (X.suite a ((a, oe) :: (X.pn ++ pins))) pn' σ H s) (ok : X.Ok) (z : Zc cls d oe) (hv : ∃ vs, oe.data = .fields vs) (n0 : X.s_0.heap.get? a = none) (np : ∀ p ∈ X.pn ++ pins, p.1 ≠ a) :
    Inv X pins σ (upd H a (ErrO cls d a)) s := by
  obtain ⟨ha, na, nL, nF, nC⟩ := I.pin (a, oe) (List.mem_append_left _ List.mem_cons_self)
  have ne0 : ∀ b o, X.s_0.heap.get? b = some o → b ≠ a := fun b o e q => by rw [q, n0] at e; cases e
  have nn : ∀ {b : Addr} {o : HO}, H b = some o → b ≠ a := fun e => ne_of_none e na
  refine ⟨ok, I.os, I.bare, ⟨I.base.keep, I.base.slot, fun b o e n q => ?_, I.base.there, fun b xs e => ?_, fun b o u e => ?_, fun b ps e => ?_⟩, I.loc, I.cell, ?_, fun x c e => ?_, fun p hp => ?_, fun b u e => ?_, I.len⟩
  · rw [upd_ne (ne0 b o e)]
    exact I.base.free b o e n q
  · have q := I.base.tups b xs e
    rw [upd_ne (nn q)]
    exact q
  · have q := I.base.frzs b o u e
    rw [upd_ne (nn q)]
    exact q
  · obtain ⟨m, q⟩ := I.base.tbls b ps e
    exact ⟨m, by rw [upd_ne (nn q)]; exact q⟩
  · rw [upd_ne (Ne.symm nL)]
    exact I.free
  · have hca : c ≠ a := fun q => by
      obtain ⟨v, o, ho, hd⟩ := I.cell x c e
      rw [q, ha] at ho
      cases ho
      exact nC v hd
    rw [upd_ne hca]
    exact I.freeC x c e
  · obtain ⟨e1, e2, e3⟩ := I.pin p (List.mem_append_left _ (List.mem_cons_of_mem _ hp))
    exact ⟨e1, by rw [upd_ne (np p hp)]; exact e2, e3⟩
  · by_cases hb : b = a
    · subst hb
      rw [upd_same] at e
      cases e
      exact errO_ok ha z hv
    · rw [upd_ne hb] at e
      exact (I.hok b u e).stay (fun _ _ _ q => q) (fun c q => by rw [upd_ne (nn q)]; exact q) fun c xs q => by rw [upd_ne (nn q)]; exact q
end
/-! ### what the clause names -/
section
variable {M : Model} {K : PySem.W.Frag}
end
/-- the clause's expression names what m knows -/
def CatchT (X : Cx) (t : Expr) (m : Value → Option Bool) : Prop := ∀ (a : Addr) (oe : Obj) (pn : List (Addr × Obj)) (σ : L2.St) (H : Hp) (s : Shared) (cls : Value) (d : Option Addr) (b : Bool) (Q : Bool → Shared → Prop) (E : Value → Shared → Prop),
  Inv (X.suite a ((a, oe) :: pn)) [] σ H s → Zc cls d oe → m cls = some b → (∀ h', (∀ q o, s.heap.get? q = some o → h'.get? q = some o) → Q b { s with heap := h' }) →
  wpAny (model X.prog X.w) (X.A.mark (some (.ref a))) (eval t X.env) (fun c s1 => wpAny (model X.prog X.w) (X.A.mark (some (.ref a))) (excMatches (.ref a) c) Q E s1) E s
section
variable {X : Cx}
theorem lk_cls {a : Addr} {oe : Obj} {pn : List (Addr × Obj)} {σ : L2.St} {H : Hp} {s : Shared} {cls : Value} {d : Option Addr} (I : Inv (X.suite a ((a, oe) :: pn)) [] σ H s) (z : Zc cls d oe) : PySem.W.Looks (model X.prog X.w) s.heap (typeOf (.ref a)) cls :=
  fun A Q E s' k q => wpAny_typeOf_ref (k _ _ (I.pin (a, oe) (List.mem_append_left _ List.mem_cons_self)).1) (by rw [z.1]; exact q)
theorem catch_one {x : Str} {c : Value} {np : Pos} (hg : Gl X x) (hm : X.mg x = some c) (hd : (x == ("__debug__" : Str)) = false) : CatchT X (.Name x np) fun cls => PySem.W.exmOne X.K cls c := by
  intro a oe pn σ H s cls d b Q E I z hb q
  exact ld_glob (X := X.suite a ((a, oe) :: pn)) I hg hm ((PySem.W.exm_one I.kIn (lk_cls I z) hb).here (q s.heap fun _ _ e => e)) hd
end
/-! ### the rule -/
def endsK (D : Ends) (i : Nat) (a : Addr) (cls : Value) (d : Option Addr) : Ends :=
  { nx := fun σ' H' => H' a = none → D.nx (σ'.set i none) (upd H' a (ErrO cls d a)), rt := D.rt, bk := fun σ' H' => D.bk (σ'.set i none) H', ct := fun σ' H' => D.ct (σ'.set i none) H' }
/-- what «except t as n» wishes of an error of the body; the error is kept behind it -/
def wKp (m : Value → Option Bool) (i : Nat) (ts : Addr → Value → Option Addr → TS) (Wout : WX) (D : Ends) : WX := fun cls d σ H =>
  ∃ b, m cls = some b ∧ (b = true → ∀ a, H a = none → ts a cls d (endsK D i a cls d) (σ.set i (some (.ref a))) H) ∧ (b = false → Wout cls d σ H)
theorem fly_keeps {B : Heap} {l : List Env} {e : Addr} {Z : Obj → Prop} {h h' : Heap} (R : HandSPX.FlyingZ B l e Z h) (k : ∀ b o, h.get? b = some o → h'.get? b = some o) : HandSPX.FlyingZ B l e Z h' := by
  obtain ⟨x1, x2, x3, oe, us, T, oT, tt, y1, y2, y3, y4, y5, y6, y7, y8⟩ := R
  exact ⟨fun b o q => k b o (x1 b o q), x2, x3.of_keeps fun b o q _ => ⟨o, k b o q, rfl⟩, oe, us, T, oT, tt, k _ _ y1, y2, y3, y4, y5, y6, k _ _ y7, y8⟩
section
variable {X : Cx} {n : Str} {t : Expr} {m : Value → Option Bool} {i : Nat} {body suite : List Stmt} {b₀ : Stmt} {pos pos' : Pos} {tb : WX → TS} {ts : Addr → Value → Option Addr → TS} {Wout : WX}
theorem ps_try_kp (hs : X.stack = X.env :: X.outer) (hf : X.env.frame = some X.env.locals) (hex : X.ex = []) (hN : X.N.Nodup) (hi : X.N[i]? = some n) (hln : X.env.kindOf n = some .local) (hc : CatchT X t m) (tk : Takes X Wout)
    (hb : ∀ (W : WX) (pn : List (Addr × Obj)) (xe : Value → Shared → Prop), Takes (X.tr pn xe) W → PassesOwn (model X.prog X.w) X.A X.env xe → PSs (X.tr pn xe) body (tb W))
    (hsu : ∀ (a : Addr) (oe : Obj) (cls : Value) (d : Option Addr) (pn : List (Addr × Obj)), Zc cls d oe → (∃ vs, oe.data = .fields vs) → PSs (X.suite a ((a, oe) :: pn)) (b₀ :: suite) (ts a cls d)) :
    PS X (.Try body [.ExceptHandler (some t) (some n) (b₀ :: suite) pos'] [] [] pos) (fun D σ H => tb (wKp m i ts Wout D) D σ H) := by
  refine ⟨fun pins s σ H D I h => ?_⟩
  have kk := I.ok
  have frm : X.A.frames = some (X.env :: X.outer) := by rw [kk.frames, hs]
  have lcl : Loc X.env.scope n := .inl hln
  have run := (hb (wKp m i ts Wout D) (X.pn ++ pins) (fun e u => wpAny (model X.prog X.w) X.A (noteFrame e X.env) (fun _ u => wpAny (model X.prog X.w) X.A (setFlight e none) (fun _ u =>
    wpAny (model X.prog X.w) X.A (handleBy e X.env [.ExceptHandler (some t) (some n) (b₀ :: suite) pos']) (SP X pins D) X.xe u) X.xe u) X.xe u) (fun u s' xx => ?_) PassesOwn.looking).run [] s σ H D (I.toTry _) h
  · refine wpAny_Try_except (wpAny_mono run (fun fl s1 q => ?_) fun _ _ q => q)
    cases fl with
    | next => obtain ⟨σ', H', J, q⟩ := q; exact wpAny_execs_nil ⟨_, _, J.ofTry kk, q⟩
    | ret u => obtain ⟨v, σ', H', J, r, q⟩ := q; exact ⟨_, _, _, J.ofTry kk, r, q⟩
    | brk => obtain ⟨σ', H', J, q⟩ := q; exact ⟨_, _, J.ofTry kk, q⟩
    | cont => obtain ⟨σ', H', J, q⟩ := q; exact ⟨_, _, J.ofTry kk, q⟩
  · obtain ⟨a, B, sI, pns, σ', H', cls, d, rfl, J0, nb, up, sky, na, os, ag, b, hmt, yes, no⟩ := xx
    have J : Inv X pins σ' H' sI := J0.ofTry kk
    have sky1 : Sky B (X.env :: X.outer) a (Zc cls d) X.env.locals s'.heap := hs ▸ sky
    show wpAny (model X.prog X.w) X.A (noteFrame (.ref a) X.env) _ _ _
    refine Sky.land Zc.steady frm hf sky1 fun g fly upg => ?_
    have Jg : Inv X pins σ' H' { s' with heap := g } := J.landed nb fly.1 (up.trans upg) os ag
    obtain ⟨og, vg, hog, zog, dog⟩ := fly.there
    have nfr : a ∉ frs (X.env :: X.outer) := fun hm => by
      obtain ⟨_, o2, e2, hnf⟩ := fly.2.2.1.mem hm
      rw [hog] at e2
      cases e2
      exact hnf _ dog
    have nL : a ≠ X.env.locals := fun q => nfr (List.mem_filterMap.mpr ⟨_, List.mem_cons_self, by rw [hf, q]⟩)
    have nF : a ∉ X.fs := fun q => by
      obtain ⟨v, hv, e⟩ := List.mem_filterMap.mp q
      exact nfr (List.mem_filterMap.mpr ⟨v, List.mem_cons_of_mem _ hv, e⟩)
    have notB : ∀ o, sI.heap.get? a ≠ some o := fun o q => by
      have := nb a o q (by rw [hs]; exact nfr)
      rw [fly.2.1] at this
      cases this
    have n0 : X.s_0.heap.get? a = none := by
      cases e : X.s_0.heap.get? a with
      | none => rfl
      | some o =>
        obtain ⟨o2, q⟩ := J.base.there a o e (by rw [hex]; exact fun z => nomatch z)
        exact absurd q (notB o2)
    have np : ∀ p ∈ X.pn ++ pins, p.1 ≠ a := fun p hp q => notB p.2 (q ▸ (J.pin p hp).1)
    have Sg := Jg.suite hog dog na nL nF
    refine wpAny_handleBy_cons (codeAny_handlers_test ?_) (by intro q; cases q)
    refine hc a og (X.pn ++ pins) _ _ _ cls d b _ _ Sg zog hmt fun g2 kp => ?_
    have fly2 := fly_keeps fly kp
    have upk : g.UpToSlots g2 := Heap.UpToSlots.of_keeps kp
    cases b with
    | false =>
      show wpAny _ X.A (handleBy (.ref a) X.env []) _ _ _
      refine wpAny_handleBy_nil ?_
      obtain ⟨_, _, _, o5, v5, T, oT, t5, w1, _, w2, w3, _⟩ := id fly2
      unfold PySem.passOn
      refine wpAny_bind (wpAny_field w1 w2 w3 ?_)
      rw [if_neg (show ¬ ((Value.ref T == Value.none) = true) from by simp)]
      have out : wpAny (model X.prog X.w) X.A (setFlight (.ref a) X.env.frame) (fun _ u => wpAny (model X.prog X.w) X.A (throw (.ref a) : Sem Flow) (SP X pins D) X.xe u) X.xe { s' with heap := g2 } := by
        rw [hf]
        refine HandSPX.setFlight_upZ fly2 fun g4 held up4 => wpAny_throw (tk _ _ ⟨a, B, sI, pins, σ', H', cls, d, rfl, J, nb, ((up.trans upg).trans upk).trans up4, .inr (.inr (hs ▸ held)), na, os, ag, no rfl⟩)
      first
        | exact wpAny_bind (wpAny_pure (wpAny_bind out))
        | exact wpAny_bind out
    | true =>
      refine codeAny_handlers_suite_as (HandSPX.lands_againZ fly2 fun g4 fly4 up4 => ?_)
      have J4 : Inv X pins σ' H' { s' with heap := g4 } := J.landed nb fly4.1 (((up.trans upg).trans upk).trans up4) os ag
      obtain ⟨o4, v4, ho4, zo4, do4⟩ := fly4.there
      have S4 := J4.suite ho4 do4 na nL nF
      refine store_ok (X := X.suite a ((a, o4) :: (X.pn ++ pins))) (v := .ref a) S4 hN hi lcl rfl (fun s5 S5 => ?_) (.inr hln)
      refine wpAny_mono ((hsu a o4 cls d (X.pn ++ pins) zo4 ⟨_, do4⟩).run [] s5 _ H' _ S5 (yes rfl a na)) (fun fl s6 q => ?_) (fun _ _ q => q.elim)
      have fin : ∀ {σ6 : L2.St} {H6 : Hp} {R : Shared → Prop}, Inv (X.suite a ((a, o4) :: (X.pn ++ pins))) [] σ6 H6 s6 → (∀ s7, Inv X pins (σ6.set i none) H6 s7 → R s7) →
          wpAny (model X.prog X.w) X.A (do bindName X.env n .none; unbindBehindTheSuite X.env n pos') (fun _ s7 => R s7) X.xe s6 := fun S6 q => gone_ok (S6.unsuite kk) hN hi hln q
      cases fl with
      | next =>
        obtain ⟨σ6, H6, S6, q⟩ := q
        have S7 := inv_unsuiteK S6 kk zo4 ⟨_, do4⟩ n0 np
        exact gone_ok S7 hN hi hln fun s7 J7 => ⟨_, _, J7, q (S6.pin (a, o4) (List.mem_append_left _ List.mem_cons_self)).2.1⟩
      | brk => obtain ⟨σ6, H6, S6, q⟩ := q; exact fin S6 fun s7 J7 => ⟨_, _, J7, q⟩
      | cont => obtain ⟨σ6, H6, S6, q⟩ := q; exact fin S6 fun s7 J7 => ⟨_, _, J7, q⟩
      | ret u => obtain ⟨v, σ6, H6, S6, r, q⟩ := q; exact fin S6 fun s7 J7 => ⟨_, _, _, J7, r, q⟩
end
/-! ### what is read of it -/
structure KeepC (K : PySem.W.Frag) (f : Str) (C : Addr) : Prop where
  ga : PySem.W.findIn K (.ref C) "__getattribute__" = some (some (.builtin "BaseException.__getattribute__"))
  gg : PySem.W.findIn K (.ref C) "__getattr__" = some none
  ex : PySem.W.subIn K (.ref C) (.type "BaseException") = some true
  hd : PySem.W.hasDictIn K C = true
  no : PySem.W.findIn K (.ref C) f = some none
theorem BadCls.keepC {prog : Program} {K : PySem.W.Frag} {mg : Str → Option Value} {x f : Str} {C fI : Addr} (T : BadCls prog K mg x f C fI) : KeepC K f C := ⟨T.ga, T.gg, T.exC, T.hdC, T.T.noN⟩
/-- y.f, y an error that was kept -/
def tKFld (Cs : List Addr) (f : Str) (te : TE) : TE := fun σ H Q => te σ H fun y H1 => ∃ (a C dd : Addr) (v : V), y = .ref a ∧ C ∈ Cs ∧ H1 a = some (ErrO (.ref C) (some dd) a) ∧ H1 dd = some (.xd [(f, v)]) ∧ Q v H1
theorem pe_kfld {X : Cx} {Cs : List Addr} {f : Str} {e : Expr} {te : TE} {pos : Pos} (T : ∀ C ∈ Cs, KeepC X.K f C) (he : PE X e te) (hb : attributeBase e f X.env (eval e X.env) = eval e X.env := by rfl) : PE X (.Attribute e f pos) (tKFld Cs f te) := by
  refine ⟨fun pins s σ H Q I h => attr_of hb (thn (he.run pins s σ H _ I h) fun u s1 hq => ?_)⟩
  obtain ⟨y, H1, I1, rx, a, C, dd, v, rfl, hC, hA, hD, q⟩ := hq
  obtain rfl : u = Value.ref a := rx
  have T := T C hC
  obtain ⟨⟨oe, ha, hz, vs, hv⟩, _, _⟩ := show ObjOk X.prog X.w H1 s1.heap a (ErrO (.ref C) (some dd) a) from I1.hok a _ hA
  obtain ⟨mA, hns, hr⟩ := show ObjOk X.prog X.w H1 s1.heap dd (.xd [(f, v)]) from I1.hok dd _ hD
  obtain ⟨od, ho, hl⟩ := lookIn_ns hns
  have l : List.lookup f [(f, v)] = some v := by simp [List.lookup]
  obtain ⟨w, hw, rw⟩ := RelO.some_of (v := v) (o := mA f) (l ▸ hr f)
  have J : PySem.W.InstAt s1.heap a oe C (some od) := ⟨ha, hz.1, by unfold PySem.W.notCls; rw [hv] <;> rfl, by rw [hz.2]; exact ho⟩
  exact HandSPX.exc_get I1.kIn J T.ga T.gg T.ex (PySem.W.findObj_own T.hd T.no rfl (by rw [hl, hw])) (handed_of rw) ⟨v, H1, I1.tok _, rw, q⟩
end Bf
namespace Bf
open PySem PySem.Spec PyProof.Rows L2
/-! ## try .. except as e: x = e, over data -/
section
variable {K : PySem.W.Frag} {S S1 SB SF : Sta} {L : List Addr} {ρ : List (Option Dt)} {P : Po} {te : TE} {d : Dt} {f : Str} {C : Addr} {m : Value → Option Bool} {i j : Nat} {tw : WX → TS} {ts : Addr → Value → Option Addr → TS} {Wout : WX}
/-- the body ends by itself -/
theorem so_keepOk (h : ∀ W, Sg K S SB SF L (tw W) ρ P) : Sg K S SB SF L (fun D σ H => tw (wKp m i ts Wout D) D σ H) ρ P := fun D σ B H b hi s ft => h (wKp m i ts Wout D) D σ B H b hi s ft
/-- the body raises, with the slots as they were; the error goes to slot j -/
theorem so_keepEr (hm : m (.ref C) = some true) (hij : i ≠ j) (hil : i < ρ.length)
    (hb : ∀ (W : WX) (D : Ends) (σ : L2.St) (H : Hp), S.I H → Slots K H σ ρ → (∀ a v H', Gr H H' → S1.I H' → H' a = some (.xd [(f, v)]) → Rep K H' v d → W (.ref C) (some a) σ H') → tw W D σ H)
    (l : S1.Le SF) (q : P.nx ((ρ.set j (some (.err C f d))).set i none)) :
    Sg K S SB SF L (fun D σ H => tw (wKp m i (fun a cls d => tAsg (tVar i) (gName j)) Wout D) D σ H) ρ P := fun D σ B H b hi s ft =>
  hb _ D σ H hi s fun a v H' g i' ha rv => ⟨true, hm, fun _ e he => by
    have hl : i < σ.length := by rw [s.len]; exact hil
    refine ⟨.ref e, List.getElem?_set_self hl, fun hn => ?_⟩
    have sm := same_new (o := ErrO (.ref C) (some a) e) hn
    have s1 := ((s.mono g).mono sm.gr).set (v := .ref e) (d := .raw (.ref e)) (.raw _) i
    have s2 := (s1.set (v := .ref e) (d := .err C f d) (.err upd_same (sm _ _ ha) (rv.mono sm.gr)) j).none_ i
    have ee : ((ρ.set i (some (.raw (.ref e)))).set j (some (.err C f d))).set i none = (ρ.set j (some (.err C f d))).set i none := by
      rw [List.set_comm _ _ hij, List.set_set]
    rw [ee] at s2
    exact ft.nx _ _ _ ((b.gr.trans g).trans sm.gr) (l _ (S1.st i' sm)) s2 q, fun z => nomatch z⟩
/-- y.f -/
theorem ev_kfld {Cs : List Addr} (h : Ev K S S1 ρ te (Eq (.err C f d))) (hC : C ∈ Cs) : Ev K S S1 ρ (tKFld Cs f te) (Eq d) := fun σ H i s Q q =>
  h σ H i s _ fun v d' H1 g1 i1 r1 e => by
    subst e
    cases r1 with
    | err h1 h2 r => exact ⟨_, _, _, _, rfl, hC, h1, h2, q _ _ H1 g1 i1 r rfl⟩
end
end Bf
namespace Bf
open PySem PySem.Spec PyProof.Rows L2
/-! ## isinstance of an error that was kept -/
structure IsiC (K : PySem.W.Frag) (C : Addr) : Prop where
  cl : (PySem.W.clsIn K C).isSome = true
  ga : PySem.W.findIn K (.ref C) "__getattribute__" = some (some (.builtin "BaseException.__getattribute__"))
  gg : PySem.W.findIn K (.ref C) "__getattr__" = some none
  ex : PySem.W.subIn K (.ref C) (.type "BaseException") = some true
  ca : PySem.W.findIn K (.ref C) "__class__" = some (some (.builtin "object.__class__"))
  cg : PySem.W.specialIn K (.builtin "object.__class__") "__get__" = some (some (.builtin "getset_descriptor.__get__"))
  ct : PySem.W.takesIn K (.builtin "object.__class__") = some true
  ob : PySem.W.mroIn K C (.type "object") = some true
section
variable {K : PySem.W.Frag} {S S1 : Sta} {ρ : List (Option Dt)} {te : TE} {d : Dt} {C C' : Addr} {f : Str} {b : Bool}
end
end Bf
namespace Bf
open PySem PySem.Spec PyProof.Rows L2
/-! ## A lambda handed to a def that calls it: what it lets out goes by the slots as they stand -/
abbrev lamQ (X : Cx) : Str := X.env.qual ++ "<lambda>"
abbrev lamO (X : Cx) (params : Arguments) (body : Expr) (scope : Scope) (pm : Value) (c' : Addr) (ctv : Value) : Obj := PySem.W.kla_obj "<lambda>" (lamQ X) params body scope (cloFrom X.env.cells scope.names []) pm c' ctv
/-- a call of the lambda at f, its code at c' -/
def tAct (i : Nat) (f c' : Addr) (q : Str) (tl : XK → Hp → VK → Prop) (E : L2.St → XK) : TE := fun σ H Q => σ[i]? = some (some (.ref f)) ∧ H c' = some (LamX.CodeO c' q) ∧ tl (E σ) H Q
section
variable {P : Program} {w : World} {K : PySem.W.Frag} {mg : Str → Option Value} {base : Heap}
/-- a def's body at s -/
abbrev dfCx (P : Program) (w : World) (K : PySem.W.Frag) (mg : Str → Option Value) (base : Heap) (Ng : List Str) (x : Str) (sg : Scope) (g : Addr) (cdg : Value) (A : Around) (out : List Env) (s : Shared) (H : Hp) : Cx :=
  cxOf (L2.CX P w) P w K mg base Ng x sg g cdg A out s H E0
end
section
variable {X : Cx} {pins pn : List (Addr × Obj)} {σ : L2.St} {H : Hp} {s : Shared}
theorem pe_actS {Ng : List Str} {qg : Str} {sg : Scope} {g f c' : Addr} {cdg pm ctv : Value} {params : Arguments} {body : Expr} {scope : Scope} {k i : Nat} {a : Str} {xe : Value → Shared → Prop} {E : L2.St → XK} {tb : XK → TE} {p1 p2 : Pos}
    (I : Inv X pins σ H s) (L : LamX.LamS X.env.scope scope) (of : s.heap.get? f = some (lamO X params body scope pm c' ctv)) (nf : H f = none) (fr : f ∉ frs X.stack)
    (bind : bindArgs (PySem.W.kla_fn "<lambda>" (lamQ X) params body scope (cloFrom X.env.cells scope.names []) pm (.ref c') ctv) ⟨[], []⟩ = pure [])
    (hE : ∀ σ, PassesAt (L2.CX X.prog X.w) ((dfCx X.prog X.w X.K X.mg X.base Ng qg sg g cdg X.A X.stack s H).tr pn xe) σ (E σ)) (hr : Room (k + 1) (X.A.deeper (envOfC qg sg s.heap.objs.size g cdg))) (hgd : X.A.guards = some [])
    (hbody : ∀ (A : Around) (out : List Env) (s : Shared) (H : Hp) (E : XK), Room k (A.deeper (LamX.lamEnv X scope s.heap.objs.size f c')) → A.guards = some [] → PE (LamX.lamCx X A out s H E scope f c') body (tb E))
    (hN : Ng[i]? = some a) (hv : Vis sg a) (hd : (a == ("__debug__" : Str)) = false) (hcd : (a == ("__classdict__" : Str)) = false) :
    PE ((dfCx X.prog X.w X.K X.mg X.base Ng qg sg g cdg X.A X.stack s H).tr pn xe) (.Call (.Name a p1) [] [] p2) (tAct i f c' (lamQ X) (fun E H' Q => tb E σ H' Q) E) := by
  refine ⟨fun pz sz σz Hz Q Iz h => ?_⟩
  obtain ⟨h1, h2, h3⟩ := h
  refine wpAny_Call_Name_kw (thn ((pe_var (pos := p1) (i := i) hN hv hd hcd).run pz sz σz Hz (fun v H1 => v = .ref f ∧ H1 = Hz) Iz ⟨.ref f, h1, rfl, rfl⟩) fun u s1 z => ?_)
  obtain ⟨v, H1, I1, r1, rfl, rfl⟩ := z
  obtain rfl : u = Value.ref f := r1
  have at1 : s1.heap.get? f = some (lamO X params body scope pm c' ctv) := I1.base.keep f _ of nf fr fun z => nomatch (show f ∈ ([] : List Addr) from z)
  have keepU : Un (frs X.stack) [] H H1 s.heap s1.heap := I1.base
  obtain ⟨⟨oc, us, t, c1, c2, c3⟩, _, _⟩ := I1.hok c' _ h2
  let Az : Around := X.A.deeper (envOfC qg sg s.heap.objs.size g cdg)
  let oz : List Env := envOfC qg sg s.heap.objs.size g cdg :: X.stack
  have run : codeAny (model X.prog X.w) Az (.call (.ref f) ⟨[], []⟩) (CR (L2.CX X.prog X.w) oz X.prog X.w H1 s1 Q (E σz)) s1 := by
    refine PySem.W.kla_callFunE hr.depth at1 rfl L.co L.gen rfl ⟨c', oc, us, t, rfl, c1, c2, c3⟩ ?_
    rw [bind]
    refine wpAny_pure (wpAny_newFunctionEnv (fun y hy => (L.own y hy).2) (fun y hy => nomatch hy) (fun h1 hns sb => ⟨I1.nolimit.fresh _ sb, ?_⟩) L.kind)
    have kept : ∀ b o, s1.heap.get? b = some o → h1.get? b = some o := fun b o e => sb.extBut b o (Nat.ne_of_lt (Heap.lt_size e)) (Heap.get?_push_of_some _ e)
    have J : Inv (LamX.lamCx X Az oz s1 H1 (E σz) scope f c') [] σ H1 { s1 with heap := h1, toks := s1.toks + ([] : List (Str × Value)).length } := LamX.lam_start2 I L I1.env0 hr.hd keepU hns kept
    have run2 := (hbody Az oz s1 H1 (E σz) (hr.deeper _) hgd).run [] _ _ H1 Q J h3
    refine PySem.W.kla_codeExpr (wpAny_mono run2 (fun v s' z => ?_) fun e s' z => z)
    obtain ⟨w', H', J', rv, q⟩ := z
    exact ⟨w', H', J'.os, J'.bare, J'.base, J'.hok, rv, q⟩
  refine PySem.W.callWith_F0 ⟨_, _, _, _, at1⟩ (wpAny_call (codeAny_mono run fun r s' hq => ?_))
  match r, hq with
  | .error e, hq => exact hE σz pz H1 s1 e s' I1 hq
  | .ok (.ret u), hq => exact I1.after hq
  | .ok .next, hq => exact hq.elim
  | .ok .brk, hq => exact hq.elim
  | .ok .cont, hq => exact hq.elim
end
/-- a def that calls what it got, a: what it makes (TT) of the call's reading -/
def Gives (P : Program) (w : World) (K : PySem.W.Frag) (mg : Str → Option Value) (base : Heap) (k : Nat) (Ng : List Str) (x a : Str) (sg : Scope) (g : Addr) (cdg : Value) (bg : List Stmt) (TT : (XK → Hp → VK → Prop) → Hp → VK → Prop) : Prop :=
  ∀ (A : Around) (out : List Env) (s : Shared) (H : Hp) (Q : VK) (f c' : Addr) (q : Str) (tl : XK → Hp → VK → Prop), Room k (A.deeper (envOfC x sg s.heap.objs.size g cdg)) → A.guards = some [] →
    (∀ (pn : List (Addr × Obj)) (xe : Value → Shared → Prop) (E : L2.St → XK) (p1 p2 : Pos), (∀ σ, PassesAt (L2.CX P w) ((dfCx P w K mg base Ng x sg g cdg A out s H).tr pn xe) σ (E σ)) → PE ((dfCx P w K mg base Ng x sg g cdg A out s H).tr pn xe) (.Call (.Name a p1) [] [] p2) (tAct 0 f c' q tl E)) →
    H c' = some (LamX.CodeO c' q) → TT tl H Q → ∃ t, PSs (dfCx P w K mg base Ng x sg g cdg A out s H) bg t ∧ t { nx := fun _ H' => Q .non H', rt := Q } (L2.start Ng [.ref f]) H
/-- x(lambda: body) -/
theorem pe_lamS {X : Cx} {T : List (Addr × Str)} {TT : (XK → Hp → VK → Prop) → Hp → VK → Prop} {x a : Str} {g c P : Addr} {k : Nat} {pg : Arguments} {bg : List Stmt} {sg : Scope} {dV kV doc pm cdv ct oc : Value} {an od : Option Addr} {osl : Array (Option Value)} {Ng : List Str}
    {params : Arguments} {body : Expr} {scope : Scope} {t : XK → TE} {p lpos pos : Pos} (hm : X.mg x = some (.ref g)) (hk : PySem.W.keepIn X.K (.ref g) = true)
    (lk : X.K.lookup g = some ⟨oc, od, .func (PySem.W.fnOf x x pg bg sg dV kV doc pm an cdv ct), osl⟩) (hcg : PySem.W.codeIn X.K cdv x = true) (hb : BPos (PySem.W.fnOf x x pg bg sg dV kV doc pm an cdv ct) [a]) (Sg : FnScope Ng [a] sg) (hNg : Ng[0]? = some a) (hva : Vis sg a)
    (hG : Gives X.prog X.w X.K X.mg X.base (k + 1) Ng x a sg g cdv bg TT) (TB : LamX.TabB X.base X.mg c P) (hcode : X.env.code = .ref c) (hmT : (P, lamQ X) ∈ T) (hu : ∀ p ∈ T, p.1 = P → p.2 = lamQ X) (hr : Room (k + 2) X.A) (hgd : X.A.guards = some [])
    (hbind : ∀ (q : Str) (cl : List (Str × Addr)) (pm cv ctv : Value), bindArgs (PySem.W.kla_fn "<lambda>" q params body scope cl pm cv ctv) ⟨[], []⟩ = pure [])
    (hbody : ∀ (f c' : Addr) (A : Around) (out : List Env) (s : Shared) (H : Hp) (E : XK), Room k (A.deeper (LamX.lamEnv X scope s.heap.objs.size f c')) → A.guards = some [] → PE (LamX.lamCx X A out s H E scope f c') body (t E))
    (L : LamX.LamS X.env.scope scope := by exact LamX.lamS_by (by rfl)) (hdef : defaultsOf params X.env = ([], []) := by rfl) (hg : Gl X x := by rfl) (hdb : (x == ("__debug__" : Str)) = false := by decide) (hd : (a == ("__debug__" : Str)) = false := by decide) (hcd : (a == ("__classdict__" : Str)) = false := by decide) :
    PE X (.Call (.Name x p) [.Lambda params body scope lpos] [] pos) (LamX.tLam T TT t) := by
  refine ⟨fun pins s σ H Q I h => wpAny_Call_Name_kw (ld_glob I hg hm ?_ hdb)⟩
  obtain ⟨h0, h⟩ := h
  refine PySem.W.callWith_K (h₀ := X.base) I.ok.mod.kin hk ?_ (by rfl) (by rfl)
  show wpAny _ _ (spliced ((false, eval (.Lambda params body scope lpos) X.env) :: backTo pos (starEach [] X.env))) _ _ s
  refine Calls.spliced_cons (LamX.lam_make2 I TB hcode hmT hu h0 hdef (L.has I.ok) fun f c' pm' ctv H1 s' I1 e1 t1 a1 a2 a3 a4 => Calls.spliced_nil ⟨I1.kIn, ?_⟩)
  have run : codeAny (model X.prog X.w) X.A (.call (.ref g) ⟨[.ref f], []⟩) (CR (L2.CX X.prog X.w) X.stack X.prog X.w H1 s' Q E0) s' := by
    refine LamX.run_ofS (N := Ng) (ps := [a]) (us := [.ref f]) (vs := [.ref f]) lk hcg Sg hr I1.env0 (hb s' [.ref f] rfl) (.cons rfl .nil) rfl fun hr2 => ?_
    exact hG X.A X.stack s' H1 Q f c' (lamQ X) (fun E H' Q' => t E σ H' Q') hr2 hgd (fun pn xe E p1 p2 hE => pe_actS (i := 0) I1 L a1 a2 a3 (hbind _ _ _ _ _) hE hr2 hgd (hbody f c') hNg hva hd hcd) a4 (h H1 e1 t1)
  refine wpAny_call (codeAny_mono run fun r s2 hq => ?_)
  match r, hq with
  | .error e, hq =>
    obtain ⟨_, _, _, _, _, _, _, _, _, _, _, _, z⟩ := hq
    exact z.elim
  | .ok (.ret u), hq => exact I1.after hq
  | .ok .next, hq => exact hq.elim
  | .ok .brk, hq => exact hq.elim
  | .ok .cont, hq => exact hq.elim
theorem pe_lamF {X : Cx} {T : List (Addr × Str)} {TT : (XK → Hp → VK → Prop) → Hp → VK → Prop} {x a : Str} {g c P : Addr} {k : Nat} {st : Stmt} {fd : FuncData} {Ng : List Str} {params : Arguments} {body : Expr} {scope : Scope} {t : XK → TE} {p lpos pos : Pos}
    (Fu : Fun X.K x x st g fd) (hb : BPos fd [a]) (Sg : FnScope Ng [a] (defScope st)) (hNg : Ng[0]? = some a) (hva : Vis (defScope st) a) (hm : X.mg x = some (.ref g))
    (hG : ∀ cdv, Gives X.prog X.w X.K X.mg X.base (k + 1) Ng x a (defScope st) g cdv (defBody st) TT) (TB : LamX.TabB X.base X.mg c P) (hcode : X.env.code = .ref c) (hmT : (P, lamQ X) ∈ T) (hu : ∀ p ∈ T, p.1 = P → p.2 = lamQ X) (hr : Room (k + 2) X.A) (hgd : X.A.guards = some [])
    (hbind : ∀ (q : Str) (cl : List (Str × Addr)) (pm cv ctv : Value), bindArgs (PySem.W.kla_fn "<lambda>" q params body scope cl pm cv ctv) ⟨[], []⟩ = pure [])
    (hbody : ∀ (f c' : Addr) (A : Around) (out : List Env) (s : Shared) (H : Hp) (E : XK), Room k (A.deeper (LamX.lamEnv X scope s.heap.objs.size f c')) → A.guards = some [] → PE (LamX.lamCx X A out s H E scope f c') body (t E))
    (L : LamX.LamS X.env.scope scope := by exact LamX.lamS_by (by rfl)) (hdef : defaultsOf params X.env = ([], []) := by rfl) (hg : Gl X x := by rfl) (hdb : (x == ("__debug__" : Str)) = false := by decide) (hd : (a == ("__debug__" : Str)) = false := by decide) (hcd : (a == ("__classdict__" : Str)) = false := by decide) :
    PE X (.Call (.Name x p) [.Lambda params body scope lpos] [] pos) (LamX.tLam T TT t) := by
  obtain ⟨oc, od, kV, doc, pm, an, cdv, ct, osl, rfl, lk, hcd2⟩ := Fu.ex
  exact pe_lamS hm Fu.kp lk hcd2 hb Sg hNg hva (hG cdv) TB hcode hmT hu hr hgd hbind hbody L hdef hg hdb hd hcd
/-- a def whose code object is told -/
structure FunC (K : PySem.W.Frag) (x qual : Str) (st : Stmt) (f : Addr) (fd : FuncData) (cdv : Value) : Prop where
  ex : ∃ (oc : Value) (od : Option Addr) (kV doc pm : Value) (an : Option Addr) (ct : Value) (osl : Array (Option Value)),
    fd = PySem.W.fnOf x qual (defArgs st) (defBody st) (defScope st) .none kV doc pm an cdv ct ∧ K.lookup f = some ⟨oc, od, .func fd, osl⟩ ∧ PySem.W.codeIn K cdv qual = true
theorem okGC {P : Program} {w : World} {K : PySem.W.Frag} {mg : Str → Option Value} {base : Heap} {x qual : Str} {st : Stmt} {f : Addr} {fd : FuncData} {cdv : Value} {N ps : List Str} {k : Nat} {sp : Sp} (F : FunC K x qual st f fd cdv) (S : FnScope N ps (defScope st)) (len : ∀ vs H Q E, sp vs H Q E → vs.length = ps.length)
    (hb : ∀ (A : Around) (out : List Env) (s : Shared) (H : Hp) (vs : List V) (Q : VK) (E : XK), Room k (A.deeper (envOfC qual (defScope st) s.heap.objs.size f cdv)) → A.guards = some [] → sp vs H Q E →
      ∃ t, PSs (cxOf (L2.CX P w) P w K mg base N qual (defScope st) f cdv A out s H E) (defBody st) t ∧ t { nx := fun _ H' => Q .non H', rt := Q } (start N vs) H) :
    GOk P w K mg base (k + 1) f fd ps sp := by
  obtain ⟨oc, od, kV, doc, pm, an, ct, osl, rfl, lk, hcd⟩ := F.ex
  refine ⟨len, fun A out s H args us vs Q E hr hgd e0 hbi r hsp => ?_⟩
  refine StX.run_bnd lk hcd S hr e0 (G := fun xs H2 => xs = vs ∧ H2 = H) (fun A' Ex Q' h => ?_) fun s2 H2 xs ⟨ex, eH⟩ hr' => ?_
  · exact hbi _ _ _ _ (h s H vs us e0 Un.refl rfl (fun _ _ z => z) r (len _ _ _ _ hsp) ⟨rfl, rfl⟩)
  · subst ex eH
    exact hb A out s2 _ _ Q E hr' hgd hsp
/-! ### over data -/
/-- what a lambda comes to, from H on -/
def LamO (K : PySem.W.Frag) (H : Hp) (tl : XK → Hp → VK → Prop) : Out → Prop
  | .ok d => ∀ (E : XK) (H1 : Hp) (Q : VK), Same H H1 → (∀ v H2, Same H1 H2 → Rep K H2 v d → Q v H2) → tl E H1 Q
  | .er C f d => ∀ (E : XK) (H1 : Hp) (Q : VK), Same H H1 → (∀ a v H2, Same H1 H2 → H2 a = some (.xd [(f, v)]) → Rep K H2 v d → E (.ref C) (some a) H2) → tl E H1 Q
/-- what the def tells of it -/
def TTs (K : PySem.W.Frag) (R : Out → Dt → Prop) : (XK → Hp → VK → Prop) → Hp → VK → Prop := fun tl H Q => ∃ o d, LamO K H tl o ∧ R o d ∧ ∀ v H', Same H H' → Rep K H' v d → Q v H'
/-- a state that the making of lambdas leaves -/
structure TabS (S : Sta) (T : List (Addr × Str)) : Prop where
  has : ∀ H, S.I H → LamX.Tabs T H
  on : ∀ H H1, S.I H → LamX.ExtN H H1 → LamX.Tabs T H1 → S.I H1
theorem extN_gr {H H1 : Hp} (e : LamX.ExtN H H1) : Gr H H1 := fun b o h d => e b o h fun ps z => by
  rw [z] at d
  cases d
theorem dw_tab {K : PySem.W.Frag} {a : Addr} {c : CT} {cs : List Int} {n : Nat} : TabS (DW K a c cs n) c.tb := by
  refine ⟨fun H h => ?_, fun H H1 h e t => ?_⟩
  · obtain ⟨i, l, u, h, _⟩ := h
    exact h.2.2
  · obtain ⟨i, l, u, h, r⟩ := h
    exact ⟨i, l, u, ⟨e _ _ h.1 (fun _ z => nomatch z), (extN_gr e).sqL h.2.1, t⟩, r⟩
section
variable {K : PySem.W.Frag} {S : Sta} {ρ : List (Option Dt)} {T : List (Addr × Str)} {R : Out → Dt → Prop} {t : XK → TE} {d x : Dt} {C : Addr} {f : Str}
/-- S, and all that was at H -/
def staA (S : Sta) (H : Hp) : Sta := ⟨fun H' => S.I H' ∧ Same H H', fun h s => ⟨S.st h.1 s, h.2.trans s⟩⟩
theorem staA_le {H : Hp} : (staA S H).Le S := fun _ h => h.1
theorem ev_lamOk (hT : TabS S T) (h : ∀ (S' : Sta) E, S'.Le S → Ev K S' S' ρ (t E) (Eq d)) (hR : R (.ok d) x) : Ev K S S ρ (LamX.tLam T (TTs K R) t) (Eq x) := fun σ H i s Q q =>
  ⟨hT.has H i, fun H1 e1 t1 => ⟨.ok d, x, fun E H2 Q1 s2 q1 => h (staA S H2) E staA_le σ H2 ⟨S.st (hT.on H H1 i e1 t1) s2, Same.refl H2⟩ ((s.mono (extN_gr e1)).mono s2.gr) Q1 fun v d' H3 g3 i3 r3 e3 => q1 v H3 i3.2 (e3 ▸ r3), hR, fun v H2 s2 r => q v x H2 ((extN_gr e1).trans s2.gr) (S.st (hT.on H H1 i e1 t1) s2) r rfl⟩⟩
theorem ev_lamEr (hT : TabS S T) (h : ∀ (S' : Sta) E, S'.Le S → XW K S' C f d E → EvR K S' ρ (t E)) (hR : R (.er C f d) x) : Ev K S S ρ (LamX.tLam T (TTs K R) t) (Eq x) := fun σ H i s Q q =>
  ⟨hT.has H i, fun H1 e1 t1 => ⟨.er C f d, x, fun E H2 Q1 s2 q1 => h (staA S H2) E staA_le (fun a v H3 i3 ha rv => q1 a v H3 i3.2 ha rv) σ H2 ⟨S.st (hT.on H H1 i e1 t1) s2, Same.refl H2⟩ ((s.mono (extN_gr e1)).mono s2.gr) Q1, hR, fun v H2 s2 r => q v x H2 ((extN_gr e1).trans s2.gr) (S.st (hT.on H H1 i e1 t1) s2) r rfl⟩⟩
variable {S1 : Sta} {i : Nat} {a c' : Addr} {q : Str} {tl : XK → Hp → VK → Prop} {H0 : Hp}
/-- the call within the def -/
theorem ev_act {E : L2.St → XK} (hi : ρ[i]? = some (some (.raw (.ref a)))) (hc : H0 c' = some (LamX.CodeO c' q)) (h : LamO K H0 tl (.ok d)) : Ev K (staSame H0) (staSame H0) ρ (tAct i a c' q tl E) (Eq d) := fun σ H hs s Q q1 => by
  obtain ⟨v, hv, rv⟩ := s.val i _ hi
  obtain rfl := rv.rawI
  exact ⟨hv, hs _ _ hc, h (E σ) H Q hs fun v H2 s2 r => q1 v d H2 s2.gr ((staSame H0).st hs s2) r rfl⟩
theorem pr_act {W : WX} {D : Ends} {σ : L2.St} {H : Hp} {j : Nat} (hi : ρ[i]? = some (some (.raw (.ref a)))) (hc : H0 c' = some (LamX.CodeO c' q)) (h : LamO K H0 tl (.er C f d)) (hs : (staSame H0).I H) (s : Slots K H σ ρ)
    (hW : ∀ a v H', Gr H H' → (staSame H0).I H' → H' a = some (.xd [(f, v)]) → Rep K H' v d → W (.ref C) (some a) σ H') : tAsg (tAct i a c' q tl (WE W)) (gName j) D σ H := by
  obtain ⟨v, hv, rv⟩ := s.val i _ hi
  obtain rfl := rv.rawI
  exact ⟨hv, hs _ _ hc, h (WE W σ) H _ hs fun a v H2 s2 e r => hW a v H2 s2.gr ((staSame H0).st hs s2) e r⟩
end
end Bf
namespace Bf
open PySem PySem.Spec PyProof.Rows L2
/-! ## receivers.py -/
section
variable {K : PySem.W.Frag} {mg : Str → Option Value} {C fI pN gN pD gD CB : Addr} {S : Sta} {ds : List Dt} {d : Dt} {o : Out} {E : XK}
end
/-! ### promises that hand back the thing itself -/
section
variable {K : PySem.W.Frag} {S S1 SB SF : Sta} {L : List Addr} {ρ : List (Option Dt)} {d : Dt} {R : Dt → Out → Prop} {E : XK} {C : Addr} {f : Str} {j : Nat} {xs : List Dt}
end
/-! ### need_receiver -/
section
variable {K : PySem.W.Frag} {mg : Str → Option Value} {C fI pN gN pD gD CR : Addr} {S : Sta} {d : Dt} {o : Out} {E : XK} {v : V}
end
end Bf
namespace Bf
open PySem PySem.Spec PyProof.Rows L2 PySem.SeqAt
/-! ## Things that are handed on as they are: a slot's value by itself, with what it is known to be -/
section
variable {K : PySem.W.Frag} {S S0 S1 S2 SB SF : Sta} {L : List Addr} {ρ : List (Option Dt)} {P : Po} {te ta tb : TE} {w t : TS} {tl : TA} {d x : Dt} {j n : Nat} {ds xs : List Dt} {vs : List V} {R : List V → List Dt → Out → Prop} {E : XK} {C : Addr} {f : Str} {v : V}
/-! ### tuples of the same things -/
end
end Bf
namespace Bf
open PySem PySem.Spec PyProof.Rows L2
/-! ## keywords in any order -/
end Bf
namespace Bf
open PySem PySem.Spec PyProof.Rows L2
/-! ## Ratio's methods -/
/-- a method of two parts, as the text has it -/
structure RatM (K : PySem.W.Frag) (C : Addr) (x qual : Str) (st : Stmt) (f : Addr) (fd : FuncData) : Prop where
  fn : Fun K x qual st f fd
  s : PySem.W.findIn K (.ref C) x = some (some (.ref f))
  f : PySem.W.isFn K (.ref f) = true
  b : Binds K fd ["self", "other"] []
/-- what a comparison of products says -/
def r_rcm (C : Addr) (g : Int → Int → Bool) (ds : List Dt) (a : Dt) : Prop := ∃ n m i j, ds = [rat C n m, rat C i j] ∧ CMulW n j ∧ CMulW i m ∧ a = .bl (g (n * j) (i * m))
def gLt (x y : Int) : Bool := decide (x < y)
def gLe (x y : Int) : Bool := decide (x ≤ y)
def gGt (x y : Int) : Bool := decide (y < x)
def gGe (x y : Int) : Bool := decide (y ≤ x)
abbrev p_rlt (K : PySem.W.Frag) (C : Addr) : Sp := spR K 2 (r_rcm C gLt)
abbrev p_rle (K : PySem.W.Frag) (C : Addr) : Sp := spR K 2 (r_rcm C gLe)
abbrev p_rgt (K : PySem.W.Frag) (C : Addr) : Sp := spR K 2 (r_rcm C gGt)
abbrev p_rge (K : PySem.W.Frag) (C : Addr) : Sp := spR K 2 (r_rcm C gGe)
abbrev t_req (K : PySem.W.Frag) (C : Addr) : TS := (tRet (tAndV (tCB (rIsi K) (tCons (tVar 1) (tCons (tC (.ref C)) tNil))) (tAndV (tOp rEq (L2.tFld K (tVar 0) "_num") (L2.tFld K (tVar 1) "_num")) (tOp rEq (L2.tFld K (tVar 0) "_den") (L2.tFld K (tVar 1) "_den")))))
abbrev t_rcm (K : PySem.W.Frag) (C : Addr) (r : R2) : TS := (tSeq (tIfS (tNot (tB (tCB (rIsi K) (tCons (tVar 1) (tCons (tC (.ref C)) tNil))))) tNever tNext)
    (tRet (tOp r (tOp rMulW (L2.tFld K (tVar 0) "_num") (L2.tFld K (tVar 1) "_den")) (tOp rMulW (L2.tFld K (tVar 1) "_num") (L2.tFld K (tVar 0) "_den")))))
section
variable {K : PySem.W.Frag} {mg : Str → Option Value} {C fI pN gN pD gD : Addr} {S S1 S2 : Sta} {ρ : List (Option Dt)} {te ta tb : TE} {ds : List Dt} {d : Dt} {n m i j : Int}
theorem ev_fn (T : RatT K mg C fI pN gN pD gD) (h : Ev K S S1 ρ te (Eq (rat C n m))) : Ev K S S1 ρ (L2.tFld K te "_num") (Eq (.int n)) := fun σ H i s Q q =>
  h σ H i s _ fun v d H1 g1 i1 r1 e => by
    subst e
    obtain ⟨a, dx, rfl, ea⟩ := r1.ratI
    exact ⟨a, C, dx, _, .int n, rfl, ea, T.cl, T.an, by simp [List.lookup], q _ _ H1 g1 i1 (.int n) rfl⟩
theorem ev_fd (T : RatT K mg C fI pN gN pD gD) (h : Ev K S S1 ρ te (Eq (rat C n m))) : Ev K S S1 ρ (L2.tFld K te "_den") (Eq (.int m)) := fun σ H i s Q q =>
  h σ H i s _ fun v d H1 g1 i1 r1 e => by
    subst e
    obtain ⟨a, dx, rfl, ea⟩ := r1.ratI
    exact ⟨a, C, dx, _, .int m, rfl, ea, T.cl, T.ad, by rw [look_den], q _ _ H1 g1 i1 (.int m) rfl⟩
theorem so_req (T : RatT K mg C fI pN gN pD gD) (hp : r_req C ds d) : So K S S [] (t_req K C) (startD 2 ds) (Pu d) := by
  obtain ⟨n, m, i, j, rfl, rfl⟩ := hp
  have h1 : Ev K S S [some (rat C n m), some (rat C i j)] (tCB (rIsi K) (tCons (tVar 1) (tCons (tC (.ref C)) tNil))) (Eq (.bl true)) := ev_isRat T (ev_var rfl) (.inr ⟨i, j, rfl⟩)
  have h2 : Ev K S S [some (rat C n m), some (rat C i j)] (tOp rEq (L2.tFld K (tVar 0) "_num") (L2.tFld K (tVar 1) "_num")) (Eq (.bl (decide (n = i)))) := ev_op (ev_fn T (ev_var rfl)) (ev_fn T (ev_var rfl)) rv_eqI
  have h3 : Ev K S S [some (rat C n m), some (rat C i j)] (tOp rEq (L2.tFld K (tVar 0) "_den") (L2.tFld K (tVar 1) "_den")) (Eq (.bl (decide (m = j)))) := ev_op (ev_fd T (ev_var rfl)) (ev_fd T (ev_var rfl)) rv_eqI
  by_cases e : n = i
  · exact so_retD (ev_andT h1 (ev_andT (h2.to (by rw [decide_eq_true e])) h3)) (Sta.Le.refl S) (by rw [decide_eq_true e, Bool.true_and])
  · exact so_retD (ev_andT h1 (ev_andF (h2.to (by rw [decide_eq_false e])))) (Sta.Le.refl S) (by rw [decide_eq_false e, Bool.false_and])
theorem so_rcm {r : R2} {g : Int → Int → Bool} (T : RatT K mg C fI pN gN pD gD) (hr : ∀ (S : Sta) x y, Rv2 K S r (.int x) (.int y) (Eq (.bl (g x y)))) (hp : r_rcm C g ds d) : So K S S [] (t_rcm K C r) (startD 2 ds) (Pu d) := by
  obtain ⟨n, m, i, j, rfl, c1, c2, rfl⟩ := hp
  exact so_ifF (et_notT (et_B (ev_isRat T (ev_var rfl) (.inr ⟨i, j, rfl⟩)))) (so_skip (so_retD (ev_op (ev_op (ev_fn T (ev_var rfl)) (ev_fd T (ev_var rfl)) (rv_mul c1)) (ev_op (ev_fn T (ev_var rfl)) (ev_fd T (ev_var rfl)) (rv_mul c2)) (hr _ _ _)) (Sta.Le.refl S) rfl))
theorem so_rlt (T : RatT K mg C fI pN gN pD gD) (hp : r_rcm C gLt ds d) : So K S S [] (t_rcm K C rLtI) (startD 2 ds) (Pu d) := so_rcm T (fun _ _ _ => rv_lt) hp
theorem so_rle (T : RatT K mg C fI pN gN pD gD) (hp : r_rcm C gLe ds d) : So K S S [] (t_rcm K C rLeI) (startD 2 ds) (Pu d) := so_rcm T (fun _ _ _ => rv_le) hp
theorem so_rgt (T : RatT K mg C fI pN gN pD gD) (hp : r_rcm C gGt ds d) : So K S S [] (t_rcm K C rGtI) (startD 2 ds) (Pu d) := so_rcm T (fun _ _ _ => rv_gt) hp
theorem so_rge (T : RatT K mg C fI pN gN pD gD) (hp : r_rcm C gGe ds d) : So K S S [] (t_rcm K C rGeI) (startD 2 ds) (Pu d) := so_rcm T (fun _ _ _ => rv_ge) hp
/-- x op y by the method -/
theorem rv_own {R : List Dt → Dt → Prop} (h : R [rat C n m, rat C i j] d) : Rv2 K S (rOwn C (spR K 2 R)) (rat C n m) (rat C i j) (Eq d) := fun H v u hi r1 r2 Q q => by
  obtain ⟨a, dx, rfl, ha⟩ := r1.ratI
  obtain ⟨b, dy, rfl, hb⟩ := r2.ratI
  exact ⟨a, b, dx, dy, _, _, rfl, rfl, ha, hb, [rat C n m, rat C i j], d, .cons r1 (.cons r2 .nil), rfl, h, fun v' H' sm rv => q _ _ H' sm.gr (S.st hi sm) rv rfl⟩
end
/-! ### for x, y in zip(a tuple, a tuple) -/
section
variable {K : PySem.W.Frag} {S S1 S2 SB SF : Sta} {L : List Addr} {ρ : List (Option Dt)} {P : Po} {t : TS} {ta : TA}
end
end Bf
namespace Bf
open PySem PySem.Spec PyProof.Rows L2
/-! ## Dicts with tuples as keys -/
section
variable {X : Cx} {pins : List (Addr × Obj)} {σ : L2.St} {H : Hp} {s : Shared}
/-! ### d.get(k) -/
/-! ### len(d) -/
end
end Bf
namespace Bf
open PySem PySem.Spec PyProof.Rows L2
/-! ## dict(a list of pairs), the keys tuples -/
inductive PrsA (K : PySem.W.Frag) (H : Hp) : List Addr → List Addr → List V → Prop
  | nil : PrsA K H [] [] []
  | cons {p a : Addr} {v : V} {ps as : List Addr} {vs : List V} : SqT K H p [.ref a, v] → PrsA K H ps as vs → PrsA K H (p :: ps) (a :: as) (v :: vs)
theorem PrsA.len {K : PySem.W.Frag} {H : Hp} : ∀ {ps as : List Addr} {vs : List V}, PrsA K H ps as vs → as.length = ps.length ∧ vs.length = ps.length
  | _, _, _, .nil => ⟨rfl, rfl⟩
  | _, _, _, .cons _ r => ⟨by rw [List.length_cons, List.length_cons, r.len.1], by rw [List.length_cons, List.length_cons, r.len.2]⟩
section
variable {X : Cx} {pins : List (Addr × Obj)} {σ : L2.St} {H : Hp} {s : Shared}
theorem PrsA.here (I : L2.Inv X pins σ H s) : ∀ {ps as : List Addr} {vs : List V}, PrsA X.K H ps as vs → ∃ us, Vals vs us ∧ ∀ (j : Nat) (a : Addr) (u : Value), as[j]? = some a → us[j]? = some u → ∃ p, ps[j]? = some p ∧ IsTup s.heap p #[.ref a, u]
  | _, _, _, .nil => ⟨[], .nil, fun j a u e => by simp at e⟩
  | _, _, _, .cons (p := p) (a := a) (v := v) h r => by
    obtain ⟨us, rv, q⟩ := r.here I
    obtain ⟨its, ri, ht, _⟩ := I.tuple h
    obtain ⟨x, y, ei, rx, ry⟩ := vals2 ri
    subst ei
    obtain rfl : x = Value.ref a := rx
    refine ⟨y :: us, .cons ry rv, fun j a' u' e1 e2 => ?_⟩
    cases j with
    | zero =>
      obtain rfl : a = a' := by simpa using e1
      obtain rfl : y = u' := by simpa using e2
      exact ⟨p, rfl, ht⟩
    | succ j => exact q j a' u' (by simpa using e1) (by simpa using e2)
end
/-! ### over data -/
section
variable {K : PySem.W.Frag} {S S1 S2 : Sta} {ρ : List (Option Dt)} {td ty te : TE} {ks xs : List Dt} {q : Dt}
end
end Bf
namespace Bf
open PySem PySem.Spec PyProof.Rows L2
section
variable {K : PySem.W.Frag} {S : Sta} {ds : List Dt} {d : Dt}
/-! ### the frame of halves -/
end
end Bf
namespace Bf
open PySem PySem.Spec PyProof.Rows L2
section
variable {K : PySem.W.Frag} {S : Sta} {ds xs : List Dt} {d : Dt}
/-! ### settled -/
section
variable {S1 S2 S3 S4 : Sta} {ρ : List (Option Dt)} {ta tb tc td : TE}
end
/-! ### a step -/
/-! ### begin_of, is_end, steps_of, frame_of -/
section
variable {S1 S2 : Sta} {ρ : List (Option Dt)} {ta tb tc : TE}
end
theorem sett_ne (T : Tab) (s : Site) (bit : Int) : (T.sett s bit).rest ≠ [] := by
  cases T with
  | ha u b =>
    simp only [Tab.sett, haS, haP]
    repeat' split
    all_goals simp
  | pa h z1 z2 o1 o2 st b =>
    simp only [Tab.sett]
    split <;> simp
end
end Bf
namespace Bf
open PySem PySem.Spec PyProof.Rows L2
/-! ## The law's frames: two lists, one made anew, one changed -/
section
variable {K : PySem.W.Frag} {S S1 S2 SB SF : Sta} {L : List Addr} {ρ : List (Option Dt)} {P : Po} {ta tb te : TE} {w t : TS} {xs ys : List Dt} {p q : Addr} {j : Nat}
end
end Bf
namespace Bf
open PySem PySem.Spec PyProof.Rows L2
/-! ## _law_frame -/
section
variable {K : PySem.W.Frag} {S : Sta} {ds : List Dt} {d : Dt}
end
end Bf
namespace Bf
open PySem PySem.Spec PyProof.Rows L2
/-! ## Fact 1: different words have different frames -/
end Bf
namespace Bf
open PySem PySem.Spec PyProof.Rows L2
/-! ## The law of tables: what is said, what is due -/
section
variable {K : PySem.W.Frag} {S : Sta} {ds : List Dt} {d : Dt} {C : Addr}
end
end Bf
namespace Bf
open PySem PySem.Spec PyProof.Rows L2
/-! ## a tuple backwards; a tuple many times -/
section
variable {prog : Program} {w : World} {A : Around} {E : Value → Shared → Prop} {s : Shared}
end
theorem RepA.rev {K : PySem.W.Frag} {H : Hp} : ∀ {vs : List V} {ds : List Dt}, RepA K H vs ds → RepA K H vs.reverse ds.reverse
  | _, _, .nil => .nil
  | _, _, .cons h r => by
    rw [List.reverse_cons, List.reverse_cons]
    exact r.rev.app (.cons h .nil)
theorem RepA.rep {K : PySem.W.Frag} {H : Hp} {vs : List V} {ds : List Dt} (r : RepA K H vs ds) : ∀ n : Nat, RepA K H (List.replicate n vs).flatten (List.replicate n ds).flatten
  | 0 => .nil
  | n + 1 => by
    rw [List.replicate_succ, List.replicate_succ, List.flatten_cons, List.flatten_cons]
    exact r.app (r.rep n)
section
variable {K : PySem.W.Frag} {S S1 : Sta} {ρ : List (Option Dt)} {te : TE} {xs : List Dt}
end
end Bf
namespace Bf
open PySem PySem.Spec PyProof.Rows L2
/-! ## The law of frames: frame_of that refuses, word_of -/
section
variable {K : PySem.W.Frag} {S S1 S2 : Sta} {ρ : List (Option Dt)} {ds : List Dt} {d : Dt} {o : Out} {C : Addr} {E : XK} {ta tb te tl : TE} {T : Tab}
/-! ### word_of -/
end
end Bf
namespace Bf
open PySem PySem.Spec PyProof.Rows L2
/-! ## right receivers, sendings -/
section
variable {C CR : Addr} {p : Tab × Int × Int} {rc : List (Tab × Int × Int)}
end
section
variable {K : PySem.W.Frag} {mg : Str → Option Value} {C fI pN gN pD gD CR : Addr} {S : Sta} {ds : List Dt} {d : Dt}
end
end Bf
namespace Bf
open PySem PySem.Spec PyProof.Rows L2
section
variable {K : PySem.W.Frag} {S : Sta} {ds : List Dt} {d : Dt}
/-! ### the law's own looks -/
/-- no list, no tuple, no dict: may be compared -/
def scal : Dt → Bool
  | .non => true
  | .bl _ => true
  | .int _ => true
  | .str x => x.cps.all (· < 0x110000)
  | _ => false
theorem scal_okN {x : Dt} (h : scal x = true) : okN x = true := by cases x <;> simp [scal] at h <;> rfl
end
end Bf
namespace Bf
open PySem PySem.Spec PyProof.Rows L2
/-! ## in, not in over data -/
section
variable {K : PySem.W.Frag} {S : Sta} {ds : List Dt} {d : Dt}
/-! ### what is due -/
/-- parts as they are drawn: scalars, or tuples and lists of scalars -/
def parT (d : Dt) : Prop := okN d = true ∧ ∀ xs, d = .tup xs → xs.length ≤ 1000 ∧ ∀ x ∈ xs, scal x = true
end
end Bf
namespace Bf
open PySem PySem.Spec PyProof.Rows L2
/-- values as they are drawn -/
def valT (d : Dt) : Prop := okN d = true ∧ ∀ xs, d = .tup xs → xs.length ≤ 1000 ∧ ∀ x ∈ xs, parT x ∧ ∀ s : Str, x = .str s → scal x = true
section
variable {K : PySem.W.Frag} {S : Sta} {ds : List Dt} {d : Dt}
end
end Bf
namespace Bf
open PySem PySem.Spec PyProof.Rows L2
/-! ## tables with a part otherwise -/
/-- a part as it is drawn -/
def ptD (n : Nat) (d : Dt) : Prop := scal d = true ∨ ∃ xs, (d = .tup xs ∨ d = .lst xs) ∧ xs.length ≤ n ∧ ∀ x ∈ xs, scal x = true
/-- a value as it is drawn -/
def vlD (n : Nat) (d : Dt) : Prop := scal d = true ∨ d = .dic ∨ ∃ xs, (d = .tup xs ∨ d = .lst xs) ∧ xs.length ≤ 7 ∧ ∀ x ∈ xs, ptD n x
theorem ptD.mono {n m : Nat} {d : Dt} (h : ptD n d) (l : n ≤ m) : ptD m d := by
  rcases h with h | ⟨xs, e, hl, hs⟩
  · exact .inl h
  · exact .inr ⟨xs, e, by omega, hs⟩
theorem scal_pl {d : Dt} (h : scal d = true) : pl d = true := by cases d <;> simp [scal] at h <;> rfl
theorem ptD.okN {n : Nat} {d : Dt} (h : ptD n d) : okN d = true := by
  rcases h with h | ⟨xs, rfl | rfl, _, _⟩
  · exact scal_okN h
  · rfl
  · rfl
theorem ptD.pl {n : Nat} {d : Dt} (h : ptD n d) : pl d = true := by
  rcases h with h | ⟨xs, rfl | rfl, _, hs⟩
  · exact scal_pl h
  · unfold Bf.pl; exact plA_all.mpr fun x hx => scal_pl (hs x hx)
  · unfold Bf.pl; exact plA_all.mpr fun x hx => scal_pl (hs x hx)
theorem ptD.plS {n : Nat} {d : Dt} (h : ptD n d) (hn : n ≤ 100000) : plS d = true := by
  have hp := h.pl
  rcases h with h | ⟨xs, rfl | rfl, hl, hs⟩
  · cases d <;> simp [scal] at h <;> simp [Bf.plS, hp]
  · simp only [Bf.plS, hp, Bool.true_and, decide_eq_true_eq]; omega
  · simp [Bf.plS, hp]
theorem ptD.parT {n : Nat} {d : Dt} (h : ptD n d) (hn : n ≤ 1000) : parT d := ⟨h.okN, fun xs e => by
  subst e
  rcases h with h | ⟨ys, e | e, hl, hs⟩
  · simp [scal] at h
  · cases e; exact ⟨by omega, hs⟩
  · cases e⟩
theorem vlD.pl {n : Nat} {d : Dt} (h : vlD n d) : pl d = true := by
  rcases h with h | rfl | ⟨xs, rfl | rfl, _, hs⟩
  · exact scal_pl h
  · rfl
  · unfold Bf.pl; exact plA_all.mpr fun x hx => (hs x hx).pl
  · unfold Bf.pl; exact plA_all.mpr fun x hx => (hs x hx).pl
theorem vlD.plD {n : Nat} {d : Dt} (h : vlD n d) (hn : n ≤ 1000) : plD d := ⟨h.pl, fun xs e => by
  subst e
  rcases h with h | h | ⟨ys, e | e, hl, hs⟩
  · simp [scal] at h
  · cases h
  · cases e
    exact List.all_eq_true.mpr fun x hx => (hs x hx).plS (by omega)
  · cases e⟩
theorem vlD.valT {n : Nat} {d : Dt} (h : vlD n d) (hn : n ≤ 1000) : valT d := ⟨pl_okN h.pl, fun xs e => by
  subst e
  rcases h with h | h | ⟨ys, e | e, hl, hs⟩
  · simp [scal] at h
  · cases h
  · cases e
    refine ⟨by omega, fun x hx => ⟨(hs x hx).parT hn, fun s e => ?_⟩⟩
    subst e
    rcases hs _ hx with h | ⟨zs, e | e, _⟩
    · exact h
    · cases e
    · cases e
  · cases e⟩
/-! ### a value of which nothing is wrong is a right table -/
end Bf
namespace Bf
open PySem PySem.Spec PyProof.Rows L2
/-! ## _law_spoiled -/
section
variable {K : PySem.W.Frag} {S S1 S2 : Sta} {ρ : List (Option Dt)} {t u : TT}
end
section
variable {K : PySem.W.Frag} {a : Addr} {c : CT} {cs : List Int} {n : Nat} {ds : List Dt}
end
end Bf
namespace Bf
open PySem PySem.Spec PyProof.Rows L2
/-! ## tables like others, receivers -/
section
variable {K : PySem.W.Frag} {a : Addr} {c : CT} {cs : List Int} {n : Nat} {ds : List Dt}
end
end Bf
namespace Bf
open PySem PySem.Spec PyProof.Rows L2
/-! ## The law of frames: what is said, a bent frame -/
section
variable {K : PySem.W.Frag} {S S1 S2 : Sta} {ρ : List (Option Dt)} {ds : List Dt} {d : Dt} {C : Addr} {ta tb te tl : TE} {tt : TT} {T : Tab} {vs : List Nat} {j : Nat} {xs : List Dt}
/-! ### [x for x in a tuple if tt]: how many -/
end
/-! ### str(n) -/
end Bf
namespace Bf
open PySem PySem.Spec PyProof.Rows L2
/-! ## a tuple times some number -/
/-! ## frames are small -/
/-! ## a frame with one thing otherwise -/
section
variable {K : PySem.W.Frag} {a : Addr} {c : CT} {cs : List Int} {n : Nat} {ds : List Dt}
end
end Bf
namespace Bf
open PySem PySem.Spec PyProof.Rows L2
/-! ## Bursts: how far off a frame -/
abbrev Fq : Type := Int × Int
def ratP (C : Addr) (p : Fq) : Dt := rat C p.1 p.2
def bD (C : Addr) (bs : List Fq) : Dt := .tup (bs.map (ratP C))
def okP (p : Fq) : Prop := 0 < p.1 ∧ p.1 < 2 ^ 56 ∧ 1 ≤ p.2 ∧ p.2 < 2 ^ 56
def okQ (p : Fq) : Prop := 0 ≤ p.1 ∧ p.1 < 2 ^ 90 ∧ 1 ≤ p.2 ∧ p.2 < 2 ^ 90
def okS (s : Int) : Prop := 1 ≤ s ∧ s ≤ 2000000
/-- the difference, divided by the duration -/
def offP (p : Fq) (s : Int) : Fq := (if p.1 - s * p.2 < 0 then -(p.1 - s * p.2) else p.1 - s * p.2, s * p.2)
def canP (p : Fq) : Fq := (p.1 / (Nat.gcd p.1.natAbs p.2.natAbs : Nat), p.2 / (Nat.gcd p.1.natAbs p.2.natAbs : Nat))
def lessP (a b : Fq) : Bool := decide (a.1 * b.2 < b.1 * a.2)
def farL (l : List (Fq × Int)) : Fq := l.foldl (fun f q => if lessP f (offP q.1 q.2) = true then offP q.1 q.2 else f) (0, 1)
/-- a fraction is its lowest terms, multiplied by a number above 0 -/
theorem can_mul {p : Fq} (h : okQ p) : ∃ g : Int, 0 < g ∧ p.1 = g * (canP p).1 ∧ p.2 = g * (canP p).2 := by
  obtain ⟨h1, h2, h3, h4⟩ := h
  refine ⟨(Nat.gcd p.1.natAbs p.2.natAbs : Nat), ?_, ?_, ?_⟩
  · have : 0 < Nat.gcd p.1.natAbs p.2.natAbs := Nat.gcd_pos_of_pos_right _ (by omega)
    omega
  · exact (Int.mul_ediv_cancel' (Int.ofNat_dvd_left.mpr (Nat.gcd_dvd_left _ _))).symm
  · exact (Int.mul_ediv_cancel' (Int.ofNat_dvd_left.mpr (Nat.gcd_dvd_right _ _))).symm
theorem okQ_can {p : Fq} (h : okQ p) : okQ (canP p) := by
  obtain ⟨g, g0, e1, e2⟩ := can_mul h
  obtain ⟨h1, h2, h3, h4⟩ := h
  have a : 0 ≤ (canP p).1 := Int.ediv_nonneg h1 (Int.natCast_nonneg _)
  have b : 0 ≤ (canP p).2 := Int.ediv_nonneg (by omega) (Int.natCast_nonneg _)
  have c1 : (canP p).1 ≤ p.1 := by
    have := Int.mul_le_mul_of_nonneg_right (show 1 ≤ g by omega) a
    rw [e1]; omega
  have c2 : (canP p).2 ≤ p.2 := by
    have := Int.mul_le_mul_of_nonneg_right (show 1 ≤ g by omega) b
    rw [e2]; omega
  have b1 : (canP p).2 ≠ 0 := fun e => by rw [e, Int.mul_zero] at e2; omega
  exact ⟨a, by omega, by omega, by omega⟩
/-! ### off_by, greatest_off -/
section
variable {K : PySem.W.Frag} {mg : Str → Option Value} {C fI pN gN pD gD : Addr} {S S1 S2 : Sta} {ρ : List (Option Dt)} {te ta tb : TE} {ds : List Dt} {d : Dt}
end
end Bf
namespace Bf
open PySem PySem.Spec PyProof.Rows L2
/-! ## Frames have oddly many durations, each above 0 -/
end Bf
namespace Bf
open PySem PySem.Spec PyProof.Rows L2
section
variable {K : PySem.W.Frag} {S : Sta} {ds xs : List Dt} {d : Dt}
/-! ## the law's own frames and places -/
/-! ### _law_steps -/
end
end Bf
namespace Bf
open PySem PySem.Spec PyProof.Rows L2
/-! ## The law of frames -/
/-! ### what is known -/
end Bf
namespace Bf
open PySem PySem.Spec PyProof.Rows L2
section
variable {K : PySem.W.Frag} {a C : Addr} {c : CT} {cs : List Int}
end
end Bf
namespace Bf
open PySem PySem.Spec PyProof.Rows L2
/-! ## need_burst, nearest, and the law's own -/
/-- the nearest word so far -/
def nearS (T : Tab) (bs : List Fq) (best : Option (Fq × List Int)) (w : List Int) : Option (Fq × List Int) :=
  if (T.frame w).length = bs.length then (match best with
    | none => some (farL (bs.zip (T.frame w)), w)
    | some b => if lessP (farL (bs.zip (T.frame w))) b.1 = true then some (farL (bs.zip (T.frame w)), w) else some b) else best
def nearL (T : Tab) (bs : List Fq) (ws : List (List Int)) : Option (Fq × List Int) := ws.foldl (nearS T bs) none
section
variable {K : PySem.W.Frag} {mg : Str → Option Value} {C CW fI pN gN pD gD : Addr} {S S1 S2 : Sta} {ρ : List (Option Dt)} {te ta tb : TE} {ds : List Dt} {d : Dt}
end
end Bf
namespace Bf
open PySem PySem.Spec PyProof.Rows L2
/-! ## drawn receivers -/
section
variable {K : PySem.W.Frag} {S S1 : Sta} {ρ : List (Option Dt)} {tl : TA} {C : Addr} {E : XK} {Φ : Int → Int → Prop}
end
section
variable {K : PySem.W.Frag} {a : Addr} {c : CT} {cs : List Int} {n : Nat} {ds : List Dt} {C : Addr}
end
end Bf
namespace Bf
open PySem PySem.Spec PyProof.Rows L2
/-! ## What a receiver reads -/
theorem less_canL {a b : Fq} (ha : okQ a) : lessP (canP a) b = lessP a b := by
  obtain ⟨g, g0, e1, e2⟩ := can_mul ha
  unfold lessP
  apply decide_eq_decide.mpr
  generalize hx : canP a = x at e1 e2 ⊢
  rw [e1, e2]
  have h1 : g * x.1 * b.2 = g * (x.1 * b.2) := Int.mul_assoc _ _ _
  have h2 : b.1 * (g * x.2) = g * (b.1 * x.2) := by rw [← Int.mul_assoc, Int.mul_comm b.1 g, Int.mul_assoc]
  rw [h1, h2]
  exact ⟨fun h => Int.mul_lt_mul_of_pos_left h g0, fun h => Int.lt_of_mul_lt_mul_left h (Int.le_of_lt g0)⟩
theorem less_canR {a b : Fq} (hb : okQ b) : lessP a (canP b) = lessP a b := by
  obtain ⟨h, h0, f1, f2⟩ := can_mul hb
  unfold lessP
  generalize canP b = b' at f1 f2 ⊢
  have l1 : a.1 * b.2 = h * (a.1 * b'.2) := by rw [f2]; ac_rfl
  have l2 : b.1 * a.2 = h * (b'.1 * a.2) := by rw [f1]; ac_rfl
  rw [l1, l2]
  have : (a.1 * b'.2 < b'.1 * a.2) ↔ (h * (a.1 * b'.2) < h * (b'.1 * a.2)) :=
    ⟨fun z => Int.mul_lt_mul_of_pos_left z h0, fun z => Int.lt_of_mul_lt_mul_left z (Int.le_of_lt h0)⟩
  simp only [decide_eq_decide]
  exact this
theorem less_trans {a b c : Fq} (ha : okQ a) (hb : okQ b) (hc : okQ c) (h1 : lessP a b = true) (h2 : lessP c b = false) : lessP a c = true := by
  have e1 : a.1 * b.2 < b.1 * a.2 := of_decide_eq_true h1
  have e2 : ¬ (c.1 * b.2 < b.1 * c.2) := of_decide_eq_false h2
  have pa := ha.2.2.1
  have pb := hb.2.2.1
  have pc := hc.2.2.1
  have x1 : a.1 * b.2 * c.2 < b.1 * a.2 * c.2 := Int.mul_lt_mul_of_pos_right e1 (by omega)
  have x2 : b.1 * c.2 * a.2 ≤ c.1 * b.2 * a.2 := Int.mul_le_mul_of_nonneg_right (by omega) (by omega)
  have y1 : a.1 * b.2 * c.2 = a.1 * c.2 * b.2 := by ac_rfl
  have y2 : b.1 * a.2 * c.2 = b.1 * c.2 * a.2 := by ac_rfl
  have y3 : c.1 * b.2 * a.2 = c.1 * a.2 * b.2 := by ac_rfl
  exact decide_eq_true (Int.lt_of_mul_lt_mul_right (show a.1 * c.2 * b.2 < c.1 * a.2 * b.2 by omega) (by omega))
/-! ### fits, and the law's own -/
section
variable {K : PySem.W.Frag} {mg : Str → Option Value} {C fI pN gN pD gD : Addr} {S S1 S2 SB : Sta} {L : List Addr} {ρ : List (Option Dt)} {P : Po} {te ta tb tl : TE} {t : TS} {ds : List Dt} {d : Dt}
end
end Bf
namespace Bf
open PySem PySem.Spec PyProof.Rows L2
/-! ## drawn receivers, with what their tolerances are at most -/
section
variable {K : PySem.W.Frag} {a : Addr} {c : CT} {cs : List Int} {n : Nat} {ds : List Dt} {C : Addr}
end
end Bf
namespace Bf
open PySem PySem.Spec PyProof.Rows L2
/-! ## words_of, where need_table may refuse -/
section
variable {K : PySem.W.Frag} {S : Sta} {ds : List Dt} {CB C : Addr}
end
/-! ## need_burst of what is none -/
section
variable {K : PySem.W.Frag} {mg : Str → Option Value} {C CB fI pN gN pD gD : Addr} {S : Sta} {ds : List Dt} {d : Dt} {o : Out} {E : XK}
end
end Bf
namespace Bf
open PySem PySem.Spec PyProof.Rows L2
/-! ### for x, y in zip(a tuple, a tuple), to the shorter one's end -/
section
variable {K : PySem.W.Frag} {S S1 S2 SB SF : Sta} {L : List Addr} {ρ : List (Option Dt)} {P : Po} {t : TS} {ta : TA}
end
end Bf
namespace Bf
open PySem PySem.Spec PyProof.Rows L2
/-! ## The law of bursts: need_burst, need_ratio, is_within -/
section
variable {K : PySem.W.Frag} {mg : Str → Option Value} {C CB CR fI pN gN pD gD : Addr} {S S1 : Sta} {ds : List Dt} {d : Dt} {o : Out} {E : XK} {vs : List V} {ρ : List (Option Dt)}
/-! ### what is said -/
def R7 (CB CR : Addr) : Out → Dt → Prop
  | .ok z, d => d = .lst [z]
  | .er C f z, d => f = "given" ∧ ((C = CB ∧ d = .tup [.str "burst", z]) ∨ (C = CR ∧ d = .tup [.str "ratio", z]))
/-- what is known of the two classes -/
structure Two (K : PySem.W.Frag) (CB CR : Addr) : Prop where
  bb : PySem.W.kitOne K (.ref CB) (.ref CB) = some true
  rb : PySem.W.kitOne K (.ref CR) (.ref CB) = some false
  xb : PySem.W.exmAny K (.ref CB) [.ref CB, .ref CR] = some true
  xr : PySem.W.exmAny K (.ref CR) [.ref CB, .ref CR] = some true
end
end Bf
namespace Bf
open PySem PySem.Spec PyProof.Rows L2
/-! ## The need of two durations -/
/-- a tolerance below 1 -/
def okT (t : Fq) : Prop := 0 ≤ t.1 ∧ t.1 < t.2 ∧ t.2 ≤ 1000
/-- the greatest of three numbers, above and below a line -/
def needP (f p : Int) (t : Fq) : Fq := (if 0 < p * (t.2 - t.1) - f * t.2 then p * (t.2 - t.1) - f * t.2 else if 0 < f * t.2 - p * (t.2 + t.1) then f * t.2 - p * (t.2 + t.1) else 0, f * t.2)
/-- the number nearest to one duration of those allowed -/
def nearA (f p : Int) (t : Fq) : Fq := if f * t.2 < p * (t.2 - t.1) then canP (p * (t.2 - t.1), t.2) else if p * (t.2 + t.1) < f * t.2 then canP (p * (t.2 + t.1), t.2) else (f, 1)
/-! ### nearest_allowed, need_between, and the law's own -/
section
variable {K : PySem.W.Frag} {C : Addr} {S : Sta} {ds : List Dt} {d : Dt}
end
end Bf
namespace Bf
open PySem PySem.Spec PyProof.Rows L2 PySem.SeqAt
/-! ## xs != ys, lists of tuples of the very same things -/
end Bf
namespace Bf
open PySem PySem.Spec PyProof.Rows L2
section
variable {K : PySem.W.Frag} {mg : Str → Option Value} {C CB CR fI pN gN pD gD : Addr} {S S1 : Sta} {ds : List Dt} {d : Dt} {o : Out} {E : XK} {vs : List V} {ρ : List (Option Dt)}
/-! ### what is said -/
end
/-! ## The law of needs -/
section
variable {K : PySem.W.Frag} {mg : Str → Option Value} {C CN CR fI pN gN pD gD : Addr} {S S1 : Sta} {ds : List Dt} {d : Dt} {o : Out} {E : XK} {vs : List V} {ρ : List (Option Dt)}
end
end Bf
namespace Bf
open PySem PySem.Spec PyProof.Rows L2
/-! ## list.count and list.index of flat things; isinstance of a kept error, of a tuple of classes -/
section
variable {K : PySem.W.Frag} {S S1 : Sta} {ρ : List (Option Dt)} {te : TE} {d : Dt} {p : Addr} {bs : List Bool}
end
section
variable {K : PySem.W.Frag} {S S1 : Sta} {ρ : List (Option Dt)} {te : TE} {d : Dt} {C D1 D2 : Addr} {f : Str} {b : Bool}
end
end Bf
namespace Bf
open PySem PySem.Spec PyProof.Rows L2
/-! ## Loops over a tuple in which draws are made and a list grows -/
section
variable {K : PySem.W.Frag} {S S1 SB SF : Sta} {L : List Addr} {ρ : List (Option Dt)} {P : Po} {te : TE} {w t : TS} {H : Hp} {σ : L2.St}
end
/-! ### _law_moved -/
section
variable {K : PySem.W.Frag} {a : Addr} {c : CT} {cs : List Int} {n : Nat} {ds : List Dt} {C : Addr}
end
end Bf
namespace Bf
open PySem PySem.Spec PyProof.Rows L2
/-! ## The law of bursts -/
section
variable {K : PySem.W.Frag} {a : Addr} {c : CT} {cs : List Int} {n : Nat} {ds : List Dt} {C : Addr}
theorem ea_c {S : Sta} {ρ : List (Option Dt)} {te : TE} {tr : TA} {d : Dt} {ds : List Dt} (h : Ev K S S ρ te (Eq d)) (hr : EvA K S S ρ tr (Eq ds)) : EvA K S S ρ (tCons te tr) (Eq (d :: ds)) := ea_cons h hr
end
end Bf
namespace Bf
open PySem PySem.Spec PyProof.Rows L2
/-! ## Drawn bursts; the law of nearest -/
section
variable {K : PySem.W.Frag} {S S1 S2 SB SF : Sta} {L : List Addr} {ρ : List (Option Dt)} {P : Po} {te ta tb tl : TE} {t : TS} {Φ : Dt → Prop} {a : Addr} {c : CT} {cs : List Int} {n : Nat} {C : Addr}
theorem ev_callDP {t : TA} {Ψ : List Dt → Prop} {k cost : Nat} {pre : List Dt → Prop} {Θ : List Dt → Dt → Prop} {E : XK} (ha : EvA K S (DW K a c cs n) ρ t (fun l => ∃ ds, l = .raw (.ref a) :: ds ∧ Ψ ds)) (hn : ∀ ds, Ψ ds → ds.length = k ∧ pre ds) (hc : cs ≠ []) (hb : n + cost ≤ 1000000) :
    Ev K S (DW K a c cs (n + cost)) ρ (tCall (spD K k pre Θ cost) [] E t) (fun d => ∃ ds, Ψ ds ∧ Θ ds d) := fun σ H i s Q q =>
  ha σ H i s _ fun vs ds' H1 g1 i1 r1 p1 => by
    obtain ⟨ds, rfl, p⟩ := p1
    obtain ⟨hl, hp⟩ := hn ds p
    rw [List.append_nil]
    cases r1 with
    | cons r0 r1 =>
      obtain rfl := r0.rawI
      exact ⟨a, c, cs, n, ds, _, rfl, r1, hl, hp, hc, hb, i1, fun v d H' g i' r p' => q v d H' (g1.trans g) i' r ⟨ds, p, p'⟩⟩
end
section
variable {K : PySem.W.Frag} {a : Addr} {c : CT} {cs : List Int} {n : Nat} {ds : List Dt} {C : Addr}
end
end Bf
namespace Bf
open PySem PySem.Spec PyProof.Rows L2
/-! ## reads -/
section
variable {K : PySem.W.Frag} {S SB : Sta} {L : List Addr} {ρ : List (Option Dt)} {P : Po} {tl : TE} {t : TS}
end
section
variable {K : PySem.W.Frag} {mg : Str → Option Value} {C CB CR CW : Addr} {S : Sta} {ds : List Dt} {d : Dt} {o : Out} {E : XK}
end
end Bf
namespace Bf
open PySem PySem.Spec PyProof.Rows L2
/-! ## The law of reading: drawn bursts, what is refused -/
theorem so_unpP {K : PySem.W.Frag} {S S1 SB SF : Sta} {L : List Addr} {ρ : List (Option Dt)} {P : Po} {te : TE} {w : TS} {n : Nat} {g : TGs} {is : List Nat} {Φ : Dt → Prop} (h : Ev K S S1 ρ te Φ) (hg : g = gNames is) (hx : ∀ d, Φ d → ∃ xs, d = .tup xs ∧ xs.length = n ∧ xs.length = is.length) (q : ∀ xs, Φ (.tup xs) → Sg K S1 SB SF L w (setAll ρ is xs) P) : Sg K S SB SF L (tSeq (tAsg te (gTup K n g)) w) ρ P := fun D σ B H b i s f =>
  h σ H i s _ fun v d H1 g1 i1 r1 p1 => by
    obtain ⟨xs, rfl, hn, hi⟩ := hx d p1
    subst hg
    obtain ⟨a, vs, rfl, ht, ra⟩ := r1.tupI
    exact ⟨a, vs, rfl, ht, ra.len.trans hn, names_run (s.mono g1) ra hi fun σ' s' => q xs p1 D σ' B H1 (b.up g1) i1 s' f⟩
section
variable {K : PySem.W.Frag} {a : Addr} {c : CT} {cs : List Int} {n : Nat} {ds : List Dt} {d : Dt} {C CB : Addr}
end
end Bf
namespace Bf
open PySem PySem.Spec PyProof.Rows L2
/-! ## The end, where the law's def makes lambdas: the script, and the tables of code objects, empty -/
section
variable {P : Program} {w : World} {K : PySem.W.Frag} {mg mb : Str → Option Value} {k : Nat} {fa a : Addr} {fd : FuncData} {x : Str} {sp : Sp} {s₁ : Shared} {vs : List Value} {ns : List Int} {cs : List (Addr × Addr)}
abbrev tabsOf (cs : List (Addr × Addr)) : List Addr := cs.map (·.2)
def OnlyT (cs : List (Addr × Addr)) (H : Hp) : Prop := ∀ b, H b = none ∨ b ∈ tabsOf cs ∨ ∃ o xs, H b = some (.frz o (.lst xs))
abbrev tabO : Obj := { cls := .none, data := .fields #[] }
theorem law_fromT {H : Hp} (KX : K.In s₁.heap) (hns : s₁.heap.Ns mainGlobals mg) (hb : s₁.heap.Ns builtinsNs mb) (hbb : ∀ y : Str, y ≠ "__name__" → mb y = bootBuiltins y) (hlim : s₁.heap.NoLimit) (hg : s₁.gens = #[])
    (hT : ∀ p ∈ cs, s₁.heap.get? p.2 = some tabO) (nT : ∀ p ∈ cs, K.lookup p.2 = none) (hC : ∀ p ∈ cs, PySem.W.CodeHd s₁.heap p.1 p.2)
    (hbm : ∃ (bm : Addr) (ob : Obj), mg "__builtins__" = some (.ref bm) ∧ bm ≠ builtinsNs ∧ s₁.heap.get? bm = some ob ∧ ob.cls = .type "module" ∧ ob.dict = some builtinsNs ∧ ob.data = .plain)
    (ha : s₁.heap.get? a = some { cls := .type "list", data := .seq vs.toArray }) (hr : Room k callerA) (F : ∀ base : Heap, K.In base → base.Ns mainGlobals mg → (∀ p ∈ cs, LamX.TabB base mg p.1 p.2) → GOk P w K mg base k fa fd [x] sp) (hbind : ∀ (s : Shared) (u : Value), BindsTo s fd ⟨[u], []⟩ [(x, u)])
    (hsp : sp [.ref a] H (fun v _ => v = .bl true) fun _ _ _ => False) (hH : ∀ p ∈ cs, H p.2 = some (.tbl #[])) (hO : OnlyT cs H) (hok : HOk P w H s₁.heap) (hA : ∀ b, H b ≠ none → b = a ∨ b ∈ tabsOf cs) (hK : H a ≠ none → K.lookup a = none) :
    codeAny (model P w) callerA (.call (.ref fa) ⟨[.ref a], []⟩) (fun r s' => r = .ok (.ret (.bool true)) ∧ OldK s₁.heap s'.heap ∧ s'.os = s₁.os ∧ AllBare s'.gens) s₁ := by
  have tab_at : ∀ {b}, b ∈ tabsOf cs → s₁.heap.get? b = some tabO := fun {b} z => by
    obtain ⟨p, hp, rfl⟩ := List.mem_map.mp z
    exact hT p hp
  have below : ∀ {b : Addr} {o : Obj}, s₁.heap.get? b = some o → H b = none → (hidT s₁.heap H).get? b = some o := fun e z => hidT_get e z
  -- what is neither a list nor an empty table is not tracked
  have other : ∀ {b : Addr} {o : Obj}, s₁.heap.get? b = some o → (∀ us n, o.data ≠ .seq us n) → o.data ≠ .fields #[] → H b = none := fun {b o} e n1 n2 => by
    cases q : H b with
    | none => rfl
    | some y =>
      rcases hA b (by rw [q]; exact Option.some_ne_none y) with z | z
      · subst z
        rw [ha] at e
        cases e
        exact absurd rfl (n1 _ _)
      · rw [tab_at z] at e
        cases e
        exact absurd rfl n2
  have free : ∀ {b : Addr} {o : Obj} {es : Array DictEntry} {ep : Nat}, s₁.heap.get? b = some o → o.data = .dict es ep → H b = none := fun e d => other e (fun us n z => by rw [d] at z; cases z) fun z => by rw [d] at z; cases z
  have lift : ∀ {b : Addr} {m : Str → Option Value}, s₁.heap.Ns b m → (hidT s₁.heap H).Ns b m := fun {b m} z => by
    obtain ⟨o, es, ep, e, d, r⟩ := z
    exact ⟨o, es, ep, below e (free e d), d, r⟩
  have inK : K.In (hidT s₁.heap H) := fun b o e => below (KX b o e) (by
    cases q : H b with
    | none => rfl
    | some y =>
      rcases hA b (by rw [q]; exact Option.some_ne_none y) with z | z
      · subst z
        rw [hK (by rw [q]; exact Option.some_ne_none y)] at e
        cases e
      · obtain ⟨p, hp, rfl⟩ := List.mem_map.mp z
        rw [nT p hp] at e
        cases e)
  have notG : ∀ {b : Addr} {o : Obj}, s₁.heap.get? b = some o → (∀ es ep, o.data ≠ .dict es ep) → b ≠ mainGlobals := fun {b o} e n z => by
    obtain ⟨o2, es, ep, e2, d, _⟩ := id hns
    rw [z, e2] at e
    cases e
    exact n _ _ d
  have TB : ∀ p ∈ cs, LamX.TabB (hidT s₁.heap H) mg p.1 p.2 := fun p hp => by
    refine ⟨?_, ?_, fun z => notG (hT p hp) (fun _ _ y => nomatch y) z.symm⟩
    · obtain ⟨o, us, file, tf, flags, tg, inF, text, tt, e1, r1, r2, r3, r⟩ := hC p hp
      have n2 : o.data ≠ .fields #[] := fun z => by
        rw [r2] at z
        cases z
        simp at r3
      exact ⟨o, us, file, tf, flags, tg, inF, text, tt, below e1 (other e1 (fun _ _ z => by rw [r2] at z; cases z) n2), r1, r2, r3, r⟩
    · obtain ⟨bm, ob, b1, b2, b3, b4, b5, b6⟩ := hbm
      have nP : bm ≠ p.2 := fun q => by
        rw [q, hT p hp] at b3
        cases b3
        cases b6
      exact ⟨bm, ob, b1, b2, notG b3 (fun _ _ z => by rw [b6] at z; cases z), nP, below b3 (other b3 (fun _ _ z => by rw [b6] at z; cases z) fun z => by rw [b6] at z; cases z), b4, b5, b6⟩
  obtain ⟨mc, l1, l2⟩ := hlim
  have e0 : Env0 P w K mg (hidT s₁.heap H) callerA [] s₁ H :=
    ⟨rfl, ⟨inK, lift hns, ⟨mb, lift hb, hbb⟩, ⟨mc, lift l1, l2⟩⟩, fun b o e => of_hidT e, Nat.le_of_eq (hidT_size _ _), trivial, fun b z => absurd (show b ∈ ([] : List Addr) from z) (by simp), hok, .of_eq hg⟩
  have run := (F _ inK (lift hns) TB).go callerA [] s₁ H ⟨[.ref a], []⟩ [.ref a] [.ref a] _ _ hr rfl e0 (hbind s₁ (.ref a)) (.cons rfl .nil) hsp
  refine codeAny_mono run fun r s' h => ?_
  match r, h with
  | .error e, h =>
    obtain ⟨_, _, _, _, _, _, _, _, _, _, _, _, z⟩ := h
    exact z.elim
  | .ok .next, h => exact h.elim
  | .ok .brk, h => exact h.elim
  | .ok .cont, h => exact h.elim
  | .ok (.ret u), h =>
    obtain ⟨v, H', os, bare, un, hok', rv, q⟩ := h
    obtain rfl : v = V.bl true := q
    obtain rfl : u = Value.bool true := rv
    have same : ∀ {b : Addr} {o : Obj}, b ∉ tabsOf cs → s₁.heap.get? b = some o → s'.heap.get? b = some o := fun {b o} nb e => by
      rcases hO b with z | z | ⟨ob, ys, z⟩
      · exact un.keep b o e z (fun y => absurd (show b ∈ ([] : List Addr) from y) (by simp)) (by simp)
      · exact absurd z nb
      · obtain ⟨e1, _⟩ := hok b _ z
        obtain ⟨e2, _⟩ := hok' b _ (un.frzs b ob _ z)
        rw [e] at e1
        cases e1
        exact e2
    have more : ∀ p ∈ cs, ∃ ps : Array Value, s'.heap.get? p.2 = some { cls := .none, data := .fields ps } := fun p hp => by
      obtain ⟨ps, z⟩ := un.tbls p.2 #[] (hH p hp)
      exact ⟨_, hok' p.2 _ z⟩
    refine ⟨rfl, ⟨fun b o e => ?_, fun b o e => ?_⟩, os, bare⟩
    · by_cases nb : b ∈ tabsOf cs
      · obtain ⟨p, hp, rfl⟩ := List.mem_map.mp nb
        obtain ⟨ps, z⟩ := more p hp
        rw [hT p hp] at e
        cases e
        exact .inr (.inl ⟨((hC p hp).tab (hT p hp)).isCodeTable, rfl, #[], ps, rfl, by rw [Array.empty_append]; exact z⟩)
      · exact .inl (same nb e)
    · by_cases nb : b ∈ tabsOf cs
      · obtain ⟨p, hp, rfl⟩ := List.mem_map.mp nb
        obtain ⟨ps, z⟩ := more p hp
        exact ⟨_, z⟩
      · exact ⟨o, same nb e⟩
theorem law_callGT (KX : K.In s₁.heap) (hns : s₁.heap.Ns mainGlobals mg) (hb : s₁.heap.Ns builtinsNs mb) (hbb : ∀ y : Str, y ≠ "__name__" → mb y = bootBuiltins y) (hlim : s₁.heap.NoLimit) (hg : s₁.gens = #[])
    (hT : ∀ p ∈ cs, s₁.heap.get? p.2 = some tabO) (nT : ∀ p ∈ cs, K.lookup p.2 = none) (hC : ∀ p ∈ cs, PySem.W.CodeHd s₁.heap p.1 p.2)
    (hbm : ∃ (bm : Addr) (ob : Obj), mg "__builtins__" = some (.ref bm) ∧ bm ≠ builtinsNs ∧ s₁.heap.get? bm = some ob ∧ ob.cls = .type "module" ∧ ob.dict = some builtinsNs ∧ ob.data = .plain)
    (ha : s₁.heap.get? a = some { cls := .type "list", data := .seq vs.toArray }) (hi : IntsAre vs ns) (hl : ns.length ≤ sizeLine) (hr : Room k callerA) (F : ∀ base : Heap, K.In base → base.Ns mainGlobals mg → (∀ p ∈ cs, LamX.TabB base mg p.1 p.2) → GOk P w K mg base k fa fd [x] sp)
    (hbind : ∀ (s : Shared) (u : Value), BindsTo s fd ⟨[u], []⟩ [(x, u)]) (hsp : ∀ H : Hp, (∀ p ∈ cs, H p.2 = some (.tbl #[])) → SqL K H a (ns.map V.int) → sp [.ref a] H (fun v _ => v = .bl true) fun _ _ _ => False) :
    codeAny (model P w) callerA (.call (.ref fa) ⟨[.ref a], []⟩) (fun r s' => r = .ok (.ret (.bool true)) ∧ OldK s₁.heap s'.heap ∧ s'.os = s₁.os ∧ AllBare s'.gens) s₁ := by
  have rv := vals_ints hi
  have lv := hi.length
  have tab_at : ∀ {b}, b ∈ tabsOf cs → s₁.heap.get? b = some tabO := fun {b} z => by
    obtain ⟨p, hp, rfl⟩ := List.mem_map.mp z
    exact hT p hp
  have na : a ∉ tabsOf cs := fun z => by
    have y := tab_at z
    rw [ha] at y
    exact nomatch (show Data.seq vs.toArray _ = Data.fields #[] from congrArg Obj.data (Option.some.inj y))
  have isT : ∀ p ∈ cs, p.2 ∈ tabsOf cs := fun p hp => List.mem_map.mpr ⟨p, hp, rfl⟩
  cases hk : K.lookup a with
  | some o =>
    have e := KX a o hk
    rw [ha] at e
    cases e
    let H : Hp := fun b => if b ∈ tabsOf cs then some (.tbl #[]) else none
    have t1 : ∀ {b}, b ∈ tabsOf cs → H b = some (.tbl #[]) := fun h => if_pos h
    have t2 : ∀ {b}, b ∉ tabsOf cs → H b = none := fun h => if_neg h
    refine law_fromT (H := H) KX hns hb hbb hlim hg hT nT hC hbm ha hr F hbind (hsp H (fun p hp => t1 (isT p hp)) (.inr ⟨_, vs.toArray, _, hk, rfl, rfl, rfl, by rw [List.size_toArray, lv]; exact hl, by simpa using rv⟩)) (fun p hp => t1 (isT p hp)) (fun b => ?_) (fun b u z => ?_) (fun b z => ?_) fun z => absurd (t2 na) z
    · by_cases h : b ∈ tabsOf cs
      · exact .inr (.inl h)
      · exact .inl (t2 h)
    · by_cases h : b ∈ tabsOf cs
      · rw [t1 h] at z
        cases z
        exact tab_at h
      · rw [t2 h] at z
        cases z
    · by_cases h : b ∈ tabsOf cs
      · exact .inr h
      · exact absurd (t2 h) z
  | none =>
    let H : Hp := fun b => if b = a then some (.frz { cls := .type "list", data := .seq vs.toArray } (.lst (ns.map V.int))) else if b ∈ tabsOf cs then some (.tbl #[]) else none
    have t0 : H a = some (.frz { cls := .type "list", data := .seq vs.toArray } (.lst (ns.map V.int))) := if_pos rfl
    have t1 : ∀ {b}, b ∈ tabsOf cs → H b = some (.tbl #[]) := fun {b} h => (if_neg (fun z : b = a => na (z ▸ h))).trans (if_pos h)
    have t2 : ∀ {b}, b ≠ a → b ∉ tabsOf cs → H b = none := fun h0 h => (if_neg h0).trans (if_neg h)
    refine law_fromT (H := H) KX hns hb hbb hlim hg hT nT hC hbm ha hr F hbind (hsp H (fun p hp => t1 (isT p hp)) (.inl (.inr ⟨_, t0⟩))) (fun p hp => t1 (isT p hp)) (fun b => ?_) (fun b u z => ?_) (fun b z => ?_) fun _ => hk
    · by_cases h0 : b = a
      · subst h0
        exact .inr (.inr ⟨_, _, t0⟩)
      · by_cases h : b ∈ tabsOf cs
        · exact .inr (.inl h)
        · exact .inl (t2 h0 h)
    · by_cases h0 : b = a
      · subst h0
        rw [t0] at z
        cases z
        exact ⟨ha, by rw [List.length_map]; exact hl, vs, _, rv, ha⟩
      · by_cases h : b ∈ tabsOf cs
        · rw [t1 h] at z
          cases z
          exact tab_at h
        · rw [t2 h0 h] at z
          cases z
    · by_cases h0 : b = a
      · exact .inl h0
      · by_cases h : b ∈ tabsOf cs
        · exact .inr h
        · exact absurd (t2 h0 h) z
end
/-- what k_head leaves, from the law's promise -/
theorem walk_gT {l : PySem.W.OpenLaw} {n k : Nat} {q : Program} {loose : List Str} {XP : (Str → Option Value) → Heap → Prop} {YP : World → Heap → Prop} {d : DefRec} {K : Params → PySem.W.Frag} {sp : List (Addr × Addr) → PySem.W.Frag → Sp} {x : Str}
    (hn : l.most = some n) (hn2 : n ≤ sizeLine) (hdf : d.params.defaults = []) (hr : Room k callerA) (hY : ∀ (w : World) (h : Heap), YP w h → (K w.params).In h)
    (F : ∀ (w : World) (mg : Str → Option Value) (fa : Addr) (h : Heap), YP w h → (K w.params).In h → h.Ns mainGlobals mg → mg d.name = some (.ref fa) →
      ∃ (fd : FuncData) (cs : List (Addr × Addr)), (∀ p ∈ cs, h.get? p.2 = some tabO) ∧ (∀ p ∈ cs, (K w.params).lookup p.2 = none) ∧ (∀ p ∈ cs, PySem.W.CodeHd h p.1 p.2) ∧ (∀ (s : Shared) (u : Value), BindsTo s fd ⟨[u], []⟩ [(x, u)]) ∧
        ∀ base : Heap, (K w.params).In base → base.Ns mainGlobals mg → (∀ p ∈ cs, LamX.TabB base mg p.1 p.2) → GOk l.prog w (K w.params) mg base k fa fd [x] (sp cs (K w.params)))
    (hsp : ∀ (cs : List (Addr × Addr)) (K : PySem.W.Frag) (H : Hp) (a : Addr) (ns : List Int), ns.length ≤ n → (∀ p ∈ cs, H p.2 = some (.tbl #[])) → SqL K H a (ns.map V.int) → sp cs K [.ref a] H (fun v _ => v = .bl true) fun _ _ _ => False) :
    PySem.W.WalkO q loose XP YP l.row.toRowW d [] (fun f vs => PySem.call f vs) := by
  refine Att.attach_call hn hdf fun w s₀ s₁ mg mb fa o pm cd doc a vs ns G Y ho hd hcd hmg hobj hints hlen hg => ?_
  have KX := hY w _ Y
  obtain ⟨fd, cs, hT, nT, hC, hb, hF⟩ := F w mg fa _ Y KX G.T.g hmg
  exact law_callGT KX G.T.g G.T.b G.T.builtins G.T.nolimit hg hT nT hC G.T.bmain hobj hints (Nat.le_trans hlen hn2) hr hF hb fun H hH hS => hsp cs _ H a ns hlen hH hS
/-- the law's promise, the tables empty to begin with -/
def spLawT (cs : List (Addr × Addr)) (K : PySem.W.Frag) : Sp := fun vs H Q _ => ∃ (s : Addr) (ns : List Int), vs = [.ref s] ∧ SqL K H s (ns.map V.int) ∧ ns.length ≤ 63 ∧ (∀ p ∈ cs, H p.2 = some (.tbl #[])) ∧ ∀ H', Q (.bl true) H'
end Bf
namespace Bf
open PySem PySem.Spec PyProof.Rows L2
section
variable {K : PySem.W.Frag} {S SB SF : Sta} {L : List Addr} {ρ : List (Option Dt)} {P : Po} {tl : TE} {t : TS}
end
section
variable {K : PySem.W.Frag} {S S1 SB SF : Sta} {L : List Addr} {ρ : List (Option Dt)} {P : Po} {te : TE} {w : TS} {xs : List Dt}
end
section
variable {K : PySem.W.Frag} {a : Addr} {c : CT} {cs : List Int} {CB CR C : Addr}
end
end Bf
namespace Bf
open PySem PySem.Spec PyProof.Rows L2
/-! ## Styles, moments, rows -/
section
variable {K : PySem.W.Frag} {S S1 : Sta} {ds : List Dt} {ρ : List (Option Dt)} {o : Out} {E : XK} {CN CS CR : Addr}
/-! ### those that refuse -/
end
end Bf
namespace Bf
open PySem PySem.Spec PyProof.Rows L2
theorem so_re {K : PySem.W.Frag} {S SB SF : Sta} {L : List Addr} {ρ ρ' : List (Option Dt)} {P : Po} {w : TS} (e : ρ = ρ') (h : Sg K S SB SF L w ρ' P) : Sg K S SB SF L w ρ P := e ▸ h
section
variable {K : PySem.W.Frag} {a : Addr} {c : CT} {cs : List Int} {CN CR C : Addr}
end
end Bf
namespace Bf
open PySem PySem.Spec PyProof.Rows L2
/-! ## A list that grows once, right where it is made -/
section
variable {K : PySem.W.Frag} {S SB SF : Sta} {L : List Addr} {ρ : List (Option Dt)} {P : Po} {te : TE} {ta : TA} {w : TS} {d : Dt} {xs : List Dt} {j : Nat}
end
/-! ### an error is told of by its kind and by what it was given -/
structure Ten where
  ratio : Addr
  table : Addr
  word : Addr
  burst : Addr
  receiver : Addr
  number : Addr
  paper : Addr
  style : Addr
  row : Addr
  text : Addr
def Ten.l (t : Ten) : List Addr := [t.ratio, t.table, t.word, t.burst, t.receiver, t.number, t.paper, t.style, t.row, t.text]
/-- C is the one at i, and no other -/
structure IsTen (K : PySem.W.Frag) (t : Ten) (C : Addr) (i : Nat) : Prop where
  at_ : t.l[i]? = some C
  is_ : ∀ j D, j < 9 → t.l[j]? = some D → PySem.W.kitOne K (.ref C) (.ref D) = some (decide (j = i))
  ex : PySem.W.exmAny K (.ref C) (t.l.map Value.ref) = some true
section
variable {K : PySem.W.Frag} {S S1 : Sta} {ds : List Dt} {ρ : List (Option Dt)} {o : Out} {E : XK} {CN CS CR : Addr} {a : Dt} {t : Ten}
end
/-! ### what is said -/
section
variable {K : PySem.W.Frag} {S S1 : Sta} {ds : List Dt} {ρ : List (Option Dt)} {o : Out} {E : XK} {d : Dt} {t : Ten}
end
end Bf
namespace Bf
open PySem PySem.Spec PyProof.Rows L2
mutual
theorem gd_pl : ∀ (n : Nat) (d : Dt), gd n d = true → pl d = true
  | _, .non, _ => rfl
  | _, .bl _, _ => rfl
  | _, .int _, _ => rfl
  | _, .str _, _ => rfl
  | n + 1, .lst xs, h => by
    simp only [gd, Bool.and_eq_true] at h
    unfold pl
    exact gdA_pl n xs h.1
  | n + 1, .tup xs, h => by
    simp only [gd, Bool.and_eq_true] at h
    unfold pl
    exact gdA_pl n xs h.1
  | 0, .lst xs, h => by simp [gd] at h
  | 0, .tup xs, h => by simp [gd] at h
  | n, .dic, h => by simp [gd] at h
  | n, .ins _ _ _, h => by simp [gd] at h
  | n, .raw _, h => by simp [gd] at h
  | n, .lat _ _, h => by simp [gd] at h
  | n, .err _ _ _, h => by simp [gd] at h
  | n, .dct _ _, h => by simp [gd] at h
  | n, .dti _ _ _, h => by simp [gd] at h
  | n, .dat _ _ _ _, h => by simp [gd] at h
  | n, .cel _ _, h => by simp [gd] at h
theorem gdA_pl : ∀ (n : Nat) (xs : List Dt), gdA n xs = true → plA xs = true
  | _, [], _ => rfl
  | n, x :: xs, h => by
    simp only [gdA, Bool.and_eq_true] at h
    unfold plA
    rw [gd_pl n x h.1, gdA_pl n xs h.2]
    rfl
end
section
variable {K : PySem.W.Frag} {S S1 : Sta} {ds : List Dt} {ρ : List (Option Dt)} {d : Dt}
end
end Bf
namespace Bf
open PySem PySem.Spec PyProof.Rows L2
/-! ### what is due of a row -/
section
variable {K : PySem.W.Frag} {S S1 : Sta} {ds : List Dt} {ρ : List (Option Dt)} {d : Dt}
end
/-! ### repr, where an empty dict may stand -/
def rReprX (K : PySem.W.Frag) : List V → Hp → VK → Prop := fun xs H Q => rRepr K xs H Q ∨ ∃ (a b : Addr) (n : Str), xs = [.ref a] ∧ SqT K H a [.str n, .ref b] ∧ H b = some (.dK []) ∧ n.cps.all (· < 0x110000) = true ∧ n.cps.size ≤ 40 ∧ Q (.str (PyData.tuple [.str n, .dict []]).shown) H
theorem shown_nd {n : Str} (h2 : n.cps.size ≤ 40) : (PyData.tuple [.str n, .dict []]).leavesShort 13 = true → (PyData.tuple [.str n, .dict []]).shown.length ≤ sizeLine := fun h =>
  PyData.shown_fits (B := 13) (by decide) (by decide) h (by simp only [PyData.weight, PyData.weightAll, PyData.weightKv]; omega)
theorem call_reprX {X : Cx} (hg : X.A.guards = some []) (hu : X.A.units + 70 < cLine) : CallR X (.builtin "repr") (rReprX X.K) := by
  intro pins s σ H xs us Q I r h
  rcases h with h | ⟨a, b, n, rfl, ha, hb, n1, n2, q⟩
  · exact call_reprD hg hu pins s σ H xs us Q I r h
  obtain ⟨u, rfl, ru⟩ := vals1 r
  obtain rfl : u = Value.ref a := ru
  obtain ⟨its, rv, ⟨⟨cls, dd, data, sl⟩, ho, hc, m, hd⟩, _⟩ := I.tuple ha
  simp only at hc hd
  subst hc hd
  cases rv with
  | cons r1 r2 =>
    cases r2 with
    | cons r3 r4 =>
      cases r4
      obtain ⟨t, rfl⟩ := r1
      rename_i w2
      obtain rfl : w2 = Value.ref b := r3
      obtain ⟨_, hsm, vs, hkv, hdo⟩ := show ObjOk X.prog X.w H s.heap b (.dK []) from I.hok b _ hb
      obtain ⟨o, es, ep, hob, hex, hod, _, hps, _⟩ := hdo
      cases hkv
      have hes : es.toList = [] := by
        generalize es.toList = l at hps
        cases hps
        rfl
      have hoc : o.cls = .type "dict" := hex.1
      have rd2 : Reads s.heap (.ref b) (.dict []) [b] := by
        have := Reads.dict (h := s.heap) (a := b) (kvs := []) (as := []) (bs := []) hob hoc hod (by rw [hes]; exact .nil) (by rw [hes]; exact .nil)
        exact this
      have rd1 : Reads s.heap (.ref a) (.tuple [.str n, .dict []]) ([] ++ ([b] ++ [])) := .tuple ho rfl rfl (.cons (.str n t) (.cons rd2 .nil))
      have hlv : (PyData.tuple [.str n, .dict []]).leavesShort 13 = true := by
        have := PyData.leavesShort_of_canLay0 13 (.str n) (by simp only [PyData.canLay0, PyData.strOk]; exact n1) rfl
        simp only [PyData.leavesShort, PyData.leavesShortAll, PyData.leavesShortKv, Bool.and_true] at this ⊢
        exact this
      refine repr_of_reads' rd1 rfl (fun _ hm => ?_) hg (by show X.A.units + (2 + 1) < cLine; omega) (fun _ _ e => e) (fun h' u tk hk => ⟨.str _, H, I.kept (t' := tk) hk, ⟨_, rfl⟩, q⟩) (shown_nd n2 hlv)
      have : sysModules = b := by simpa using hm
      rw [this] at hsm
      simp at hsm
theorem rc_reprX {K : PySem.W.Frag} {S : Sta} {d : Dt} (h : shwOk d) : RvC K S (rReprX K) [d] (Eq (.str (py d).shown)) := fun H vs i r Q q => .inl (rc_repr h H vs i r Q q)
end Bf
namespace Bf
open PySem PySem.Spec PyProof.Rows L2
/-! ## The draws -/
section
variable {K : PySem.W.Frag} {S S1 SB SF : Sta} {L : List Addr} {ρ : List (Option Dt)} {P : Po} {t w : TS} {ta : TA}
end
section
variable {K : PySem.W.Frag} {a : Addr} {c : CT} {cs : List Int} {n : Nat} {ds : List Dt}
end
/-! ### a style -/
/-! ### an odd row -/
section
variable {K : PySem.W.Frag} {a : Addr} {c : CT} {cs : List Int} {n : Nat} {ds : List Dt}
end
end Bf
namespace Bf
open PySem PySem.Spec PyProof.Rows L2
/-! ## One moment on -/
inductive Sy where
  | short
  | toggle
  | same (k : Int)
def Sy.d : Sy → Dt
  | .short => .tup [.str "short"]
  | .toggle => .tup [.str "toggle"]
  | .same k => .tup [.str "same", .int k]
def Sy.n : Sy → Str
  | .short => "short"
  | .toggle => "toggle"
  | .same _ => "same"
def Sy.ok : Sy → Prop
  | .same k => 0 ≤ k ∧ k ≤ 9
  | _ => True
inductive Mo where
  | rest
  | press (b : Int) (h : Bool)
  | hold (h : Bool)
def Mo.d : Mo → Dt
  | .rest => .tup [.str "rest"]
  | .press b h => .tup [.str "press", .int b, .bl h]
  | .hold h => .tup [.str "hold", .bl h]
def Mo.n : Mo → Str
  | .rest => "rest"
  | .press _ _ => "press"
  | .hold _ => "hold"
/-- a frame is heard -/
def Mo.hd : Mo → Bool
  | .press _ h => h
  | .hold h => h
  | .rest => false
structure La where
  b : Int
  m : Int
  age : Int
  th : Bool
def La.d (l : La) : Dt := .tup [.int l.b, .int l.m, .int l.age, .bl l.th]
def laD : Option La → Dt
  | none => .non
  | some l => l.d
def boD : Option Int → Dt
  | none => .non
  | some b => .int b
structure St1 where
  bo : Option Int
  mr : Int
  la : Option La
def St1.d (s : St1) : Dt := .tup [boD s.bo, .int s.mr, laD s.la]
section
variable {K : PySem.W.Frag} {S S1 S2 : Sta} {ds : List Dt} {ρ : List (Option Dt)} {d : Dt} {te : TE}
end
end Bf
namespace Bf
open PySem PySem.Spec PyProof.Rows L2
/-! ## The law of styles and rows -/
section
variable {K : PySem.W.Frag} {S S1 : Sta} {ρ : List (Option Dt)} {tl : TA} {n m : Nat} {ds es : List Dt} {R : List Dt → Out → Prop} {E : XK} {d x : Dt} {o : Out} {T : List (Addr × Str)} {RR : Out → Dt → Prop}
end
section
variable {K : PySem.W.Frag} {a : Addr} {c : CT} {cs : List Int} {t : Ten}
end
end Bf
namespace Bf
open PySem PySem.Spec PyProof.Rows L2
/-! ## A row of moments -/
section
variable {K : PySem.W.Frag} {S : Sta} {ds : List Dt} {o : Out} {E : XK} {CS CN CR p : Addr}
end
end Bf
namespace Bf
open PySem PySem.Spec PyProof.Rows L2
/-! ## Lists: three new ones, one made anew among loose ones, a list times a number -/
section
variable {K : PySem.W.Frag} {S S1 S2 SB SF : Sta} {L : List Addr} {ρ : List (Option Dt)} {P : Po} {te tb : TE} {ta : TA} {w : TS} {xs : List Dt} {d : Dt}
end
end Bf
namespace Bf
open PySem PySem.Spec PyProof.Rows L2
/-! ## Errors as values: made by place or by keyword -/
section
variable {P : Program} {w : World} {fs ex : List Addr} {H : Hp} {h h' : Heap} {a b : Addr} {o u : HO}
end
/-- what is known of the class at C, an own error over any base -/
structure ErrCls (B newId initId : String) (bmB : List Value) (rf : List Value → Bool) (prog : Program) (K : PySem.W.Frag) (mg : Str → Option Value) (x f : Str) (C fI : Addr) : Prop where
  O : BaseOf B newId initId bmB rf
  T : ErrTxt B newId initId rf prog K f C fI
  gC : mg x = some (.ref C)
  kC : PySem.W.keepIn K (.ref C) = true
  ms : mg "super" = none
  top : (prog.main.scope.names.lookup ("super" : Str)).isSome = false
  fn : f ≠ "self" ∧ f ≠ "super" ∧ f ≠ "__class__" ∧ f ≠ "__debug__"
section
variable {X : Cx} {B newId initId : String} {bmB : List Value} {rf : List Value → Bool} {C fI : Addr} {x f : Str}
end
/-! ### isinstance of an error, any class -/
inductive RelC : V → Value → Prop
  | own (C : Addr) : RelC (.ref C) (.ref C)
  | ty (n : String) : RelC (.ty n) (.type n)
section
variable {K : PySem.W.Frag} {S S1 : Sta} {ρ : List (Option Dt)} {te : TE} {ta : TA} {d : Dt} {C : Addr} {f : Str} {b : Bool} {y : V} {y' : Value}
end
/-! ### new lists that are not sys.modules -/
section
variable {K : PySem.W.Frag} {S S1 S2 : Sta} {ρ : List (Option Dt)} {te tb : TE} {ta : TA} {xs ys : List Dt}
end
/-! ### repr of a list that holds empty dicts -/
section
variable {K : PySem.W.Frag} {S : Sta} {d : Dt}
end
end Bf
namespace Bf
open PySem PySem.Spec PyProof.Rows L2
/-! ## The law of made errors -/
/-- the classes by their numbers, the two families -/
structure E11 where
  c0 : Addr
  c1 : Addr
  c2 : Addr
  c3 : Addr
  c4 : Addr
  c5 : Addr
  c6 : Addr
  c7 : Addr
  c8 : Addr
  c9 : Addr
  c10 : Addr
  fr : Addr
  st : Addr
abbrev E11.cs (t : E11) : List Addr := [t.c0, t.c1, t.c2, t.c3, t.c4, t.c5, t.c6, t.c7, t.c8, t.c9, t.c10]
def E11.c (t : E11) : Nat → Addr
  | 0 => t.c0 | 1 => t.c1 | 2 => t.c2 | 3 => t.c3 | 4 => t.c4 | 5 => t.c5 | 6 => t.c6 | 7 => t.c7 | 8 => t.c8 | 9 => t.c9 | _ => t.c10
structure IsE (K : PySem.W.Frag) (t : E11) : Prop where
  own : ∀ k, k < 11 → ∀ j, j < 11 → PySem.W.kitOne K (.ref (t.c k)) (.ref (t.c j)) = some (decide (k = j))
  fr : ∀ k, k < 11 → PySem.W.kitOne K (.ref (t.c k)) (.ref t.fr) = some (decide (k < 10))
  ve : ∀ k, k < 11 → PySem.W.kitOne K (.ref (t.c k)) (.type "ValueError") = some (decide (k < 10))
  st : ∀ k, k < 11 → PySem.W.kitOne K (.ref (t.c k)) (.ref t.st) = some (decide (k = 10))
  re : ∀ k, k < 11 → PySem.W.kitOne K (.ref (t.c k)) (.type "RuntimeError") = some (decide (k = 10))
/-! ### rules -/
section
variable {K : PySem.W.Frag} {S S1 SB : Sta} {L : List Addr} {ρ : List (Option Dt)} {P : Po} {te tl : TE} {ta : TA} {t : TS} {vs : List Nat} {j j1 j2 : Nat} {xs : List Dt}
end
/-! ### the law's defs -/
section
variable {K : PySem.W.Frag} {S S1 : Sta} {ρ : List (Option Dt)} {ds : List Dt} {d : Dt} {t : E11}
end
end Bf
namespace Bf
open PySem PySem.Spec PyProof.Rows L2
/-! ## A list that stays, known by its place; len of a text; the words of a text -/
section
variable {K : PySem.W.Frag} {S S1 SB SF : Sta} {L : List Addr} {ρ : List (Option Dt)} {P : Po} {te : TE} {t : TS} {d : Dt} {q : Addr} {vs : List V} {j : Nat} {xs : List Dt} {a : Str} {E : XK} {C : Addr} {f : Str}
theorem XW.le {S' : Sta} (h : XW K S C f d E) (l : S'.Le S) : XW K S' C f d E := fun a v H' i => h a v H' (l _ i)
theorem rc_lenS (hz : a.length ≤ sizeLine) : RvC K S rLenS [.str a] (Eq (.int (a.length : Nat))) := rc_at fun H vs i r Q q => by
  obtain ⟨v, rfl, r1⟩ := r.oneI
  obtain rfl := r1.strI
  exact ⟨a, rfl, hz, q _ (.int _)⟩
end
/-! ### the words of a text -/
theorem spl_sum (s : Nat) : ∀ (l acc : List Nat), ((TL.spl [s] 0 acc l).map List.length).sum + (TL.spl [s] 0 acc l).length = acc.length + l.length + 1
  | [], acc => by simp [TL.spl]
  | c :: r, acc => by
    by_cases e : c = s
    · subst e
      rw [TL.spl_hit (by simp [TL.pre])]
      have := spl_sum c r []
      simp only [List.map_cons, List.sum_cons, List.length_cons, List.length_nil, Nat.sub_self] at this ⊢
      omega
    · rw [TL.spl_miss (TL.pre_of_head _ _ e)]
      have := spl_sum s r (acc ++ [c])
      simp only [List.length_append, List.length_cons, List.length_nil] at this ⊢
      omega
theorem sum_mem {l : List Nat} {n : Nat} (h : n ∈ l) : n ≤ l.sum := by
  induction l with
  | nil => cases h
  | cons x l ih =>
    rw [List.sum_cons]
    rcases List.mem_cons.mp h with rfl | h
    · omega
    · have := ih h
      omega
/-- words that are few and short -/
def wdOk (ws : List Str) : Prop := ws.length ≤ 1000 ∧ ∀ w ∈ ws, w.length ≤ 1000
theorem wdOk.tail {w : Str} {ws : List Str} (h : wdOk (w :: ws)) : wdOk ws := ⟨by have := h.1; rw [List.length_cons] at this; omega, fun v hv => h.2 v (List.mem_cons_of_mem _ hv)⟩
abbrev dS (ws : List Str) : Dt := .lst (ws.map Dt.str)
theorem dS_at {ws : List Str} {i : Nat} {x : Dt} (h : (ws.map Dt.str)[i]? = some x) : ∃ w, ws[i]? = some w ∧ x = .str w := by
  rw [List.getElem?_map] at h
  obtain ⟨w, hw, e⟩ := Option.map_eq_some_iff.mp h
  exact ⟨w, hw, e.symm⟩
end Bf
namespace Bf
open PySem PySem.Spec PyProof.Rows L2
/-! ## _law_moved: how far each item is off -/
def nearW (r : Fq) (bs : List Fq) (fs : List Int) : Prop := ∀ q ∈ bs.zip fs, lessP (4 * r.1, 3 * r.2) (offP q.1 q.2) = false
theorem nearW.snoc {r b : Fq} {bs : List Fq} {fs : List Int} {s : Int} (h : nearW r bs fs) (hl : bs.length = fs.length) (hb : lessP (4 * r.1, 3 * r.2) (offP b s) = false) : nearW r (bs ++ [b]) (fs ++ [s]) := fun q hq => by
  rw [List.zip_append hl] at hq
  rcases List.mem_append.mp hq with hq | hq
  · exact h q hq
  · have : q = (b, s) := by simpa using hq
    rw [this]
    exact hb
section
variable {K : PySem.W.Frag} {a : Addr} {c : CT} {cs : List Int} {n : Nat} {ds : List Dt} {C : Addr}
end
end Bf
namespace Bf
open PySem PySem.Spec PyProof.Rows L2
/-! ## Defs with lists and dicts of their own: F is the heap without what may change -/
/-- what may change -/
def mutk : HO → Bool
  | .lst _ => true
  | .dK _ => true
  | .dT _ => true
  | .ext _ => true
  | _ => false
/-- F within H, since Fb within Hb -/
structure Vw (Hb Fb F H : Hp) : Prop where
  bF : Same Fb F
  bH : Same Hb H
  fH : Same F H
  off : ∀ a o, Hb a = some o → F a = Fb a
  mu : ∀ a o, H a = some o → F a = none → mutk o = true
/-- all that is new belongs to F, but for p -/
def grow (F H H' : Hp) (p : Option Addr) : Hp := fun a => if p = some a then none else match H a with
  | none => H' a
  | some _ => F a
section
variable {K : PySem.W.Frag} {Hb Fb F F' H H' : Hp} {p : Addr} {o : HO} {v : V} {d : Dt} {vs : List V} {ds : List Dt}
theorem grow_old {a : Addr} {q : Option Addr} (hq : q ≠ some a) (h : H a = some o) : grow F H H' q a = F a := by
  unfold grow
  rw [if_neg hq, h]
theorem grow_new {a : Addr} {q : Option Addr} (hq : q ≠ some a) (h : H a = none) : grow F H H' q a = H' a := by
  unfold grow
  rw [if_neg hq, h]
theorem Vw.grow {q : Option Addr} (V : Vw Hb Fb F H) (s : Same H H') (hq : ∀ a, q = some a → H a = none ∧ ∃ u, H' a = some u ∧ mutk u = true) : Vw Hb Fb (grow F H H' q) H' := by
  have hq1 : ∀ {a u}, H a = some u → q ≠ some a := fun {a u} e z => by
    have := (hq a z).1
    rw [e] at this
    cases this
  refine ⟨fun a u e => ?_, fun a u e => s _ _ (V.bH a u e), fun a u e => ?_, fun a u e => ?_, fun a u e1 e2 => ?_⟩
  · have h1 := V.bF a u e
    have h2 := V.fH a u h1
    rw [grow_old (hq1 h2) h2]
    exact h1
  · by_cases hz : q = some a
    · unfold Bf.grow at e
      rw [if_pos hz] at e
      cases e
    · cases h : H a with
      | none => rw [grow_new hz h] at e; exact e
      | some w => rw [grow_old hz h] at e; exact s _ _ (V.fH a u e)
  · have h2 := V.bH a u e
    rw [grow_old (hq1 h2) h2]
    exact V.off a u e
  · by_cases hz : q = some a
    · obtain ⟨_, u', e', m⟩ := hq a hz
      rw [e1] at e'
      cases e'
      exact m
    · cases h : H a with
      | none => rw [grow_new hz h, e1] at e2; cases e2
      | some w =>
        rw [grow_old hz h] at e2
        have := s _ _ h
        rw [e1] at this
        cases this
        exact V.mu a u h e2
/-- the object at p is another one -/
theorem Vw.put (V : Vw Hb Fb F H) (h1 : Hb p = none) (h2 : F p = none) (m : mutk o = true) : Vw Hb Fb F (upd H p o) :=
  ⟨V.bF, fun a u e => by rw [upd_ne (ne_of_none e h1)]; exact V.bH a u e, fun a u e => by rw [upd_ne (ne_of_none e h2)]; exact V.fH a u e, V.off, fun a u e1 e2 => by
    by_cases h : a = p
    · subst h
      rw [upd_same] at e1
      cases e1
      exact m
    · rw [upd_ne h] at e1
      exact V.mu a u e1 e2⟩
/-- p does not change any more -/
theorem Vw.frz (V : Vw Hb Fb F H) (h1 : Hb p = none) (h2 : F p = none) (h : H p = some o) : Vw Hb Fb (upd F p o) H :=
  ⟨fun a u e => by rw [upd_ne (ne_of_none (V.bF a u e) h2)]; exact V.bF a u e, V.bH, fun a u e => by
    by_cases z : a = p
    · subst z
      rw [upd_same] at e
      cases e
      exact h
    · rw [upd_ne z] at e
      exact V.fH a u e, fun a u e => by rw [upd_ne (ne_of_none e h1)]; exact V.off a u e, fun a u e1 e2 => by
    by_cases z : a = p
    · subst z
      rw [upd_same] at e2
      cases e2
    · rw [upd_ne z] at e2
      exact V.mu a u e1 e2⟩
theorem same_frz (h2 : F p = none) : Same F (upd F p o) := fun a u e => by
  rw [upd_ne (ne_of_none e h2)]
  exact e
mutual
/-- data that hold nothing that may change -/
def fixd : Dt → Bool
  | .non => true
  | .bl _ => true
  | .int _ => true
  | .str _ => true
  | .raw _ => true
  | .tup xs => fixdA xs
  | .ins _ _ xs => fixdA xs
  | _ => false
def fixdA : List Dt → Bool
  | [] => true
  | x :: xs => fixd x && fixdA xs
end
mutual
theorem Rep.toF (h : ∀ a u, H a = some u → mutk u = false → F a = some u) : ∀ {v : V} {d : Dt}, fixd d = true → Rep K H v d → Rep K F v d
  | _, _, _, .non => .non
  | _, _, _, .bl b => .bl b
  | _, _, _, .int i => .int i
  | _, _, _, .str x => .str x
  | _, _, _, .raw v => .raw v
  | _, _, f, .tup q r => .tup (by
      rcases q with (q | ⟨o, q⟩) | q
      · exact .inl (.inl (h _ _ q rfl))
      · exact .inl (.inr ⟨o, h _ _ q rfl⟩)
      · exact .inr q) (r.toF h (by simpa only [fixd] using f))
  | _, _, f, .ins q r => .ins (h _ _ q rfl) (r.toF h (by simpa only [fixd] using f))
  | _, _, f, .lst _ _ => by simp [fixd] at f
  | _, _, f, .lat _ _ => by simp [fixd] at f
  | _, _, f, .dic _ => by simp [fixd] at f
  | _, _, f, .err _ _ _ => by simp [fixd] at f
  | _, _, f, .dct _ _ _ => by simp [fixd] at f
  | _, _, f, .dti _ _ _ => by simp [fixd] at f
  | _, _, f, .dat _ _ _ _ => by simp [fixd] at f
  | _, _, f, .cel _ _ => by simp [fixd] at f
theorem RepA.toF (h : ∀ a u, H a = some u → mutk u = false → F a = some u) : ∀ {vs : List V} {ds : List Dt}, fixdA ds = true → RepA K H vs ds → RepA K F vs ds
  | _, _, _, .nil => .nil
  | _, _, f, .cons q r => by
    simp only [fixdA, Bool.and_eq_true] at f
    exact .cons (q.toF h f.1) (r.toF h f.2)
end
theorem Vw.toF (V : Vw Hb Fb F H) : ∀ a u, H a = some u → mutk u = false → F a = some u := fun a u e m => by
  cases hf : F a with
  | none =>
    have := V.mu a u e hf
    rw [m] at this
    cases this
  | some x =>
    have := V.fH _ _ hf
    rw [e] at this
    exact this.symm
/-- the durations that are read by steps -/
def dursD (l1 : List Dt) : List Int := l1.flatMap fun d => match d with
  | .dat _ _ _ xs => xs.flatMap fun y => match y with
    | .lst ss => ss.flatMap fun s => match s with
      | .tup (_ :: .int i :: _) => [i]
      | _ => []
    | _ => []
  | _ => []
def askD (l : Nat) (f p : Int) : Dt := .tup [.int l, .int f, .int p]
/-- a dict of needs that were asked for: each is right -/
def ownOk (l1 l2 ks xs : List Dt) : Prop := (ks.map nk).Nodup ∧ ks.length = xs.length ∧ ∀ (i : Nat) k x, ks[i]? = some k → xs[i]? = some x → ∃ (l : Nat) (f p : Int) (C : Addr) (t : Fq), k = askD l f p ∧ l < 4 ∧ f ∈ dursD l1 ∧ p ∈ dursD l1 ∧ l2[l]? = some (rat C t.1 t.2) ∧ x = rat C (canP (needP f p t)).1 (canP (needP f p t)).2
/-- what a slot holds: data of F, or a list or a dict that may change -/
inductive Mrep (K : PySem.W.Frag) (Hb F H : Hp) : V → Dt → Prop
  | fix {v : V} {d : Dt} : Rep K F v d → Mrep K Hb F H v d
  | lat {p : Addr} {vs : List V} {ds : List Dt} : Hb p = none → F p = none → H p = some (.lst vs) → RepA K F vs ds → Mrep K Hb F H (.ref p) (.lat p ds)
  | dti {p : Addr} {vs : List V} {ks : List Int} {ds : List Dt} : Hb p = none → F p = none → H p = some (.dK (iK ks vs)) → ks.length = ds.length → RepA K F vs ds → Mrep K Hb F H (.ref p) (.dti p ks ds)
  | dat {p : Addr} {w : World} {as : List Addr} {vs : List V} {ks ds : List Dt} : Hb p = none → F p = none → H p = some (DatO w ks as vs p) → ks.length = ds.length → RepA K F (as.map V.ref) ks → RepA K F vs ds → Mrep K Hb F H (.ref p) (.dat p w ks ds)
  /-- an instance whose last part is a dict that may change, and holds what is right -/
  | own {a C dx p : Addr} {w : World} {n1 n2 n3 : Str} {v1 v2 : V} {l1 l2 : List Dt} {as : List Addr} {vs : List V} {ks ds : List Dt} : F a = some (.ins C dx [(n1, v1), (n2, v2), (n3, .ref p)]) → Rep K F v1 (.lst l1) → Rep K F v2 (.lst l2) →
      Hb p = none → F p = none → H p = some (DatO w ks as vs p) → RepA K F (as.map V.ref) ks → RepA K F vs ds → ownOk l1 l2 ks ds → Mrep K Hb F H (.ref a) (.ins C [n1, n2, n3] [.lst l1, .lst l2, .cel p w])
theorem Mrep.rep (V : Vw Hb Fb F H) (m : Mrep K Hb F H v d) : Rep K H v d := by
  have g : Gr F H := V.fH.gr
  cases m with
  | fix r => exact r.mono g
  | lat _ _ h r => exact .lat h (r.mono g)
  | dti _ _ h l r => exact .dti h l (r.mono g)
  | dat _ _ h l r1 r2 => exact .dat h l (r1.mono g) (r2.mono g)
  | own ha q1 q2 _ _ h r1 r2 _ => exact .ins (ns := [_, _, _]) (vs := [_, _, _]) (V.fH _ _ ha) (.cons (q1.mono g) (.cons (q2.mono g) (.cons (.cel h rfl) .nil)))
theorem Mrep.up (m : Mrep K Hb F H v d) (s : Same F F') (t : Same H H') (hn : ∀ a u, H a = some u → F a = none → F' a = none) : Mrep K Hb F' H' v d := by
  have g : Gr F F' := s.gr
  cases m with
  | fix r => exact .fix (r.mono g)
  | lat z n h r => exact .lat z (hn _ _ h n) (t _ _ h) (r.mono g)
  | dti z n h l r => exact .dti z (hn _ _ h n) (t _ _ h) l (r.mono g)
  | dat z n h l r1 r2 => exact .dat z (hn _ _ h n) (t _ _ h) l (r1.mono g) (r2.mono g)
  | own ha q1 q2 z n h r1 r2 k => exact .own (s _ _ ha) (q1.mono g) (q2.mono g) z (hn _ _ h n) (t _ _ h) (r1.mono g) (r2.mono g) k
/-- not the one at p -/
def offm (p : Addr) : Dt → Prop
  | .lat q _ => q ≠ p
  | .dti q _ _ => q ≠ p
  | .dat q _ _ _ => q ≠ p
  | .ins _ _ [_, _, .cel q _] => q ≠ p
  | _ => True
theorem Mrep.put (m : Mrep K Hb F H v d) (h : offm p d) (hp : F p = none) : Mrep K Hb F (upd H p o) v d := by
  cases m with
  | fix r => exact .fix r
  | lat z n h' r => exact .lat z n (by rw [upd_ne h]; exact h') r
  | dti z n h' l r => exact .dti z n (by rw [upd_ne h]; exact h') l r
  | dat z n h' l r1 r2 => exact .dat z n (by rw [upd_ne h]; exact h') l r1 r2
  | own ha q1 q2 z n h' r1 r2 k => exact .own ha q1 q2 z n (by rw [upd_ne h]; exact h') r1 r2 k
theorem Mrep.frz (m : Mrep K Hb F H v d) (hp : F p = none) (h : H p = some o) : Mrep K Hb (upd F p o) H v d := by
  have s : Same F (upd F p o) := same_frz hp
  have g := s.gr
  cases m with
  | fix r => exact .fix (r.mono g)
  | lat zz n h' r =>
    rename_i q ws xs
    by_cases z : q = p
    · subst z
      rw [h] at h'
      cases h'
      exact .fix (.lat upd_same (r.mono g))
    · exact .lat zz (by rw [upd_ne z]; exact n) h' (r.mono g)
  | dti zz n h' l r =>
    rename_i q ws ks xs
    by_cases z : q = p
    · subst z
      rw [h] at h'
      cases h'
      exact .fix (.dti upd_same l (r.mono g))
    · exact .dti zz (by rw [upd_ne z]; exact n) h' l (r.mono g)
  | dat zz n h' l r1 r2 =>
    rename_i q ww as ws ks xs
    by_cases z : q = p
    · subst z
      rw [h] at h'
      cases h'
      exact .fix (.dat upd_same l (r1.mono g) (r2.mono g))
    · exact .dat zz (by rw [upd_ne z]; exact n) h' l (r1.mono g) (r2.mono g)
  | own ha q1 q2 zz n h' r1 r2 k =>
    rename_i a0 C0 dx0 q ww m1 m2 m3 v1 v2 l1 l2 as ws ks xs
    by_cases z : q = p
    · subst z
      rw [h] at h'
      cases h'
      exact .fix (.ins (ns := [_, _, _]) (vs := [_, _, _]) (s _ _ ha) (.cons (q1.mono g) (.cons (q2.mono g) (.cons (.cel upd_same rfl) .nil))))
    · exact .own (s _ _ ha) (q1.mono g) (q2.mono g) zz (by rw [upd_ne z]; exact n) h' (r1.mono g) (r2.mono g) k
end
structure Mls (K : PySem.W.Frag) (Hb F H : Hp) (σ : L2.St) (ρ : List (Option Dt)) : Prop where
  len : σ.length = ρ.length
  val : ∀ (i : Nat) (d : Dt), ρ[i]? = some (some d) → ∃ v, σ[i]? = some (some v) ∧ Mrep K Hb F H v d
section
variable {K : PySem.W.Frag} {Hb Fb F F' H H' : Hp} {p : Addr} {o : HO} {v : V} {d : Dt} {σ : L2.St} {ρ : List (Option Dt)}
theorem Mls.slots (m : Mls K Hb F H σ ρ) (V : Vw Hb Fb F H) : Slots K H σ ρ := ⟨m.len, fun i d e => let ⟨v, h, r⟩ := m.val i d e; ⟨v, h, r.rep V⟩⟩
theorem Mls.up (m : Mls K Hb F H σ ρ) (s : Same F F') (t : Same H H') (hn : ∀ a u, H a = some u → F a = none → F' a = none) : Mls K Hb F' H' σ ρ := ⟨m.len, fun i d e => let ⟨v, h, r⟩ := m.val i d e; ⟨v, h, r.up s t hn⟩⟩
theorem Mls.frz (m : Mls K Hb F H σ ρ) (hp : F p = none) (h : H p = some o) : Mls K Hb (upd F p o) H σ ρ := ⟨m.len, fun i d e => let ⟨v, h', r⟩ := m.val i d e; ⟨v, h', r.frz hp h⟩⟩
theorem Mls.set (m : Mls K Hb F H σ ρ) (r : Mrep K Hb F H v d) (j : Nat) : Mls K Hb F H (σ.set j (some v)) (ρ.set j (some d)) := by
  refine ⟨by rw [List.length_set, List.length_set, m.len], fun i e h => ?_⟩
  by_cases hj : j = i
  · subst hj
    by_cases hl : j < ρ.length
    · rw [List.getElem?_set_self hl] at h
      cases h
      exact ⟨v, List.getElem?_set_self (by rw [m.len]; exact hl), r⟩
    · rw [List.getElem?_eq_none (by rw [List.length_set]; omega)] at h
      cases h
  · rw [List.getElem?_set_ne hj] at h
    obtain ⟨u, hu, q⟩ := m.val i e h
    exact ⟨u, by rw [List.getElem?_set_ne hj]; exact hu, q⟩
/-- the other slots are off p -/
def Offm (p : Addr) (ρ : List (Option Dt)) (j : Nat) : Prop := ∀ (i : Nat) (d : Dt), i ≠ j → ρ[i]? = some (some d) → offm p d
def offmL (p : Addr) (j : Nat) : Nat → List (Option Dt) → Prop
  | _, [] => True
  | n, o :: r => (n ≠ j → ∀ d, o = some d → offm p d) ∧ offmL p j (n + 1) r
theorem offm_of {j : Nat} : ∀ {ρ : List (Option Dt)} {n : Nat}, offmL p j n ρ → ∀ (i : Nat) (d : Dt), i + n ≠ j → ρ[i]? = some (some d) → offm p d
  | [], _, _, i, d, _, e => by simp at e
  | o :: r, n, h, 0, d, hi, e => h.1 (by omega) d (by simpa using e)
  | o :: r, n, h, i + 1, d, hi, e => offm_of h.2 i d (by omega) (by simpa using e)
theorem Offm.mk {j : Nat} (h : offmL p j 0 ρ) : Offm p ρ j := fun i d hi e => offm_of h i d (by omega) e
/-- the object at p, in slot j, is another one -/
theorem Mls.put {j : Nat} {d' : Dt} (m : Mls K Hb F H σ ρ) (hn : Offm p ρ j) (hp : F p = none) (hs : σ[j]? = some (some v)) (r : Mrep K Hb F (upd H p o) v d') : Mls K Hb F (upd H p o) σ (ρ.set j (some d')) := by
  refine ⟨by rw [List.length_set]; exact m.len, fun i e h => ?_⟩
  by_cases hj : j = i
  · subst hj
    by_cases hl : j < ρ.length
    · rw [List.getElem?_set_self hl] at h
      cases h
      exact ⟨v, hs, r⟩
    · rw [List.getElem?_eq_none (by rw [List.length_set]; omega)] at h
      cases h
  · rw [List.getElem?_set_ne hj] at h
    obtain ⟨u, hu, q⟩ := m.val i e h
    exact ⟨u, hu, q.put (hn i e (Ne.symm hj) h) hp⟩
end
end Bf
namespace Bf
open PySem PySem.Spec PyProof.Rows L2
/-! ## Statements of defs with lists and dicts of their own -/
/-- what may still be changed -/
def Lo (Hb F H : Hp) (L : List Addr) : Prop := ∀ p ∈ L, Hb p = none ∧ F p = none ∧ ∃ o, H p = some o
structure Pm where
  nx : List (Option Dt) → List Addr → Prop := fun _ _ => False
  rt : Dt → Prop := fun _ => False
  bk : List (Option Dt) → List Addr → Prop := fun _ _ => False
  ct : List (Option Dt) → List Addr → Prop := fun _ _ => False
  /-- what the slots hold where the def returns -/
  rl : List (Option Dt) → List Addr → Prop := fun _ _ => True
structure Fx (K : PySem.W.Frag) (Hb Fb : Hp) (P : Pm) (D : Ends) (F0 : Hp) : Prop where
  nx : ∀ (σ : L2.St) ρ L F H, Same F0 F → Vw Hb Fb F H → Lo Hb F H L → Mls K Hb F H σ ρ → P.nx ρ L → D.nx σ H
  rt : ∀ v d F H, Same F0 F → Vw Hb Fb F H → Rep K F v d → P.rt d → (∃ (σ : L2.St) (ρ : List (Option Dt)) (L : List Addr), Lo Hb F H L ∧ Mls K Hb F H σ ρ ∧ P.rl ρ L) → D.rt v H
  bk : ∀ (σ : L2.St) ρ L F H, Same F0 F → Vw Hb Fb F H → Lo Hb F H L → Mls K Hb F H σ ρ → P.bk ρ L → D.bk σ H
  ct : ∀ (σ : L2.St) ρ L F H, Same F0 F → Vw Hb Fb F H → Lo Hb F H L → Mls K Hb F H σ ρ → P.ct ρ L → D.ct σ H
def Sm (K : PySem.W.Frag) (Hb Fb : Hp) (L : List Addr) (ts : TS) (ρ : List (Option Dt)) (P : Pm) : Prop := ∀ (D : Ends) (σ : L2.St) (F H : Hp), Vw Hb Fb F H → Lo Hb F H L → Mls K Hb F H σ ρ → Fx K Hb Fb P D F → ts D σ H
/-- an expression that comes to data that stay -/
def Ef (K : PySem.W.Frag) (Hb Fb : Hp) (L : List Addr) (ρ : List (Option Dt)) (te : TE) (Φ : Dt → Prop) : Prop := ∀ (σ : L2.St) (F H : Hp), Vw Hb Fb F H → Lo Hb F H L → Mls K Hb F H σ ρ → ∀ Q : VK,
  (∀ v d F' H', Same F F' → Vw Hb Fb F' H' → Lo Hb F' H' L → Mls K Hb F' H' σ ρ → Rep K F' v d → Φ d → Q v H') → te σ H Q
section
variable {K : PySem.W.Frag} {Hb Fb F F' H H' : Hp} {L L' : List Addr} {p : Addr} {o : HO} {v : V} {d x : Dt} {σ : L2.St} {ρ : List (Option Dt)} {P : Pm} {te tl : TE} {ta : TA} {tt c : TT} {t u w : TS} {D : Ends} {Φ Ψ : Dt → Prop} {j : Nat} {xs ys ds : List Dt}
theorem Fx.up (f : Fx K Hb Fb P D F) (s : Same F F') : Fx K Hb Fb P D F' :=
  ⟨fun σ ρ L G H t => f.nx σ ρ L G H (s.trans t), fun v d G H t => f.rt v d G H (s.trans t), fun σ ρ L G H t => f.bk σ ρ L G H (s.trans t), fun σ ρ L G H t => f.ct σ ρ L G H (s.trans t)⟩
theorem Lo.sub (h : Lo Hb F H L) (s : ∀ p ∈ L', p ∈ L) : Lo Hb F H L' := fun p q => h p (s p q)
/-! expressions -/
theorem Ef.weak (h : Ef K Hb Fb L ρ te Φ) (w : ∀ d, Φ d → Ψ d) : Ef K Hb Fb L ρ te Ψ := fun σ F H V l m Q q => h σ F H V l m Q fun v d F' H' s V' l' m' r p => q v d F' H' s V' l' m' r (w d p)
end
end Bf
namespace Bf
open PySem PySem.Spec PyProof.Rows L2
section
variable {K : PySem.W.Frag} {Hb Fb F F' H H' : Hp} {L L' : List Addr} {p : Addr} {o : HO} {v : V} {d x : Dt} {σ : L2.St} {ρ : List (Option Dt)} {P : Pm} {te tl tk : TE} {ta : TA} {tt c : TT} {t u w : TS} {D : Ends} {Φ Ψ : Dt → Prop} {j : Nat} {xs ys ds : List Dt} {ks : List Int}
/-! statements -/
theorem SqT.same {a : Addr} {vs : List V} (s : Same F H) (h : SqT K F a vs) : SqT K H a vs := s.gr.sqT h
theorem SqL.same {a : Addr} {vs : List V} (s : Same F H) (h : SqL K F a vs) : SqL K H a vs := s.gr.sqL h
/-! loops -/
end
end Bf
namespace Bf
open PySem PySem.Spec PyProof.Rows L2
/-! ## Dicts with ints as keys, that grow -/
def setI {α : Type} : List Int → List α → Int → α → List α
  | k :: ks, x :: xs, i, y => if k = i then y :: xs else x :: setI ks xs i y
  | _, xs, _, y => xs ++ [y]
section
variable {K : PySem.W.Frag} {Hb Fb F F' H H' : Hp} {L L' : List Addr} {p : Addr} {o : HO} {v : V} {d x : Dt} {σ : L2.St} {ρ : List (Option Dt)} {P : Pm} {te tl tk td ty : TE} {ta : TA} {tt c : TT} {t u w : TS} {D : Ends} {Φ Ψ : Dt → Prop} {j : Nat} {xs ys ds : List Dt} {ks : List Int} {S S1 S2 : Sta} {i : Int}
/-! ### promises -/
end
end Bf
namespace Bf
open PySem PySem.Spec PyProof.Rows L2
end Bf
namespace Bf
open PySem PySem.Spec PyProof.Rows L2
/-! ## Dicts that grow, their keys tuples (of tuples) -/
/-- fit for parts of keys, to a depth -/
def kyB : Nat → Dt → Bool
  | _, .non => true
  | _, .bl _ => true
  | _, .int _ => true
  | _, .str _ => true
  | n + 1, .tup xs => xs.all (kyB n)
  | _, _ => false
def kyT : Dt → Bool
  | .tup xs => xs.all (kyB 5)
  | _ => false
section
variable {X : Cx} {pins : List (Addr × Obj)} {σ : L2.St} {H : Hp} {s : Shared}
/-! look-ups -/
/-! a new entry -/
/-! {} -/
/-! list(d) -/
/-! {k: v} -/
end
end Bf
namespace Bf
open PySem PySem.Spec PyProof.Rows L2
/-! ## growing dicts with tuples as keys, over data -/
section
variable {K : PySem.W.Frag} {Hb Fb F F' H H' : Hp} {L L' : List Addr} {p : Addr} {o : HO} {v : V} {d x q : Dt} {σ : L2.St} {ρ : List (Option Dt)} {P : Pm} {te tl tk td ty tv : TE} {ta : TA} {tt c : TT} {t u : TS} {D : Ends} {Φ Ψ : Dt → Prop} {j : Nat} {xs ys ds ks : List Dt} {S S1 S2 : Sta} {w : World} {tw : TS}
end
/-! ### keys by a code of their own -/
section
variable {κ α : Type} [DecidableEq κ]
structure Enc (enc : κ → Dt) : Prop where
  inj : ∀ a b, nk (enc a) = nk (enc b) → a = b
  ky : ∀ a, kyT (enc a) = true
def lkG : List κ → List α → κ → Option α
  | k :: ks, x :: xs, q => if k = q then some x else lkG ks xs q
  | _, _, _ => none
def keyG (ks : List κ) (q : κ) : List κ := if q ∈ ks then ks else ks ++ [q]
def setG : List κ → List α → κ → α → List α
  | k :: ks, x :: xs, q, y => if k = q then y :: xs else x :: setG ks xs q y
  | _, xs, _, y => xs ++ [y]
variable {enc : κ → Dt} {f : α → Dt}
theorem keyG_nodup {ks : List κ} {i : κ} (h : ks.Nodup) : (keyG ks i).Nodup := by
  unfold keyG
  split
  · exact h
  · rename_i m
    refine List.nodup_append.mpr ⟨h, by simp, fun a ha b hb => ?_⟩
    rw [List.mem_singleton.mp hb]
    exact fun z => m (z ▸ ha)
theorem mem_keyG {ks : List κ} {i j : κ} : j ∈ keyG ks i ↔ j ∈ ks ∨ j = i := by
  unfold keyG
  by_cases m : i ∈ ks
  · rw [if_pos m]
    exact ⟨.inl, fun h => h.elim id fun e => e ▸ m⟩
  · rw [if_neg m]
    simp
theorem setG_len {q : κ} {y : α} : ∀ {ks : List κ} {xs : List α}, ks.length = xs.length → (keyG ks q).length = (setG ks xs q y).length
  | [], [], _ => by simp [keyG, setG]
  | [], _ :: _, h => by simp at h
  | _ :: _, [], h => by simp at h
  | k :: ks, x :: xs, h => by
    have ih := setG_len (q := q) (y := y) (ks := ks) (xs := xs) (by simpa using h)
    unfold keyG at ih ⊢
    by_cases e : k = q
    · subst e
      simp only [setG, if_true, List.mem_cons, true_or]
      simpa using h
    · simp only [setG, if_neg e, List.length_cons, ← ih]
      have e' : ¬ q = k := fun z => e z.symm
      simp only [List.mem_cons, e', false_or]
      split <;> simp
theorem lkG_set {q j : κ} {y : α} : ∀ {ks : List κ} {xs : List α}, ks.length = xs.length → lkG (keyG ks q) (setG ks xs q y) j = if j = q then some y else lkG ks xs j
  | [], [], _ => by
    simp only [keyG, List.not_mem_nil, if_false, List.nil_append, setG, lkG]
    by_cases e : q = j
    · simp [e]
    · have : ¬ j = q := fun z => e z.symm
      simp [e, this]
  | [], _ :: _, h => by simp at h
  | _ :: _, [], h => by simp at h
  | k :: ks, x :: xs, h => by
    have hl : ks.length = xs.length := by simpa using h
    by_cases e : k = q
    · subst e
      have : keyG (k :: ks) k = k :: ks := by simp [keyG]
      rw [this]
      simp only [setG, if_true, lkG]
      by_cases z : k = j
      · simp [z]
      · have : ¬ j = k := fun q => z q.symm
        simp [z, this]
    · have hk : keyG (k :: ks) q = k :: keyG ks q := by
        unfold keyG
        by_cases m : q ∈ ks
        · simp [m]
        · have : ¬ q = k := fun z => e z.symm
          simp [m, this]
      rw [hk]
      simp only [setG, if_neg e, lkG]
      by_cases z : k = j
      · subst z
        simp [e]
      · rw [if_neg z, if_neg z, lkG_set hl]
theorem lkG_none {q : κ} : ∀ {ks : List κ} {xs : List α}, ks.length = xs.length → (lkG ks xs q = none ↔ q ∉ ks)
  | [], _, _ => by simp [lkG]
  | _ :: _, [], h => by simp at h
  | k :: ks, x :: xs, h => by
    by_cases e : k = q
    · simp [lkG, e]
    · have := lkG_none (q := q) (show ks.length = xs.length by simpa using h)
      simp only [lkG, if_neg e, this, List.mem_cons, not_or]
      exact ⟨fun h => ⟨fun z => e z.symm, h⟩, fun h => h.2⟩
end
end Bf
namespace Bf
/-! ## A search by length: what leads on, the first way to something wrong -/
section
variable {κ μ : Type} [DecidableEq κ]
/-- what leads on from a place: a move, where to, whether this is wrong -/
abbrev Mv (κ μ : Type) := μ × κ × Bool
variable (mv : κ → List (Mv κ μ))
abbrev Pt (κ μ : Type) := List μ × κ
def exT (x : Pt κ μ) : List (Pt κ μ) := ((mv x.2).filter fun m => !m.2.2).map fun m => (x.1 ++ [m.1], m.2.1)
def wrT (x : Pt κ μ) : List (List μ) := ((mv x.2).filter fun m => m.2.2).map fun m => x.1 ++ [m.1]
/-- all ways of so many moves, none of them wrong -/
def paths (b : κ) : Nat → List (Pt κ μ)
  | 0 => [([], b)]
  | k + 1 => (paths b k).flatMap (exT mv)
def wrongs (b : κ) (k : Nat) : List (List μ) := (paths mv b k).flatMap (wrT mv)
/-- one of each new place -/
def pst (s : List κ × List (Pt κ μ)) (x : Pt κ μ) : List κ × List (Pt κ μ) := if x.2 ∈ s.1 then s else (s.1 ++ [x.2], s.2 ++ [x])
def prn (V : List κ) (xs : List (Pt κ μ)) : List κ × List (Pt κ μ) := xs.foldl pst (V, [])
/-- the search as far as k: V was visited ahead of it, W is visited now, R are the ways that go on -/
structure Sch (b : κ) (k : Nat) (W : List κ) (R : List (Pt κ μ)) : Prop where
  ex : ∃ V, R = (prn V (paths mv b k)).2 ∧ W = (prn V (paths mv b k)).1 ∧ (∀ p ∈ V, ∀ m ∈ mv p, m.2.2 = false → m.2.1 ∈ W) ∧ ∀ p ∈ V, ∀ m ∈ mv p, m.2.2 = false
  no : ∀ j, j < k → wrongs mv b j = []
  nd : W.Nodup
end
/-- as many as there are numbers for them -/
theorem nodup_lt : ∀ (N : Nat) (l : List Nat), l.Nodup → (∀ x ∈ l, x < N) → l.length ≤ N
  | 0, l, _, h => by
    cases l with
    | nil => exact Nat.le_refl _
    | cons x l => exact absurd (h x List.mem_cons_self) (Nat.not_lt_zero x)
  | N + 1, l, hn, h => by
    have h1 := nodup_lt N (l.filter fun x => decide (x ≠ N)) (hn.filter _) fun x hx => by
      obtain ⟨a, b⟩ := List.mem_filter.mp hx
      have := h x a
      have := of_decide_eq_true b
      omega
    have h2 : (l.filter fun x => !decide (x ≠ N)).length ≤ 1 := by
      have hs : ∀ x ∈ l.filter (fun x => !decide (x ≠ N)), x = N := fun x hx => by simpa using (List.mem_filter.mp hx).2
      have hd := hn.filter (fun x => !decide (x ≠ N))
      match e : l.filter (fun x => !decide (x ≠ N)) with
      | [] => simp
      | [_] => simp
      | a :: c :: r =>
        rw [e] at hs hd
        have e1 := hs a (by simp)
        have e2 := hs c (by simp)
        simp [e1, e2] at hd
    have h3 : l.length = (l.filter fun x => decide (x ≠ N)).length + (l.filter fun x => !decide (x ≠ N)).length := by
      clear h1 h2 h hn
      induction l with
      | nil => rfl
      | cons x l ih =>
        by_cases c : x = N
        · simp [c] at ih ⊢; omega
        · simp [c] at ih ⊢; omega
    omega
end Bf
namespace Bf
/-! ## The least of the greatest needs on all ways: what a search with one dict a round comes to -/
/-- a total order, told by what is less -/
structure TotLt {Q : Type} (lt : Q → Q → Bool) : Prop where
  irr : ∀ a, lt a a = false
  tr : ∀ a b c, lt a b = true → lt b c = true → lt a c = true
  tot : ∀ a b, lt a b = false → lt b a = false → a = b
section
variable {κ Q : Type} [DecidableEq κ] {lt : Q → Q → Bool} (T : TotLt lt) (mv : κ → List (Q × κ)) (fin : κ → Bool) (sts : List κ) (q0 : Q)
theorem TotLt.asy {lt : Q → Q → Bool} (T : TotLt lt) {a b : Q} (h : lt a b = true) : lt b a = false := by
  cases e : lt b a with
  | false => rfl
  | true =>
    have := T.tr _ _ _ h e
    rw [T.irr] at this
    cases this
/-- not less: ≤ the other way round -/
theorem TotLt.le_tr {lt : Q → Q → Bool} (T : TotLt lt) {a b c : Q} (h1 : lt b a = false) (h2 : lt c b = false) : lt c a = false := by
  cases e : lt c a with
  | false => rfl
  | true =>
    cases e2 : lt a b with
    | true => rw [T.tr _ _ _ e e2] at h2; cases h2
    | false =>
      have := T.tot _ _ e2 h1
      subst this
      rw [e] at h2
      cases h2
/-- the greater one of a need and what was needed before -/
def gre (lt : Q → Q → Bool) (need r : Q) : Q := if lt r need = true then need else r
/-- a way of so many moves to a place, with the greatest need on it -/
def Pth : Nat → κ → Q → Prop
  | 0, s, q => s ∈ sts ∧ q = q0
  | k + 1, s, q => ∃ p r n, Pth k p r ∧ (n, s) ∈ mv p ∧ q = gre lt n r
/-- the dict of a round: its places, each with a need -/
abbrev Rd (κ Q : Type) := List (κ × Q)
def lkR : Rd κ Q → κ → Option Q
  | [], _ => none
  | (k, q) :: d, s => if k = s then some q else lkR d s
def putR (lt : Q → Q → Bool) (d : Rd κ Q) (s : κ) (g : Q) : Rd κ Q := match lkR d s with
  | none => d ++ [(s, g)]
  | some q => if lt g q = true then d.map fun x => if x.1 = s then (s, g) else x else d
theorem lkR_app (d : Rd κ Q) (s t : κ) (g : Q) : lkR (d ++ [(s, g)]) t = (lkR d t).orElse fun _ => if s = t then some g else none := by
  induction d with
  | nil => rfl
  | cons x d ih =>
    obtain ⟨k, q⟩ := x
    show (if k = t then some q else lkR (d ++ [(s, g)]) t) = (if k = t then some q else lkR d t).orElse _
    by_cases e : k = t
    · rw [if_pos e, if_pos e]; rfl
    · rw [if_neg e, if_neg e, ih]
theorem lkR_map (d : Rd κ Q) (s t : κ) (g : Q) : lkR (d.map fun x => if x.1 = s then (s, g) else x) t = (lkR d t).map fun q => if s = t then g else q := by
  induction d with
  | nil => rfl
  | cons x d ih =>
    obtain ⟨k, q⟩ := x
    rw [List.map_cons]
    by_cases e : k = s
    · subst e
      rw [if_pos rfl]
      show (if k = t then some g else lkR _ t) = (if k = t then some q else lkR d t).map _
      by_cases e2 : k = t
      · rw [if_pos e2, if_pos e2, Option.map_some, if_pos e2]
      · rw [if_neg e2, if_neg e2, ih]
    · rw [if_neg e]
      show (if k = t then some q else lkR _ t) = (if k = t then some q else lkR d t).map _
      by_cases e2 : k = t
      · rw [if_pos e2, if_pos e2, Option.map_some, if_neg (fun z => e (e2.trans z.symm))]
      · rw [if_neg e2, if_neg e2, ih]
/-- the dict keeps the least -/
theorem lkR_put (d : Rd κ Q) (s t : κ) (g : Q) : lkR (putR lt d s g) t = if s = t then (match lkR d t with | none => some g | some q => some (if lt g q = true then g else q)) else lkR d t := by
  unfold putR
  by_cases e : s = t
  · subst e
    rw [if_pos rfl]
    cases h : lkR d s with
    | none => rw [lkR_app, h, if_pos rfl]; rfl
    | some q =>
      show lkR (if lt g q = true then d.map fun x => if x.1 = s then (s, g) else x else d) s = some (if lt g q = true then g else q)
      by_cases c : lt g q = true
      · rw [if_pos c, if_pos c, lkR_map, h, Option.map_some, if_pos rfl]
      · rw [if_neg c, if_neg c, h]
  · rw [if_neg e]
    cases h : lkR d s with
    | none =>
      show lkR (d ++ [(s, g)]) t = _
      rw [lkR_app, if_neg e]
      cases lkR d t <;> rfl
    | some q =>
      show lkR (if lt g q = true then d.map fun x => if x.1 = s then (s, g) else x else d) t = _
      by_cases c : lt g q = true
      · rw [if_pos c, lkR_map]
        cases lkR d t with
        | none => rfl
        | some r => rw [Option.map_some, if_neg e]
      · rw [if_neg c]
/-- what a dict says is the least of what is told of a place -/
def LeastR (lt : Q → Q → Bool) (S : κ → Q → Prop) (d : Rd κ Q) : Prop := ∀ s, match lkR d s with
  | none => ∀ q, ¬ S s q
  | some q => S s q ∧ ∀ r, S s r → lt r q = false
theorem LeastR.put {S : κ → Q → Prop} {d : Rd κ Q} (T : TotLt lt) (h : LeastR lt S d) (s : κ) (g : Q) : LeastR lt (fun t q => S t q ∨ (t = s ∧ q = g)) (putR lt d s g) := by
  intro t
  rw [lkR_put]
  have ht := h t
  by_cases e : s = t
  · subst e
    rw [if_pos rfl]
    cases c : lkR d s with
    | none =>
      rw [c] at ht
      exact ⟨.inr ⟨rfl, rfl⟩, fun r hr => by
        rcases hr with hr | ⟨_, rfl⟩
        · exact absurd hr (ht r)
        · exact T.irr r⟩
    | some q =>
      rw [c] at ht
      obtain ⟨h1, h2⟩ := ht
      show (_ ∧ _)
      by_cases z : lt g q = true
      · rw [if_pos z]
        exact ⟨.inr ⟨rfl, rfl⟩, fun r hr => by
          rcases hr with hr | ⟨_, rfl⟩
          · exact T.le_tr (T.asy z) (h2 r hr)
          · exact T.irr r⟩
      · rw [if_neg z]
        exact ⟨.inl h1, fun r hr => by
          rcases hr with hr | ⟨_, rfl⟩
          · exact h2 r hr
          · exact Bool.eq_false_iff.mpr z⟩
  · rw [if_neg e]
    cases c : lkR d t with
    | none =>
      rw [c] at ht
      exact fun q hq => hq.elim (ht q) fun ⟨z, _⟩ => e z.symm
    | some q =>
      rw [c] at ht
      exact ⟨.inl ht.1, fun r hr => hr.elim (ht.2 r) fun ⟨z, _⟩ => absurd z.symm e⟩
theorem LeastR.to {S S' : κ → Q → Prop} {d : Rd κ Q} (h : LeastR lt S d) (e : ∀ s q, S s q ↔ S' s q) : LeastR lt S' d := fun s => by
  have hs := h s
  cases c : lkR d s with
  | none => rw [c] at hs; exact fun q hq => hs q ((e s q).mpr hq)
  | some q => rw [c] at hs; exact ⟨(e s q).mp hs.1, fun r hr => hs.2 r ((e s r).mpr hr)⟩
theorem lkR_none : ∀ {d : Rd κ Q} {s : κ}, lkR d s = none → s ∉ d.map (·.1)
  | [], _, _ => by simp
  | (k, r) :: d, s, h => by
    by_cases e : k = s
    · rw [show lkR ((k, r) :: d) s = some r from if_pos e] at h; cases h
    · rw [show lkR ((k, r) :: d) s = lkR d s from if_neg e] at h
      rw [List.map_cons, List.mem_cons, not_or]
      exact ⟨fun z => e z.symm, lkR_none h⟩
theorem nodup_put {d : Rd κ Q} (h : (d.map (·.1)).Nodup) (s : κ) (g : Q) : ((putR lt d s g).map (·.1)).Nodup := by
  unfold putR
  cases c : lkR d s with
  | none =>
    show ((d ++ [(s, g)]).map (·.1)).Nodup
    rw [List.map_append]
    refine List.nodup_append.mpr ⟨h, by simp, fun a ha b hb e => ?_⟩
    rw [show b = s from List.mem_singleton.mp hb] at e
    exact lkR_none c (e ▸ ha)
  | some q =>
    show ((if lt g q = true then d.map fun x => if x.1 = s then (s, g) else x else d).map (·.1)).Nodup
    by_cases z : lt g q = true
    · rw [if_pos z, List.map_map]
      have : ((fun x : κ × Q => x.1) ∘ fun x : κ × Q => if x.1 = s then (s, g) else x) = fun x => x.1 := by
        funext x
        show (if x.1 = s then (s, g) else x).1 = x.1
        by_cases e : x.1 = s
        · rw [if_pos e, e]
        · rw [if_neg e]
      rw [this]
      exact h
    · rw [if_neg z]; exact h
/-- as far as some round -/
def LimTo (K : Nat) : Option Q → Prop
  | none => ∀ k s q, k < K → Pth mv sts q0 (lt := lt) k s q → fin s = false
  | some q => (∃ k s, k < K ∧ Pth mv sts q0 (lt := lt) k s q ∧ fin s = true) ∧ ∀ k s r, k < K → Pth mv sts q0 (lt := lt) k s r → fin s = true → lt r q = false
/-! ### the loop -/
structure LimI (lt : Q → Q → Bool) (K : Nat) (l : Option Q) (d : Rd κ Q) : Prop where
  to : LimTo mv fin sts q0 (lt := lt) K l
  le : LeastR lt (Pth mv sts q0 (lt := lt) K) d
  nd : (d.map (·.1)).Nodup
end
/-! ### two such searches side by side -/
section
variable {κ κ' Q : Type} {lt : Q → Q → Bool} {mvA : κ → List (Q × κ)} {mvB : κ' → List (Q × κ')} {finA : κ → Bool} {finB : κ' → Bool} {stA : List κ} {stB : List κ'} {q0 : Q}
/-- what the second one can, the first one can too, at no greater need -/
structure Half (R : κ → κ' → Prop) (lt : Q → Q → Bool) (mvA : κ → List (Q × κ)) (mvB : κ' → List (Q × κ')) (finA : κ → Bool) (finB : κ' → Bool) (stA : List κ) (stB : List κ') : Prop where
  st : ∀ b ∈ stB, ∃ a ∈ stA, R a b
  mv : ∀ a b, R a b → ∀ m ∈ mvB b, ∃ n ∈ mvA a, n.1 = m.1 ∧ R n.2 m.2
  fin : ∀ a b, R a b → finB b = true → finA a = true
theorem Half.pth {R : κ → κ' → Prop} (h : Half R lt mvA mvB finA finB stA stB) : ∀ {k : Nat} {b : κ'} {q : Q}, Pth mvB stB q0 (lt := lt) k b q → ∃ a, Pth mvA stA q0 (lt := lt) k a q ∧ R a b
  | 0, b, q, ⟨hb, e⟩ => by
    obtain ⟨a, ha, hr⟩ := h.st b hb
    exact ⟨a, ⟨ha, e⟩, hr⟩
  | k + 1, b, q, ⟨p, r, n, hp, hm, e⟩ => by
    obtain ⟨a, ha, hr⟩ := h.pth hp
    obtain ⟨m, hm', e1, hr'⟩ := h.mv a p hr _ hm
    exact ⟨m.2, ⟨a, r, m.1, ha, hm', by rw [e1]; exact e⟩, hr'⟩
end
end Bf
namespace Bf
open PySem PySem.Spec PyProof.Rows L2
/-! ## Stands of a receiver, and what leads on from them -/
instance : DecidableEq Site := fun x y => decidable_of_iff (x.k = y.k ∧ x.rest = y.rest ∧ x.o = y.o) (by cases x; cases y; simp)
/-- a step: the bit that is settled, the duration, the place behind -/
abbrev Stp := Option Int × Int × Site
def stepOf (x : Option Int) (s : Site) : Stp := (x, s.rest.headD 0, ⟨s.k, s.rest.tail, s.o⟩)
def stepsS (T : Tab) (s : Site) : List Stp := if decide (s.k = T.b) && decide (s.rest = []) then [] else if s.rest ≠ [] then [stepOf none s] else [stepOf (some 0) (T.sett s 0), stepOf (some 1) (T.sett s 1)]
structure Stn where
  ix : Nat
  lw : Nat
  le : Bool
  a : Site
  b : Site
deriving DecidableEq
def Stn.d (s : Stn) : Dt := .tup [.int s.ix, .int s.lw, .bl s.le, s.a.d, s.b.d]
abbrev Rcv := List (Tab × Fq)
def tabAt (rc : Rcv) (i : Nat) : Tab := match rc[i]? with
  | some x => x.1
  | none => .ha 1 1
def tolAt (rc : Rcv) (i : Nat) : Fq := match rc[i]? with
  | some x => x.2
  | none => (0, 1)
/-- the bit of the other one is the same, or less -/
def bitLe (le : Bool) (x y : Option Int) : Bool := le || decide (y = x) || (match x, y with
  | some a, some b => decide (b < a)
  | _, _ => false)
def ledN (s : Stn) (x y : Stp) : Stn := ⟨s.ix, s.lw, s.le || !decide (y.1 = x.1), x.2.2, y.2.2⟩
def mv3 (rc : Rcv) (s : Stn) : List (Fq × Stn × Stp × Stp) := (stepsS (tabAt rc s.ix) s.a).flatMap fun x => ((stepsS (tabAt rc s.lw) s.b).filter fun y => bitLe s.le x.1 y.1).map fun y => (canP (needP x.2.1 y.2.1 (tolAt rc s.lw)), ledN s x y, x, y)
def mvN (rc : Rcv) (s : Stn) : List (Fq × Stn) := (mv3 rc s).map fun m => (m.1, m.2.1)
def finN (rc : Rcv) (s : Stn) : Bool := s.le && (stepsS (tabAt rc s.ix) s.a).isEmpty && (stepsS (tabAt rc s.lw) s.b).isEmpty
def stsN (rc : Rcv) : List Stn := (List.range rc.length).flatMap fun i => (List.range (i + 1)).map fun j => ⟨i, j, decide (j < i), (tabAt rc i).beg, (tabAt rc j).beg⟩
/-! ### there are few moves: each reads a duration -/
def mesS (T : Tab) (s : Site) : Nat := s.rest.length + 3 * (T.b - s.k).toNat
theorem sett_k (T : Tab) (s : Site) (bit : Int) : (T.sett s bit).k = s.k + 1 := by cases T <;> rfl
theorem step_less {T : Tab} {s : Site} {x : Stp} (hk : s.k ≤ T.b) (h : x ∈ stepsS T s) : x.2.2.k ≤ T.b ∧ mesS T x.2.2 < mesS T s := by
  unfold stepsS at h
  by_cases e : (decide (s.k = T.b) && decide (s.rest = [])) = true
  · rw [if_pos e] at h; cases h
  · rw [if_neg e] at h
    by_cases r : s.rest ≠ []
    · rw [if_pos r] at h
      rw [List.mem_singleton.mp h]
      refine ⟨hk, ?_⟩
      show s.rest.tail.length + 3 * (T.b - s.k).toNat < s.rest.length + 3 * (T.b - s.k).toNat
      have : 0 < s.rest.length := List.length_pos_iff.mpr r
      rw [List.length_tail]
      omega
    · rw [if_neg r] at h
      have r' : s.rest = [] := Classical.byContradiction r
      have hlt : s.k < T.b := by
        rcases Int.lt_or_eq_of_le hk with z | z
        · exact z
        · rw [decide_eq_true z, decide_eq_true r'] at e
          exact absurd rfl e
      have key : ∀ bit, (stepOf (some bit) (T.sett s bit)).2.2.k ≤ T.b ∧ mesS T (stepOf (some bit) (T.sett s bit)).2.2 < mesS T s := fun bit => by
        have h1 := (part_len (T := T) (o := s.o) (bit := bit) (l := decide (s.k + 1 = T.b))).2
        rw [← sett_rest] at h1
        have h0 := List.length_pos_iff.mpr (sett_ne T s bit)
        refine ⟨by show (T.sett s bit).k ≤ T.b; rw [sett_k]; omega, ?_⟩
        show (T.sett s bit).rest.tail.length + 3 * (T.b - (T.sett s bit).k).toNat < s.rest.length + 3 * (T.b - s.k).toNat
        rw [sett_k, List.length_tail, r']
        show _ < 0 + _
        omega
      rcases List.mem_cons.mp h with rfl | h
      · exact key 0
      · rw [List.mem_singleton.mp h]; exact key 1
/-! ### all durations multiplied -/
def Tab.mul (g : Int) : Tab → Tab
  | .ha u b => .ha (u * g) b
  | .pa h z1 z2 o1 o2 s b => .pa (h.map (· * g)) (z1 * g) (z2 * g) (o1 * g) (o2 * g) (s * g) b
def Site.mul (g : Int) (s : Site) : Site := ⟨s.k, s.rest.map (· * g), s.o⟩
def Stn.mul (g : Int) (s : Stn) : Stn := ⟨s.ix, s.lw, s.le, s.a.mul g, s.b.mul g⟩
def inR (rc : Rcv) (s : Stn) : Prop := s.ix < rc.length ∧ s.lw < rc.length
theorem inR_sts {rc : Rcv} {s : Stn} (h : s ∈ stsN rc) : inR rc s := by
  obtain ⟨i, hi, h⟩ := List.mem_flatMap.mp h
  obtain ⟨j, hj, rfl⟩ := List.mem_map.mp h
  have := List.mem_range.mp hi
  have := List.mem_range.mp hj
  exact ⟨by assumption, by show j < rc.length; omega⟩
end Bf
namespace Bf
open PySem PySem.Spec PyProof.Rows L2
/-! ## Frames bit by bit -/
/-! ### legs -/
/-! ### the least of some offers, by key -/
/-! ### how far off -/
theorem le_tr {a b c : Fq} (ha : okQ a) (hb : okQ b) (hc : okQ c) (h1 : lessP b a = false) (h2 : lessP c b = false) : lessP c a = false := by
  cases e : lessP c a with
  | false => rfl
  | true =>
    have := less_trans (a := c) (b := a) (c := b) hc ha hb e h1
    rw [h2] at this
    cases this
end Bf
namespace Bf
open PySem PySem.Spec PyProof.Rows L2
/-! ## tuples of ints by their order -/
def ltB : List Int → List Int → Bool
  | [], [] => false
  | [], _ :: _ => true
  | _ :: _, [] => false
  | x :: xs, y :: ys => if x = y then ltB xs ys else decide (x < y)
section
variable {K : PySem.W.Frag} {mg : Str → Option Value} {Hb Fb : Hp} {C fI pN gN pD gD : Addr} {L : List Addr} {S S1 S2 : Sta} {ρ : List (Option Dt)} {P : Pm} {te ta tb : TE} {tas : TA} {t : TS} {ds : List Dt} {d : Dt} {j : Nat}
/-! ### greatest_off from an index on -/
end
end Bf
namespace Bf
open PySem PySem.Spec PyProof.Rows L2
/-! ## legs_of -/
theorem dur_okS {x : Int} (h : dur x) : okS x := ⟨h.1, Int.le_trans h.2 (by decide)⟩
theorem part_okS {T : Tab} (hT : T.ok) {o : Str} {bit : Int} {l : Bool} : ∀ x ∈ T.part o bit l, okS x := by
  cases T with
  | ha u b =>
    have hu := hT.1
    have h1 : okS u := dur_okS hu
    have h2 : okS (2 * u) := ⟨by have := hu.1; omega, by have := hu.2; omega⟩
    intro x hx
    simp only [Tab.part, haS, haP] at hx
    repeat' split at hx
    all_goals simp only [List.cons_append, List.nil_append, List.mem_cons, List.not_mem_nil, or_false] at hx
    all_goals first | (rcases hx with rfl | rfl | rfl <;> first | exact h1 | exact h2) | (rcases hx with rfl | rfl <;> first | exact h1 | exact h2) | (subst hx; first | exact h1 | exact h2)
  | pa h z1 z2 o1 o2 st b =>
    intro x hx
    simp only [Tab.part] at hx
    rcases List.mem_append.mp hx with hx | hx
    · split at hx <;> simp only [List.mem_cons, List.not_mem_nil, or_false] at hx <;> rcases hx with rfl | rfl
      · exact dur_okS hT.2.2.2.2.1
      · exact dur_okS hT.2.2.2.2.2.1
      · exact dur_okS hT.2.2.1
      · exact dur_okS hT.2.2.2.1
    · split at hx
      · obtain rfl := List.mem_singleton.mp hx
        exact dur_okS hT.2.2.2.2.2.2.2.1
      · cases hx
section
variable {K : PySem.W.Frag} {Hb Fb : Hp} {C : Addr} {L : List Addr} {S : Sta} {ρ : List (Option Dt)} {P : Pm} {te ta tb : TE} {t : TS} {ds : List Dt} {d : Dt} {j : Nat} {T : Tab} {size : Nat}
end
end Bf
namespace Bf
open PySem PySem.Spec PyProof.Rows L2
/-! ## the order of words -/
theorem ltB_app : ∀ {w w' : List Int} {xs ys : List Int}, w.length = w'.length → ltB (w ++ xs) (w' ++ ys) = if w = w' then ltB xs ys else ltB w w'
  | [], [], _, _, _ => by simp
  | [], _ :: _, _, _, h => by simp at h
  | _ :: _, [], _, _, h => by simp at h
  | a :: w, b :: w', xs, ys, h => by
    have ih := ltB_app (w := w) (w' := w') (xs := xs) (ys := ys) (by simpa using h)
    simp only [List.cons_append, ltB, ih]
    by_cases e : a = b
    · subst e
      simp
    · simp [e]
/-! ## equal fractions have the same lowest terms -/
theorem can_eq {a b : Fq} (ha : okQ a) (hb : okQ b) (h1 : lessP a b = false) (h2 : lessP b a = false) : canP a = canP b := by
  have e : a.1 * b.2 = b.1 * a.2 := by
    have := of_decide_eq_false h1
    have := of_decide_eq_false h2
    omega
  obtain ⟨a1, a2⟩ := a
  obtain ⟨b1, b2⟩ := b
  obtain ⟨p0, _, p1, _⟩ := ha
  obtain ⟨q0, _, q1, _⟩ := hb
  simp only at e p0 p1 q0 q1
  obtain ⟨m1, rfl⟩ := Int.eq_ofNat_of_zero_le p0
  obtain ⟨m2, rfl⟩ := Int.eq_ofNat_of_zero_le (show (0 : Int) ≤ a2 by omega)
  obtain ⟨n1, rfl⟩ := Int.eq_ofNat_of_zero_le q0
  obtain ⟨n2, rfl⟩ := Int.eq_ofNat_of_zero_le (show (0 : Int) ≤ b2 by omega)
  have en : m1 * n2 = n1 * m2 := by exact_mod_cast e
  have hm2 : 0 < m2 := by omega
  have hn2 : 0 < n2 := by omega
  have g1 : 0 < Nat.gcd m1 m2 := Nat.gcd_pos_of_pos_right _ hm2
  have g2 : 0 < Nat.gcd n1 n2 := Nat.gcd_pos_of_pos_right _ hn2
  obtain ⟨x1, hx1⟩ := Nat.gcd_dvd_left m1 m2
  obtain ⟨x2, hx2⟩ := Nat.gcd_dvd_right m1 m2
  obtain ⟨y1, hy1⟩ := Nat.gcd_dvd_left n1 n2
  obtain ⟨y2, hy2⟩ := Nat.gcd_dvd_right n1 n2
  have cx : Nat.Coprime x1 x2 := by
    have := Nat.coprime_div_gcd_div_gcd (m := m1) (n := m2) g1
    rwa [show m1 / Nat.gcd m1 m2 = x1 from Nat.div_eq_of_eq_mul_right g1 hx1, show m2 / Nat.gcd m1 m2 = x2 from Nat.div_eq_of_eq_mul_right g1 hx2] at this
  have cy : Nat.Coprime y1 y2 := by
    have := Nat.coprime_div_gcd_div_gcd (m := n1) (n := n2) g2
    rwa [show n1 / Nat.gcd n1 n2 = y1 from Nat.div_eq_of_eq_mul_right g2 hy1, show n2 / Nat.gcd n1 n2 = y2 from Nat.div_eq_of_eq_mul_right g2 hy2] at this
  have hx20 : 0 < x2 := by
    rcases Nat.eq_zero_or_pos x2 with z | z
    · rw [z, Nat.mul_zero] at hx2; omega
    · exact z
  have hy20 : 0 < y2 := by
    rcases Nat.eq_zero_or_pos y2 with z | z
    · rw [z, Nat.mul_zero] at hy2; omega
    · exact z
  have ee : x1 * y2 = y1 * x2 := by
    have : Nat.gcd m1 m2 * Nat.gcd n1 n2 * (x1 * y2) = Nat.gcd m1 m2 * Nat.gcd n1 n2 * (y1 * x2) := by
      calc Nat.gcd m1 m2 * Nat.gcd n1 n2 * (x1 * y2) = (Nat.gcd m1 m2 * x1) * (Nat.gcd n1 n2 * y2) := by ac_rfl
        _ = m1 * n2 := by rw [← hx1, ← hy2]
        _ = n1 * m2 := en
        _ = (Nat.gcd n1 n2 * y1) * (Nat.gcd m1 m2 * x2) := by rw [← hy1, ← hx2]
        _ = Nat.gcd m1 m2 * Nat.gcd n1 n2 * (y1 * x2) := by ac_rfl
    exact Nat.eq_of_mul_eq_mul_left (Nat.mul_pos g1 g2) this
  have d1 : x2 ∣ y2 := cx.symm.dvd_of_dvd_mul_left (by rw [ee]; exact Nat.dvd_mul_left _ _)
  have d2 : y2 ∣ x2 := cy.symm.dvd_of_dvd_mul_left (by rw [← ee]; exact Nat.dvd_mul_left _ _)
  have e2 : x2 = y2 := Nat.dvd_antisymm d1 d2
  have e1 : x1 = y1 := by
    rw [e2] at ee
    exact Nat.eq_of_mul_eq_mul_right hy20 ee
  have f1 : ((m1 : Int) / ((Nat.gcd m1 m2 : Nat) : Int)) = (x1 : Int) := by
    rw [← Int.natCast_ediv, Nat.div_eq_of_eq_mul_right g1 hx1]
  have f2 : ((m2 : Int) / ((Nat.gcd m1 m2 : Nat) : Int)) = (x2 : Int) := by
    rw [← Int.natCast_ediv, Nat.div_eq_of_eq_mul_right g1 hx2]
  have f3 : ((n1 : Int) / ((Nat.gcd n1 n2 : Nat) : Int)) = (y1 : Int) := by
    rw [← Int.natCast_ediv, Nat.div_eq_of_eq_mul_right g2 hy1]
  have f4 : ((n2 : Int) / ((Nat.gcd n1 n2 : Nat) : Int)) = (y2 : Int) := by
    rw [← Int.natCast_ediv, Nat.div_eq_of_eq_mul_right g2 hy2]
  unfold canP
  simp only [Int.natAbs_natCast]
  rw [f1, f2, f3, f4, e1, e2]
/-! ## what nearL tells -/
/-! ## the least tolerance, bit by bit -/
/-! ## the least word, bit by bit -/
end Bf
namespace Bf
/-! ## Fractions in lowest terms are in a total order -/
def okB (q : Fq) : Bool := decide (0 ≤ q.1) && decide (q.1 < 2 ^ 90) && decide (1 ≤ q.2) && decide (q.2 < 2 ^ 90) && decide (canP q = q)
theorem okB_iff {q : Fq} : okB q = true ↔ okQ q ∧ canP q = q := by
  unfold okB okQ
  simp only [Bool.and_eq_true, decide_eq_true_eq]
  constructor
  · rintro ⟨⟨⟨⟨a, b⟩, c⟩, d⟩, e⟩
    exact ⟨⟨a, b, c, d⟩, e⟩
  · rintro ⟨⟨a, b, c, d⟩, e⟩
    exact ⟨⟨⟨⟨a, b⟩, c⟩, d⟩, e⟩
def lexQ (a b : Fq) : Bool := decide (a.1 < b.1) || (decide (a.1 = b.1) && decide (a.2 < b.2))
/-- less, made total: what is no fraction in lowest terms comes behind -/
def ltQ (a b : Fq) : Bool := if okB a = true then (if okB b = true then lessP a b else true) else (if okB b = true then false else lexQ a b)
/-! ### more ways, or less needs: no greater limit -/
section
variable {κ κ' Q : Type} {lt : Q → Q → Bool} {mvA : κ → List (Q × κ)} {mvB : κ' → List (Q × κ')} {finA : κ → Bool} {finB : κ' → Bool} {stA : List κ} {stB : List κ'} {q0 : Q}
structure HalfLe (R : κ → κ' → Prop) (lt : Q → Q → Bool) (mvA : κ → List (Q × κ)) (mvB : κ' → List (Q × κ')) (finA : κ → Bool) (finB : κ' → Bool) (stA : List κ) (stB : List κ') : Prop where
  st : ∀ b ∈ stB, ∃ a ∈ stA, R a b
  mv : ∀ a b, R a b → ∀ m ∈ mvB b, ∃ n ∈ mvA a, lt m.1 n.1 = false ∧ R n.2 m.2
  fin : ∀ a b, R a b → finB b = true → finA a = true
theorem gre_both {lt : Q → Q → Bool} (T : TotLt lt) {n m a b : Q} (h1 : lt m n = false) (h2 : lt b a = false) : lt (gre lt m b) (gre lt n a) = false := by
  have e1 : lt b (gre lt m b) = false ∨ True := .inr trivial
  unfold gre
  by_cases c1 : lt b m = true
  · rw [if_pos c1]
    by_cases c2 : lt a n = true
    · rw [if_pos c2]; exact h1
    · rw [if_neg c2]; exact T.le_tr h2 (T.asy c1)
  · rw [if_neg c1]
    by_cases c2 : lt a n = true
    · rw [if_pos c2]; exact T.le_tr h1 (Bool.eq_false_iff.mpr c1)
    · rw [if_neg c2]; exact h2
theorem HalfLe.pth {R : κ → κ' → Prop} (T : TotLt lt) (h : HalfLe R lt mvA mvB finA finB stA stB) : ∀ {k : Nat} {b : κ'} {q : Q}, Pth mvB stB q0 (lt := lt) k b q → ∃ a r, Pth mvA stA q0 (lt := lt) k a r ∧ lt q r = false ∧ R a b
  | 0, b, q, ⟨hb, e⟩ => by
    obtain ⟨a, ha, hr⟩ := h.st b hb
    exact ⟨a, q, ⟨ha, e⟩, T.irr q, hr⟩
  | k + 1, b, q, ⟨p, r, n, hp, hm, e⟩ => by
    obtain ⟨a, r', ha, hle, hr⟩ := h.pth T hp
    obtain ⟨m, hm', e1, hr'⟩ := h.mv a p hr _ hm
    exact ⟨m.2, gre lt m.1 r', ⟨a, r', m.1, ha, hm', rfl⟩, by rw [e]; exact gre_both T e1 hle, hr'⟩
end
end Bf
namespace Bf
/-! ## With a greater tolerance the limit is no greater -/
theorem can_idem {p : Fq} (h : okQ p) : canP (canP p) = canP p := by
  have hs : lessP p p = false := by unfold lessP; exact decide_eq_false (by omega)
  exact can_eq (okQ_can h) h (by rw [less_canL h]; exact hs) (by rw [less_canR h]; exact hs)
theorem okB_can {p : Fq} (h : okQ p) : okB (canP p) = true := okB_iff.mpr ⟨okQ_can h, can_idem h⟩
theorem needP_1 {f p : Int} {t : Fq} : (needP f p t).1 = (if (0 : Int) < p * (t.2 - t.1) - f * t.2 then (p * (t.2 - t.1) - f * t.2 : Int) else if (0 : Int) < f * t.2 - p * (t.2 + t.1) then (f * t.2 - p * (t.2 + t.1) : Int) else 0) := rfl
theorem max3 (A B : Int) (h : 0 < A → B ≤ A) : A ≤ (if 0 < A then A else if 0 < B then B else 0) ∧ B ≤ (if 0 < A then A else if 0 < B then B else 0) ∧ 0 ≤ (if 0 < A then A else if 0 < B then B else 0) ∧ ((if 0 < A then A else if 0 < B then B else 0) = A ∨ (if 0 < A then A else if 0 < B then B else 0) = B ∨ (if 0 < A then A else if 0 < B then B else 0) = 0) := by
  by_cases a : 0 < A
  · rw [if_pos a]
    exact ⟨Int.le_refl A, h a, Int.le_of_lt a, .inl rfl⟩
  · rw [if_neg a]
    by_cases b : 0 < B
    · rw [if_pos b]
      exact ⟨by omega, Int.le_refl B, Int.le_of_lt b, .inr (.inl rfl)⟩
    · rw [if_neg b]
      exact ⟨by omega, by omega, Int.le_refl 0, .inr (.inr rfl)⟩
theorem need_max {f p : Int} {t : Fq} (hp : 0 ≤ p) (t0 : 0 ≤ t.1) : p * (t.2 - t.1) - f * t.2 ≤ (needP f p t).1 ∧ f * t.2 - p * (t.2 + t.1) ≤ (needP f p t).1 ∧ 0 ≤ (needP f p t).1 ∧ ((needP f p t).1 = p * (t.2 - t.1) - f * t.2 ∨ (needP f p t).1 = f * t.2 - p * (t.2 + t.1) ∨ (needP f p t).1 = 0) := by
  rw [needP_1]
  refine max3 _ _ fun h => ?_
  have hpp : p * (t.2 - t.1) ≤ p * (t.2 + t.1) := Int.mul_le_mul_of_nonneg_left (by omega) hp
  omega
theorem need_okQ {f p : Int} {t : Fq} (hf : okS f) (hp : okS p) (ht : okT t) : okQ (needP f p t) := by
  obtain ⟨f1, f2⟩ := hf
  obtain ⟨p1, p2⟩ := hp
  obtain ⟨t0, t1, t2⟩ := ht
  have a1 : 0 ≤ p * (t.2 - t.1) := Int.mul_nonneg (by omega) (by omega)
  have a2 : p * (t.2 - t.1) ≤ 2000000 * 1000 := Int.mul_le_mul p2 (by omega) (by omega) (by decide)
  have b1 : 0 ≤ p * (t.2 + t.1) := Int.mul_nonneg (by omega) (by omega)
  have c1 : 1 ≤ f * t.2 := by have := Int.mul_pos (show 0 < f by omega) (show 0 < t.2 by omega); omega
  have c2 : f * t.2 ≤ 2000000 * 1000 := Int.mul_le_mul f2 t2 (by omega) (by decide)
  have h90 : (2000000 * 1000 : Int) < 2 ^ 90 := by decide
  obtain ⟨_, _, m3, m4⟩ := need_max (f := f) (p := p) (t := t) (by omega) t0
  refine ⟨m3, ?_, c1, by show f * t.2 < 2 ^ 90; omega⟩
  rcases m4 with e | e | e <;> rw [e] <;> omega
/-! ### durations on the way -/
def siteR (s : Site) : Prop := ∀ x ∈ s.rest, okS x
theorem beg_R {T : Tab} (hT : T.ok) : siteR T.beg := by
  cases T with
  | ha u b =>
    intro x hx
    rw [show x = u from List.mem_singleton.mp hx]
    obtain ⟨h1, h2⟩ := hT.1
    exact ⟨h1, by omega⟩
  | pa h z1 z2 o1 o2 s b =>
    intro x hx
    obtain ⟨h1, h2⟩ := hT.2.1 x hx
    exact ⟨h1, by omega⟩
theorem step_R {T : Tab} {s : Site} {x : Stp} (hT : T.ok) (hs : siteR s) (h : x ∈ stepsS T s) : okS x.2.1 ∧ siteR x.2.2 := by
  have key : ∀ (b : Option Int) (s : Site), siteR s → s.rest ≠ [] → okS (stepOf b s).2.1 ∧ siteR (stepOf b s).2.2 := fun b s hs hr => by
    obtain ⟨k, r, o⟩ := s
    cases r with
    | nil => exact absurd rfl hr
    | cons y r => exact ⟨hs y List.mem_cons_self, fun z hz => hs z (List.mem_cons_of_mem _ hz)⟩
  have hset : ∀ bit, siteR (T.sett s bit) := fun bit z hz => by
    rw [sett_rest] at hz
    exact part_okS hT z hz
  unfold stepsS at h
  split at h
  · cases h
  · split at h
    · rename_i hr
      rw [List.mem_singleton.mp h]
      exact key _ s hs hr
    · rcases List.mem_cons.mp h with rfl | h
      · exact key _ _ (hset 0) (sett_ne T s 0)
      · rw [List.mem_singleton.mp h]; exact key _ _ (hset 1) (sett_ne T s 1)
def rcvOk (rc : Rcv) : Prop := ∀ x ∈ rc, x.1.ok ∧ okT x.2
theorem at_ok {rc : Rcv} (h : rcvOk rc) {i : Nat} (hi : i < rc.length) : (tabAt rc i).ok ∧ okT (tolAt rc i) := by
  unfold tabAt tolAt
  rw [List.getElem?_eq_getElem hi]
  exact h _ (List.getElem_mem hi)
def stnR (rc : Rcv) (s : Stn) : Prop := inR rc s ∧ siteR s.a ∧ siteR s.b
end Bf
namespace Bf
open PySem PySem.Spec PyProof.Rows L2
/-! ## How many stands there are -/
def restL : Tab → List (List Int)
  | .ha u _ => [[], [u], [u, u]]
  | .pa _ _ z2 _ o2 st _ => [[], [z2], [o2], [st], [z2, st], [o2, st]]
def oL : Tab → List Str
  | .ha _ _ => ["pulse", "gap"]
  | .pa .. => [""]
def begL (T : Tab) : List (List Int) := (List.range (T.beg.rest.length + 1)).map fun i => T.beg.rest.drop i
def siteL (T : Tab) : List Site := ((begL T).map fun r => ⟨0, r, T.beg.o⟩) ++ (List.range 8).flatMap fun k : Nat => (oL T).flatMap fun o => (restL T).map fun r => ⟨(k : Int) + 1, r, o⟩
theorem siteL_len {T : Tab} (hT : T.ok) : (siteL T).length ≤ 53 := by
  cases T with
  | ha u b => exact (by decide : (50 : Nat) ≤ 53)
  | pa h z1 z2 o1 o2 st b =>
    have hh : h.length ≤ 4 := by rcases hT.1 with e | e | e <;> omega
    unfold siteL begL
    rw [List.length_append, List.length_map, List.length_map, List.length_range]
    show h.length + 1 + 48 ≤ 53
    omega
theorem mem_late {T : Tab} {k : Nat} {r : List Int} {o : Str} (hk : k < 8) (ho : o ∈ oL T) (hr : r ∈ restL T) : (⟨(k : Int) + 1, r, o⟩ : Site) ∈ siteL T :=
  List.mem_append_right _ (List.mem_flatMap.mpr ⟨k, List.mem_range.mpr hk, List.mem_flatMap.mpr ⟨o, ho, List.mem_map.mpr ⟨r, hr, rfl⟩⟩⟩)
theorem beg_o (T : Tab) : T.beg.o ∈ oL T := by cases T <;> simp [Tab.beg, oL]
theorem mem_siteL {T : Tab} {s : Site} (h : s ∈ siteL T) : 0 ≤ s.k ∧ s.o ∈ oL T ∧ ((s.k = 0 ∧ ∃ i, s.rest = T.beg.rest.drop i ∧ s.o = T.beg.o) ∨ ∃ k : Nat, k < 8 ∧ s.k = (k : Int) + 1 ∧ s.rest ∈ restL T) := by
  rcases List.mem_append.mp h with h | h
  · obtain ⟨r, hr, rfl⟩ := List.mem_map.mp h
    obtain ⟨i, _, rfl⟩ := List.mem_map.mp hr
    exact ⟨Int.le_refl 0, beg_o T, .inl ⟨rfl, i, rfl, rfl⟩⟩
  · obtain ⟨k, hk, h⟩ := List.mem_flatMap.mp h
    obtain ⟨o, ho, h⟩ := List.mem_flatMap.mp h
    obtain ⟨r, hr, rfl⟩ := List.mem_map.mp h
    exact ⟨by show 0 ≤ (k : Int) + 1; omega, ho, .inr ⟨k, List.mem_range.mp hk, rfl, hr⟩⟩
theorem beg_L (T : Tab) : T.beg ∈ siteL T := by
  refine List.mem_append_left _ (List.mem_map.mpr ⟨T.beg.rest, List.mem_map.mpr ⟨0, List.mem_range.mpr (by omega), rfl⟩, ?_⟩)
  cases T <;> rfl
theorem tail_restL {T : Tab} {r : List Int} (h : r ∈ restL T) : r.tail ∈ restL T := by
  cases T with
  | ha u b =>
    simp only [restL, List.mem_cons, List.not_mem_nil, or_false] at h ⊢
    rcases h with rfl | rfl | rfl <;> simp
  | pa hd z1 z2 o1 o2 st b =>
    simp only [restL, List.mem_cons, List.not_mem_nil, or_false] at h ⊢
    rcases h with rfl | rfl | rfl | rfl | rfl | rfl <;> simp
theorem sett_L {T : Tab} {s : Site} (ho : s.o ∈ oL T) (bit : Int) : (T.sett s bit).rest.tail ∈ restL T ∧ (T.sett s bit).o ∈ oL T := by
  cases T with
  | ha u b =>
    have hp : ((haP u bit s.o).1 = [2 * u] ∨ (haP u bit s.o).1 = [u, u]) ∧ ((haP u bit s.o).2 = "pulse" ∨ (haP u bit s.o).2 = "gap") := by
      unfold haP
      split
      · refine ⟨.inl rfl, ?_⟩
        show ohS s.o = "pulse" ∨ ohS s.o = "gap"
        unfold ohS
        split
        · exact .inr rfl
        · exact .inl rfl
      · refine ⟨.inr rfl, ?_⟩
        simpa [oL] using ho
    have hs : ∀ l, (haS u bit s.o l).1.tail ∈ restL (.ha u b) ∧ (haS u bit s.o l).2 ∈ oL (.ha u b) := fun l => by
      unfold haS
      split
      · refine ⟨?_, by simp [oL]⟩
        show ((haP u bit s.o).1 ++ [u]).tail ∈ _
        rcases hp.1 with e | e <;> rw [e] <;> simp [restL]
      · refine ⟨?_, ?_⟩
        · rcases hp.1 with e | e <;> rw [e] <;> simp [restL]
        · simpa [oL] using hp.2
    exact hs _
  | pa hd z1 z2 o1 o2 st b =>
    refine ⟨?_, by simp [oL, Tab.sett]⟩
    show ((if bit = 1 then [o1, o2] else [z1, z2]) ++ (if decide (s.k + 1 = b) = true then [st] else [])).tail ∈ _
    split <;> split <;> simp [restL]
theorem step_L {T : Tab} (hT : T.ok) {s : Site} {x : Stp} (hs : s ∈ siteL T) (hk : s.k ≤ T.b) (h : x ∈ stepsS T s) : x.2.2 ∈ siteL T := by
  obtain ⟨k0, ho, hc⟩ := mem_siteL hs
  have hb := (Tab.b1 hT).2
  unfold stepsS at h
  by_cases e : (decide (s.k = T.b) && decide (s.rest = [])) = true
  · rw [if_pos e] at h; cases h
  · rw [if_neg e] at h
    by_cases r : s.rest ≠ []
    · rw [if_pos r] at h
      rw [List.mem_singleton.mp h]
      show (⟨s.k, s.rest.tail, s.o⟩ : Site) ∈ siteL T
      rcases hc with ⟨e0, i, er, eo⟩ | ⟨k, hk8, ek, hr⟩
      · rw [e0, er, eo, List.tail_drop]
        refine List.mem_append_left _ (List.mem_map.mpr ⟨_, List.mem_map.mpr ⟨i + 1, List.mem_range.mpr ?_, rfl⟩, rfl⟩)
        rw [er] at r
        have : i < T.beg.rest.length := by
          rcases Nat.lt_or_ge i T.beg.rest.length with z | z
          · exact z
          · exact absurd (List.drop_eq_nil_of_le z) r
        omega
      · rw [ek]
        exact mem_late hk8 ho (tail_restL hr)
    · rw [if_neg r] at h
      have r' : s.rest = [] := Classical.byContradiction r
      have hlt : s.k < T.b := by
        rcases Int.lt_or_eq_of_le hk with z | z
        · exact z
        · rw [decide_eq_true z, decide_eq_true r'] at e
          exact absurd rfl e
      have key : ∀ bit, (stepOf (some bit) (T.sett s bit)).2.2 ∈ siteL T := fun bit => by
        obtain ⟨h1, h2⟩ := sett_L (T := T) ho bit
        obtain ⟨k, ek⟩ := Int.eq_ofNat_of_zero_le k0
        show (⟨(T.sett s bit).k, (T.sett s bit).rest.tail, (T.sett s bit).o⟩ : Site) ∈ siteL T
        rw [sett_k, ek]
        exact mem_late (by omega) h2 h1
      rcases List.mem_cons.mp h with rfl | h
      · exact key 0
      · rw [List.mem_singleton.mp h]; exact key 1
/-- all stands that may be, for a receiver -/
def stnL (rc : Rcv) : List Stn := (List.range rc.length).flatMap fun i => (List.range rc.length).flatMap fun j => [false, true].flatMap fun l => (siteL (tabAt rc i)).flatMap fun a => (siteL (tabAt rc j)).map fun b => ⟨i, j, l, a, b⟩
def stnG (rc : Rcv) (s : Stn) : Prop := inR rc s ∧ s.a ∈ siteL (tabAt rc s.ix) ∧ s.a.k ≤ (tabAt rc s.ix).b ∧ s.b ∈ siteL (tabAt rc s.lw) ∧ s.b.k ≤ (tabAt rc s.lw).b
theorem stnG_L {rc : Rcv} {s : Stn} (h : stnG rc s) : s ∈ stnL rc := by
  obtain ⟨⟨h1, h2⟩, h3, _, h4, _⟩ := h
  exact List.mem_flatMap.mpr ⟨s.ix, List.mem_range.mpr h1, List.mem_flatMap.mpr ⟨s.lw, List.mem_range.mpr h2, List.mem_flatMap.mpr ⟨s.le, by cases s.le <;> simp, List.mem_flatMap.mpr ⟨s.a, h3, List.mem_map.mpr ⟨s.b, h4, rfl⟩⟩⟩⟩⟩
theorem stnG_mv {rc : Rcv} (hr : rcvOk rc) {s : Stn} (h : stnG rc s) {m : Fq × Stn} (hm : m ∈ mvN rc s) : stnG rc m.2 := by
  obtain ⟨hi, ha, hak, hb, hbk⟩ := h
  obtain ⟨m3, h3, rfl⟩ := List.mem_map.mp hm
  obtain ⟨x, hx, h3⟩ := List.mem_flatMap.mp h3
  obtain ⟨y, hy, rfl⟩ := List.mem_map.mp h3
  have hy := (List.mem_filter.mp hy).1
  exact ⟨hi, step_L (at_ok hr hi.1).1 ha hak hx, (step_less hak hx).1, step_L (at_ok hr hi.2).1 hb hbk hy, (step_less hbk hy).1⟩
theorem stnG_sts {rc : Rcv} (hr : rcvOk rc) {s : Stn} (h : s ∈ stsN rc) : stnG rc s := by
  have hi := inR_sts h
  obtain ⟨i, _, h⟩ := List.mem_flatMap.mp h
  obtain ⟨j, _, rfl⟩ := List.mem_map.mp h
  have hb : ∀ i, i < rc.length → (tabAt rc i).beg.k ≤ (tabAt rc i).b := fun i hi => by
    have := (Tab.b1 (at_ok hr hi).1).1
    have : (tabAt rc i).beg.k = 0 := by cases tabAt rc i <;> rfl
    omega
  exact ⟨hi, beg_L _, hb _ hi.1, beg_L _, hb _ hi.2⟩
theorem flat_le {α β : Type} {f : α → List β} {c : Nat} : ∀ {l : List α}, (∀ x ∈ l, (f x).length ≤ c) → (l.flatMap f).length ≤ l.length * c
  | [], _ => by simp
  | x :: l, h => by
    rw [List.flatMap_cons, List.length_append, List.length_cons, Nat.succ_mul]
    have := flat_le (l := l) fun y hy => h y (List.mem_cons_of_mem _ hy)
    have := h x List.mem_cons_self
    omega
theorem stnL_len {rc : Rcv} (hr : rcvOk rc) (hn : rc.length ≤ 4) : (stnL rc).length ≤ 89888 := by
  have h1 : ∀ i ∈ List.range rc.length, (siteL (tabAt rc i)).length ≤ 53 := fun i hi => siteL_len (at_ok hr (List.mem_range.mp hi)).1
  have h2 : (stnL rc).length ≤ rc.length * (rc.length * (2 * (53 * 53))) := by
    unfold stnL
    refine Nat.le_trans (flat_le (c := rc.length * (2 * (53 * 53))) fun i hi => ?_) (by rw [List.length_range]; exact Nat.le_refl _)
    refine Nat.le_trans (flat_le (c := 2 * (53 * 53)) fun j hj => ?_) (by rw [List.length_range]; exact Nat.le_refl _)
    refine Nat.le_trans (flat_le (c := 53 * 53) fun l _ => ?_) (Nat.le_refl _)
    refine Nat.le_trans (flat_le (c := 53) fun a _ => ?_) (Nat.mul_le_mul_right _ (h1 i hi))
    rw [List.length_map]
    exact h1 j hj
  have h3 : rc.length * (rc.length * (2 * (53 * 53))) ≤ 4 * (4 * (2 * (53 * 53))) := Nat.mul_le_mul hn (Nat.mul_le_mul hn (Nat.le_refl _))
  omega
/-- a list of such stands without any twice is short -/
theorem stands_short {rc : Rcv} (hr : rcvOk rc) (hn : rc.length ≤ 4) {W : List Stn} (hW : W.Nodup) (h : ∀ s ∈ W, stnG rc s) : W.length ≤ 89888 := by
  have : ∀ (W L : List Stn), W.Nodup → (∀ s ∈ W, s ∈ L) → W.length ≤ L.length := by
    intro W
    induction W with
    | nil => exact fun L _ _ => Nat.zero_le _
    | cons s W ih =>
      intro L hn hs
      obtain ⟨h1, h2⟩ := List.nodup_cons.mp hn
      have hm : s ∈ L := hs s List.mem_cons_self
      have h3 := ih (L.erase s) h2 fun t ht => by
        have : t ≠ s := fun z => h1 (z ▸ ht)
        exact (List.mem_erase_of_ne this).mpr (hs t (List.mem_cons_of_mem _ ht))
      have h4 := List.length_erase_of_mem hm
      have h5 := List.length_pos_of_mem hm
      rw [List.length_cons]
      omega
  exact Nat.le_trans (this W (stnL rc) hW fun s hs => stnG_L (h s hs)) (stnL_len hr hn)
end Bf
namespace Bf
open PySem PySem.Spec PyProof.Rows L2
/-! ## What holds on all ways of a receiver -/
theorem mv_ok {rc : Rcv} (hr : rcvOk rc) {s : Stn} (h : stnR rc s) {m : Fq × Stn} (hm : m ∈ mvN rc s) : okB m.1 = true ∧ stnR rc m.2 := by
  obtain ⟨hi, ha, hb⟩ := h
  obtain ⟨m3, h3, rfl⟩ := List.mem_map.mp hm
  obtain ⟨x, hx, h3⟩ := List.mem_flatMap.mp h3
  obtain ⟨y, hy, rfl⟩ := List.mem_map.mp h3
  have hy := (List.mem_filter.mp hy).1
  obtain ⟨x1, x2⟩ := step_R (at_ok hr hi.1).1 ha hx
  obtain ⟨y1, y2⟩ := step_R (at_ok hr hi.2).1 hb hy
  exact ⟨okB_can (need_okQ x1 y1 (at_ok hr hi.2).2), hi, x2, y2⟩
/-- no way has more than 28 moves -/
theorem mv_mes {rc : Rcv} {s : Stn} (h : stnG rc s) {m : Fq × Stn} (hm : m ∈ mvN rc s) : mesS (tabAt rc m.2.ix) m.2.a < mesS (tabAt rc s.ix) s.a := by
  obtain ⟨hi, ha, hak, hb, hbk⟩ := h
  obtain ⟨m3, h3, rfl⟩ := List.mem_map.mp hm
  obtain ⟨x, hx, h3⟩ := List.mem_flatMap.mp h3
  obtain ⟨y, hy, rfl⟩ := List.mem_map.mp h3
  exact (step_less hak hx).2
end Bf
namespace Bf
open PySem PySem.Spec PyProof.Rows L2
/-! ## Walks over one table: what is read, what is settled -/
def bitL : Option Int → List Int
  | none => []
  | some b => [b]
/-- from a place over these durations, with these bits settled, to a place -/
def Wlk (T : Tab) : Site → List Int → List Int → Site → Prop
  | s, [], ws, s' => ws = [] ∧ s' = s
  | s, f :: fs, ws, s' => ∃ x ∈ stepsS T s, x.2.1 = f ∧ ∃ ws', ws = bitL x.1 ++ ws' ∧ Wlk T x.2.2 fs ws' s'
end Bf
namespace Bf
open PySem PySem.Spec PyProof.Rows L2
/-! ## TwoW walks side by side -/
/-- the first list of bits is less: the same ahead, then 0 instead of 1 -/
def Lss (vs ws : List Int) : Prop := ∃ p a b, vs = p ++ 0 :: a ∧ ws = p ++ 1 :: b
theorem Lss.app {vs ws : List Int} (h : Lss vs ws) (xs ys : List Int) : Lss (vs ++ xs) (ws ++ ys) := by
  obtain ⟨p, a, b, rfl, rfl⟩ := h
  exact ⟨p, a ++ xs, b ++ ys, by simp, by simp⟩
/-- the greatest of the needs, one after the other -/
def mostN (t : Fq) (fs gs : List Int) : Fq := (fs.zip gs).foldl (fun q p => gre ltQ (canP (needP p.1 p.2 t)) q) (0, 1)
/-- a way is two walks -/
structure TwoW (rc : Rcv) (k : Nat) (s : Stn) (q : Fq) (fs gs ws vs : List Int) : Prop where
  inr : inR rc s
  le : s.lw ≤ s.ix
  fl : fs.length = k
  gl : gs.length = k
  a : Wlk (tabAt rc s.ix) (tabAt rc s.ix).beg fs ws s.a
  b : Wlk (tabAt rc s.lw) (tabAt rc s.lw).beg gs vs s.b
  q : q = mostN (tolAt rc s.lw) fs gs
  lt : s.lw < s.ix → s.le = true
  eq : s.lw = s.ix → s.le = false → ws = vs ∧ s.a = s.b
  ls : s.lw = s.ix → s.le = true → Lss vs ws
end Bf
namespace Bf
open PySem PySem.Spec PyProof.Rows L2
/-! ## Two walks are a way -/
theorem Lss.cons {b : Int} {vs ws : List Int} (h : Lss (b :: vs) (b :: ws)) : Lss vs ws := by
  obtain ⟨p, x, y, e1, e2⟩ := h
  cases p with
  | nil =>
    cases e1
    cases e2
  | cons z p =>
    cases e1
    cases e2
    exact ⟨p, x, y, rfl, rfl⟩
end Bf
namespace Bf
open PySem PySem.Spec PyProof.Rows L2
/-! ## The limit, by pairs of sendings -/
def isWrd (T : Tab) (v : List Int) : Prop := (v.length : Int) = T.b ∧ ∀ x ∈ v, x = 0 ∨ x = 1
/-- the sending (j, w) is ahead of (i, v), and their frames are as long -/
structure PairOk (rc : Rcv) (i j : Nat) (v w : List Int) : Prop where
  ir : i < rc.length
  le : j ≤ i
  vi : isWrd (tabAt rc i) v
  wj : isWrd (tabAt rc j) w
  len : ((tabAt rc i).frame v).length = ((tabAt rc j).frame w).length
  lt : j < i ∨ Lss w v
end Bf
namespace Bf
/-! ## The same fraction, however it is written -/
end Bf
namespace Bf
open PySem PySem.Spec PyProof.Rows L2
/-! ## The greatest need, as the law adds it up -/
def lawMost (t : Fq) (fs gs : List Int) : Fq := (fs.zip gs).foldl (fun q p => if lessP q (needP p.1 p.2 t) = true then needP p.1 p.2 t else q) (0, 1)
end Bf
namespace Bf
open PySem PySem.Spec PyProof.Rows L2
/-! ## Methods whose promises speak of data; a dict by a comprehension, its keys tuples; a dict's truth -/
section
variable {X : Cx} {k : Nat} {f C : Addr} {fd : FuncData} {ps : List Str} {sp : Sp} {dvs : List V} {ds : List Value} {E : XK} {m : Str} {pos apos : Pos} {e o : Expr} {es : List Expr} {ta : TE} {t : TA}
end
/-! the truth of a dict whose keys are tuples -/
section
variable {prog : Program} {w : World} {K : Type} [DecidableEq K] {knd : HeapKind prog w K} {A : Around} {E : Value → Shared → Prop} {s : Shared}
end
section
variable {X : Cx} {pins : List (Addr × Obj)} {σ : L2.St} {H : Hp} {s : Shared}
end
/-! {k: v for x in xs}, the keys tuples -/
section
variable {X : Cx}
end
end Bf
namespace Bf
open PySem PySem.Spec PyProof.Rows L2
/-! ## {x: c for x in xs} over data; the truth of a dict; methods of an instance whose cache grows -/
section
variable {K : PySem.W.Frag} {Hb Fb F F' H H' : Hp} {L L' : List Addr} {p : Addr} {o : HO} {v : V} {d x q : Dt} {σ : L2.St} {ρ : List (Option Dt)} {P : Pm} {te tl tk td ty tv : TE} {ta : TA} {tt c : TT} {t u : TS} {D : Ends} {Φ Ψ : Dt → Prop} {j : Nat} {xs ys ds ks keys : List Dt} {S S1 S2 : Sta} {w : World} {tw : TS}
end
end Bf
namespace Bf
open PySem PySem.Spec PyProof.Rows L2
/-! ## Promises of methods of an instance whose cache grows -/
/-- the instance stands in F, its dict in H holds what is right -/
def Cch (K : PySem.W.Frag) (F H : Hp) (C : Addr) (w : World) (p : Addr) (l1 l2 : List Dt) (v : V) : Prop := ∃ (a dx : Addr) (v1 v2 : V) (as : List Addr) (vs : List V) (ks ds : List Dt), v = .ref a ∧ F a = some (.ins C dx [("_steps", v1), ("_tolerances", v2), ("_needs", .ref p)]) ∧ Rep K F v1 (.lst l1) ∧ Rep K F v2 (.lst l2) ∧
  H p = some (DatO w ks as vs p) ∧ RepA K F (as.map V.ref) ks ∧ RepA K F vs ds ∧ ownOk l1 l2 ks ds
section
variable {K : PySem.W.Frag} {Hb Fb F F' H H' F1 F2 H1 H2 : Hp} {L L' : List Addr} {p C : Addr} {o : HO} {v v0 : V} {d x q : Dt} {σ : L2.St} {ρ : List (Option Dt)} {P : Pm} {te tl tk td ty tv : TE} {ta : TA} {tt c : TT} {t u : TS} {D : Ends} {Φ Ψ : Dt → Prop} {j n : Nat} {xs ys ds ks keys l1 l2 : List Dt} {S S1 S2 : Sta} {w : World} {tw : TS} {E : XK} {m : Str}
/-- the instance of before, the dict of now -/
theorem Cch.back (c : Cch K F H C w p l1 l2 v) (c' : Cch K F' H' C w p l1 l2 v0) (s : Same F F') : Cch K F' H' C w p l1 l2 v := by
  obtain ⟨a, dx, v1, v2, _, _, _, _, rfl, e1, r1, r2, _⟩ := c
  obtain ⟨_, _, _, _, as, vs, ks, ds, _, _, _, _, e2, ra, rb, k⟩ := c'
  exact ⟨a, dx, v1, v2, as, vs, ks, ds, rfl, s _ _ e1, r1.mono s.gr, r2.mono s.gr, e2, ra, rb, k⟩
end
end Bf
namespace Bf
open PySem PySem.Spec PyProof.Rows L2
instance : DecidableEq La := fun x y => decidable_of_iff (x.b = y.b ∧ x.m = y.m ∧ x.age = y.age ∧ x.th = y.th) (by cases x; cases y; simp)
instance : DecidableEq St1 := fun x y => decidable_of_iff (x.bo = y.bo ∧ x.mr = y.mr ∧ x.la = y.la) (by cases x; cases y; simp)
instance : DecidableEq Mo := fun x y => match x, y with
  | .rest, .rest => isTrue rfl
  | .press b h, .press b' h' => decidable_of_iff (b = b' ∧ h = h') (by simp)
  | .hold h, .hold h' => decidable_of_iff (h = h') (by simp)
  | .rest, .press _ _ => isFalse (fun e => by cases e)
  | .rest, .hold _ => isFalse (fun e => by cases e)
  | .press _ _, .rest => isFalse (fun e => by cases e)
  | .press _ _, .hold _ => isFalse (fun e => by cases e)
  | .hold _, .rest => isFalse (fun e => by cases e)
  | .hold _, .press _ _ => isFalse (fun e => by cases e)
/-! ## Places of the search: a state, a spell -/
structure Spl where
  lo : Nat
  pa : Nat
deriving DecidableEq
def Spl.d (s : Spl) : Dt := .tup [.int s.lo, .int s.pa]
abbrev Plc := St1 × Spl
/-- where a frame that goes on may come, a press came -/
def plOk (p : Plc) : Prop := p.2.pa = 0 → p.1.bo.isSome = true
/-! ### finitely many -/
def plU (lost : Nat) (p : Plc) : Prop := (∀ b, p.1.bo = some b → 0 ≤ b ∧ b < 4) ∧ (p.1.mr = 0 ∨ p.1.mr = 1) ∧ (∀ l, p.1.la = some l → 0 ≤ l.b ∧ l.b < 4 ∧ (l.m = 0 ∨ l.m = 1) ∧ 0 ≤ l.age ∧ l.age ≤ 10) ∧ p.2.lo ≤ lost ∧ p.2.pa ≤ 7
def codeL : Option La → Nat
  | none => 0
  | some l => 1 + (((l.b.toNat * 2 + l.m.toNat) * 11 + l.age.toNat) * 2 + (if l.th = true then 1 else 0))
def codeB : Option Int → Nat
  | none => 0
  | some b => b.toNat + 1
def codeP (p : Plc) : Nat := (((codeB p.1.bo * 2 + p.1.mr.toNat) * 200 + codeL p.1.la) * 6 + p.2.lo) * 8 + p.2.pa
theorem codeL_lt {lost : Nat} {p : Plc} (h : plU lost p) : codeL p.1.la < 200 := by
  obtain ⟨_, _, h3, _⟩ := h
  cases e : p.1.la with
  | none => decide
  | some l =>
    obtain ⟨a1, a2, a3, a4, a5⟩ := h3 l e
    show 1 + (((l.b.toNat * 2 + l.m.toNat) * 11 + l.age.toNat) * 2 + (if l.th = true then 1 else 0)) < 200
    split <;> omega
theorem codeB_lt {lost : Nat} {p : Plc} (h : plU lost p) : codeB p.1.bo < 5 := by
  cases e : p.1.bo with
  | none => decide
  | some b =>
    have := h.1 b e
    show b.toNat + 1 < 5
    omega
theorem code_lt {lost : Nat} {p : Plc} (hl : lost ≤ 5) (h : plU lost p) : codeP p < 96000 := by
  have h1 := codeL_lt h
  have h2 := codeB_lt h
  obtain ⟨_, hm, _, h4, h5⟩ := h
  unfold codeP
  omega
theorem code_inj {lost : Nat} {p q : Plc} (hl : lost ≤ 5) (hp : plU lost p) (hq : plU lost q) (e : codeP p = codeP q) : p = q := by
  have p1 := codeL_lt hp
  have q1 := codeL_lt hq
  have p2 := codeB_lt hp
  have q2 := codeB_lt hq
  obtain ⟨⟨bo, mr, la⟩, ⟨lo, pa⟩⟩ := p
  obtain ⟨⟨bo', mr', la'⟩, ⟨lo', pa'⟩⟩ := q
  obtain ⟨a1, a2, a3, a4, a5⟩ := hp
  obtain ⟨b1, b2, b3, b4, b5⟩ := hq
  simp only [codeP] at *
  have e1 : codeB bo = codeB bo' ∧ mr.toNat = mr'.toNat ∧ codeL la = codeL la' ∧ lo = lo' ∧ pa = pa' := by omega
  obtain ⟨c1, c2, c3, rfl, rfl⟩ := e1
  have d1 : bo = bo' := by
    cases bo with
    | none => cases bo' with
      | none => rfl
      | some b => simp [codeB] at c1
    | some a => cases bo' with
      | none => simp [codeB] at c1
      | some b =>
        have := a1 a rfl
        have := b1 b rfl
        simp only [codeB] at c1
        congr 1
        omega
  have d2 : mr = mr' := by omega
  have d3 : la = la' := by
    cases la with
    | none => cases la' with
      | none => rfl
      | some l => simp [codeL] at c3; omega
    | some l => cases la' with
      | none => simp [codeL] at c3
      | some l' =>
        obtain ⟨x1, x2, x3, x4, x5⟩ := a3 l rfl
        obtain ⟨y1, y2, y3, y4, y5⟩ := b3 l' rfl
        obtain ⟨lb, lm, lage, lth⟩ := l
        obtain ⟨lb', lm', lage', lth'⟩ := l'
        simp only [codeL] at *
        have : lb = lb' ∧ lm = lm' ∧ lage = lage' ∧ lth = lth' := by
          cases lth <;> cases lth' <;> simp only [if_true, Bool.false_eq_true, if_false] at c3 <;> refine ⟨?_, ?_, ?_, ?_⟩ <;> first | rfl | omega
        obtain ⟨rfl, rfl, rfl, rfl⟩ := this
        rfl
  rw [d1, d2, d3]
theorem places_few {lost : Nat} {W : List Plc} (hl : lost ≤ 5) (hn : W.Nodup) (h : ∀ p ∈ W, plU lost p) : W.length ≤ 96000 := by
  have := nodup_lt 96000 (W.map codeP) ?_ fun x hx => ?_
  · simpa using this
  · refine (List.Pairwise.and_mem.mp hn).map _ ?_
    rintro a b ⟨ha, hb, hne⟩ e
    exact hne (code_inj hl (h a ha) (h b hb) e)
  · obtain ⟨p, hp, rfl⟩ := List.mem_map.mp hx
    exact code_lt hl (h p hp)
/-! ### as keys -/
end Bf
namespace Bf
open PySem PySem.Spec PyProof.Rows L2
section
variable {K : PySem.W.Frag} {S S1 : Sta} {ρ : List (Option Dt)} {te : TE} {ta : TA} {j : Nat} {vs : List Nat}
def tTru (K : PySem.W.Frag) (ta : TE) : TT := fun σ H Q => ta σ H fun x H' => ∃ k, TruV K x H' k ∧ Q k H'
end
/-! ## spell_behind, moments_of, moves_from -/
section
variable {K : PySem.W.Frag} {Hb Fb : Hp} {S : Sta} {ds : List Dt} {d : Dt}
end
end Bf
namespace Bf
open PySem PySem.Spec PyProof.Rows L2
/-! ## Such methods by their bodies; defs that hand back something new; the class Ways -/
/-- what is known of the class -/
structure WayT (K : PySem.W.Frag) (mg : Str → Option Value) (C fI : Addr) : Prop where
  cl : Cls K C
  mK : Mk K C fI
  n1 : NoAttr K C "_steps"
  n2 : NoAttr K C "_tolerances"
  n3 : NoAttr K C "_needs"
  gC : mg "Ways" = some (.ref C)
/-- a method of it, as the text has it -/
structure WayM (K : PySem.W.Frag) (C : Addr) (x qual : Str) (st : Stmt) (f : Addr) (fd : FuncData) (ps : List Str) : Prop where
  fn : Fun K x qual st f fd
  me : Meth K C x f
  b : Binds K fd ps []
section
variable {K : PySem.W.Frag} {Hb Fb F F' H H' : Hp} {L L' : List Addr} {p C : Addr} {o : HO} {v : V} {d x q : Dt} {σ : L2.St} {ρ : List (Option Dt)} {P : Pm} {te tl tk td ty tv : TE} {ta : TA} {tt c : TT} {t u : TS} {D : Ends} {Φ Ψ : Dt → Prop} {j n : Nat} {xs ys ds ks keys l1 l2 : List Dt} {S S1 S2 : Sta} {w : World} {tw : TS} {E : XK} {m : Str}
theorem Ef.to {y : Dt} (h : Ef K Hb Fb L ρ te (Eq x)) (e : x = y) : Ef K Hb Fb L ρ te (Eq y) := e ▸ h
end
section
variable {Pg : Program} {w : World} {K : PySem.W.Frag} {mg : Str → Option Value} {base : Heap} {x qual : Str} {st : Stmt} {f C : Addr} {fd : FuncData} {N ps : List Str} {k n : Nat}
end
end Bf
namespace Bf
open PySem PySem.Spec PyProof.Rows L2
/-! ## What a Ways holds -/
structure SlOk (T : Tab) (ks : List Site) : Prop where
  nd : ks.Nodup
  beg : T.beg ∈ ks
  cl : ∀ s ∈ ks, ∀ x ∈ stepsS T s, x.2.2 ∈ ks
  ok : ∀ s ∈ ks, s ∈ siteL T ∧ s.k ≤ T.b ∧ siteR s
abbrev Sls := List (Addr × List Site)
def slA (sl : Sls) (i : Nat) : Addr × List Site := sl.getD i (0, [])
structure WOk (rc : Rcv) (sl : Sls) : Prop where
  ok : rcvOk rc
  n4 : rc.length ≤ 4
  st : ∀ i, i < rc.length → SlOk (tabAt rc i) (slA sl i).2
/-- a stand whose places are known -/
structure stnK (rc : Rcv) (sl : Sls) (s : Stn) : Prop where
  i : s.ix < rc.length
  l : s.lw < rc.length
  a : s.a ∈ (slA sl s.ix).2
  b : s.b ∈ (slA sl s.lw).2
  eq : s.le = false → s.ix = s.lw ∧ s.a = s.b
section
variable {K : PySem.W.Frag} {mg : Str → Option Value} {Hb Fb F F' H H' : Hp} {L L' : List Addr} {p C CR fI : Addr} {o : HO} {v : V} {d x y q : Dt} {σ : L2.St} {ρ : List (Option Dt)} {P : Pm} {te tl tk td ty tv tb : TE} {ta : TA} {tt c : TT} {t u : TS} {D : Ends} {Φ Ψ : Dt → Prop} {i j n : Nat} {xs ys ds keys l1 l2 : List Dt} {S S1 S2 : Sta} {w : World} {tw : TS} {E : XK} {m : Str}
/-! ### is_final -/
end
end Bf
namespace Bf
open PySem PySem.Spec PyProof.Rows L2
/-! ## wrong_row -/
def goodP (lost : Nat) (p : Plc) : Prop := plU lost p ∧ plOk p
/-- the dict of rows: keys, and a row for each -/
structure Rws (lost : Nat) (W : List Plc) (vals : List (List Mo)) (xs : List (Pt Plc Mo)) : Prop where
  len : W.length = vals.length
  nd : W.Nodup
  good : ∀ p ∈ W, goodP lost p
  at_ : ∀ x ∈ xs, lkG W vals x.2 = some x.1
theorem Rws.few {lost : Nat} {W : List Plc} {vals : List (List Mo)} {xs : List (Pt Plc Mo)} (h : Rws lost W vals xs) (hl : lost ≤ 5) : W.length ≤ 96000 := places_few hl h.nd fun p hp => (h.good p hp).1
theorem lkG_mem {κ α : Type} [DecidableEq κ] {ks : List κ} {xs : List α} {q : κ} {y : α} (hl : ks.length = xs.length) (h : lkG ks xs q = some y) : q ∈ ks := Classical.byContradiction fun n => by
  rw [(lkG_none hl).mpr n] at h
  cases h
theorem Rws.put {lost : Nat} {W : List Plc} {vals : List (List Mo)} {xs : List (Pt Plc Mo)} {p : Plc} {r : List Mo} (h : Rws lost W vals xs) (hp : goodP lost p) (hn : p ∉ W) : Rws lost (keyG W p) (setG W vals p r) ((r, p) :: xs) := by
  refine ⟨setG_len h.len, keyG_nodup h.nd, fun q hq => ?_, fun x hx => ?_⟩
  · rcases mem_keyG.mp hq with hq | rfl
    · exact h.good q hq
    · exact hp
  · rw [lkG_set h.len]
    rcases List.mem_cons.mp hx with rfl | hx
    · exact if_pos rfl
    · have := lkG_mem h.len (h.at_ x hx)
      rw [if_neg (fun z : x.2 = p => hn (z ▸ this))]
      exact h.at_ x hx
theorem Rws.sub {lost : Nat} {W : List Plc} {vals : List (List Mo)} {xs ys : List (Pt Plc Mo)} (h : Rws lost W vals xs) (s : ∀ y ∈ ys, y ∈ xs) : Rws lost W vals ys := ⟨h.len, h.nd, h.good, fun x hx => h.at_ x (s x hx)⟩
section
variable {K : PySem.W.Frag} {Hb Fb : Hp} {S : Sta} {ds : List Dt} {d : Dt} {w : World} {pn CS CN : Addr} {P : Pm}
end
end Bf
namespace Bf
open PySem PySem.Spec PyProof.Rows L2
/-! ## need's promise; moves_from -/
theorem stepsS_len (T : Tab) (s : Site) : (stepsS T s).length ≤ 2 := by
  unfold stepsS
  split
  · exact Nat.zero_le _
  · split
    · show 1 ≤ 2; omega
    · show 2 ≤ 2; omega
/-- two steps from a place: they are the same, or settle bits -/
theorem steps_two {T : Tab} {s : Site} {x y : Stp} (hx : x ∈ stepsS T s) (hy : y ∈ stepsS T s) : (x.1 = y.1 → x = y) ∧ (x.1 ≠ y.1 → ∃ a b, x.1 = some a ∧ y.1 = some b) := by
  unfold stepsS at hx hy
  split at hx
  · cases hx
  · rename_i h
    rw [if_neg h] at hy
    split at hx
    · rename_i h2
      rw [if_pos h2] at hy
      rw [List.mem_singleton.mp hx, List.mem_singleton.mp hy]
      exact ⟨fun _ => rfl, fun z => absurd rfl z⟩
    · rename_i h2
      rw [if_neg h2] at hy
      simp only [List.mem_cons, List.not_mem_nil, or_false] at hx hy
      rcases hx with rfl | rfl <;> rcases hy with rfl | rfl
      · exact ⟨fun _ => rfl, fun z => absurd rfl z⟩
      · exact ⟨fun z => (by cases (show (some (0 : Int)) = some 1 from z)), fun _ => ⟨0, 1, rfl, rfl⟩⟩
      · exact ⟨fun z => (by cases (show (some (1 : Int)) = some 0 from z)), fun _ => ⟨1, 0, rfl, rfl⟩⟩
      · exact ⟨fun _ => rfl, fun z => absurd rfl z⟩
theorem stnK_led {rc : Rcv} {sl : Sls} {s : Stn} {x y : Stp} (hW : WOk rc sl) (h : stnK rc sl s) (hx : x ∈ stepsS (tabAt rc s.ix) s.a) (hy : y ∈ stepsS (tabAt rc s.lw) s.b) : stnK rc sl (ledN s x y) := by
  refine ⟨h.i, h.l, (hW.st _ h.i).cl _ h.a _ hx, (hW.st _ h.l).cl _ h.b _ hy, fun e => ?_⟩
  have e1 : s.le = false ∧ y.1 = x.1 := by
    have e' : (s.le || !decide (y.1 = x.1)) = false := e
    simpa using e'
  obtain ⟨h1, h2⟩ := h.eq e1.1
  refine ⟨h1, ?_⟩
  rw [← h1, ← h2] at hy
  have := (steps_two hx hy).1 e1.2.symm
  show x.2.2 = y.2.2
  rw [this]
section
variable {K : PySem.W.Frag} {mg : Str → Option Value} {Hb Fb F F' H H' : Hp} {L L' : List Addr} {p C CR fI : Addr} {o : HO} {v : V} {d q : Dt} {σ : L2.St} {ρ : List (Option Dt)} {P : Pm} {te tl tk td ty tv tb : TE} {ta : TA} {tt c : TT} {t u : TS} {D : Ends} {Φ Ψ : Dt → Prop} {i j n : Nat} {xs ys ds keys l1 l2 : List Dt} {S S1 S2 : Sta} {w : World} {tw : TS} {E : XK} {m : Str}
end
end Bf
namespace Bf
open PySem PySem.Spec PyProof.Rows L2
/-! ## need: its own cache, read by hand -/
section
variable {K : PySem.W.Frag} {mg : Str → Option Value} {C CR fI : Addr} {w : World}
end
end Bf
namespace Bf
open PySem PySem.Spec PyProof.Rows L2
/-! ## steps_by_place -/
section
variable {K : PySem.W.Frag} {Hb Fb F F' H H' : Hp} {L L' : List Addr} {p : Addr} {o : HO} {v : V} {d q : Dt} {σ : L2.St} {ρ : List (Option Dt)} {P : Pm} {te tl : TE} {w : TS} {j : Nat} {xs ys ds : List Dt} {S : Sta} {vs : List Nat}
end
section
variable {K : PySem.W.Frag} {Hb Fb : Hp} {ds : List Dt} {Φ : Dt → Prop} {w : World}
end
end Bf
namespace Bf
open PySem PySem.Spec PyProof.Rows L2
/-! ## Expressions over F alone: what they come to is new, or of F -/
def Ex (K : PySem.W.Frag) (ρ : List (Option Dt)) (te : TE) (Φ : Dt → Prop) : Prop := ∀ (σ : L2.St) (F H : Hp), Same F H → (∀ a o, H a = some o → F a = none → mutk o = true) → Slots K F σ ρ → ∀ Q : VK, (∀ v d F' H', Vw H F F' H' → Rep K F' v d → Φ d → Q v H') → te σ H Q
section
variable {K : PySem.W.Frag} {Hb Fb F F' H H' H2 F2 : Hp} {L : List Addr} {p : Addr} {o : HO} {v : V} {d : Dt} {σ : L2.St} {ρ : List (Option Dt)} {te tl : TE} {ta : TA} {j j1 j2 i n : Nat} {ds : List Dt} {Φ Ψ : Dt → Prop} {E : XK}
end
end Bf
namespace Bf
open PySem PySem.Spec PyProof.Rows L2
/-! ## start_stands; Ways(receiver) -/
section
variable {K : PySem.W.Frag} {mg : Str → Option Value} {Hb Fb F F' H H' A B : Hp} {L L' : List Addr} {p C CR CB fI x : Addr} {o : HO} {v : V} {d q : Dt} {σ : L2.St} {ρ : List (Option Dt)} {P : Pm} {te tl : TE} {t w' : TS} {j j1 j2 i n : Nat} {xs ys ds : List Dt} {S : Sta} {w : World} {Φ : Dt → Prop} {E : XK}
/-! ### Ways(receiver) -/
mutual
/-- instances are ratios, nothing may change -/
def offI : Dt → Bool
  | .non => true
  | .bl _ => true
  | .int _ => true
  | .str _ => true
  | .raw _ => true
  | .lst xs => offIA xs
  | .tup xs => offIA xs
  | .ins _ ns xs => decide (ns = (["_num", "_den"] : List Str)) && decide (xs.length = 2) && offIA xs
  | .dat _ _ ks xs => offIA ks && offIA xs
  | _ => false
def offIA : List Dt → Bool
  | [] => true
  | x :: xs => offI x && offIA xs
end
def notRat (fs : List (Str × V)) : Prop := ∀ v r, fs ≠ (("_num" : Str), v) :: r
theorem ne_ins {dx : Addr} {fs : List (Str × V)} {a : Addr} (hx : A x = some (.ins C dx fs)) (ha : A a = some o) (h : ∀ C dx fs, o ≠ .ins C dx fs) : a ≠ x := fun z => by
  rw [z, hx] at ha
  exact h _ _ _ (Option.some.inj ha).symm
theorem ne_rat {dx dx' C' a : Addr} {fs : List (Str × V)} {ns : List Str} {vs : List V} (hx : A x = some (.ins C dx fs)) (hfs : notRat fs) (q : A a = some (.ins C' dx' (ns.zip vs))) (h1 : ns = (["_num", "_den"] : List Str)) (h2 : vs.length = 2) : a ≠ x := fun z => by
  subst h1
  rw [z, hx] at q
  match vs, h2 with
  | [v1, v2], _ =>
    cases q
    exact hfs _ _ rfl
section
variable {dx : Addr} {fs : List (Str × V)}
mutual
theorem Rep.skip (hx : A x = some (.ins C dx fs)) (hfs : notRat fs) (h : ∀ a o, a ≠ x → A a = some o → B a = some o) : ∀ {v : V} {d : Dt}, offI d = true → Rep K A v d → Rep K B v d
  | _, _, _, .non => .non
  | _, _, _, .bl b => .bl b
  | _, _, _, .int i => .int i
  | _, _, _, .str x => .str x
  | _, _, _, .raw v => .raw v
  | _, _, f, .lst q r => .lst (by
      rcases q with (q | ⟨o, q⟩) | q
      · exact .inl (.inl (h _ _ (ne_ins hx q fun _ _ _ z => nomatch z) q))
      · exact .inl (.inr ⟨o, h _ _ (ne_ins hx q fun _ _ _ z => nomatch z) q⟩)
      · exact .inr q) (r.skip hx hfs h (by simpa only [offI] using f))
  | _, _, f, .tup q r => .tup (by
      rcases q with (q | ⟨o, q⟩) | q
      · exact .inl (.inl (h _ _ (ne_ins hx q fun _ _ _ z => nomatch z) q))
      · exact .inl (.inr ⟨o, h _ _ (ne_ins hx q fun _ _ _ z => nomatch z) q⟩)
      · exact .inr q) (r.skip hx hfs h (by simpa only [offI] using f))
  | _, _, f, .ins q r => .ins (h _ _ (ne_rat hx hfs q (by
      simp only [offI, Bool.and_eq_true, decide_eq_true_eq] at f
      exact f.1.1) (by
      simp only [offI, Bool.and_eq_true, decide_eq_true_eq] at f
      exact r.len.trans f.1.2)) q) (r.skip hx hfs h (by
      simp only [offI, Bool.and_eq_true, decide_eq_true_eq] at f
      exact f.2))
  | _, _, f, .dat q l r1 r2 => by
    simp only [offI, Bool.and_eq_true] at f
    exact .dat (h _ _ (ne_ins hx q fun _ _ _ z => nomatch (show HO.ext _ = HO.ins _ _ _ from z)) q) l (r1.skip hx hfs h f.1) (r2.skip hx hfs h f.2)
  | _, _, f, .lat _ _ => by simp [offI] at f
  | _, _, f, .dic _ => by simp [offI] at f
  | _, _, f, .err _ _ _ => by simp [offI] at f
  | _, _, f, .dct _ _ _ => by simp [offI] at f
  | _, _, f, .dti _ _ _ => by simp [offI] at f
  | _, _, f, .cel _ _ => by simp [offI] at f
theorem RepA.skip (hx : A x = some (.ins C dx fs)) (hfs : notRat fs) (h : ∀ a o, a ≠ x → A a = some o → B a = some o) : ∀ {vs : List V} {ds : List Dt}, offIA ds = true → RepA K A vs ds → RepA K B vs ds
  | _, _, _, .nil => .nil
  | _, _, f, .cons q r => by
    simp only [offIA, Bool.and_eq_true] at f
    exact .cons (q.skip hx hfs h f.1) (r.skip hx hfs h f.2)
end
end
end
end Bf
namespace Bf
open PySem PySem.Spec PyProof.Rows L2
/-! ## Ways(receiver), by hand -/
section
variable {K : PySem.W.Frag} {mg : Str → Option Value} {C CR fI : Addr} {w : World}
end
end Bf
namespace Bf
open PySem PySem.Spec PyProof.Rows L2
/-! ## one_move_on -/
abbrev RdN := Rd Stn Fq
/-- a dict of stands that are known, with needs in lowest terms -/
structure rdOk (rc : Rcv) (sl : Sls) (d : RdN) : Prop where
  nd : (d.map (·.1)).Nodup
  ok : ∀ x ∈ d, okB x.2 = true ∧ stnK rc sl x.1
theorem rdOk.put {rc : Rcv} {sl : Sls} {d : RdN} {s : Stn} {g : Fq} (h : rdOk rc sl d) (hs : stnK rc sl s) (hg : okB g = true) : rdOk rc sl (putR ltQ d s g) := by
  refine ⟨nodup_put h.nd s g, fun x hx => ?_⟩
  unfold putR at hx
  cases e : lkR d s with
  | none =>
    rw [e] at hx
    rcases List.mem_append.mp hx with hx | hx
    · exact h.ok x hx
    · rw [List.mem_singleton.mp hx]; exact ⟨hg, hs⟩
  | some q =>
    rw [e] at hx
    simp only at hx
    split at hx
    · obtain ⟨y, hy, rfl⟩ := List.mem_map.mp hx
      by_cases z : y.1 = s
      · rw [if_pos z]; exact ⟨hg, hs⟩
      · rw [if_neg z]; exact h.ok y hy
    · exact h.ok x hx
theorem stnK_G {rc : Rcv} {sl : Sls} {s : Stn} (hW : WOk rc sl) (h : stnK rc sl s) : stnG rc s ∧ stnR rc s := by
  have a := (hW.st _ h.i).ok _ h.a
  have b := (hW.st _ h.l).ok _ h.b
  exact ⟨⟨⟨h.i, h.l⟩, a.1, a.2.1, b.1, b.2.1⟩, ⟨h.i, h.l⟩, a.2.2, b.2.2⟩
theorem rdOk.few {rc : Rcv} {sl : Sls} {d : RdN} (hW : WOk rc sl) (h : rdOk rc sl d) : d.length ≤ 89888 := by
  have := stands_short hW.ok hW.n4 h.nd fun s hs => by
    obtain ⟨x, hx, rfl⟩ := List.mem_map.mp hs
    exact (stnK_G hW (h.ok x hx).2).1
  rwa [List.length_map] at this
theorem mv3_K {rc : Rcv} {sl : Sls} {s : Stn} {m : Fq × Stn × Stp × Stp} (hW : WOk rc sl) (h : stnK rc sl s) (hm : m ∈ mv3 rc s) : okB m.1 = true ∧ stnK rc sl m.2.1 := by
  refine ⟨(mv_ok hW.ok (stnK_G hW h).2 (m := (m.1, m.2.1)) (List.mem_map.mpr ⟨m, hm, rfl⟩)).1, ?_⟩
  obtain ⟨x, hx, hm⟩ := List.mem_flatMap.mp hm
  obtain ⟨y, hy, rfl⟩ := List.mem_map.mp hm
  exact stnK_led hW h hx (List.mem_filter.mp hy).1
section
variable {K : PySem.W.Frag} {mg : Str → Option Value} {Hb Fb : Hp} {L : List Addr} {p C CR fI : Addr} {ρ : List (Option Dt)} {te tb : TE} {ds l1 l2 : List Dt} {S S1 S2 : Sta} {w : World} {Φ : Dt → Prop} {a b : Fq}
end
end Bf
namespace Bf
open PySem PySem.Spec PyProof.Rows L2
/-! ## least_to_final, limit_of -/
theorem sts_K {rc : Rcv} {sl : Sls} (hW : WOk rc sl) {s : Stn} (h : s ∈ stsN rc) : stnK rc sl s := by
  obtain ⟨i, hi, h⟩ := List.mem_flatMap.mp h
  obtain ⟨j, hj, rfl⟩ := List.mem_map.mp h
  have hi := List.mem_range.mp hi
  have hj := List.mem_range.mp hj
  refine ⟨hi, by show j < rc.length; omega, (hW.st i hi).beg, (hW.st j (by omega)).beg, fun e => ?_⟩
  have e' : decide (j < i) = false := e
  have : i = j := by have := of_decide_eq_false e'; omega
  subst this
  exact ⟨rfl, rfl⟩
section
variable {K : PySem.W.Frag} {mg : Str → Option Value} {Hb Fb : Hp} {L : List Addr} {p C CR fI : Addr} {ρ : List (Option Dt)} {te tb : TE} {ds l1 l2 : List Dt} {S S1 S2 : Sta} {w : World} {Φ : Dt → Prop} {a b : Fq}
end
end Bf
namespace Bf
open PySem PySem.Spec PyProof.Rows L2
/-! ## The law's own limit: the least need of all pairs of sendings, one after another -/
/-- a sending with its frame -/
abbrev Snd := (Nat × List Int) × List Int
def sndFrom : Nat → Rcv → List Snd
  | _, [] => []
  | k, y :: rc => ((wordsL y.1.b.toNat).map fun w => ((k, w), y.1.frame w)) ++ sndFrom (k + 1) rc
def sndL (rc : Rcv) : List Snd := sndFrom 0 rc
def minO (x : Option Fq) (q : Fq) : Option Fq := match x with
  | none => some q
  | some f => if lessP q f = true then some q else some f
/-- the need of a sending and one ahead of it -/
def needS (rc : Rcv) (A B : Snd) : Fq := lawMost (tolAt rc B.1.1) A.2 B.2
def limB (rc : Rcv) (A : Snd) (x : Option Fq) (B : Snd) : Option Fq := if A.2.length = B.2.length then minO x (needS rc A B) else x
def limA (rc : Rcv) (ss : List Snd) (x : Option Fq) (k : Nat) : Option Fq := match ss[k]? with
  | none => x
  | some A => (ss.take k).foldl (limB rc A) x
def limF (rc : Rcv) : Option Fq := (List.range (sndL rc).length).foldl (limA rc (sndL rc)) none
/-! ### the order of sendings -/
theorem lss_lt {a b : List Int} (h : Lss a b) : ltB a b = true := by
  obtain ⟨p, u, v, rfl, rfl⟩ := h
  rw [ltB_app rfl, if_pos rfl]
  rfl
end Bf
namespace Bf
open PySem PySem.Spec PyProof.Rows L2
/-! ## A tolerance below the limit, and at most all tolerances: each burst within it is read right -/
end Bf
namespace Bf
open PySem PySem.Spec PyProof.Rows L2
/-! ## limit_of, by hand: a Ways that nobody else holds -/
section
variable {K : PySem.W.Frag} {C CR CB : Addr} {w : World}
end
end Bf
namespace Bf
open PySem PySem.Spec PyProof.Rows L2
/-! ## least_off, least_word, nearest -/
section
variable {K : PySem.W.Frag} {Hb Fb : Hp} {C : Addr} {L : List Addr} {S : Sta} {ρ : List (Option Dt)} {P : Pm} {te ta tb : TE} {t : TS} {ds : List Dt} {d : Dt} {j : Nat} {T : Tab} {bs : List Fq}
end
end Bf
namespace Bf
open PySem PySem.Spec PyProof.Rows L2
section
variable {K : PySem.W.Frag} {Hb Fb : Hp} {C : Addr} {L : List Addr} {S : Sta} {ρ : List (Option Dt)} {P : Pm} {te ta tb : TE} {t : TS} {ds : List Dt} {d : Dt} {j : Nat} {T : Tab} {bs : List Fq}
end
end Bf
namespace Bf
open PySem PySem.Spec PyProof.Rows L2
/-! ## reads, by least_word -/
section
variable {K : PySem.W.Frag} {mg : Str → Option Value} {C CB CR : Addr} {S : Sta} {ds : List Dt} {d : Dt} {o : Out} {E : XK}
end
end Bf
namespace Bf
open PySem PySem.Spec PyProof.Rows L2
/-! ## drawn receivers of so many tables at most, their tolerances' parts below 100 -/
section
variable {K : PySem.W.Frag} {a : Addr} {c : CT} {cs : List Int} {n : Nat} {ds : List Dt} {C : Addr}
end
end Bf
namespace Bf
open PySem PySem.Spec PyProof.Rows L2
/-! ## Bursts and tables, all multiplied: read alike, as near -/
section
variable {g : Int} {bs : List Fq} (hg : 0 < g) (hb : ∀ b ∈ bs, okQ (b.1 * g, b.2))
end
end Bf
namespace Bf
open PySem PySem.Spec PyProof.Rows L2
/-! ## What the first tables read, all of them read; the nearest word and what a table alone reads -/
end Bf
namespace Bf
open PySem PySem.Spec PyProof.Rows L2
/-! ## Loops over pairs, over range(a, b); defs that refuse no table that is right -/
section
variable {K : PySem.W.Frag} {S S1 S2 SF SB : Sta} {L : List Addr} {ρ : List (Option Dt)} {P : Po} {tl te ta tb : TE} {t : TS} {tas : TA} {ds : List Dt} {d : Dt} {j j1 j2 : Nat} {C CB CT : Addr} {Φ : Dt → Prop}
/-! ### one limit is at most the other -/
end
end Bf
namespace Bf
open PySem PySem.Spec PyProof.Rows L2
/-! ## _law_most, _law_sendings -/
section
variable {K : PySem.W.Frag} {mg : Str → Option Value} {Hb Fb F F' H H' A B : Hp} {L L' : List Addr} {p C CR CB fI x : Addr} {o : HO} {v : V} {d q : Dt} {σ : L2.St} {ρ : List (Option Dt)} {P : Pm} {te tl : TE} {t w' : TS} {j j1 j2 i n : Nat} {xs ys ds : List Dt} {S : Sta} {w : World} {Φ : Dt → Prop} {E : XK}
end
end Bf
namespace Bf
open PySem PySem.Spec PyProof.Rows L2
/-! ## _law_words as a new list, _law_sendings -/
section
variable {K : PySem.W.Frag} {Hb Fb : Hp} {ds : List Dt} {d : Dt} {C : Addr}
end
end Bf
namespace Bf
open PySem PySem.Spec PyProof.Rows L2
/-! ## _law_limit -/
section
variable {K : PySem.W.Frag} {S SB : Sta} {L : List Addr} {ρ : List (Option Dt)} {P : Po} {tl : TE} {t : TS}
end
section
variable {K : PySem.W.Frag} {S S1 S2 SF SB : Sta} {L : List Addr} {ρ : List (Option Dt)} {P : Po} {tl te ta tb : TE} {t : TS} {tas : TA} {ds : List Dt} {d : Dt} {j j1 j2 : Nat} {C CB CT : Addr} {Φ : Dt → Prop}
end

section
variable {K : PySem.W.Frag} {S : Sta} {ds : List Dt} {d : Dt} {C : Addr} {P : Po}
end
end Bf
namespace Bf
open PySem PySem.Spec PyProof.Rows L2
/-! ## least_tolerance, margin_of -/
section
variable {K : PySem.W.Frag} {S S1 S2 : Sta} {ρ : List (Option Dt)} {ta tb : TE} {ds : List Dt} {d : Dt} {C : Addr} {a b : Fq}
end
end Bf
namespace Bf
open PySem PySem.Spec PyProof.Rows L2
/-! ## The law of reading -/
section
variable {K : PySem.W.Frag} {a : Addr} {c : CT} {cs : List Int} {C CB : Addr}
end
end Bf
namespace Bf
open PySem PySem.Spec PyProof.Rows L2
/-! ## x * y by an own method: both of the same class -/
theorem bin_same {prog : Program} {w : World} {A : Around} {E : Value → Shared → Prop} {s : Shared} {K : PySem.W.Frag} {x y C L f : Addr} {h0 : Heap} {m : Str → Option Value} {ox oy : Obj} {od od' : Option Obj} {op : Operator} {Q : Value → Shared → Prop}
    (F : Fr h0 L s.heap m) (X0 : K.In h0) (I : PySem.W.InstAt s.heap x ox C od) (J : PySem.W.InstAt s.heap y oy C od') (hc : PySem.W.selfFirst K C = true) (hs : PySem.W.findIn K (.ref C) (PySem.dunder op.info.2) = some (some (.ref f))) (hf : PySem.W.isFn K (.ref f) = true)
    (h : wpAny (model prog w) A (call (.ref f) [.ref x, .ref y]) (PySem.W.CmpBack Q) E s) : wpAny (model prog w) A (binaryOp op (.ref x) (.ref y)) Q E s := by
  have kin := X0.keeps F.keep
  obtain ⟨cd, rest, c1, c2⟩ := PySem.W.ksp_first hc
  have two := PySem.W.ksp_try kin I hs hf h
  have lx := I.type (M := model prog w)
  have ly := J.type (M := model prog w)
  have lf := PySem.W.fills_K (M := model prog w) (nm := op.info.2) kin c1 c2 hs
  obtain ⟨hh, g, d, tt, os⟩ := s
  simp only [binaryOp]
  refine wpAny_holding (wpAny_bind ?_)
  unfold binaryOp1
  refine wpAny_bind (lx.at (wpAny_bind (ly.at (wpAny_bind (lf.at ?_)))))
  simp only [beq_self_eq_true, if_true]
  ksp_lk
  refine wpAny_mono two (fun r s' z => ?_) fun _ _ z => z
  obtain ⟨v, rfl, q⟩ := z
  ksp_lk
  exact q
theorem op_ownB {X : Cx} {op : Operator} {C f : Addr} {fd : FuncData} {ps : List Str} {sp : Sp} {n : Nat} (F : GOk X.prog X.w X.K X.mg X.base n f fd ps sp) (hs : PySem.W.findIn X.K (.ref C) (PySem.dunder op.info.2) = some (some (.ref f))) (hf : PySem.W.isFn X.K (.ref f) = true) (hsf : PySem.W.selfFirst X.K C = true)
    (hb : Binds X.K fd ps []) (hr : Room n X.A) (hg : X.A.guards = some []) (hx : Passes (L2.CX X.prog X.w) X E0 := passL) : OpR X (binaryOp op) (rOwn C sp) := by
  intro pins s σ H x y v u Q I rx ry h
  obtain ⟨a, b, dx, dy, fs, gs, rfl, rfl, ha, hb', hsp⟩ := h
  cases rx
  cases ry
  obtain ⟨_, J, _⟩ := ins_get I.hok ha
  obtain ⟨_, J', _⟩ := ins_get I.hok hb'
  obtain ⟨_, J, _⟩ := J.look
  obtain ⟨_, J', _⟩ := J'.look
  obtain ⟨m, hF⟩ := I.fr
  refine bin_same hF I.ok.mod.kin J J' hsf hs hf ?_
  have hl := F.len _ _ _ _ hsp
  refine wpAny_call (codeAny_mono (F.go X.A X.stack s H ⟨[.ref a, .ref b], []⟩ [.ref a, .ref b] [.ref a, .ref b] _ E0 hr hg I.env0 (by
    have := hb s [.ref a, .ref b] I.kIn (by simpa using hl)
    simpa using this) (.cons rfl (.cons rfl .nil)) hsp) fun r s' hq => ?_)
  cases r with
  | error e => exact hx pins σ H s e s' I hq
  | ok fl =>
    cases fl with
    | ret w =>
      obtain ⟨z, H', I', rz, q⟩ := I.after hq
      exact cmp_back I' rz q
    | next => exact False.elim hq
    | brk => exact False.elim hq
    | cont => exact False.elim hq
/-- what the product of two ratios is -/
def r_rmul (C : Addr) (ds : List Dt) (d : Dt) : Prop := ∃ n m i j, ds = [rat C n m, rat C i j] ∧ CMulW n i ∧ CMulW m j ∧ 0 ≤ n * i ∧ 1 ≤ m * j ∧ (m * j).natAbs < 2 ^ 8000 ∧ d = ratL C (n * i) (m * j)
abbrev p_rmul (K : PySem.W.Frag) (C : Addr) : Sp := spR K 2 (r_rmul C)
abbrev t_rmul (K : PySem.W.Frag) (C : Addr) : TS := (tSeq (tIfS (tNot (tB (tCB (rIsi K) (tCons (tVar 1) (tCons (tC (.ref C)) tNil))))) tNever tNext)
    (tRet (tMake C (spRI C) [] E0 (tCons (tOp rMulW (L2.tFld K (tVar 0) "_num") (L2.tFld K (tVar 1) "_num")) (tCons (tOp rMulW (L2.tFld K (tVar 0) "_den") (L2.tFld K (tVar 1) "_den")) tNil)))))
section
variable {K : PySem.W.Frag} {mg : Str → Option Value} {C fI pN gN pD gD : Addr} {S S1 S2 : Sta} {ρ : List (Option Dt)} {te ta tb : TE} {ds : List Dt} {d : Dt} {n m i j : Int}
theorem so_rmul (T : RatT K mg C fI pN gN pD gD) (hp : r_rmul C ds d) : So K S S [] (t_rmul K C) (startD 2 ds) (Pu d) := by
  obtain ⟨n, m, i, j, rfl, c1, c2, h0, h1, h2, rfl⟩ := hp
  exact so_ifF (et_notT (et_B (ev_isRat T (ev_var rfl) (.inr ⟨i, j, rfl⟩)))) (so_skip (so_retD (ev_mkrat (ea_cons (ev_op (ev_fn T (ev_var rfl)) (ev_fn T (ev_var rfl)) (rv_mul c1)) (ea_cons (ev_op (ev_fd T (ev_var rfl)) (ev_fd T (ev_var rfl)) (rv_mul c2)) ea_nil)) h0 h1 h2) (Sta.Le.refl S) rfl))
end
end Bf
namespace Bf
open PySem PySem.Spec PyProof.Rows L2
/-! ## Durations multiplied: the law's own defs -/
/-- a duration, or a tuple of them -/
inductive DurD : Dt → Prop where
  | one {n : Int} (h : okS n) : DurD (.int n)
  | more {ns : List Int} (h : ∀ n ∈ ns, okS n) (hl : ns.length ≤ 1000) : DurD (tI ns)
def Tab.small (g : Int) : Tab → Bool
  | .ha u _ => decide (u * g < 100000)
  | .pa h z1 z2 o1 o2 s _ => ((h ++ [z1, z2] ++ [o1, o2] ++ [s]).filter fun x => decide (99999 < x * g)).isEmpty
section
variable {K : PySem.W.Frag} {S S1 : Sta} {ρ : List (Option Dt)} {ta tb : TE} {ds : List Dt} {d x : Dt} {g : Int} {E : XK} {T : Tab}
end
end Bf
namespace Bf
open PySem PySem.Spec PyProof.Rows L2
/-! ## _law_moved: bursts of small numbers, that can be multiplied -/
section
variable {K : PySem.W.Frag} {a : Addr} {c : CT} {cs : List Int} {n : Nat} {ds : List Dt} {C : Addr}
end
end Bf
namespace Bf
open PySem PySem.Spec PyProof.Rows L2 PySem.SeqAt
/-! ## x == y of tuples of the same things that hold ratios -/
section
variable {X : Cx} {C q : Addr} {qd : FuncData}
end
section
variable {K : PySem.W.Frag} {S : Sta} {C : Addr}
end
end Bf
namespace Bf
open PySem PySem.Spec PyProof.Rows L2
/-! ## What the law of what is safe wants beside: loops and comprehensions that draw -/
section
variable {K : PySem.W.Frag} {S SF SB : Sta} {L : List Addr} {ρ : List (Option Dt)} {P : Po} {te tl : TE} {t : TS} {vs : List Nat} {j : Nat}
end
/-! ## No duration of a frame is longer than two parts -/
/-! ## The law's limit is a fraction of small numbers -/
end Bf
namespace Bf
open PySem PySem.Spec PyProof.Rows L2
/-! ## Drawn receivers whose tolerances are in lowest terms -/
section
variable {K : PySem.W.Frag} {a : Addr} {c : CT} {cs : List Int} {n : Nat} {ds : List Dt} {C : Addr}
end
/-! ## The least tolerance -/
/-! ## need_ratio, is_safe, _law_least -/
section
variable {K : PySem.W.Frag} {mg : Str → Option Value} {C CR CB fI pN gN pD gD : Addr} {S S1 S2 : Sta} {ρ : List (Option Dt)} {ta tb : TE} {ds : List Dt} {d : Dt} {a b : Fq} {E : XK}
end
/-! ## _law_item -/
section
variable {K : PySem.W.Frag} {a : Addr} {c : CT} {cs : List Int} {n : Nat} {ds : List Dt} {C : Addr}
end
end Bf
namespace Bf
open PySem PySem.Spec PyProof.Rows L2
/-! ## The law of limits -/
section
variable {K : PySem.W.Frag} {S S1 S2 : Sta} {ρ : List (Option Dt)} {te ta tb : TE} {a : Addr} {c : CT} {cs : List Int} {C : Addr} {P : Po}
end
end Bf
namespace Bf
open PySem PySem.Spec PyProof.Rows L2
/-! ## The law of what is safe -/
section
variable {K : PySem.W.Frag} {S S1 S2 : Sta} {ρ : List (Option Dt)} {te ta tb : TE} {a : Addr} {c : CT} {cs : List Int} {C CB : Addr} {P : Po}
end
end Bf
namespace Bf
open PySem PySem.Spec PyProof.Rows L2
/-! ## The great receivers: their limit -/
/-! ## a table of halves -/
end Bf
namespace Bf
open PySem PySem.Spec PyProof.Rows L2
/-! ## stands that are led to at a tolerance, and from where: a search with what waits -/
abbrev Og := Option (Stn × Stp × Stp)
abbrev Cb := List (Stn × Og)
/-- a need is no greater than a tolerance, if there is one -/
def okTol (t : Option Fq) (q : Fq) : Bool := match t with
  | none => true
  | some t => !lessP t q
abbrev Mv3 := Fq × Stn × Stp × Stp
def sucO (s : Stn) (m : Mv3) : Stn × Og := (m.2.1, some (s, m.2.2.1, m.2.2.2))
def sucL (rc : Rcv) (t : Option Fq) (s : Stn) : Cb := ((mv3 rc s).filter fun m => okTol t m.1).map (sucO s)
/-- a way from a start to a stand: its pairs of steps -/
inductive WayS (rc : Rcv) (t : Option Fq) : Stn → List (Stp × Stp) → Prop
  | st {s : Stn} : s ∈ stsN rc → WayS rc t s []
  | mv {s : Stn} {w : List (Stp × Stp)} {m : Mv3} : WayS rc t s w → m ∈ mv3 rc s → okTol t m.1 = true → WayS rc t m.2.1 (w ++ [(m.2.2.1, m.2.2.2)])
def Led (rc : Rcv) (t : Option Fq) (s : Stn) : Prop := ∃ w, WayS rc t s w
def orgOk (rc : Rcv) (t : Option Fq) (d : Cb) (x : Stn × Og) : Prop := (x.2 = none ∧ x.1 ∈ stsN rc) ∨ ∃ p m, p ∈ d.map (·.1) ∧ m ∈ mv3 rc p ∧ okTol t m.1 = true ∧ x = sucO p m
/-- one turn of the search, and what it comes to by turns: what it finds is determined -/
def cbS (rc : Rcv) (t : Option Fq) (q : Cb × Cb) : Cb × Cb := match q.2.getLast? with
  | none => q
  | some x => if x.1 ∈ q.1.map (·.1) then (q.1, q.2.dropLast) else (q.1 ++ [x], q.2.dropLast ++ sucL rc t x.1)
def cbN (rc : Rcv) (t : Option Fq) : Nat → Cb × Cb
  | 0 => ([], (stsN rc).map fun s => (s, none))
  | n + 1 => cbS rc t (cbN rc t n)
structure CbI (rc : Rcv) (t : Option Fq) (d wt : Cb) : Prop where
  rn : ∃ n, cbN rc t n = (d, wt)
  nd : (d.map (·.1)).Nodup
  st : ∀ s ∈ stsN rc, s ∈ d.map (·.1) ∨ s ∈ wt.map (·.1)
  sc : ∀ s ∈ d.map (·.1), ∀ x ∈ sucL rc t s, x.1 ∈ d.map (·.1) ∨ x.1 ∈ wt.map (·.1)
  og : ∀ i x, d[i]? = some x → orgOk rc t (d.take i) x
  ow : ∀ x ∈ wt, orgOk rc t d x
  wl : ∀ i x, wt[i]? = some x → i + 4 * mesS (tabAt rc x.1.ix) x.1.a ≤ 128
section
variable {rc : Rcv} {t : Option Fq} {d wt : Cb} {s : Stn} {x : Stn × Og}
theorem orgOk.mono {d' : Cb} (h : orgOk rc t d x) (hs : ∀ s ∈ d.map (·.1), s ∈ d'.map (·.1)) : orgOk rc t d' x := h.imp id fun ⟨p, m, h1, h2⟩ => ⟨p, m, hs p h1, h2⟩
theorem sucL_mem {y : Stn × Og} : y ∈ sucL rc t s ↔ ∃ m, m ∈ mv3 rc s ∧ okTol t m.1 = true ∧ sucO s m = y := by
  unfold sucL
  rw [List.mem_map]
  constructor
  · rintro ⟨m, h, e⟩
    have := List.mem_filter.mp h
    exact ⟨m, this.1, this.2, e⟩
  · rintro ⟨m, h1, h2, e⟩
    exact ⟨m, List.mem_filter.mpr ⟨h1, h2⟩, e⟩
theorem mv3_len : (mv3 rc s).length ≤ 4 := by
  refine Nat.le_trans (flat_le (c := 2) fun x _ => ?_) ?_
  · rw [List.length_map]
    exact Nat.le_trans (List.length_filter_le _ _) (stepsS_len _ _)
  · have := stepsS_len (tabAt rc s.ix) s.a
    omega
theorem sucL_len : (sucL rc t s).length ≤ 4 := by
  unfold sucL
  rw [List.length_map]
  exact Nat.le_trans (List.length_filter_le _ _) mv3_len
theorem WayS.G (hr : rcvOk rc) {w : List (Stp × Stp)} (h : WayS rc t s w) : stnG rc s := by
  induction h with
  | st h => exact stnG_sts hr h
  | @mv s w m _ hm _ ih => exact stnG_mv hr ih (m := (m.1, m.2.1)) (List.mem_map.mpr ⟨m, hm, rfl⟩)
theorem WayS.K {sl : Sls} (hW : WOk rc sl) {w : List (Stp × Stp)} (h : WayS rc t s w) : stnK rc sl s := by
  induction h with
  | st h => exact sts_K hW h
  | mv _ hm _ ih => exact (mv3_K hW ih hm).2
theorem CbI.led (h : CbI rc t d wt) : ∀ (n i : Nat) (x : Stn × Og), i < n → d[i]? = some x → Led rc t x.1
  | 0, _, _, hn, _ => absurd hn (Nat.not_lt_zero _)
  | n + 1, i, x, hn, e => by
    rcases h.og i x e with ⟨_, h1⟩ | ⟨p, m, h1, h2, h3, rfl⟩
    · exact ⟨[], .st h1⟩
    · obtain ⟨y, hy, rfl⟩ := List.mem_map.mp h1
      obtain ⟨j, hj, ej⟩ := List.getElem_of_mem hy
      have hji : j < i := by rw [List.length_take] at hj; omega
      have ej' : d[j]? = some y := by
        rw [List.getElem_take] at ej
        rw [← ej]
        exact List.getElem?_eq_getElem _
      obtain ⟨w, hw⟩ := CbI.led h n j y (by omega) ej'
      exact ⟨_, .mv hw h2 h3⟩
theorem CbI.ledK (h : CbI rc t d wt) (hs : s ∈ d.map (·.1)) : Led rc t s := by
  obtain ⟨y, hy, rfl⟩ := List.mem_map.mp hs
  obtain ⟨j, hj, ej⟩ := List.getElem_of_mem hy
  exact h.led (j + 1) j y (Nat.lt_succ_self _) (by rw [← ej]; exact List.getElem?_eq_getElem _)
theorem CbI.ledW (h : CbI rc t d wt) (hx : x ∈ wt) : Led rc t x.1 := by
  rcases h.ow x hx with ⟨_, h1⟩ | ⟨p, m, h1, h2, h3, rfl⟩
  · exact ⟨[], .st h1⟩
  · obtain ⟨w, hw⟩ := h.ledK h1
    exact ⟨_, .mv hw h2 h3⟩
theorem CbI.few (hr : rcvOk rc) (h4 : rc.length ≤ 4) (h : CbI rc t d wt) : d.length ≤ 89888 := by
  have := stands_short hr h4 h.nd fun s hs => let ⟨_, hw⟩ := h.ledK hs; hw.G hr
  rwa [List.length_map] at this
theorem CbI.short (h : CbI rc t d wt) : wt.length ≤ 129 := by
  rcases Nat.lt_or_ge 129 wt.length with hl | hl
  · have := h.wl 129 (wt[129]) (List.getElem?_eq_getElem hl)
    omega
  · exact hl
theorem CbI.skip (h : CbI rc t d (wt ++ [x])) (hm : x.1 ∈ d.map (·.1)) : CbI rc t d wt where
  rn := by
    obtain ⟨n, e⟩ := h.rn
    refine ⟨n + 1, ?_⟩
    show cbS rc t (cbN rc t n) = _
    rw [e]
    unfold cbS
    simp only [List.getLast?_append, List.getLast?_singleton, Option.some_or, List.dropLast_concat]
    rw [if_pos hm]
  nd := h.nd
  st s hs := by
    rcases h.st s hs with z | z
    · exact .inl z
    · rw [List.map_append] at z
      rcases List.mem_append.mp z with z | z
      · exact .inr z
      · rw [List.mem_singleton.mp z]; exact .inl hm
  sc s hs y hy := by
    rcases h.sc s hs y hy with z | z
    · exact .inl z
    · rw [List.map_append] at z
      rcases List.mem_append.mp z with z | z
      · exact .inr z
      · rw [List.mem_singleton.mp z]; exact .inl hm
  og := h.og
  ow y hy := h.ow y (List.mem_append_left _ hy)
  wl i y e := h.wl i y (by rw [List.getElem?_append_left (List.getElem?_eq_some_iff.mp e).1]; exact e)
theorem CbI.add (hr : rcvOk rc) (h : CbI rc t d (wt ++ [x])) (hm : x.1 ∉ d.map (·.1)) : CbI rc t (d ++ [x]) (wt ++ sucL rc t x.1) where
  rn := by
    obtain ⟨n, e⟩ := h.rn
    refine ⟨n + 1, ?_⟩
    show cbS rc t (cbN rc t n) = _
    rw [e]
    unfold cbS
    simp only [List.getLast?_append, List.getLast?_singleton, Option.some_or, List.dropLast_concat]
    rw [if_neg hm]
  nd := by
    rw [List.map_append]
    exact List.nodup_append.mpr ⟨h.nd, by simp, fun a ha b hb => by rw [List.mem_singleton.mp hb]; intro z; rw [z] at ha; exact hm ha⟩
  st s hs := by
    rw [List.map_append, List.map_append]
    rcases h.st s hs with z | z
    · exact .inl (List.mem_append_left _ z)
    · rw [List.map_append] at z
      rcases List.mem_append.mp z with z | z
      · exact .inr (List.mem_append_left _ z)
      · exact .inl (List.mem_append_right _ z)
  sc s hs y hy := by
    rw [List.map_append] at hs ⊢
    rw [List.map_append]
    rcases List.mem_append.mp hs with hs | hs
    · rcases h.sc s hs y hy with z | z
      · exact .inl (List.mem_append_left _ z)
      · rw [List.map_append] at z
        rcases List.mem_append.mp z with z | z
        · exact .inr (List.mem_append_left _ z)
        · exact .inl (List.mem_append_right _ z)
    · rw [List.mem_singleton.mp hs] at hy
      exact .inr (List.mem_append_right _ (List.mem_map.mpr ⟨y, hy, rfl⟩))
  og i y e := by
    rcases Nat.lt_or_ge i d.length with hi | hi
    · rw [List.getElem?_append_left hi] at e
      rw [List.take_append_of_le_length (Nat.le_of_lt hi)]
      exact h.og i y e
    · rw [List.getElem?_append_right hi] at e
      have : i = d.length := by
        have := (List.getElem?_eq_some_iff.mp e).1
        simp only [List.length_cons, List.length_nil] at this
        omega
      subst this
      rw [Nat.sub_self] at e
      cases e
      rw [List.take_append_of_le_length (Nat.le_refl _), List.take_length]
      exact h.ow x (by simp)
  ow y hy := by
    rcases List.mem_append.mp hy with hy | hy
    · exact (h.ow y (List.mem_append_left _ hy)).mono fun s hs => by rw [List.map_append]; exact List.mem_append_left _ hs
    · obtain ⟨m, h1, h2, rfl⟩ := sucL_mem.mp hy
      exact .inr ⟨x.1, m, by simp, h1, h2, rfl⟩
  wl i y e := by
    rcases Nat.lt_or_ge i wt.length with hi | hi
    · rw [List.getElem?_append_left hi] at e
      exact h.wl i y (by rw [List.getElem?_append_left hi]; exact e)
    · rw [List.getElem?_append_right hi] at e
      have hx := h.wl wt.length x (by rw [List.getElem?_append_right (Nat.le_refl _), Nat.sub_self]; rfl)
      obtain ⟨m, h1, _, rfl⟩ := sucL_mem.mp (List.mem_of_getElem? e)
      obtain ⟨w, hw⟩ := h.ledW (x := x) (by simp)
      have h2 := mv_mes (hw.G hr) (m := (m.1, m.2.1)) (List.mem_map.mpr ⟨m, h1, rfl⟩)
      have h3 := (List.getElem?_eq_some_iff.mp e).1
      have h4 : (sucL rc t x.1).length ≤ 4 := sucL_len
      show i + 4 * mesS (tabAt rc m.2.1.ix) m.2.1.a ≤ 128
      simp only at h2
      omega
theorem cbN_stay {n : Nat} (e : cbN rc t n = (d, [])) : ∀ k, cbN rc t (n + k) = (d, [])
  | 0 => e
  | k + 1 => by
    show cbS rc t (cbN rc t (n + k)) = _
    rw [cbN_stay e k]
    rfl
/-- what the search finds is determined -/
theorem CbI.uniq {d' : Cb} (h : CbI rc t d []) (h' : CbI rc t d' []) : d = d' := by
  obtain ⟨n, e⟩ := h.rn
  obtain ⟨m, e'⟩ := h'.rn
  have a := cbN_stay e m
  have b := cbN_stay e' n
  rw [Nat.add_comm, b] at a
  exact (Prod.mk.inj a).1.symm
/-- the way by which a stand was first reached -/
inductive OgW (d : Cb) : Stn → List (Stp × Stp) → Prop
  | st {s : Stn} : (s, none) ∈ d → OgW d s []
  | mv {s p : Stn} {x : Stp × Stp} {w : List (Stp × Stp)} : (s, some (p, x)) ∈ d → OgW d p w → OgW d s (w ++ [x])
theorem og_uniq (hn : (d.map (·.1)).Nodup) {o o' : Og} (h : (s, o) ∈ d) (h' : (s, o') ∈ d) : o = o' := by
  induction d with
  | nil => cases h
  | cons y d ih =>
    obtain ⟨h1, h2⟩ := List.nodup_cons.mp hn
    rcases List.mem_cons.mp h with e | e <;> rcases List.mem_cons.mp h' with e' | e'
    · rw [← e] at e'; exact ((Prod.mk.inj e').2).symm
    · exact absurd (List.mem_map.mpr ⟨_, e', by rw [← e]⟩) h1
    · exact absurd (List.mem_map.mpr ⟨_, e, by rw [← e']⟩) h1
    · exact ih h2 e e'
theorem OgW.uniq (hn : (d.map (·.1)).Nodup) {w w' : List (Stp × Stp)} (h : OgW d s w) (h' : OgW d s w') : w = w' := by
  induction h generalizing w' with
  | st h => cases h' with
    | st _ => rfl
    | mv h2 _ => cases og_uniq hn h h2
  | mv h _ ih => cases h' with
    | st h2 => cases og_uniq hn h h2
    | mv h2 h3 =>
      cases og_uniq hn h h2
      rw [ih h3]
theorem CbI.done (h : CbI rc t d []) : s ∈ d.map (·.1) ↔ Led rc t s := by
  constructor
  · exact h.ledK
  · rintro ⟨w, hw⟩
    induction hw with
    | st hs => exact (h.st _ hs).resolve_right fun z => nomatch z
    | @mv s w m _ hm ht ih => exact (h.sc _ ih (sucO s m) (sucL_mem.mpr ⟨m, hm, ht, rfl⟩)).resolve_right fun z => nomatch z
end
end Bf
namespace Bf
open PySem PySem.Spec PyProof.Rows L2
/-! ## stands_led_to -/
def cbK (d : Cb) : List Dt := (d.map (·.1)).map Stn.d
section
variable {K : PySem.W.Frag} {mg : Str → Option Value} {Hb Fb F H : Hp} {L : List Addr} {p C CR fI : Addr} {σ : L2.St} {ρ : List (Option Dt)} {P : Pm} {te tb : TE} {tw : TS} {ds xs l1 l2 : List Dt} {S S1 S2 : Sta} {w : World} {Φ : Dt → Prop} {j : Nat} {d : Dt}
end
end Bf
namespace Bf
open PySem PySem.Spec PyProof.Rows L2
/-! ## way_to, word_along, paper_of_way -/
/-- the bits that are settled by steps -/
def bitsA (l : List Stp) : List Dt := (l.filterMap (·.1)).map Dt.int
def paperW (CR : Addr) (rc : Rcv) (s : Stn) (way : List (Stp × Stp)) : Dt := .tup [.str "taken", .tup [.int s.ix, .tup (bitsA (way.map (·.1)))], .tup [.int s.lw, .tup (bitsA (way.map (·.2)))], .tup (way.map fun x => ratP CR (nearA x.1.2.1 x.2.2.1 (tolAt rc s.lw)))]
section
variable {K : PySem.W.Frag} {mg : Str → Option Value} {Hb Fb F H : Hp} {L : List Addr} {p C CR fI : Addr} {σ : L2.St} {ρ : List (Option Dt)} {P : Pm} {te tb tl : TE} {tw : TS} {ds xs l1 l2 : List Dt} {S S1 S2 : Sta} {w : World} {Φ : Dt → Prop} {j j2 : Nat} {d : Dt} {vs : List Nat}
theorem en_revL (h : Ev K S S1 ρ te (Eq (.lst xs))) : EvN K S S1 ρ (tRevL K te) xs.reverse := fun σ H i s Q q =>
  h σ H i s _ fun v d H1 g1 i1 r1 e => by
    subst e
    obtain ⟨a, us, rfl, ht, ra⟩ := r1.lstI
    exact ⟨a, us, rfl, ht, fun p hp => q p _ H1 _ g1 i1 hp (same_new hp).gr (S1.st i1 (same_new hp)) upd_same (ra.rev.mono (same_new hp).gr)⟩
/-! ### way_to -/
/-! ### word_along, paper_of_way -/
end
end Bf
namespace Bf
open PySem PySem.Spec PyProof.Rows L2
/-! ## taken -/
theorem WayS.steps {rc : Rcv} {sl : Sls} {t : Option Fq} {s : Stn} {way : List (Stp × Stp)} (hW : WOk rc sl) (h : WayS rc t s way) : ∀ x ∈ way, okS x.1.2.1 ∧ okS x.2.2.1 := by
  induction h with
  | st _ => exact fun _ z => nomatch z
  | @mv s w m h1 hm _ ih =>
    intro x hx
    rcases List.mem_append.mp hx with hx | hx
    · exact ih x hx
    · rw [List.mem_singleton.mp hx]
      have hs := h1.K hW
      obtain ⟨x1, hx1, hm⟩ := List.mem_flatMap.mp hm
      obtain ⟨y, hy, rfl⟩ := List.mem_map.mp hm
      have hg := (stnK_G hW hs).2
      exact ⟨(step_R (at_ok hW.ok hs.i).1 hg.2.1 hx1).1, (step_R (at_ok hW.ok hs.l).1 hg.2.2 (List.mem_filter.mp hy).1).1⟩
/-- what a paper says -/
def PaperI (CR : Addr) (rc : Rcv) (t : Fq) (e : Dt) : Prop := (∃ ks : List Stn, ks.Nodup ∧ (∀ s, s ∈ ks ↔ Led rc (some t) s) ∧ (∀ s ∈ ks, finN rc s = false) ∧ e = .tup [.str "safe", .tup (ks.map Stn.d)]) ∨ ∃ s way, WayS rc (some t) s way ∧ finN rc s = true ∧ e = paperW CR rc s way
/-- what a paper says, determined: the first final stand, and the way by which it was first reached -/
def PaperD (CR : Addr) (rc : Rcv) (t : Fq) (e : Dt) : Prop := ∃ d : Cb, CbI rc (some t) d [] ∧ (((∀ s ∈ d.map (·.1), finN rc s = false) ∧ e = .tup [.str "safe", .tup (cbK d)]) ∨ ∃ i s way, (d.map (·.1))[i]? = some s ∧ (∀ s' ∈ (d.map (·.1)).take i, finN rc s' = false) ∧ finN rc s = true ∧ WayS rc (some t) s way ∧ OgW d s way ∧ e = paperW CR rc s way)
theorem PaperD.I {CR : Addr} {rc : Rcv} {t : Fq} {e : Dt} (h : PaperD CR rc t e) : PaperI CR rc t e := by
  obtain ⟨d, hI, ⟨hf, rfl⟩ | ⟨i, s, way, _, _, hf, hw, _, rfl⟩⟩ := h
  · exact .inl ⟨d.map (·.1), hI.nd, fun s => hI.done, hf, rfl⟩
  · exact .inr ⟨s, way, hw, hf, rfl⟩
theorem PaperD.uniq {CR : Addr} {rc : Rcv} {t : Fq} {e e' : Dt} (h : PaperD CR rc t e) (h' : PaperD CR rc t e') : e = e' := by
  obtain ⟨d, hI, h⟩ := h
  obtain ⟨d', hI', h'⟩ := h'
  obtain rfl := hI.uniq hI'
  rcases h with ⟨hf, rfl⟩ | ⟨i, s, way, hi, hb, hf, hw, ho, rfl⟩ <;> rcases h' with ⟨hf', rfl⟩ | ⟨i', s', way', hi', hb', hf', hw', ho', rfl⟩
  · rfl
  · have := hf _ (List.mem_of_getElem? hi')
    rw [hf'] at this; cases this
  · have := hf' _ (List.mem_of_getElem? hi)
    rw [hf] at this; cases this
  · have hl := (List.getElem?_eq_some_iff.mp hi).1
    have hl' := (List.getElem?_eq_some_iff.mp hi').1
    have tk : ∀ {i j : Nat} {s : Stn}, (d.map (·.1))[i]? = some s → i < j → s ∈ (d.map (·.1)).take j := fun {i j s} e hij => by
      refine List.mem_of_getElem? (i := i) ?_
      rw [List.getElem?_take, if_pos hij, e]
    have : i = i' := by
      rcases Nat.lt_trichotomy i i' with z | z | z
      · have := hb' _ (tk hi z)
        rw [hf] at this; cases this
      · exact z
      · have := hb _ (tk hi' z)
        rw [hf'] at this; cases this
    subst this
    rw [hi] at hi'
    cases hi'
    rw [ho.uniq hI.nd ho']
section
variable {K : PySem.W.Frag} {mg : Str → Option Value} {Hb Fb F H : Hp} {L : List Addr} {p C CR CB CBR fI : Addr} {w : World} {ds : List Dt} {d : Dt}
end
end Bf
namespace Bf
open PySem PySem.Spec PyProof.Rows L2
/-! ## a way within a tolerance is a way whose greatest need is within it -/
section
variable {rc : Rcv} {t : Fq} {s : Stn}
end
end Bf
namespace Bf
open PySem PySem.Spec PyProof.Rows L2
/-! ## a way, as a paper tells it: two walks, their bits and durations -/
abbrev Way := List (Stp × Stp)
def dur1 (w : Way) : List Int := w.map fun x => x.1.2.1
def dur2 (w : Way) : List Int := w.map fun x => x.2.2.1
def bit1 (w : Way) : List Int := (w.map (·.1)).filterMap (·.1)
def bit2 (w : Way) : List Int := (w.map (·.2)).filterMap (·.1)
structure TwoV (rc : Rcv) (t : Option Fq) (s : Stn) (w : Way) : Prop where
  inr : inR rc s
  le : s.lw ≤ s.ix
  a : Wlk (tabAt rc s.ix) (tabAt rc s.ix).beg (dur1 w) (bit1 w) s.a
  b : Wlk (tabAt rc s.lw) (tabAt rc s.lw).beg (dur2 w) (bit2 w) s.b
  q : ∀ x ∈ w, okTol t (canP (needP x.1.2.1 x.2.2.1 (tolAt rc s.lw))) = true
  lt : s.lw < s.ix → s.le = true
  eq : s.lw = s.ix → s.le = false → bit1 w = bit2 w ∧ s.a = s.b
  ls : s.lw = s.ix → s.le = true → Lss (bit2 w) (bit1 w)
end Bf
namespace Bf
open PySem PySem.Spec PyProof.Rows L2
/-! ## the burst of a paper is near both frames -/
end Bf
namespace Bf
open PySem PySem.Spec PyProof.Rows L2 PySem.SeqAt
/-! ## a list != [], whatever it holds -/
def rNeNil (K : PySem.W.Frag) : R2 := fun x y H Q => ∃ a b xs, x = .ref a ∧ y = .ref b ∧ SqL K H a xs ∧ SqL K H b [] ∧ Q (.bl (!xs.isEmpty)) H
theorem op_neNil {X : Cx} (hu : X.A.units + 64 < cLine) : OpR X (compareOp .NotEq) (rNeNil X.K) := by
  intro pins s σ H x y v u Q I rx ry h
  obtain ⟨a, b, xs, rfl, rfl, hA, hB, q⟩ := h
  cases (show v = Value.ref a from rx)
  cases (show u = Value.ref b from ry)
  obtain ⟨its, r, p, _⟩ := I.list hA
  obtain ⟨its2, r2, p2, _⟩ := I.list hB
  cases r2
  have hl := r.length
  cases xs with
  | nil =>
    cases r
    have rc := RcNeAt.lists (e := fun _ => true) p.isList p2.isList (A := X.A) (s := s) rfl (by omega) fun j h1 h2 => absurd h1 (by simp)
    exact rc X.prog X.w _ _ ⟨.bl _, H, I, rfl, q⟩
  | cons x xs =>
    have rc := RcNeAt.lists_lengths p.isList p2.isList (A := X.A) (s := s) (by
      cases its with
      | nil => simp at hl
      | cons i is => simp) (by omega)
    exact rc X.prog X.w _ _ ⟨.bl _, H, I, rfl, q⟩
theorem rv_neNil {K : PySem.W.Frag} {S : Sta} {xs : List Dt} : Rv2 K S (rNeNil K) (.lst xs) (.lst []) (Eq (.bl (!xs.isEmpty))) := rv_at fun H v u _ r1 r2 Q q => by
  obtain ⟨a, vs, rfl, ha, ra⟩ := r1.lstI
  obtain ⟨b, us, rfl, hb, rb⟩ := r2.lstI
  cases rb
  refine ⟨a, b, vs, rfl, rfl, ha, hb, ?_⟩
  have e : vs.isEmpty = xs.isEmpty := by
    have := ra.len
    cases vs <;> cases xs <;> simp at this ⊢
  rw [e]
  exact q _ (.bl _)
end Bf
namespace Bf
open PySem PySem.Spec PyProof.Rows L2
/-! ## defs by Sm that hand back a new list; start_stands so -/
section
variable {K : PySem.W.Frag} {mg : Str → Option Value} {Hb Fb F F' H H' A B : Hp} {L L' : List Addr} {p C CR CB fI x : Addr} {o : HO} {v : V} {d q : Dt} {σ : L2.St} {ρ : List (Option Dt)} {P : Pm} {te tl : TE} {t w' : TS} {j j1 j2 i n : Nat} {xs ys ds : List Dt} {S : Sta} {w : World} {Φ : Dt → Prop} {E : XK}
end
end Bf
namespace Bf
open PySem PySem.Spec PyProof.Rows L2
/-! ## the law's own: steps, starts, what leads on, is_final -/
theorem WayS.R {rc : Rcv} {t : Option Fq} {s : Stn} {way : List (Stp × Stp)} (hr : rcvOk rc) (h : WayS rc t s way) : stnR rc s ∧ (s.le = false → s.ix = s.lw ∧ s.a = s.b) := by
  induction h with
  | @st s h =>
    have hi := inR_sts h
    obtain ⟨i, hi', h⟩ := List.mem_flatMap.mp h
    obtain ⟨j, hj, rfl⟩ := List.mem_map.mp h
    refine ⟨⟨hi, beg_R (at_ok hr hi.1).1, beg_R (at_ok hr hi.2).1⟩, fun e => ?_⟩
    have e' : decide (j < i) = false := e
    have hj := List.mem_range.mp hj
    have : i = j := by have := of_decide_eq_false e'; omega
    subst this
    exact ⟨rfl, rfl⟩
  | @mv s w m _ hm _ ih =>
    obtain ⟨hR, hE⟩ := ih
    refine ⟨(mv_ok hr hR (m := (m.1, m.2.1)) (List.mem_map.mpr ⟨m, hm, rfl⟩)).2, fun e => ?_⟩
    obtain ⟨x, hx, hm⟩ := List.mem_flatMap.mp hm
    obtain ⟨y, hy, rfl⟩ := List.mem_map.mp hm
    have e1 : s.le = false ∧ y.1 = x.1 := by
      have e' : (s.le || !decide (y.1 = x.1)) = false := e
      simpa using e'
    obtain ⟨h1, h2⟩ := hE e1.1
    have hy := (List.mem_filter.mp hy).1
    rw [← h1, ← h2] at hy
    have := (steps_two hx hy).1 e1.2.symm
    subst this
    exact ⟨h1, rfl⟩
section
variable {K : PySem.W.Frag} {mg : Str → Option Value} {Hb Fb F F' H H' A B : Hp} {L L' : List Addr} {p C CR CB fI x : Addr} {o : HO} {v : V} {d q : Dt} {σ : L2.St} {ρ : List (Option Dt)} {P : Pm} {te tl : TE} {t w' tw : TS} {j j1 j2 i n : Nat} {xs ys ds : List Dt} {S : Sta} {w : World} {Φ : Dt → Prop} {E : XK}
end
end Bf
namespace Bf
open PySem PySem.Spec PyProof.Rows L2
/-! ## a paper "taken" that a way shows holds -/
end Bf
namespace Bf
open PySem PySem.Spec PyProof.Rows L2 PySem.SeqAt
/-! ## sendings by their order: (an int, a tuple of ints) -/
section
variable {A : Around} {s : Shared} {p q : Addr} {its its2 : List Value} {ns ms : List Int}
end
def sndLt (i : Int) (ns : List Int) (j : Int) (ms : List Int) : Bool := if i = j then ltB ns ms else decide (i < j)
end Bf
namespace Bf
open PySem PySem.Spec PyProof.Rows L2
/-! ## _law_led -/
section
variable {K : PySem.W.Frag} {mg : Str → Option Value} {Hb Fb F F' H H' A B : Hp} {L L' : List Addr} {p C CR CB fI x : Addr} {o : HO} {v : V} {d q : Dt} {σ : L2.St} {ρ : List (Option Dt)} {P : Pm} {te tl : TE} {t w' tw : TS} {j j1 j2 i n : Nat} {xs ys ds : List Dt} {S : Sta} {w : World} {Φ : Dt → Prop} {E : XK}
end
end Bf
namespace Bf
open PySem PySem.Spec PyProof.Rows L2
/-! ## _law_is_final, _law_stands -/
section
variable {K : PySem.W.Frag} {mg : Str → Option Value} {Hb Fb F F' H H' A B : Hp} {L L' : List Addr} {p C CR CB fI x : Addr} {o : HO} {v : V} {d q : Dt} {σ : L2.St} {ρ : List (Option Dt)} {P : Pm} {te tl : TE} {t w' tw : TS} {j j1 j2 i n : Nat} {xs ys ds : List Dt} {S : Sta} {w : World} {Φ : Dt → Prop} {E : XK}
end
end Bf
namespace Bf
open PySem PySem.Spec PyProof.Rows L2
/-! ## [k for k in a dict with tuples as keys if ..], the dict locked -/
section
variable {X : Cx} {pins : List (Addr × Obj)} {σ : L2.St} {H : Hp} {s : Shared}
end
section
variable {P : Program} {w : World} {K : PySem.W.Frag} {tg : Expr} {d : Addr} {o : Obj} {es : Array DictEntry} {ep : Nat}
end
/-! data that hold no list and no dict stay, whatever happens to a dict -/
mutual
def noD : Dt → Bool
  | .non => true
  | .bl _ => true
  | .int _ => true
  | .str _ => true
  | .raw _ => true
  | .tup xs => noDA xs
  | .ins _ _ xs => noDA xs
  | _ => false
def noDA : List Dt → Bool
  | [] => true
  | x :: xs => noD x && noDA xs
end
mutual
theorem noD_fix : ∀ {d : Dt}, fixd d = true → noD d = true
  | .non, _ => rfl
  | .bl _, _ => rfl
  | .int _, _ => rfl
  | .str _, _ => rfl
  | .raw _, _ => rfl
  | .tup xs, h => by simp only [noD]; exact noDA_fix (by simpa only [fixd] using h)
  | .ins _ _ xs, h => by simp only [noD]; exact noDA_fix (by simpa only [fixd] using h)
  | .lst _, h => by simp [fixd] at h
  | .dic .., h => by simp [fixd] at h
  | .lat .., h => by simp [fixd] at h
  | .err .., h => by simp [fixd] at h
  | .dct .., h => by simp [fixd] at h
  | .dti .., h => by simp [fixd] at h
  | .dat .., h => by simp [fixd] at h
  | .cel .., h => by simp [fixd] at h
theorem noDA_fix : ∀ {xs : List Dt}, fixdA xs = true → noDA xs = true
  | [], _ => rfl
  | x :: xs, h => by
    simp only [fixdA, Bool.and_eq_true] at h
    simp only [noDA, noD_fix h.1, noDA_fix h.2, Bool.and_self]
end
section
variable {K : PySem.W.Frag} {A B : Hp} {q : Addr}
/-- at q stands a dict with tuples as keys, perhaps locked -/
def DatAt (A : Hp) (q : Addr) : Prop := (∃ f, A q = some (.ext f)) ∨ ∃ o f, A q = some (.frz o (.ext f))
theorem DatAt.ne (h : DatAt A q) {a : Addr} {o : HO} (e : A a = some o) (n1 : ∀ f, o ≠ .ext f) (n2 : ∀ ob f, o ≠ .frz ob (.ext f)) : a ≠ q := fun z => by
  rw [z] at e
  rcases h with ⟨f, h⟩ | ⟨ob, f, h⟩
  · rw [e] at h; exact n1 _ (Option.some.inj h)
  · rw [e] at h; exact n2 _ _ (Option.some.inj h)
mutual
theorem Rep.aside (hq : DatAt A q) (h : ∀ a o, a ≠ q → A a = some o → B a = some o) : ∀ {v : V} {d : Dt}, noD d = true → Rep K A v d → Rep K B v d
  | _, _, _, .non => .non
  | _, _, _, .bl b => .bl b
  | _, _, _, .int i => .int i
  | _, _, _, .str x => .str x
  | _, _, _, .raw v => .raw v
  | _, _, f, .tup q' r => .tup (by
      rcases q' with (q' | ⟨o, q'⟩) | q'
      · exact .inl (.inl (h _ _ (hq.ne q' (fun _ z => nomatch z) fun _ _ z => nomatch z) q'))
      · exact .inl (.inr ⟨o, h _ _ (hq.ne q' (fun _ z => nomatch z) fun _ _ z => by cases z) q'⟩)
      · exact .inr q') (r.aside hq h (by simpa only [noD] using f))
  | _, _, f, .ins q' r => .ins (h _ _ (hq.ne q' (fun _ z => nomatch z) fun _ _ z => nomatch z) q') (r.aside hq h (by simpa only [noD] using f))
  | _, _, f, .lst _ _ => by simp [noD] at f
  | _, _, f, .dat _ _ _ _ => by simp [noD] at f
  | _, _, f, .lat _ _ => by simp [noD] at f
  | _, _, f, .dic _ => by simp [noD] at f
  | _, _, f, .err _ _ _ => by simp [noD] at f
  | _, _, f, .dct _ _ _ => by simp [noD] at f
  | _, _, f, .dti _ _ _ => by simp [noD] at f
  | _, _, f, .cel _ _ => by simp [noD] at f
theorem RepA.aside (hq : DatAt A q) (h : ∀ a o, a ≠ q → A a = some o → B a = some o) : ∀ {vs : List V} {ds : List Dt}, noDA ds = true → RepA K A vs ds → RepA K B vs ds
  | _, _, _, .nil => .nil
  | _, _, f, .cons q' r => by
    simp only [noDA, Bool.and_eq_true] at f
    exact .cons (q'.aside hq h f.1) (r.aside hq h f.2)
end
end
end Bf
namespace Bf
open PySem PySem.Spec PyProof.Rows L2
/-! ## len(a dict with tuples as keys), dict(pairs) so -/
section
variable {X : Cx}
end
section
variable {K : PySem.W.Frag} {S S1 S2 SB SF : Sta} {L : List Addr} {ρ : List (Option Dt)} {td ty te ta tb : TE} {tt : TT} {ks xs ys : List Dt} {q d d0 : Dt} {p : Addr} {w : World} {tw : TS} {P : Po} {i j b : Nat} {vs : List Nat}
mutual
theorem noD_nol : ∀ {d : Dt}, noD d = true → nol d = true
  | .non, _ => rfl
  | .bl _, _ => rfl
  | .int _, _ => rfl
  | .str _, _ => rfl
  | .raw _, h => by first | rfl | simp [nol]
  | .tup xs, h => by simp only [nol]; exact noDA_nol (by simpa only [noD] using h)
  | .ins _ _ xs, h => by simp only [nol]; exact noDA_nol (by simpa only [noD] using h)
  | .lst _, h => by simp [noD] at h
  | .dic .., h => by simp [noD] at h
  | .lat .., h => by simp [noD] at h
  | .err .., h => by simp [noD] at h
  | .dct .., h => by simp [noD] at h
  | .dti .., h => by simp [noD] at h
  | .dat .., h => by simp [noD] at h
  | .cel .., h => by simp [noD] at h
theorem noDA_nol : ∀ {xs : List Dt}, noDA xs = true → nolA xs = true
  | [], _ => rfl
  | x :: xs, h => by
    simp only [noDA, Bool.and_eq_true] at h
    simp only [nolA, noD_nol h.1, noDA_nol h.2, Bool.and_self]
end
end
end Bf
namespace Bf
open PySem PySem.Spec PyProof.Rows L2
/-! ### places stay small -/
def Site.sm (T : Tab) (s : Site) : Prop := 0 ≤ s.k ∧ s.k ≤ T.b ∧ s.rest.length ≤ 8 ∧ (∀ x ∈ s.rest, 0 ≤ x ∧ x ≤ 200000) ∧ T.oOk s.o
/-! ## The law itself -/
section
variable {K : PySem.W.Frag} {a : Addr} {c : CT} {cs : List Int}
end
end Bf
namespace Bf
open PySem PySem.Spec PyProof.Rows L2
/-! ## The law of stands -/
section
variable {K : PySem.W.Frag} {S S1 S2 : Sta} {ρ : List (Option Dt)} {te ta tb : TE} {a : Addr} {c : CT} {cs : List Int} {C CB : Addr} {P : Po} {w : World}
end
end Bf
namespace Bf
open PySem PySem.Spec PyProof.Rows L2
/-! ## check_taken of papers that hold -/
theorem WayS.none {rc : Rcv} {t : Option Fq} {s : Stn} {w : Way} (h : WayS rc t s w) : WayS rc .none s w := by
  induction h with
  | st h => exact .st h
  | mv _ hm _ ih => exact .mv ih hm rfl
/-! ### has_form_of_place, has_form_of_stand -/
section
variable {K : PySem.W.Frag} {mg : Str → Option Value} {Hb Fb F H : Hp} {L : List Addr} {p C CR CB CBR fI : Addr} {w : World} {ρ : List (Option Dt)} {ds l1 l2 : List Dt} {d : Dt} {Φ : Dt → Prop} {S : Sta} {tt c : TT}
/-! ### as_listed -/
end
end Bf
namespace Bf
open PySem PySem.Spec PyProof.Rows L2
/-! ## wrong_part_of_safe -/
/-- stands that are a paper "safe" -/
structure SafeP (rc : Rcv) (t : Fq) (ks : List Stn) : Prop where
  nd : ks.Nodup
  st : ∀ s ∈ stsN rc, s ∈ ks
  led : ∀ s ∈ ks, Led rc none s
  fin : ∀ s ∈ ks, finN rc s = false
  cl : ∀ s ∈ ks, ∀ m ∈ mv3 rc s, okTol (some t) m.1 = true → m.2.1 ∈ ks
section
variable {K : PySem.W.Frag} {mg : Str → Option Value} {Hb Fb F H : Hp} {L : List Addr} {p C CR CB CBR fI : Addr} {w : World} {ρ : List (Option Dt)} {ds l1 l2 : List Dt} {d : Dt} {Φ : Dt → Prop} {S : Sta} {tt c : TT}
end
end Bf
namespace Bf
open PySem PySem.Spec PyProof.Rows L2
/-! ## frame_of_sending, wrong_part_of_taken, check_taken -/
def sndD (i : Nat) (w : List Int) : Dt := .tup [.int i, tI w]
/-- a paper "taken" that holds -/
structure TakenP (rc : Rcv) (t : Fq) (i j : Nat) (v w : List Int) (bs : List Fq) : Prop where
  pair : PairOk rc i j v w
  len : bs.length = ((tabAt rc i).frame v).length
  short : bs.length ≤ 63
  ok : ∀ b ∈ bs, okP b
  near : ∀ q ∈ bs.zip ((tabAt rc i).frame v), lessP t (offP q.1 q.2) = false
  near2 : ∀ q ∈ bs.zip ((tabAt rc j).frame w), lessP (tolAt rc j) (offP q.1 q.2) = false
def takD (C : Addr) (i j : Nat) (v w : List Int) (bs : List Fq) : Dt := .tup [.str "taken", sndD i v, sndD j w, bD C bs]
theorem PairOk.sndLt {rc : Rcv} {i j : Nat} {v w : List Int} (h : PairOk rc i j v w) : sndLt j w i v = true := by
  unfold Bf.sndLt
  by_cases e : (j : Int) = i
  · rw [if_pos e]
    rcases h.lt with h1 | h1
    · omega
    · exact lss_lt h1
  · rw [if_neg e]
    have := h.le
    exact decide_eq_true (by omega)
def isPap (CR : Addr) (rc : Rcv) (t : Fq) (e : Dt) : Prop := (∃ ks, SafeP rc t ks ∧ e = .tup [.str "safe", .tup (ks.map Stn.d)]) ∨ ∃ i j v w bs, TakenP rc t i j v w bs ∧ e = takD CR i j v w bs
section
variable {K : PySem.W.Frag} {mg : Str → Option Value} {p C CB CBR fI : Addr} {w : World} {ds : List Dt} {d : Dt} {S : Sta}
end
end Bf
namespace Bf
open PySem PySem.Spec PyProof.Rows L2
/-! ## _law_is_taken -/
section
variable {K : PySem.W.Frag} {mg : Str → Option Value} {p C CB CBR fI : Addr} {w : World} {ds : List Dt} {d : Dt} {S : Sta}
end
end Bf
namespace Bf
open PySem PySem.Spec PyProof.Rows L2
/-! ## The law of what is taken -/
/-- whether the limit is within a tolerance -/
def dueB (rc : Rcv) (r : Fq) : Bool := match limF rc with
  | none => false
  | some q => !lessP r q
/-- what is known of a paper that is told -/
structure PapK (C : Addr) (rc : Rcv) (r : Fq) (e : Dt) (xs : List Dt) : Prop where
  sh : e = .tup (.str (if dueB rc r = true then "taken" else "safe") :: xs)
  len : xs.length = if dueB rc r = true then 3 else 1
  eq : ∀ x ∈ xs, eqK C 4 x
  pap : isPap C rc (canP r) e
  tak : dueB rc r = true → ∃ i j v w bs, TakenP rc (canP r) i j v w bs ∧ e = takD C i j v w bs
section
variable {K : PySem.W.Frag} {S S1 S2 : Sta} {ρ : List (Option Dt)} {te ta tb : TE} {a : Addr} {c : CT} {cs : List Int} {C CB : Addr} {P : Po} {w : World}
end
end Bf
namespace Bf
open PySem PySem.Spec PyProof.Rows L2
/-! ## _law_great, _law_halves_right -/
section
variable {K : PySem.W.Frag} {S S1 S2 : Sta} {ρ : List (Option Dt)} {te ta tb : TE} {a : Addr} {c : CT} {cs : List Int} {C CB : Addr} {P : Po} {w : World} {ds : List Dt} {n : Nat}
end
end Bf
namespace Bf
open PySem PySem.Spec PyProof.Rows L2
/-! ## Reading a table's text: the program -/
abbrev t_is_numeral (K : PySem.W.Frag) : TS := (tSeq (tIfS (tOr (tNot (tAnd (tB (tM0 rAsc (tVar 0))) (tB (tM0 rDig (tVar 0))))) (tTest (tOp rGtI (tCB rLenS (tCons (tVar 0) tNil)) (tVar 1)))) (tRet (tC (.bl false))) tNext)
    (tRet (tOrV (tOp rEq (tVar 0) (tC (.str "0"))) (tNotV (tM1 rStw (tVar 0) (tC (.str "0")))))))
section
variable {K : PySem.W.Frag} {S S1 : Sta} {ρ : List (Option Dt)} {ta tb : TE} {ds : List Dt} {d : Dt} {a : Str} {t : Bool}
end
end Bf
namespace Bf
open PySem PySem.Spec PyProof.Rows L2
/-! ## Reading a table's text: numbers_by, split_text, read_pairs, read_table -/
abbrev dI (xs : List Int) : Dt := .lst (xs.map Dt.int)
section
variable {K : PySem.W.Frag} {S : Sta} {ds : List Dt} {o : Out} {CT CB : Addr} {E : XK}
end
/-! ### split_text, read_pairs, read_table -/
section
variable {K : PySem.W.Frag} {S : Sta} {ds : List Dt} {o : Out} {CT CB pP pH : Addr} {E : XK}
end
end Bf
namespace Bf
open PySem PySem.Spec PyProof.Rows L2
/-! ## read_table, is_pairs, table_text -/
section
variable {K : PySem.W.Frag} {S S1 : Sta} {ρ : List (Option Dt)} {te : TE} {w : TS} {ds : List Dt} {o : Out} {CT CB pP pH : Addr} {E : XK} {T : Tab}
end
end Bf
namespace Bf
open PySem PySem.Spec PyProof.Rows L2
/-! ## The text of a table, written and read again -/
/-- what stands in the text, word by word -/
def Tab.ws : Tab → List Dt
  | .ha u b => [.str "halves", .int u, .int b]
  | .pa h a b c d s n => .str "pairs" :: (h.map Dt.int ++ [.str "/", .int a, .int b, .str "/", .int c, .int d, .str "/", .int s, .str "/", .int n])
theorem sg_join (y : Str) (ps : List Str) : sg (Txt.join y ps) = TL.joinL (sg y) (ps.map sg) := (congrArg TL.tl (TL.join_eq y ps)).trans (TL.tl_join y ps)
end Bf
namespace Bf
open PySem PySem.Spec PyProof.Rows L2
/-! ## Ratios as texts -/
theorem room_d {k : Nat} {A : Around} (r : Room k A) : A.depth + 1 < recursionLimit := by have := r.dp; omega
/-- what is known of a classmethod, of __str__ -/
structure CmT (K : PySem.W.Frag) (C : Addr) (x qual : Str) (st : Stmt) (f : Addr) (fd : FuncData) (ps : List Str) (p : Addr) : Prop where
  fn : Fun K x qual st f fd
  r : ClX.CRead K C (.type "type")
  c : ClX.CMet K C (.type "type") x p f
  b : Binds K fd ps []
structure SmT (K : PySem.W.Frag) (C : Addr) (x qual : Str) (st : Stmt) (f : Addr) (fd : FuncData) (ps : List Str) : Prop where
  fn : Fun K x qual st f fd
  s : PySem.W.findIn K (.ref C) x = some (some (.ref f))
  f : PySem.W.isFn K (.ref f) = true
  b : Binds K fd ps []
abbrev rZfill : V → List V → Hp → VK → Prop := fun x xs H Q => ∃ (a : Str) (i : Int), x = .str a ∧ xs = [.int i] ∧ PadOk i = true ∧ Q (.str (Txt.zfill a i)) H
/-- f'..' of several parts -/
abbrev tJoined (ts : List TE) : TE := fun σ H Q => tJs ts Str.empty σ H fun out H1 => Q (.str out) H1
section
variable {K : PySem.W.Frag} {S S1 S2 S3 : Sta} {ρ : List (Option Dt)} {te ta tb tc : TE} {a b c : Str}
theorem ev_fmt (h : Ev K S S1 ρ te (Eq (.str a))) (hz : a.length ≤ sizeLine) : Ev K S S1 ρ (tFmt te) (Eq (.str a)) := fun σ H i s Q q => h σ H i s _ fun v d H1 g1 i1 r1 e => by
  subst e
  obtain rfl := r1.strI
  exact .inl ⟨a, rfl, hz, q _ _ H1 g1 i1 (.str a) rfl⟩
theorem empA (x : Str) : Str.empty ++ x = x := sg_ext (by show (#[] ++ x.cps).toList = _; simp)
theorem ev_joined3 (h1 : Ev K S S1 ρ ta (Eq (.str a))) (h2 : Ev K S1 S2 ρ tb (Eq (.str b))) (h3 : Ev K S2 S3 ρ tc (Eq (.str c))) (hz : a.length + b.length + c.length ≤ sizeLine) : Ev K S S3 ρ (tJoined [ta, tb, tc]) (Eq (.str (a ++ b ++ c))) := fun σ H i s Q q =>
  h1 σ H i s _ fun v1 d1 H1 g1 i1 r1 e1 => by
    subst e1
    obtain rfl := r1.strI
    refine ⟨a, rfl, by rw [empA]; omega, h2 σ H1 i1 (s.mono g1) _ fun v2 d2 H2 g2 i2 r2 e2 => ?_⟩
    subst e2
    obtain rfl := r2.strI
    rw [empA]
    refine ⟨b, rfl, by rw [lenY]; omega, h3 σ H2 i2 ((s.mono g1).mono g2) _ fun v3 d3 H3 g3 i3 r3 e3 => ?_⟩
    subst e3
    obtain rfl := r3.strI
    refine ⟨c, rfl, by rw [lenY, lenY]; omega, ?_⟩
    exact q _ _ H3 ((g1.trans g2).trans g3) i3 (.str _) rfl
where
  lenY (x y : Str) : (x ++ y).length = x.length + y.length := by
    show (x.cps ++ y.cps).size = _
    rw [Array.size_append]
    rfl
theorem et_truS (h : Ev K S S1 ρ te (Eq (.str a))) (hz : a.length ≤ sizeLine) : EvT K S S1 ρ (tTru K te) (Eq ((a.length : Int) != 0)) := fun σ H i s Q q => h σ H i s _ fun v d H1 g1 i1 r1 e => by
  subst e
  obtain rfl := r1.strI
  exact ⟨_, ⟨hz, rfl⟩, q _ H1 g1 i1 rfl⟩
end
/-! ### decimal_of, __str__ -/
def r_dec (ds : List Dt) (d : Dt) : Prop := ∃ n : Nat, ds = [.int n] ∧ n < 10 ^ 64 ∧ d = .str (numT n)
abbrev p_decimal_of (K : PySem.W.Frag) : Sp := spR K 1 r_dec
abbrev t_decimal_of (K : PySem.W.Frag) : TS := (tSeq (tAsg (tLst tNil) (gName 1))
    (tSeq (tAsg (tVar 0) (gName 2))
    (tSeq (tWhile (tTest (tOp rGeI (tVar 2) (tC (.int 10000000000000000000000000000000000000000000000000000000000000000)))) (tSeq (tDrop (tBM K "list" rAppend (tVar 1) (tCons (tBM K "str" rZfill (tCB rStrX (tCons (tOp rModI (tVar 2) (tC (.int 10000000000000000000000000000000000000000000000000000000000000000))) tNil)) (tCons (tC (.int 64)) tNil)) tNil)))
    (tAsg (tOp rDivW (tVar 2) (tC (.int 10000000000000000000000000000000000000000000000000000000000000000))) (gName 2))))
    (tSeq (tDrop (tBM K "list" rAppend (tVar 1) (tCons (tCB rStrX (tCons (tVar 2) tNil)) tNil)))
    (tRet (tM1 (rJoin K) (tC (.str "")) (tRevL K (tVar 1))))))))
def ratT (n m : Nat) : Str := if m = 1 then numT n else numT n ++ "/" ++ numT m
def r_ostr (C : Addr) (ds : List Dt) (d : Dt) : Prop := ∃ n m : Nat, ds = [rat C n m] ∧ n < 10 ^ 64 ∧ m < 10 ^ 64 ∧ d = .str (ratT n m)
abbrev p_o_str (K : PySem.W.Frag) (C : Addr) : Sp := spR K 1 (r_ostr C)
abbrev t_o_str (K : PySem.W.Frag) : TS := (tSeq (tIfS (tTest (tOp rEq (L2.tFld K (tVar 0) "_den") (tC (.int 1)))) (tRet (tFmt (tCall (p_decimal_of K) [] E0 (tCons (L2.tFld K (tVar 0) "_num") tNil)))) tNext)
    (tRet (tJoined [(tFmt (tCall (p_decimal_of K) [] E0 (tCons (L2.tFld K (tVar 0) "_num") tNil))), (tC (.str "/")), (tFmt (tCall (p_decimal_of K) [] E0 (tCons (L2.tFld K (tVar 0) "_den") tNil)))])))
theorem numT_len {n k : Nat} (hk : 0 < k) (h : n < 10 ^ k) : (numT n).length ≤ k := by
  rw [← sg_len, sg_num]
  exact TL.numL_len hk h
theorem log_big {n : Nat} (h : n < 10 ^ 64) : ((n : Nat) : Int).natAbs.log2 < 1920 := by
  rw [Int.natAbs_natCast]
  rcases Nat.eq_zero_or_pos n with z | z
  · rw [z]; decide
  · exact (Nat.log2_lt (by omega)).mpr (Nat.lt_of_lt_of_le h (Nat.le_trans (show 10 ^ 64 ≤ 2 ^ 220 by decide) (Nat.pow_le_pow_right (by decide) (by decide))))
theorem join_one (x : Str) : Txt.join "" [x] = x := by
  refine sg_ext ?_
  rw [sg_join]
  rfl
section
variable {K : PySem.W.Frag} {mg : Str → Option Value} {C fI pN gN pD gD : Addr} {S S1 : Sta} {ρ : List (Option Dt)} {te : TE} {ds : List Dt} {d : Dt}
theorem so_decimal_of (hmu : S.Mu) (hp : r_dec ds d) : So K S S [] (t_decimal_of K) (startD 3 ds) (Pu d) := by
  obtain ⟨n, rfl, hn, rfl⟩ := hp
  refine so_newF (en_lst ea_nil (Nat.zero_le _)) (Sta.Le.refl _) fun p hne => so_setD (ev_var rfl) ?_
  refine so_re (ρ' := [some (.int n), some (.lat p []), some (.int n)]) rfl ?_
  refine so_while1F ((et_test (ev_op (ev_var rfl) ev_int rv_ge)).to (decide_eq_false (by
    have e : (10000000000000000000000000000000000000000000000000000000000000000 : Int) = ((10 ^ 64 : Nat) : Int) := by decide
    rw [e]
    omega))) ?_
  refine so_appP (p := p) (d := .str (numT n)) List.mem_cons_self (mu_looseP hmu) rfl rfl (Offs.mk ⟨fun _ d e => by cases e; rfl, fun h => absurd rfl h, fun _ d e => by cases e; rfl, trivial⟩) (by decide) (ev_cb (ea_cons (ev_var rfl) ea_nil) (rc_strXI (log_big hn))) rfl ?_
  refine so_retD (ev_join (ys := [numT n]) ev_str ((en_revL (xs := [.str (numT n)]) (ev_lat (ev_var rfl))).ev.to rfl) ?_) (Sta.Le.refl _) ?_
  · have h1 := numT_len (by decide) hn
    have h2 : ("" : Str).length = 0 := by decide +kernel
    simp only [List.map_cons, List.map_nil, List.sum_cons, List.sum_nil, List.length_cons, List.length_nil, h2]
    omega
  · rw [join_one]
theorem ev_decimal_of {n : Nat} (h : Ev K S S1 ρ te (Eq (.int n))) (hn : n < 10 ^ 64) : Ev K S S1 ρ (tCall (p_decimal_of K) [] E0 (tCons te tNil)) (Eq (.str (numT n))) := ev_callR (ea_cons h ea_nil) rfl ⟨n, rfl, hn, rfl⟩
theorem so_o_str (T : RatT K mg C fI pN gN pD gD) (hp : r_ostr C ds d) : So K S S [] (t_o_str K) (startD 1 ds) (Pu d) := by
  obtain ⟨n, m, rfl, hn, hm, rfl⟩ := hp
  have z1 : (numT n).length ≤ sizeLine := Nat.le_trans (numT_len (by decide) hn) (by decide)
  have z2 : (numT m).length ≤ sizeLine := Nat.le_trans (numT_len (by decide) hm) (by decide)
  have z3 : (numT n).length + ("/" : Str).length + (numT m).length ≤ sizeLine := Nat.le_trans (Nat.add_le_add (Nat.add_le_add (numT_len (by decide) hn) (Nat.le_refl _)) (numT_len (by decide) hm)) (by decide +kernel)
  refine so_ifD (et_test (ev_op (ev_fd T (ev_var rfl)) ev_int rv_eqI)) (fun e => ?_) fun e => so_skip ?_
  · have e : ((m : Nat) : Int) = 1 := of_decide_eq_true e
    refine so_ret1D (ev_fmt (ev_decimal_of (ev_fn T (ev_var rfl)) hn) z1) (Sta.Le.refl S) ?_
    show Dt.str (ratT n m) = _
    unfold ratT
    rw [if_pos (by omega)]
  · have e : ¬ ((m : Nat) : Int) = 1 := of_decide_eq_false e
    refine so_retD (ev_joined3 (ev_fmt (ev_decimal_of (ev_fn T (ev_var rfl)) hn) z1) ev_str (ev_fmt (ev_decimal_of (ev_fd T (ev_var rfl)) hm) z2) z3) (Sta.Le.refl S) ?_
    show Dt.str (ratT n m) = _
    unfold ratT
    rw [if_neg (by omega)]
/-- str(a ratio) -/
theorem ev_strO {n m : Nat} (h : Ev K S S1 ρ te (Eq (rat C n m))) (hn : n < 10 ^ 64) (hm : m < 10 ^ 64) : Ev K S S1 ρ (tCB (rStrO C (p_o_str K C)) (tCons te tNil)) (Eq (.str (ratT n m))) := fun σ H i s Q q => h σ H i s _ fun v d H1 g1 i1 r1 e => by
  subst e
  obtain ⟨a, dx, rfl, ha⟩ := r1.ratI
  refine ⟨a, dx, _, rfl, ha, [rat C n m], _, .cons r1 .nil, rfl, ⟨n, m, rfl, hn, hm, rfl⟩, fun v H2 sm rv => ?_⟩
  exact ⟨_, rv.strI, q _ _ H2 (g1.trans sm.gr) (S1.st i1 sm) rv rfl⟩
end
end Bf
namespace Bf
open PySem PySem.Spec PyProof.Rows L2
/-! ## Ratio.read -/
def r_numG (ds : List Dt) (d : Dt) : Prop := ∃ (a : Str) (k : Nat), ds = [.str a, .int k] ∧ a.length ≤ 100000 ∧ d = .bl (numW k a)
abbrev p_is_numeralG (K : PySem.W.Frag) : Sp := spR K 2 r_numG
/-- the two numbers that a text tells -/
def rdRat (a : Str) : Option (Nat × Nat) :=
  let p := Txt.partition a "/"
  let den : Str := if p.2.1 = ("" : Str) then "1" else p.2.2
  if numW 40 p.1 = true ∧ numW 40 den = true ∧ den ≠ ("0" : Str) then some (valW p.1, valW den) else none
theorem tl_sl : TL.tl ("/" : Str) = [47] := by decide +kernel
theorem numW_sl {k : Nat} {w : Str} (h : numW k w = true) : 47 ∉ sg w := fun hm => by
  unfold numW at h
  simp only [Bool.and_eq_true, List.all_eq_true] at h
  have := h.1.2 47 hm
  exact absurd this (by decide)
/-- no stroke, or cut at the first one -/
theorem cut_slash (a : Str) : 47 ∉ sg a ∨ ∃ p q : Str, a = p ++ "/" ++ q ∧ 47 ∉ sg p := by
  by_cases h : 47 ∈ sg a
  · right
    have hd : ∀ l : List Nat, 47 ∈ l → ∃ p q, l = p ++ 47 :: q ∧ 47 ∉ p := fun l => by
      induction l with
      | nil => intro z; cases z
      | cons c l ih =>
        intro z
        by_cases e : c = 47
        · subst e
          exact ⟨[], l, rfl, by simp⟩
        · rcases List.mem_cons.mp z with z | z
          · exact absurd z.symm e
          · obtain ⟨p, q, rfl, hp⟩ := ih z
            exact ⟨c :: p, q, rfl, by simp only [List.mem_cons, not_or]; exact ⟨fun y => e y.symm, hp⟩⟩
    obtain ⟨p, q, e, hp⟩ := hd _ h
    refine ⟨⟨p.toArray⟩, ⟨q.toArray⟩, sg_ext ?_, by simpa using hp⟩
    rw [e]
    show _ = ((p.toArray ++ ("/" : Str).cps) ++ q.toArray).toList
    rw [Array.toList_append, Array.toList_append]
    show p ++ 47 :: q = (p ++ TL.tl ("/" : Str)) ++ q
    rw [tl_sl]
    simp
  · exact .inl h
theorem rd_plain {a : Str} (h : 47 ∉ sg a) : rdRat a = if numW 40 a = true then some (valW a, 1) else none := by
  unfold rdRat
  rw [TL.partition_none tl_sl h]
  have e1 : numW 40 ("1" : Str) = true := by decide +kernel
  have e2 : valW ("1" : Str) = 1 := by decide +kernel
  have e3 : ("1" : Str) ≠ "0" := by decide +kernel
  simp only [show (Str.empty = ("" : Str)) from rfl, if_true, e1, e2]
  by_cases h : numW 40 a = true
  · rw [if_pos ⟨h, trivial, e3⟩, if_pos h]
  · rw [if_neg (fun z => h z.1), if_neg h]
theorem rd_cut {p q : Str} (h : 47 ∉ sg p) : rdRat (p ++ "/" ++ q) = if numW 40 p = true ∧ numW 40 q = true ∧ q ≠ ("0" : Str) then some (valW p, valW q) else none := by
  unfold rdRat
  rw [TL.partition_app tl_sl h]
  have e3 : ¬ ("/" : Str) = "" := by decide +kernel
  simp only [e3, if_false]
theorem val_zero {k : Nat} {q : Str} (h : numW k q = true) : valW q = 0 ↔ q = ("0" : Str) := by
  constructor
  · intro hv
    unfold numW at h
    simp only [Bool.and_eq_true, Bool.or_eq_true, decide_eq_true_eq, Bool.not_eq_true', decide_eq_false_iff_not] at h
    obtain ⟨⟨⟨h1, _⟩, h3⟩, h4⟩ := h
    have pos : ∀ (l : List Nat) (acc : Nat), 0 < acc → 0 < l.foldl (fun acc c => acc * 10 + (c - 48)) acc := fun l => by
      induction l with
      | nil => intro acc h; exact h
      | cons c l ih =>
        intro acc h
        have : 0 < acc * 10 + (c - 48) := by omega
        exact ih _ this
    match hs : sg q, h1, h3, h4 with
    | [c], _, h3, _ =>
      have hc : isDg c = true := by simpa using h3
      unfold isDg at hc
      rw [Bool.and_eq_true, decide_eq_true_eq, decide_eq_true_eq] at hc
      have hv : NumText.digitsVal (sg q) = 0 := hv
      rw [hs] at hv
      have : 0 * 10 + (c - 48) = 0 := hv
      refine sg_ext ?_
      rw [hs, sg_zero]
      congr 1
      omega
    | c :: c' :: r, _, h3, h4 =>
      rcases h4 with z | z
      · simp at z
      · have hc : isDg c = true := List.all_eq_true.mp h3 c List.mem_cons_self
        unfold isDg at hc
        rw [Bool.and_eq_true, decide_eq_true_eq, decide_eq_true_eq] at hc
        have hn : c ≠ 48 := by simpa using z
        have hv : NumText.digitsVal (sg q) = 0 := hv
        rw [hs] at hv
        have := pos (c' :: r) (0 * 10 + (c - 48)) (by omega)
        have e : NumText.digitsVal (c :: c' :: r) = (c' :: r).foldl (fun acc c => acc * 10 + (c - 48)) (0 * 10 + (c - 48)) := rfl
        rw [e] at hv
        omega
  · rintro rfl
    decide +kernel
theorem rd_lt {a : Str} {n m : Nat} (h : rdRat a = some (n, m)) : n < 10 ^ 40 ∧ 1 ≤ m ∧ m < 10 ^ 40 := by
  rcases cut_slash a with hs | ⟨p, q, rfl, hs⟩
  · rw [rd_plain hs] at h
    split at h
    · rename_i hw
      cases h
      exact ⟨num_lt hw, Nat.le_refl _, by decide⟩
    · cases h
  · rw [rd_cut hs] at h
    split at h
    · rename_i hw
      cases h
      refine ⟨num_lt hw.1, ?_, num_lt hw.2.1⟩
      have := mt (val_zero hw.2.1).mp hw.2.2
      omega
    · cases h
def rdR (CR C : Addr) (x : Dt) : Out := match x with
  | .str a => (match rdRat a with
    | some (n, m) => .ok (ratL C n m)
    | none => .er CR "given" x)
  | _ => .er CR "given" x
def r_oread (CR C : Addr) (ds : List Dt) (o : Out) : Prop := ∃ x, ds = [.raw (.ref C), x] ∧ okRt C x ∧ (∀ a, x = .str a → a.length ≤ 100000) ∧ o = rdR CR C x
abbrev p_o_read (K : PySem.W.Frag) (CR C : Addr) : Sp := spX K 2 (r_oread CR C)
abbrev t_o_read (K : PySem.W.Frag) (CR C : Addr) (E : XK) : TS := (tSeq (tIfS (tNot (tB (tCB (rIsi K) (tCons (tVar 1) (tCons (tC (.ty "str")) tNil))))) (tRaiseB CR "given" (fun cls d _ H => E cls d H) (tCons (tVar 1) tNil)) tNext)
    (tSeq (tAsg (tM1 rPart (tVar 1) (tC (.str "/"))) (gTup K 3 (gCons (gName 2) (gCons (gName 3) (gCons (gName 4) gNil)))))
    (tSeq (tIfS (tNot (tTru K (tVar 3))) (tAsg (tC (.str "1")) (gName 4)) tNext)
    (tSeq (tIfS (tOr (tNot (tAnd (tB (tCall (p_is_numeralG K) [] E0 (tCons (tVar 2) (tCons (tC (.int 40)) tNil)))) (tB (tCall (p_is_numeralG K) [] E0 (tCons (tVar 4) (tCons (tC (.int 40)) tNil)))))) (tTest (tOp rEq (tVar 4) (tC (.str "0"))))) (tRaiseB CR "given" (fun cls d _ H => E cls d H) (tCons (tVar 1) tNil)) tNext)
    (tRet (tMakeL 0 C (spRI C) [] E0 (tCons (tCB rIntS (tCons (tVar 2) tNil)) (tCons (tCB rIntS (tCons (tVar 4) tNil)) tNil))))))))
section
variable {K : PySem.W.Frag} {mg : Str → Option Value} {C CR fI pN gN pD gD : Addr} {S S1 : Sta} {ρ : List (Option Dt)} {te ta tb : TE} {tl : TA} {ds : List Dt} {d : Dt} {o : Out} {E : XK} {a : Str} {i k : Nat} {n m : Int}
theorem so_is_numeralG (hp : r_numG ds d) : So K S S [] (t_is_numeral K) (startD 2 ds) (Pu d) := by
  obtain ⟨a, k, rfl, ha, rfl⟩ := hp
  have hz : a.length ≤ sizeLine := Nat.le_trans ha (by decide)
  refine so_ifD (et_or (et_not (et_and (et_B (ev_asc (ev_var rfl))) fun _ => et_B (ev_dig (ev_var rfl)))) fun _ => et_test (ev_op (ev_cb (ea_cons (ev_var rfl) ea_nil) (rc_lenS hz)) (ev_var rfl) rv_gt)) (fun e => ?_) fun e => so_skip ?_
  · refine so_retD ev_bl (Sta.Le.refl S) ?_
    show Dt.bl (numW k a) = _
    rw [← numeral_eq, sg_len]
    congr 1
    cases hx : (Txt.isascii a && Txt.isdigit a) with
    | false => rfl
    | true =>
      rw [hx] at e
      have : (k : Int) < a.length := by simpa using e
      have : decide (k < a.length) = true := decide_eq_true (by omega)
      rw [this]
      rfl
  · refine so_retD (ev_or (ev_op (ev_var rfl) ev_str rv_eqS) fun _ => ev_not (ev_stw (ev_var rfl) ev_str)) (Sta.Le.refl S) ?_
    show Dt.bl (numW k a) = _
    rw [← numeral_eq, sg_len]
    congr 1
    cases hx : (Txt.isascii a && Txt.isdigit a) with
    | false => rw [hx] at e; cases e
    | true =>
      rw [hx] at e
      have : (a.length : Int) ≤ k := by simpa using e
      have : decide (k < a.length) = false := decide_eq_false (by omega)
      rw [this]
      rfl
theorem ev_numG (h : Ev K S S ρ ta (Eq (.str a))) (ha : a.length ≤ 100000) : Ev K S S ρ (tCall (p_is_numeralG K) [] E0 (tCons ta (tCons (tC (.int 40)) tNil))) (Eq (.bl (numW 40 a))) := ev_callR (ea_cons h (ea_cons ev_int ea_nil)) rfl ⟨a, 40, rfl, ha, rfl⟩
theorem ev_mkratL (hj : ρ[i]? = some (some (.raw (.ref C)))) (h : EvA K S S1 ρ tl (Eq [.int n, .int m])) (h0 : 0 ≤ n) (h1 : 1 ≤ m) (hb : m.natAbs < 2 ^ 8000) : Ev K S S1 ρ (tMakeL i C (spRI C) [] E tl) (Eq (ratL C n m)) := fun σ H hi s Q q => by
  obtain ⟨v, hv, rv⟩ := s.val i _ hj
  obtain rfl := rv.rawI
  exact ⟨hv, ev_mkrat h h0 h1 hb σ H hi s Q q⟩
theorem pow40 {m : Nat} (h : m < 10 ^ 40) : ((m : Nat) : Int).natAbs < 2 ^ 8000 := by
  rw [Int.natAbs_natCast]
  exact Nat.lt_of_lt_of_le h (Nat.le_trans (show 10 ^ 40 ≤ 2 ^ 140 by decide) (Nat.pow_le_pow_right (by decide) (by decide)))
theorem so_o_read (T : RatT K mg C fI pN gN pD gD) (hp : r_oread CR C ds o) (hw : ∀ C' f d, o = .er C' f d → XW K S C' f d E) : So K S S [] (t_o_read K CR C E) (startD 5 ds) (PO o) := by
  obtain ⟨x, rfl, hx, hl, ho⟩ := hp
  by_cases hs : ∃ a, x = .str a
  · obtain ⟨a, rfl⟩ := hs
    have hl := hl a rfl
    have hz : a.length ≤ sizeLine := Nat.le_trans hl (by decide)
    refine so_ifF ((et_not (et_B (ev_isStr (ev_var rfl) rfl))).to rfl) (so_skip ?_)
    have fin : ∀ (p b dn : Str), p.length ≤ 100000 → dn.length ≤ 100000 → o = (if numW 40 p = true ∧ numW 40 dn = true ∧ dn ≠ ("0" : Str) then .ok (ratL C (valW p : Nat) (valW dn : Nat)) else .er CR "given" (.str a)) →
        So K S S [] (tSeq (tIfS (tOr (tNot (tAnd (tB (tCall (p_is_numeralG K) [] E0 (tCons (tVar 2) (tCons (tC (.int 40)) tNil)))) (tB (tCall (p_is_numeralG K) [] E0 (tCons (tVar 4) (tCons (tC (.int 40)) tNil)))))) (tTest (tOp rEq (tVar 4) (tC (.str "0"))))) (tRaiseB CR "given" (fun cls d _ H => E cls d H) (tCons (tVar 1) tNil)) tNext)
          (tRet (tMakeL 0 C (spRI C) [] E0 (tCons (tCB rIntS (tCons (tVar 2) tNil)) (tCons (tCB rIntS (tCons (tVar 4) tNil)) tNil))))) [some (.raw (.ref C)), some (.str a), some (.str p), some (.str b), some (.str dn)] (PO o) := fun p b dn lp ld ho => by
      refine so_ifD (et_or (et_not (et_and (et_B (ev_numG (ev_var rfl) lp)) fun _ => et_B (ev_numG (ev_var rfl) ld))) fun _ => et_test (ev_op (ev_var rfl) ev_str rv_eqS)) (fun e => ?_) fun e => so_skip ?_
      · have hn : ¬ (numW 40 p = true ∧ numW 40 dn = true ∧ dn ≠ ("0" : Str)) := fun ⟨z1, z2, z3⟩ => by
          rw [z1, z2, decide_eq_false z3] at e
          cases e
        rw [if_neg hn] at ho
        exact so_raise1B (ev_var rfl) (hw _ _ _ ho)
      · have hy : numW 40 p = true ∧ numW 40 dn = true ∧ dn ≠ ("0" : Str) := by
          simpa [not_or, and_assoc] using e
        rw [if_pos hy] at ho
        obtain ⟨i1, i2⟩ := num_int hy.1 (by decide)
        obtain ⟨j1, j2⟩ := num_int hy.2.1 (by decide)
        have h1 := mt (val_zero hy.2.1).mp hy.2.2
        refine so_retD (ev_mkratL rfl (ea_cons (ev_cb (ea_cons (ev_var rfl) ea_nil) (rc_intS i1 i2)) (ea_cons (ev_cb (ea_cons (ev_var rfl) ea_nil) (rc_intS j1 j2)) ea_nil)) (by omega) (by omega) (pow40 (num_lt hy.2.1))) (Sta.Le.refl S) ?_
        rw [ho]
        rfl
    have ho : o = match rdRat a with
      | some (n, m) => .ok (ratL C n m)
      | none => .er CR "given" (.str a) := ho
    have l1 : ("1" : Str).length ≤ 100000 := by decide +kernel
    rcases cut_slash a with hc | ⟨p, q, rfl, hc⟩
    · refine so_unp (is := [2, 3, 4]) (xs := [.str a, .str "", .str ""]) ((ev_part (ev_var rfl) ev_str (by decide +kernel) hz).to (by rw [TL.partition_none tl_sl hc]; rfl)) rfl rfl rfl ?_
      refine so_ifT ((et_not (et_truS (ev_var rfl) (by decide +kernel))).to (by decide +kernel)) (so_setD ev_str ?_)
      refine fin a "" "1" hl l1 ?_
      rw [ho, rd_plain hc]
      have e1 : numW 40 ("1" : Str) = true := by decide +kernel
      have e2 : valW ("1" : Str) = 1 := by decide +kernel
      have e3 : ("1" : Str) ≠ "0" := by decide +kernel
      by_cases h : numW 40 a = true
      · rw [if_pos h, if_pos ⟨h, e1, e3⟩, e2]
      · rw [if_neg h, if_neg fun z => h z.1]
    · have lp : p.length ≤ (p ++ "/" ++ q).length ∧ q.length ≤ (p ++ "/" ++ q).length := by
        have : (p ++ "/" ++ q).length = p.length + ("/" : Str).length + q.length := by
          show ((p.cps ++ ("/" : Str).cps) ++ q.cps).size = _
          rw [Array.size_append, Array.size_append]
          rfl
        omega
      refine so_unp (is := [2, 3, 4]) (xs := [.str p, .str "/", .str q]) ((ev_part (ev_var rfl) ev_str (by decide +kernel) hz).to (by rw [TL.partition_app tl_sl hc])) rfl rfl rfl ?_
      refine so_ifF ((et_not (et_truS (ev_var rfl) (by decide +kernel))).to (by decide +kernel)) (so_skip ?_)
      refine fin p "/" q (by omega) (by omega) ?_
      rw [ho, rd_cut hc]
      by_cases h : numW 40 p = true ∧ numW 40 q = true ∧ q ≠ ("0" : Str)
      · rw [if_pos h, if_pos h]
      · rw [if_neg h, if_neg h]
  · have ho' : o = .er CR "given" x := by
      rw [ho]
      cases x <;> first | rfl | exact absurd ⟨_, rfl⟩ hs
    have hf : Ev K S S [some (.raw (.ref C)), some x, none, none, none] (tCB (rIsi K) (tCons (tVar 1) (tCons (tC (.ty "str")) tNil))) (Eq (.bl false)) := by
      rcases hx with hx | ⟨n, m, rfl⟩
      · refine (ev_isStr (ev_var rfl) hx).to ?_
        cases x <;> first | rfl | exact absurd ⟨_, rfl⟩ hs
      · exact ev_ratIs T (ev_var rfl) (by simp)
    exact so_ifT ((et_not (et_B hf)).to rfl) (so_raise1B (ev_var rfl) (hw _ _ _ ho'))
end
end Bf
namespace Bf
open PySem PySem.Spec PyProof.Rows L2
/-! ## table_text, the law's _law_text, _law_number -/
section
variable {K : PySem.W.Frag} {S S1 : Sta} {ρ : List (Option Dt)} {te tl : TE} {w : TS} {ds xs : List Dt} {d : Dt} {o : Out} {C : Addr} {E : XK} {T : Tab} {j : Nat}
/-! ### the law's text -/
end
end Bf
namespace Bf
open PySem PySem.Spec PyProof.Rows L2
/-! ## the law's _law_number, _law_is_size, _law_table_due -/
theorem ten_dg (c : Nat) : (!decide (c ∈ sg ("0123456789" : Str))) = !isDg c := by
  congr 1
  rw [show sg ("0123456789" : Str) = [48, 49, 50, 51, 52, 53, 54, 55, 56, 57] by decide +kernel]
  unfold isDg
  rw [Bool.eq_iff_iff]
  simp only [List.mem_cons, List.not_mem_nil, or_false, Bool.and_eq_true, decide_eq_true_eq]
  omega
theorem one_zero (c : Nat) : decide (oneS c = ("0" : Str)) = decide (c = 48) := by
  rw [Bool.eq_iff_iff]
  simp only [decide_eq_true_eq]
  constructor
  · intro h
    have := congrArg sg h
    rw [sg_zero] at this
    have h2 : [c] = [48] := this
    simpa using h2
  · rintro rfl
    refine sg_ext ?_
    rw [sg_zero]
    rfl
section
variable {K : PySem.W.Frag} {S S1 : Sta} {ρ : List (Option Dt)} {te tl ta : TE} {w : TS} {ds xs : List Dt} {d : Dt} {o : Out} {C : Addr} {E : XK} {T : Tab} {j : Nat} {a : Str}
end
end Bf
namespace Bf
open PySem PySem.Spec PyProof.Rows L2
/-! ## the law's _law_table_due -/
section
variable {K : PySem.W.Frag} {S S1 : Sta} {ρ : List (Option Dt)} {te tl ta : TE} {tt : TT} {w : TS} {ds xs : List Dt} {d : Dt} {o : Out} {C : Addr} {E : XK} {T : Tab} {j j2 : Nat} {a : Str} {vs : List Nat}
end
/-! ### what is due of what was read -/
section
variable {K : PySem.W.Frag} {S S1 SB SF : Sta} {L : List Addr} {ρ : List (Option Dt)} {P : Po} {te tl ta : TE} {w : TS} {ds xs : List Dt} {d : Dt} {T : Tab} {j : Nat}
end
end Bf
namespace Bf
open PySem PySem.Spec PyProof.Rows L2
/-! ## Lists in a list that grow: found = [[]], found.append([]), found[-1].append(x) -/
def Und (K : PySem.W.Frag) (a : Addr) (us : List V) (q : Addr) : Prop := ∀ H o, SqL K H a us → SqL K (upd H q o) a us
/-- nothing of B has vanished -/
def SD (S : Sta) (B : Hp) : Sta := ⟨fun H => S.I H ∧ ∀ x, H x = none → B x = none, fun h s => ⟨S.st h.1 s, fun x e => h.2 x (by
  rename_i H H'
  cases hx : H x with
  | none => rfl
  | some o => rw [s x o hx] at e; cases e)⟩⟩
theorem sd_mu {S : Sta} {B : Hp} (m : S.Mu) : (SD S B).Mu := by
  intro Ha Hb D o ws i1 g hD e z
  refine ⟨m i1.1 g hD e z.1, fun x hx => ?_⟩
  by_cases hxD : x = D
  · rw [hxD, upd_same] at hx; cases hx
  · rw [upd_ne hxD] at hx; exact z.2 x hx
theorem Und.ne {K : PySem.W.Frag} {a q : Addr} {us : List V} (h : a ≠ q) : Und K a us q := fun H o s => by
  rcases s with (s | ⟨o', s⟩) | s
  · exact .inl (.inl (by rw [upd_ne h]; exact s))
  · exact .inl (.inr ⟨o', by rw [upd_ne h]; exact s⟩)
  · exact .inr s
theorem Und.of {K : PySem.W.Frag} {H : Hp} {a q : Addr} {us : List V} (s : SqL K H a us) (h : H q = none) : Und K a us q := by
  rcases s with (s | ⟨o', s⟩) | s
  · exact .ne fun e => by rw [e, h] at s; cases s
  · exact .ne fun e => by rw [e, h] at s; cases s
  · exact fun H o _ => .inr s
abbrev szI : List Int := [1000000, 2, 2, 1, 1]
abbrev LV (f : List Int) : HO := .lst (f.map V.int)
/-- the lists in the list -/
def QS (B0 H : Hp) : List Addr → Fnd → Prop
  | [], [] => True
  | q :: qs, f :: fs => B0 q = none ∧ H q = some (LV f) ∧ QS B0 H qs fs
  | _, _ => False
theorem QS.len {B0 H : Hp} : ∀ {qs : List Addr} {fs : Fnd}, QS B0 H qs fs → qs.length = fs.length
  | [], [], _ => rfl
  | _ :: _, _ :: _, h => by simp [QS.len h.2.2]
  | [], _ :: _, h => h.elim
  | _ :: _, [], h => h.elim
theorem QS.mono {B0 H H' : Hp} (g : Gr H H') : ∀ {qs : List Addr} {fs : Fnd}, QS B0 H qs fs → QS B0 H' qs fs
  | [], [], _ => trivial
  | _ :: _, _ :: _, h => ⟨h.1, g _ _ h.2.1 rfl, QS.mono g h.2.2⟩
  | [], _ :: _, h => h.elim
  | _ :: _, [], h => h.elim
theorem QS.off {B0 H : Hp} {a : Addr} {o : HO} : ∀ {qs : List Addr} {fs : Fnd}, a ∉ qs → QS B0 H qs fs → QS B0 (upd H a o) qs fs
  | [], [], _, _ => trivial
  | q :: _, _ :: _, hn, h => ⟨h.1, by rw [upd_ne (fun e => hn (by rw [← e]; exact List.mem_cons_self))]; exact h.2.1, QS.off (fun z => hn (List.mem_cons_of_mem _ z)) h.2.2⟩
  | [], _ :: _, _, h => h.elim
  | _ :: _, [], _, h => h.elim
theorem QS.snoc {B0 H : Hp} {q : Addr} {f : List Int} : ∀ {qs : List Addr} {fs : Fnd}, QS B0 H qs fs → B0 q = none → H q = some (LV f) → QS B0 H (qs ++ [q]) (fs ++ [f])
  | [], [], _, h1, h2 => ⟨h1, h2, trivial⟩
  | _ :: _, _ :: _, h, h1, h2 => ⟨h.1, h.2.1, QS.snoc h.2.2 h1 h2⟩
  | [], _ :: _, h, _, _ => h.elim
  | _ :: _, [], h, _, _ => h.elim
theorem QS.front {B0 H : Hp} {q : Addr} {f : List Int} : ∀ {qs : List Addr} {fs : Fnd}, QS B0 H (qs ++ [q]) (fs ++ [f]) → QS B0 H qs fs ∧ B0 q = none ∧ H q = some (LV f)
  | [], [], h => ⟨trivial, h.1, h.2.1⟩
  | q' :: qs, f' :: fs, h => by
    obtain ⟨a, b, c⟩ := QS.front (qs := qs) (fs := fs) h.2.2
    exact ⟨⟨h.1, h.2.1, a⟩, b, c⟩
  | [], f' :: fs, h => by
    have := QS.len h
    simp at this
  | q' :: qs, [], h => by
    have := QS.len h
    simp at this
structure FI (K : PySem.W.Frag) (S : Sta) (B0 H : Hp) (p z : Addr) (qs : List Addr) (fs : Fnd) (ks : List (Addr × List V)) : Prop where
  i0 : S.I B0
  i : (SD S B0).I H
  g : Gr B0 H
  bp : B0 p = none
  hp : H p = some (.lst (qs.map V.ref))
  hz : H z = some (LV szI)
  pz : p ≠ z
  pq : p ∉ qs
  zq : z ∉ qs
  nd : qs.Nodup
  q : QS B0 H qs fs
  k : ∀ x ∈ ks, SqL K H x.1 x.2 ∧ ∀ r ∈ p :: qs, Und K x.1 x.2 r
theorem QS.ne {B0 H : Hp} {q : Addr} (h : H q = none) : ∀ {qs : List Addr} {fs : Fnd}, QS B0 H qs fs → q ∉ qs
  | [], [], _, z => nomatch z
  | q' :: _, _ :: _, hh, z => by
    rcases List.mem_cons.mp z with e | z
    · have := hh.2.1
      rw [← e, h] at this
      cases this
    · exact QS.ne h hh.2.2 z
  | [], _ :: _, hh, _ => hh.elim
  | _ :: _, [], hh, _ => hh.elim
theorem QS.rep {K : PySem.W.Frag} {B0 H : Hp} : ∀ {qs : List Addr} {fs : Fnd}, QS B0 H qs fs → RepA K H (qs.map V.ref) (fs.map dI)
  | [], [], _ => .nil
  | _ :: _, _ :: _, h => .cons (.lst (SqL.of h.2.1) (rep_ints _)) (QS.rep h.2.2)
  | [], _ :: _, hh => hh.elim
  | _ :: _, [], hh => hh.elim
section
variable {K : PySem.W.Frag} {B0 H H' : Hp} {p z q : Addr} {qs : List Addr} {fs : Fnd} {ks : List (Addr × List V)}
theorem FI.mono (h : FI K S B0 H p z qs fs ks) (g : Gr H H') (i : (SD S B0).I H') : FI K S B0 H' p z qs fs ks :=
  ⟨h.i0, i, h.g.trans g, h.bp, g _ _ h.hp rfl, g _ _ h.hz rfl, h.pz, h.pq, h.zq, h.nd, h.q.mono g, fun x hx => ⟨g.sqL (h.k x hx).1, (h.k x hx).2⟩⟩
theorem FI.rep (h : FI K S B0 H p z qs fs ks) : Rep K H (.ref p) (.lst (fs.map dI)) := .lst (SqL.of h.hp) h.q.rep
theorem FI.up {r : Addr} {ws : List V} {o : HO} (m : S.Mu) (h : FI K S B0 H p z qs fs ks) (hr : B0 r = none) (e : H r = some (.lst ws)) : (SD S B0).I (upd H r o) := sd_mu m ⟨h.i0, fun _ e => e⟩ h.g hr e h.i
/-- found.append([]) -/
theorem FI.app (m : S.Mu) (h : FI K S B0 H p z qs fs ks) (hq : H q = none) : FI K S B0 (upd (upd H q (LV [])) p (.lst (qs.map V.ref ++ [.ref q]))) p z (qs ++ [q]) (fs ++ [[]]) ks := by
  have sm := same_new (o := LV []) hq
  have h1 := h.mono sm.gr ((SD S B0).st h.i sm)
  have hne : q ∉ qs := h.q.ne hq
  have hpq : p ≠ q := fun e => by have := h.hp; rw [e, hq] at this; cases this
  have hzq : z ≠ q := fun e => by have := h.hz; rw [e, hq] at this; cases this
  have hmem : ∀ {a : Addr}, a ∉ qs → a ≠ q → a ∉ qs ++ [q] := fun ha hb hm => by
    rcases List.mem_append.mp hm with hm | hm
    · exact ha hm
    · exact hb (List.mem_singleton.mp hm)
  refine ⟨h.i0, h1.up m h.bp h1.hp, gr_off h1.g h.bp, h.bp, by rw [upd_same, List.map_append]; rfl, by rw [upd_ne (Ne.symm h.pz)]; exact h1.hz, h.pz, hmem h.pq hpq, hmem h.zq hzq, ?_, (h1.q.snoc (h.i.2 q hq) upd_same).off (hmem h.pq hpq), fun x hx => ⟨(h.k x hx).2 p List.mem_cons_self _ _ (h1.k x hx).1, fun r hr => ?_⟩⟩
  · refine List.nodup_append.mpr ⟨h.nd, by simp, fun a ha b hb => ?_⟩
    rw [List.mem_singleton.mp hb]
    exact fun e => hne (e ▸ ha)
  · rcases List.mem_cons.mp hr with rfl | hr
    · exact (h.k x hx).2 _ List.mem_cons_self
    · rcases List.mem_append.mp hr with hr | hr
      · exact (h.k x hx).2 _ (List.mem_cons_of_mem _ hr)
      · rw [List.mem_singleton.mp hr]
        exact Und.of (h.k x hx).1 hq
/-- found[-1].append(n) -/
theorem FI.put {x : List Int} {n : Int} (m : S.Mu) (h : FI K S B0 H p z (qs ++ [q]) (fs ++ [x]) ks) : FI K S B0 (upd H q (.lst (x.map V.int ++ [.int n]))) p z (qs ++ [q]) (fs ++ [x ++ [n]]) ks := by
  obtain ⟨q1, q2, q3⟩ := h.q.front
  have hpq : p ≠ q := fun e => h.pq (e ▸ List.mem_append_right _ (List.mem_singleton.mpr rfl))
  have hzq : z ≠ q := fun e => h.zq (e ▸ List.mem_append_right _ (List.mem_singleton.mpr rfl))
  have hne : q ∉ qs := fun hm => (List.nodup_append.mp h.nd).2.2 q hm q (List.mem_singleton.mpr rfl) rfl
  refine ⟨h.i0, h.up m q2 q3, gr_off h.g q2, h.bp, by rw [upd_ne hpq]; exact h.hp, by rw [upd_ne hzq]; exact h.hz, h.pz, h.pq, h.zq, h.nd, (q1.off hne).snoc q2 (by rw [upd_same]; show some (HO.lst _) = some (.lst ((x ++ [n]).map V.int)); rw [List.map_append]; rfl), fun y hy => ⟨(h.k y hy).2 q (List.mem_cons_of_mem _ (List.mem_append_right _ (List.mem_singleton.mpr rfl))) _ _ (h.k y hy).1, (h.k y hy).2⟩⟩
end
end Bf
namespace Bf
open PySem PySem.Spec PyProof.Rows L2
/-! ## the law's _law_parts -/
def flatD : Dt → Prop
  | .raw _ => True
  | .int _ => True
  | .str _ => True
  | _ => False
theorem Rep.flat {K : PySem.W.Frag} {H H' : Hp} {v : V} {d : Dt} (h : flatD d) (r : Rep K H v d) : Rep K H' v d := by
  cases d with
  | raw u => obtain rfl := r.rawI; exact .raw _
  | int i => obtain rfl := r.intI; exact .int _
  | str a => obtain rfl := r.strI; exact .str _
  | _ => exact h.elim
section
variable {K : PySem.W.Frag} {S : Sta} {B0 H : Hp} {p z b a q : Addr} {fs : Fnd} {ks : List (Addr × List V)} {ρ : List (Option Dt)} {j : Nat} {us : List V} {xs : List Dt}
end
section
variable {K : PySem.W.Frag} {S : Sta} {B0 H : Hp} {p z b a q : Addr} {fs : Fnd} {ks : List (Addr × List V)} {σ : L2.St} {D : Ends} {i : Nat} {w : Str} {y5 : Option Dt}
end
end Bf
namespace Bf
open PySem PySem.Spec PyProof.Rows L2
/-! ## the law's _law_parts, the loop -/
section
variable {K : PySem.W.Frag} {S : Sta} {B0 H : Hp} {p z a q : Addr} {qs : List Addr} {fs : Fnd} {ks : List (Addr × List V)} {us : List V} {ds : List Dt} {d : Dt}
theorem FI.add (h : FI K S B0 H p z qs fs ks) (hs : SqL K H a us) (hn : ∀ r ∈ p :: qs, a ≠ r) : FI K S B0 H p z qs fs ((a, us) :: ks) := ⟨h.i0, h.i, h.g, h.bp, h.hp, h.hz, h.pz, h.pq, h.zq, h.nd, h.q, fun x hx => by
  rcases List.mem_cons.mp hx with rfl | hx
  · exact ⟨hs, fun r hr => Und.ne (hn r hr)⟩
  · exact h.k x hx⟩
theorem QS.some {r : Addr} : ∀ {qs : List Addr} {fs : Fnd}, QS B0 H qs fs → r ∈ qs → H r ≠ none
  | [], [], _, hr => nomatch hr
  | _ :: _, _ :: _, h, hr => by
    rcases List.mem_cons.mp hr with rfl | hr
    · rw [h.2.1]; intro e; cases e
    · exact QS.some h.2.2 hr
  | [], _ :: _, h, _ => h.elim
  | _ :: _, [], h, _ => h.elim
end
end Bf
namespace Bf
open PySem PySem.Spec PyProof.Rows L2
/-! ## the law's _law_due -/
section
variable {K : PySem.W.Frag} {S S1 : Sta} {ρ : List (Option Dt)} {ta : TE} {ds : List Dt} {d : Dt}
end
end Bf
namespace Bf
open PySem PySem.Spec PyProof.Rows L2
/-! ## the law's _law_bent -/
section
variable {K : PySem.W.Frag} {S S1 SB SF : Sta} {L : List Addr} {ρ : List (Option Dt)} {P : Po} {te : TE} {ta : TA} {w : TS} {xs ys : List Dt} {j : Nat}
end
/-- a text behind a text -/
abbrev rAddSt : R2 := fun x y H Q => ∃ i j, x = .str i ∧ y = .str j ∧ i.length + j.length ≤ sizeLine ∧ Q (.str (i ++ j)) H
/-- texts of at most k signs -/
def shT (k : Nat) (xs : List Dt) : Bool := xs.all fun x => match x with | .str y => decide (y.length ≤ k) | _ => false
theorem shT_mem {k : Nat} {xs : List Dt} {d : Dt} (h : shT k xs = true) (hd : d ∈ xs) : ∃ y : Str, d = .str y ∧ y.length ≤ k := by
  have := List.all_eq_true.mp h d hd
  cases d with
  | str y => exact ⟨y, rfl, of_decide_eq_true this⟩
  | _ => cases this
section
variable {K : PySem.W.Frag} {S S1 : Sta} {ρ : List (Option Dt)} {te ta tb tlo thi : TE} {a : Addr} {c : CT} {cs : List Int} {n : Nat} {ds : List Dt}
theorem rv_addSt {x y : Str} (h : x.length + y.length ≤ sizeLine) : Rv2 K S rAddSt (.str x) (.str y) (Eq (.str (x ++ y))) := rv_at fun H v u _ r1 r2 Q q => by
  obtain rfl := r1.strI
  obtain rfl := r2.strI
  show rAddSt _ _ _ _
  exact ⟨x, y, rfl, rfl, h, q _ (.str _)⟩
theorem lenA (x y : Str) : (x ++ y).length = x.length + y.length := by
  show (x.cps ++ y.cps).size = _
  rw [Array.size_append]
  rfl
end
end Bf
namespace Bf
open PySem PySem.Spec PyProof.Rows L2
/-! ## The law's tally goes with the states -/
def lastI (sy : Sy) (nu me : Int) (i : Int) (he : List (Int × Int × Int)) : Option La → Prop
  | none => he = [] ∧ me = -1
  | some l => ∃ hs k0 m0, he = hs ++ [(k0, l.b, m0)] ∧ 0 ≤ me ∧ 0 ≤ k0 ∧ k0 < i ∧ l.th = decide (me = nu) ∧ (sy = .toggle → l.m = m0) ∧ ∀ k, sy = .same k → (l.age = i - 1 - k0 ∧ i - 1 - k0 ≤ k + 1) ∨ (l.age = k + 1 ∧ k + 1 ≤ i - 1 - k0)
structure TI (sy : Sy) (s : St1) (i : Int) (he : List (Int × Int × Int)) (nu me : Int) : Prop where
  n0 : -1 ≤ nu
  n1 : nu < i
  m0 : -1 ≤ me
  m1 : me ≤ nu
  bo : s.bo.isSome = true ↔ 0 ≤ nu
  mr : sy = .toggle → s.mr = nu % 2
  la : lastI sy nu me i he s.la
section
variable {sy : Sy} {s : St1} {i : Nat} {he : List (Int × Int × Int)} {nu me : Int} {mo : Mo}
end
end Bf
namespace Bf
open PySem PySem.Spec PyProof.Rows L2
def Sy.isT : Sy → Bool
  | .toggle => true
  | _ => false
section
variable {K : PySem.W.Frag} {S S' SB : Sta} {ds : List Dt} {d : Dt} {p q r : Addr} {sy : Sy} {mos : List Mo} {mo : Mo} {i : Nat}
end
end Bf
namespace Bf
open PySem PySem.Spec PyProof.Rows L2
/-! ## Rows of up to forty moments -/
section
variable {K : PySem.W.Frag} {a : Addr} {c : CT} {cs : List Int} {n : Nat} {ds : List Dt}
end
end Bf
namespace Bf
open PySem PySem.Spec PyProof.Rows L2
/-! ## [k for k, b in pairs], [k for k in range(n) if ..], k in a list -/
section
variable {K : PySem.W.Frag} {S S1 : Sta} {ρ : List (Option Dt)} {te tl : TE} {ta : TA} {tt : TT} {vs : List Nat} {j j2 : Nat}
end
end Bf
namespace Bf
open PySem PySem.Spec PyProof.Rows L2
/-! ## the law's _law_number with 40 digits, _law_ratio -/
/-- the parts between strokes -/
def prtOf (a : Str) : List Str := Txt.split a "/"
theorem prt_eq (a : Str) : (prtOf a).map sg = TL.spl [47] 0 [] (sg a) := TL.split_spl a "/" (by decide) (TL.kind_ok (by decide +kernel))
theorem spl_none : ∀ (l acc : List Nat), 47 ∉ l → TL.spl [47] 0 acc l = [acc ++ l]
  | [], acc, _ => by simp [TL.spl]
  | c :: r, acc, h => by
    have e : c ≠ 47 := fun z => h (by rw [z]; exact List.mem_cons_self)
    rw [TL.spl_miss (TL.pre_of_head _ _ e), spl_none r (acc ++ [c]) fun z => h (List.mem_cons_of_mem _ z)]
    simp
theorem spl_cut (q : List Nat) : ∀ (p acc : List Nat), 47 ∉ p → TL.spl [47] 0 acc (p ++ 47 :: q) = (acc ++ p) :: TL.spl [47] 0 [] q
  | [], acc, _ => by
    rw [List.nil_append, TL.spl_hit (by simp [TL.pre]), List.append_nil]
    rfl
  | c :: r, acc, h => by
    have e : c ≠ 47 := fun z => h (by rw [z]; exact List.mem_cons_self)
    rw [List.cons_append, TL.spl_miss (TL.pre_of_head _ _ e), spl_cut q r (acc ++ [c]) fun z => h (List.mem_cons_of_mem _ z)]
    simp
theorem prt_none {a : Str} (h : 47 ∉ sg a) : prtOf a = [a] := TL.map_tl_inj ((prt_eq a).trans (by rw [spl_none _ _ h]; rfl))
theorem sg_app (x y : Str) : sg (x ++ y) = sg x ++ sg y := by show (x.cps ++ y.cps).toList = _; exact Array.toList_append
theorem prt_cut {p q : Str} (h : 47 ∉ sg p) : prtOf (p ++ "/" ++ q) = p :: prtOf q := TL.map_tl_inj ((prt_eq _).trans (by
  have e : sg ("/" : Str) = [47] := by decide +kernel
  rw [sg_app, sg_app, e, List.append_assoc]
  show TL.spl [47] 0 [] (sg p ++ 47 :: sg q) = _
  rw [spl_cut _ _ _ h, ← prt_eq]
  rfl))
theorem prt_sum (a : Str) : ((prtOf a).map (·.length)).sum + (prtOf a).length = a.length + 1 := by
  have h := spl_sum 47 (sg a) []
  rw [← prt_eq, List.map_map, List.length_map, sg_len] at h
  have e : (List.length ∘ sg) = fun x : Str => x.length := funext fun x => sg_len x
  rw [e] at h
  simpa using h
theorem prt_ne (a : Str) : prtOf a ≠ [] := fun e => by
  have := prt_sum a
  rw [e] at this
  simp at this
theorem prt_each {a : Str} {w : Str} (h : w ∈ prtOf a) : w.length ≤ a.length := by
  have h1 := prt_sum a
  have h2 : w.length ≤ ((prtOf a).map (·.length)).sum := sum_mem (List.mem_map.mpr ⟨w, h, rfl⟩)
  have h3 : 1 ≤ (prtOf a).length := List.length_pos_iff.mpr (prt_ne a)
  omega
section
variable {K : PySem.W.Frag} {S S1 : Sta} {ρ : List (Option Dt)} {te tl ta : TE} {w : TS} {ds xs : List Dt} {d : Dt} {o : Out} {C : Addr} {E : XK} {T : Tab} {j : Nat} {a : Str}
end
end Bf
namespace Bf
open PySem PySem.Spec PyProof.Rows L2
/-! ## bursts from texts: a comprehension over enumerate whose step raises -/
section
variable {K : PySem.W.Frag} {S S1 : Sta} {ρ : List (Option Dt)} {te tl : TE} {tt : TT} {vs : List Nat} {j j2 : Nat} {xs : List Dt}
end
/-! ### ratio_of_word, read_burst -/
theorem ratL_nat (C : Addr) (n m : Nat) : ratL C n m = rat C ((n / Nat.gcd n m : Nat) : Int) ((m / Nat.gcd n m : Nat) : Int) := by
  unfold ratL
  rw [Int.natAbs_natCast, Int.natAbs_natCast]
  rfl
section
variable {K : PySem.W.Frag} {S S1 : Sta} {ρ : List (Option Dt)} {CR CT CB C : Addr} {ds : List Dt} {o : Out} {d : Dt} {E : XK} {te ta : TE}
end
end Bf
namespace Bf
open PySem PySem.Spec PyProof.Rows L2
/-! ## the law's _law_due of a burst's text; burst_text -/
section
variable {K : PySem.W.Frag} {S S1 : Sta} {ρ : List (Option Dt)} {te tl : TE} {tt : TT} {vs : List Nat} {j j2 : Nat}
end
/-! ### _law_due -/
section
variable {K : PySem.W.Frag} {S S1 : Sta} {ρ : List (Option Dt)} {CR CT CB C : Addr} {ds : List Dt} {o : Out} {d : Dt} {E : XK} {te ta : TE}
end
end Bf
namespace Bf
open PySem PySem.Spec PyProof.Rows L2
/-! ## burst_text, and back; said and due are the same; _law_bent -/
theorem num_nosp (n c : Nat) (h : c < 48) : c ∉ sg (numT n) := fun z => by
  rw [sg_num] at z
  have := TL.numL_digits n c z
  omega
section
variable {K : PySem.W.Frag} {S S1 : Sta} {ρ : List (Option Dt)} {CR CT CB C : Addr} {ds : List Dt} {o : Out} {d : Dt} {E : XK} {te ta tl : TE} {vs : List Nat} {j : Nat}
end
/-! ### x != y, of the same lists or tuples -/
def rNeA (K : PySem.W.Frag) (C : Addr) : R2 := fun x y H Q => (DLst K (DRepL K C 4) x y H ∨ DTup K (DRepL K C 4) x y H) ∧ ∀ H', Same H H' → Q (.bl false) H'
section
variable {X : Cx} {C q : Addr} {qd : FuncData}
theorem op_neA (T : RatE X.prog X.w X.K X.mg X.base C q qd) (hr : Room 7 X.A) (hg : X.A.guards = some []) : OpR X (compareOp .NotEq) (rNeA X.K C) := by
  intro pins s σ H x y v u Q I rx ry h
  obtain ⟨d, q⟩ := h
  show wpAny (model X.prog X.w) X.A (richCompare .NotEq v u) (EP X pins σ Q) X.xe s
  rcases d with d | d
  · refine wpAny_mono (cmp_lst (.inr ⟨rfl, rfl⟩) mon_repL (eqP_repL T 4) ⟨hr, rfl, hg⟩ I rx ry d) (fun r s' z => ?_) fun _ _ x => x
    obtain ⟨hr', H', I', e⟩ := z
    subst hr'
    exact ⟨.bl false, H', I', rfl, q H' e⟩
  · refine wpAny_mono (neP_tup mon_repL (eqP_repL T 4) ⟨hr, rfl, hg⟩ I rx ry d) (fun r s' z => ?_) fun _ _ x => x
    obtain ⟨hr', H', I', e⟩ := z
    subst hr'
    exact ⟨.bl false, H', I', rfl, q H' e⟩
end
section
variable {K : PySem.W.Frag} {S : Sta} {C : Addr}
theorem rv_neAL {xs : List Dt} (h : ∀ x ∈ xs, eqL C 4 x) : Rv2 K S (rNeA K C) (.lst xs) (.lst xs) (Eq (.bl false)) := fun H v u hi r1 r2 Q q => by
  obtain ⟨a, us, rfl, ha, ra⟩ := r1.lstI
  obtain ⟨b, vs, rfl, hb, rb⟩ := r2.lstI
  exact ⟨.inl ⟨a, b, us, vs, rfl, rfl, ha, hb, prs_repL ra rb h⟩, fun H' sm => q _ _ H' sm.gr (S.st hi sm) (.bl _) rfl⟩
theorem eqL_str {n : Nat} (x : Str) : eqL C n (.str x) := by cases n <;> first | exact .inr (.inr (.inr (.inl ⟨x, rfl⟩))) | exact .inl (.inr (.inr (.inr (.inl ⟨x, rfl⟩))))
theorem eqL_int {n : Nat} (x : Int) : eqL C n (.int x) := by cases n <;> first | exact .inr (.inr (.inl ⟨x, rfl⟩)) | exact .inl (.inr (.inr (.inl ⟨x, rfl⟩)))
end
end Bf
namespace Bf
open PySem PySem.Spec PyProof.Rows L2
/-! ## keywords: C.m(k = v), C(k = v, ..), by promises of one's own -/
/-- C(k = v, ..) -/
def tMakeK (C : Addr) (m : Nat) (sp : Sp) (gV : List V → List V → List V) (E : XK) (tk : TA) : TE := fun σ H Q => tk σ H fun zs H2 => zs.length = m ∧
  ∀ x dx, H2 x = none → H2 dx = none → dx ≠ x → sp (gV [.ref x] zs) (upd (upd H2 dx (.own x)) x (.ins C dx [])) (fun v H3 => v = .non ∧ Q (.ref x) H3) E
section
variable {X : Cx} {k : Nat} {f C p g : Addr} {fd : FuncData} {ps ks : List Str} {sp : Sp} {E : XK} {m x : Str} {q pos apos px : Pos} {o : Expr} {kws : List Keyword} {t : TA} {ta : TE} {mc : Value} {pl : Sem Bool} {gv : List Value → List Value → List Value} {gV : List V → List V → List V}
theorem pe_makeGK (M : Mk X.K C f) (F : GOk X.prog X.w X.K X.mg X.base k f fd ps sp) (hr : Room (k + 1) X.A) (hgd : X.A.guards = some []) (hm : X.mg x = some (.ref C)) (hb : KBn X.K fd ps 1 ks gv gV) (hx : Passes (L2.CX X.prog X.w) X E) (hkw : PK X kws t)
    (hg : Gl X x := by rfl) (hall : (backToKw pos (keywordEach kws X.env)).all (·.1.isSome) = true := by rfl) (hks : (backToKw pos (keywordEach kws X.env)).filterMap (·.1) = ks := by rfl) (hdb : (x == ("__debug__" : Str)) = false := by decide)
    (hpl : ((backTo pos (starEach [] X.env)).any (·.1) || (backToKw pos (keywordEach kws X.env)).any (·.1.isNone)) = false := by rfl) :
    PE X (.Call (.Name x px) [] kws pos) (tMakeK C ks.length sp gV E t) := by
  refine ⟨fun pins s σ H Q I h => wpAny_Call_Name_kw (ld_glob I hg hm ?_ hdb)⟩
  refine PySem.W.callWith_KW0 (h₀ := X.base) I.ok.mod.kin M.kp hall ?_ hpl
  refine thn (hkw.run pos pins s σ H _ I h) fun ws s1 ⟨zs, H1, I1, rz, l2, q⟩ => ⟨I1.kIn, ?_⟩
  rw [hks]
  have hq := q (s1.heap.objs.size + 1) s1.heap.objs.size (I1.hok.fresh (Nat.le_succ _)) (I1.hok.fresh (Nat.le_refl _)) (Nat.ne_of_lt (Nat.lt_succ_self _))
  have I2 := L2.Inv.made (C := C) I1
  have r1 : Vals [V.ref (s1.heap.objs.size + 1)] [Value.ref (s1.heap.objs.size + 1)] := .cons rfl .nil
  have r2 := hb.rel r1 rz
  have e2 : ws.length = ks.length := rz.length.symm.trans l2
  refine wpAny_call (make_map (f := f) I1.kIn M.makes M.init (beq_iff_eq.mp M.fn) (codeAny_mono (F.go _ X.stack _ _ ⟨[Value.ref (s1.heap.objs.size + 1)], ks.zip ws⟩ (gv [Value.ref (s1.heap.objs.size + 1)] ws) _ _ E (hr.make C [] (ks.zip ws)) (by first | exact hgd | (simpa [Around.under] using hgd))
    (I2.env0.make C [] (ks.zip ws)) (hb.to _ [Value.ref (s1.heap.objs.size + 1)] ws I2.kIn rfl e2) r2 hq) fun r s' hq' => ?_))
  cases r with
  | error e => exact hx pins σ _ _ e s' I2 hq'
  | ok fl =>
    cases fl with
    | ret u =>
      obtain ⟨v, H', I3, rv, ev, q3⟩ := I2.after hq'
      subst ev
      exact ⟨rv, ⟨V.ref (s1.heap.objs.size + 1), H', I3, rfl, q3⟩⟩
    | next => exact False.elim hq'
    | brk => exact False.elim hq'
    | cont => exact False.elim hq'
/-- C.m(k = v) -/
theorem pe_cmGK (he : PE X o ta) (r : ClX.CRead X.K C mc) (c : ClX.CMet X.K C mc m p g) (F : GOk X.prog X.w X.K X.mg X.base k g fd ps sp) (hr : Room k X.A) (hgd : X.A.guards = some []) (hb : KBn X.K fd ps 1 ks (· ++ ·) (· ++ ·)) (hx : Passes (L2.CX X.prog X.w) X E) (hkw : PK X kws t) (hlen : ps.length = ks.length + 1)
    (hall : (backToKw pos (keywordEach kws X.env)).all (·.1.isSome) = true := by rfl) (hks : (backToKw pos (keywordEach kws X.env)).filterMap (·.1) = ks := by rfl)
    (hpl : ((backTo pos (starEach [] X.env)).any (·.1) || (backToKw pos (keywordEach kws X.env)).any (·.1.isNone)) = false := by rfl)
    (ht : eval (.Call (.Attribute o m apos) [] kws pos) X.env = (do
      let ov ← eval o X.env
      standAt apos.atName
      let (f, first) ← holding [ov] (getMethod ov m pl)
      callWith pos f first (backTo pos (starEach [] X.env)) (backToKw pos (keywordEach kws X.env))) := by rfl) :
    PE X (.Call (.Attribute o m apos) [] kws pos) (ClX.tCMeth C sp E ta t) := by
  refine ⟨fun pins s σ H Q I h => ?_⟩
  refine PySem.W.methodCall_KW (pl := pl) (thn (he.run pins s σ H _ I h) fun u s1 ⟨x, H1, I1, rx, ex, q⟩ => ?_) ht
  subst ex
  obtain rfl : u = Value.ref C := rx
  refine ClX.getmethcm_ok I1 r c fun s2 I2 => ?_
  refine PySem.W.callWith_of (P := PySem.W.MethP X.K s1.heap.objs.size g (.ref C)) hpl (PySem.W.keeps_M c.fi) (evalArgs_kw2_nil hall ?_)
  refine thn (hkw.run pos _ s2 σ H1 _ I2 q) fun ws s3 ⟨zs, H2, I3, rz, q2⟩ => ⟨⟨ClX.pin_at I3, I3.kIn⟩, ?_⟩
  rw [hks]
  have r1 : Vals [V.ref C] [Value.ref C] := .cons rfl .nil
  have r2 := hb.rel r1 rz
  have l0 := F.len _ _ _ _ q2
  have e2 : ws.length = ks.length := by
    have := rz.length
    simp only [List.length_cons] at l0
    omega
  have z : wpAny (model X.prog X.w) X.A (call (.ref s1.heap.objs.size) ([] ++ []) (ks.zip ws)) (EP X ((s1.heap.objs.size, PySem.W.methodObj (.ref g) (.ref C)) :: pins) σ Q) X.xe s3 := by
    refine wpAny_call (PySem.W.method_call (ClX.pin_at I3) ?_)
    refine codeAny_mono (F.go X.A X.stack s3 H2 ⟨[Value.ref C], ks.zip ws⟩ ([Value.ref C] ++ ws) ([V.ref C] ++ zs) Q E hr hgd I3.env0 (hb.to s3 [Value.ref C] ws I3.kIn rfl e2) r2 q2) fun r' s' hq => ?_
    match r', hq with
    | .error er, hq => exact hx _ σ H2 s3 er s' I3 hq
    | .ok (.ret u), hq => exact I3.after hq
    | .ok .next, hq => exact hq.elim
    | .ok .brk, hq => exact hq.elim
    | .ok .cont, hq => exact hq.elim
  exact thn z fun _ _ y => ClX.unpinE y
/-- a def without defaults, the rest by keywords -/
theorem kbn_fun {K : PySem.W.Frag} {y qual : Str} {st : Stmt} (F : Fun K y qual st f fd) (ps ks : List Str)
    (h : ∀ (kV doc pm : Value) (an : Option Addr) (cdv ct : Value) (us ws : List Value), us.length = 1 → ws.length = ks.length → bindArgs (PySem.W.fnOf y qual (defArgs st) (defBody st) (defScope st) .none kV doc pm an cdv ct) ⟨us, ks.zip ws⟩ = pure (ps.zip (us ++ ws))) :
    KBn K fd ps 1 ks (· ++ ·) (· ++ ·) := by
  obtain ⟨oc, od, kV, doc, pm, an, cdv, ct, osl, rfl, lk, hcd⟩ := F.ex
  exact ⟨fun s us ws _ l1 l2 => .of_eq (h kV doc pm an cdv ct us ws l1 l2), fun r1 r2 => r1.append r2⟩
end
end Bf
namespace Bf
open PySem PySem.Spec PyProof.Rows L2
/-! ## Ratio(a, b) that may refuse -/
def rightR : Dt → Dt → Bool
  | .int n, .int m => decide (0 ≤ n) && decide (1 ≤ m)
  | _, _ => false
def spRIX (K : PySem.W.Frag) (CR C : Addr) : Sp := fun vs H Q E => spRI C vs H Q E ∨ ∃ (x dx : Addr) (v u : V) (d e : Dt), vs = [.ref x, v, u] ∧ H x = some (.ins C dx []) ∧ Rep K H v d ∧ Rep K H u e ∧ okN d = true ∧ okN e = true ∧ rightR d e = false ∧
  ∀ a t H', Same H H' → H' a = some (.xd [("given", t)]) → Rep K H' t (.tup [d, e]) → E (.ref CR) (some a) H'
abbrev c_rat_init (K : PySem.W.Frag) : TT := (tNot (tAnd (tB (tCall (p_is_whole K) [] E0 (tCons (tVar 1) tNil))) (tAnd (tB (tCall (p_is_whole K) [] E0 (tCons (tVar 2) tNil))) (tAnd (tTest (tOp rGeI (tVar 1) (tC (.int 0)))) (tTest (tOp rGeI (tVar 2) (tC (.int 1))))))))
abbrev e_rat_init (K : PySem.W.Frag) : TS := (tSeq (tAsg (tCB rGcd (tCons (tVar 1) (tCons (tVar 2) tNil))) (gName 3))
    (tSeq (sFld K (tVar 0) (tOp rDivW (tVar 1) (tVar 3)) "_num") (sFld K (tVar 0) (tOp rDivW (tVar 2) (tVar 3)) "_den")))
abbrev t_rat_initX (K : PySem.W.Frag) (CR : Addr) (E : XK) : TS := (tSeq (tIfS (c_rat_init K) (tRaiseB CR "given" (fun cls d _ H => E cls d H) (tCons (tTup (tCons (tVar 1) (tCons (tVar 2) tNil))) tNil)) tNext) (e_rat_init K))
section
variable {K : PySem.W.Frag} {mg : Str → Option Value} {C CR fI pN gN pD gD : Addr} {S S1 : Sta} {ρ : List (Option Dt)}
theorem whole_int {d : Dt} (h : isW d = true) : ∃ n, d = .int n := by
  cases d <;> first | exact ⟨_, rfl⟩ | cases h
theorem right_no {d e : Dt} (h : isW d = false ∨ isW e = false) : rightR d e = false := by
  unfold rightR
  split
  · rcases h with h | h <;> cases h
  · rfl
theorem et_right {d e : Dt} (h1 : ρ[1]? = some (some d)) (h2 : ρ[2]? = some (some e)) (hd : okN d = true) (he : okN e = true) : EvT K S S ρ (c_rat_init K) (Eq (!rightR d e)) := by
  have hw : ∀ (i : Nat) (x : Dt), okN x = true → ρ[i]? = some (some x) → EvT K S S ρ (tB (tCall (p_is_whole K) [] E0 (tCons (tVar i) tNil))) (Eq (isW x)) := fun i x hx hi =>
    et_B (ev_callF (ds := [x]) (f := one1 fun d => .bl (isW d)) (ea_cons (ev_var hi) ea_nil) rfl ⟨x, rfl, hx⟩)
  refine et_not ?_
  by_cases w1 : isW d = true
  · by_cases w2 : isW e = true
    · obtain ⟨n, rfl⟩ := whole_int w1
      obtain ⟨m, rfl⟩ := whole_int w2
      exact (et_and (hw 1 _ hd h1) fun _ => et_and (hw 2 _ he h2) fun _ => et_and (et_test (ev_op (ev_var h1) ev_int rv_ge)) fun _ => et_test (ev_op (ev_var h2) ev_int rv_ge)).to rfl
    · have w2 : isW e = false := by simpa using w2
      have h3 := hw 2 _ he h2
      rw [w2] at h3
      exact (et_and (hw 1 _ hd h1) fun _ => et_andF h3).to (by rw [right_no (.inr w2), Bool.and_false])
  · have w1 : isW d = false := by simpa using w1
    have h3 := hw 1 _ hd h1
    rw [w1] at h3
    exact (et_andF h3).to (right_no (.inl w1)).symm
end
theorem rd_rat_initR {K : PySem.W.Frag} {mg : Str → Option Value} {C fI pN gN pD gD : Addr} (T : RatT K mg C fI pN gN pD gD) {vs : List V} {H : Hp} {Q : VK} {E : XK} {t : TS} (h : spRI C vs H Q E) : (tSeq (tIfS (c_rat_init K) t tNext) (e_rat_init K)) { nx := fun _ H' => Q .non H', rt := Q } (start ["self", "num", "den", "shared"] vs) H := by
  obtain ⟨x, dx, n, m, rfl, hx, n0, m1, mb, q⟩ := h
  have s0 : Slots K H (start ["self", "num", "den", "shared"] [.ref x, .int n, .int m]) [some (.raw (.ref x)), some (.int n), some (.int m), none] := slots_start (N := ["self", "num", "den", "shared"]) (ds := [.raw (.ref x), .int n, .int m]) (.cons (.raw _) (.cons (.int n) (.cons (.int m) .nil)))
  have hc : EvT K (staSame H) (staSame H) [some (.raw (.ref x)), some (.int n), some (.int m), none] (c_rat_init K) (Eq false) := (et_right rfl rfl rfl rfl).to (by show (!(decide (0 ≤ n) && decide (1 ≤ m))) = false; rw [decide_eq_true n0, decide_eq_true m1]; rfl)
  refine run_ifF hc (Same.refl H) s0 fun H1 g1 i1 => ?_
  have hx1 := i1 _ _ hx
  have mp : (0 : Int) < (Nat.gcd n.natAbs m.natAbs : Nat) := by
    have : 0 < Nat.gcd n.natAbs m.natAbs := Nat.gcd_pos_of_pos_right _ (by omega)
    omega
  have gb : ((Nat.gcd n.natAbs m.natAbs : Nat) : Int).natAbs < 2 ^ 8000 := by
    rw [Int.natAbs_natCast]
    exact Nat.lt_of_le_of_lt (Nat.le_of_dvd (by omega) (Nat.gcd_dvd_right _ _)) mb
  refine ⟨_, rfl, _, rfl, n, m, rfl, ?_⟩
  refine ⟨_, rfl, _, rfl, n, _, rfl, rfl, cdivs mp gb, ?_⟩
  refine ⟨_, rfl, x, C, dx, [], rfl, hx1, T.cl, T.an, by decide, ?_⟩
  refine ⟨_, rfl, _, rfl, m, _, rfl, rfl, cdivs mp gb, ?_⟩
  refine ⟨_, rfl, x, C, dx, _, rfl, upd_same, T.cl, T.ad, by show 1 < 1000; decide, ?_⟩
  rw [upd_upd]
  refine q _ (fun b o hb ho _ => ?_) (fun b o hb ho => ?_) ?_
  · rw [upd_ne hb]; exact i1 _ _ ho
  · rw [upd_ne hb]; exact i1 _ _ ho
  · rw [upd_same]; rfl
theorem rd_rat_initX {K : PySem.W.Frag} {mg : Str → Option Value} {C CR fI pN gN pD gD : Addr} (T : RatT K mg C fI pN gN pD gD) {vs : List V} {H : Hp} {Q : VK} {E : XK} (h : spRIX K CR C vs H Q E) : t_rat_initX K CR E { nx := fun _ H' => Q .non H', rt := Q } (start ["self", "num", "den", "shared"] vs) H := by
  rcases h with h | ⟨x, dx, v, u, d, e, rfl, hx, rv, ru, hd, he, hr, hE⟩
  · exact rd_rat_initR T h
  · have s0 : Slots K H (start ["self", "num", "den", "shared"] [.ref x, v, u]) [some (.raw (.ref x)), some d, some e, none] := slots_start (N := ["self", "num", "den", "shared"]) (ds := [.raw (.ref x), d, e]) (.cons (.raw _) (.cons rv (.cons ru .nil)))
    have k : So K (staSame H) (staSame H) [] (t_rat_initX K CR E) [some (.raw (.ref x)), some d, some e, none] { } := so_ifT ((et_right rfl rfl hd he).to (by rw [hr]; rfl)) (so_raise1B (ev_tup (ea_cons (ev_var rfl) (ea_cons (ev_var rfl) ea_nil)) (by show 2 ≤ sizeLine; decide)) fun a t H' i ha ht => hE a t H' i ha ht)
    exact k _ _ H H ⟨Gr.refl H, Same.refl H, fun _ z => nomatch z⟩ (Same.refl H) s0 ⟨fun _ _ _ _ _ _ z => z.elim, fun _ _ _ _ _ _ z => z.elim, fun _ _ _ _ _ _ z => z.elim, fun _ _ _ _ _ _ z => z.elim⟩
/-- what is known of the class beside: it may refuse, and by keywords -/
structure RatX (P : Program) (K : PySem.W.Frag) (mg : Str → Option Value) (fI : Addr) (fd : FuncData) (CR C : Addr) : Prop where
  i : ∀ (w : World) (base : Heap), GOk P w K mg base 2 fI fd ["self", "num", "den"] (spRIX K CR C)
  b2 : Binds K fd ["self", "num", "den"] []
  b1 : ∃ ds, Vals [V.int 1] ds ∧ Binds K fd ["self", "num", "den"] ds
  bk : ∃ (g : List Value → List Value → List Value), KBn K fd ["self", "num", "den"] 1 ["den", "num"] g (fun vs zs => vs ++ zs.reverse)
section
variable {X : Cx} {C CR fI pN gN pD gD : Addr} {fd : FuncData} {e : Expr} {es : List Expr} {t : TA} {p pos : Pos} {E : XK} {kws : List Keyword}
theorem pe_mkX2 (T : RatT X.K X.mg C fI pN gN pD gD) (I : RatX X.prog X.K X.mg fI fd CR C) (hr : Room 3 X.A) (hgd : X.A.guards = some []) (hx : Passes (L2.CX X.prog X.w) X E) (ha : PA X (e :: es) t) (hg : Gl X "Ratio" := by rfl)
    (he : starEach (e :: es) X.env = (false, eval e X.env) :: starEach es X.env := by rfl) (hpl : (backTo pos (starEach es X.env)).any (·.1) = false := by rfl) : PE X (.Call (.Name "Ratio" p) (e :: es) [] pos) (tMake C (spRIX X.K CR C) [] E t) :=
  pe_makeG T.mK (I.i _ _) hr hgd T.gC I.b2 .nil hx ha hg (by decide) he hpl
theorem pe_mkX1 (T : RatT X.K X.mg C fI pN gN pD gD) (I : RatX X.prog X.K X.mg fI fd CR C) (hr : Room 3 X.A) (hgd : X.A.guards = some []) (hx : Passes (L2.CX X.prog X.w) X E) (ha : PA X (e :: es) t) (hg : Gl X "Ratio" := by rfl)
    (he : starEach (e :: es) X.env = (false, eval e X.env) :: starEach es X.env := by rfl) (hpl : (backTo pos (starEach es X.env)).any (·.1) = false := by rfl) : PE X (.Call (.Name "Ratio" p) (e :: es) [] pos) (tMake C (spRIX X.K CR C) [.int 1] E t) := by
  obtain ⟨ds, r, b⟩ := I.b1
  exact pe_makeG T.mK (I.i _ _) hr hgd T.gC b r hx ha hg (by decide) he hpl
theorem pe_mkXk (T : RatT X.K X.mg C fI pN gN pD gD) (I : RatX X.prog X.K X.mg fI fd CR C) (hr : Room 3 X.A) (hgd : X.A.guards = some []) (hx : Passes (L2.CX X.prog X.w) X E) (hkw : PK X kws t) (hg : Gl X "Ratio" := by rfl)
    (hall : (backToKw pos (keywordEach kws X.env)).all (·.1.isSome) = true := by rfl) (hks : (backToKw pos (keywordEach kws X.env)).filterMap (·.1) = (["den", "num"] : List Str) := by rfl)
    (hpl : ((backTo pos (starEach [] X.env)).any (·.1) || (backToKw pos (keywordEach kws X.env)).any (·.1.isNone)) = false := by rfl) : PE X (.Call (.Name "Ratio" p) [] kws pos) (tMakeK C 2 (spRIX X.K CR C) (fun vs zs => vs ++ zs.reverse) E t) := by
  obtain ⟨g, b⟩ := I.bk
  exact pe_makeGK T.mK (I.i _ _) hr hgd T.gC b hx hkw hg hall hks (by decide) hpl
end
/-! ### over data -/
def mkO (CR C : Addr) (d e : Dt) : Out := match d, e with
  | .int n, .int m => if 0 ≤ n ∧ 1 ≤ m then .ok (ratL C n m) else .er CR "given" (.tup [d, e])
  | _, _ => .er CR "given" (.tup [d, e])
/-- both may stand there -/
def mkOk (d e : Dt) : Prop := okN d = true ∧ okN e = true ∧ ∀ m, e = .int m → m.natAbs < 2 ^ 8000
theorem mkO_ok {CR C : Addr} {d e z : Dt} (h : mkO CR C d e = .ok z) : ∃ n m, d = .int n ∧ e = .int m ∧ 0 ≤ n ∧ 1 ≤ m ∧ z = ratL C n m := by
  unfold mkO at h
  split at h
  · split at h
    · rename_i n m hc
      cases h
      exact ⟨_, _, rfl, rfl, hc.1, hc.2, rfl⟩
    · cases h
  · cases h
theorem mkO_er {CR C D : Addr} {f : Str} {d e z : Dt} (h : mkO CR C d e = .er D f z) : rightR d e = false ∧ D = CR ∧ f = "given" ∧ z = .tup [d, e] := by
  unfold mkO at h
  split at h
  · split at h
    · cases h
    · rename_i n m hc
      cases h
      refine ⟨?_, rfl, rfl, rfl⟩
      show (decide (0 ≤ n) && decide (1 ≤ m)) = false
      by_cases h0 : 0 ≤ n
      · rw [decide_eq_false (fun z => hc ⟨h0, z⟩), Bool.and_false]
      · rw [decide_eq_false h0, Bool.false_and]
  · rename_i hn
    cases h
    refine ⟨?_, rfl, rfl, rfl⟩
    unfold rightR
    split
    · exact absurd rfl (hn _ _ rfl)
    · rfl
section
variable {K : PySem.W.Frag} {S S1 : Sta} {ρ : List (Option Dt)} {tl ta : TA} {te : TE} {C CR D : Addr} {E : XK} {d e z : Dt} {f : Str} {T : List (Addr × Str)} {RR : Out → Dt → Prop} {o : Out} {x : Dt} {t : XK → TE}
theorem core_ok {H1 : Hp} {n m : Int} {Q : VK} {y dx : Addr} (h0 : 0 ≤ n) (h1 : 1 ≤ m) (hb : m.natAbs < 2 ^ 8000) (hx : H1 y = none) (hdx : H1 dx = none) (ne : dx ≠ y) (q : ∀ H', Same H1 H' → Rep K H' (.ref y) (ratL C n m) → Q (.ref y) H') :
    spRIX K CR C [.ref y, .int n, .int m] (upd (upd H1 dx (.own y)) y (.ins C dx [])) (fun v H3 => v = .non ∧ Q (.ref y) H3) E :=
  .inl ⟨y, dx, n, m, rfl, upd_same, h0, h1, hb, fun H' _ k e => ⟨rfl, q H' (fun b o eb => by
    have hbx : b ≠ y := ne_of_none eb hx
    have hbd : b ≠ dx := ne_of_none eb hdx
    refine k b o hbx ?_
    rw [upd_ne hbx, upd_ne hbd]
    exact eb) (rep_rat e)⟩⟩
theorem core_er {H1 : Hp} {v u : V} {Q : VK} {y dx : Addr} (rv : Rep K H1 v d) (ru : Rep K H1 u e) (hd : okN d = true) (he : okN e = true) (hr : rightR d e = false) (hx : H1 y = none) (hdx : H1 dx = none) (ne : dx ≠ y)
    (q : ∀ a t H', Same H1 H' → H' a = some (.xd [("given", t)]) → Rep K H' t (.tup [d, e]) → E (.ref CR) (some a) H') :
    spRIX K CR C [.ref y, v, u] (upd (upd H1 dx (.own y)) y (.ins C dx [])) (fun v H3 => v = .non ∧ Q (.ref y) H3) E := by
  have s1 : Same H1 (upd H1 dx (.own y)) := same_new hdx
  have s2 : Same (upd H1 dx (.own y)) (upd (upd H1 dx (.own y)) y (.ins C dx [])) := same_new (by rw [upd_ne (Ne.symm ne)]; exact hx)
  have sm := s1.trans s2
  exact .inr ⟨y, dx, v, u, d, e, rfl, upd_same, rv.mono sm.gr, ru.mono sm.gr, hd, he, hr, fun a t H' s ha ht => q a t H' (sm.trans s) ha ht⟩
theorem ev_mkX2 (h : EvA K S S1 ρ tl (Eq [d, e])) (hk : mkOk d e) (ho : mkO CR C d e = .ok z) : Ev K S S1 ρ (tMake C (spRIX K CR C) [] E tl) (Eq z) := fun σ H i s Q q =>
  h σ H i s _ fun vs ds H1 g1 i1 r1 e1 => by
    subst e1
    obtain ⟨n, m, rfl, rfl, h0, h1, rfl⟩ := mkO_ok ho
    obtain ⟨v, u, rfl, ra, rb⟩ := r1.twoI
    obtain rfl := ra.intI
    obtain rfl := rb.intI
    exact fun y dx hx hdx ne => core_ok h0 h1 (hk.2.2 m rfl) hx hdx ne fun H' sm r => q _ _ H' (g1.trans sm.gr) (S1.st i1 sm) r rfl
theorem er_mkX2 (h : EvA K S S1 ρ tl (Eq [d, e])) (hk : mkOk d e) (ho : mkO CR C d e = .er D f z) (hw : XW K S1 D f z E) : EvR K S ρ (tMake C (spRIX K CR C) [] E tl) := fun σ H i s Q =>
  h σ H i s _ fun vs ds H1 g1 i1 r1 e1 => by
    subst e1
    obtain ⟨hr, rfl, rfl, rfl⟩ := mkO_er ho
    obtain ⟨v, u, rfl, ra, rb⟩ := r1.twoI
    exact fun y dx hx hdx ne => core_er ra rb hk.1 hk.2.1 hr hx hdx ne fun a t H' sm ha ht => hw a t H' (S1.st i1 sm) ha ht
theorem ev_mkX1 (h : EvA K S S1 ρ tl (Eq [d])) (hk : mkOk d (.int 1)) (ho : mkO CR C d (.int 1) = .ok z) : Ev K S S1 ρ (tMake C (spRIX K CR C) [.int 1] E tl) (Eq z) := fun σ H i s Q q =>
  h σ H i s _ fun vs ds H1 g1 i1 r1 e1 => by
    subst e1
    obtain ⟨n, m, rfl, e2, h0, h1, rfl⟩ := mkO_ok ho
    cases e2
    obtain ⟨v, rfl, ra⟩ := r1.oneI
    obtain rfl := ra.intI
    exact fun y dx hx hdx ne => core_ok h0 h1 (hk.2.2 1 rfl) hx hdx ne fun H' sm r => q _ _ H' (g1.trans sm.gr) (S1.st i1 sm) r rfl
theorem er_mkX1 (h : EvA K S S1 ρ tl (Eq [d])) (hk : mkOk d (.int 1)) (ho : mkO CR C d (.int 1) = .er D f z) (hw : XW K S1 D f z E) : EvR K S ρ (tMake C (spRIX K CR C) [.int 1] E tl) := fun σ H i s Q =>
  h σ H i s _ fun vs ds H1 g1 i1 r1 e1 => by
    subst e1
    obtain ⟨hr, rfl, rfl, rfl⟩ := mkO_er ho
    obtain ⟨v, rfl, ra⟩ := r1.oneI
    exact fun y dx hx hdx ne => core_er ra (.int 1) hk.1 hk.2.1 hr hx hdx ne fun a t H' sm ha ht => hw a t H' (S1.st i1 sm) ha ht
theorem ev_mkXk (h : EvA K S S1 ρ tl (Eq [e, d])) (hk : mkOk d e) (ho : mkO CR C d e = .ok z) : Ev K S S1 ρ (tMakeK C 2 (spRIX K CR C) (fun vs zs => vs ++ zs.reverse) E tl) (Eq z) := fun σ H i s Q q =>
  h σ H i s _ fun vs ds H1 g1 i1 r1 e1 => by
    subst e1
    obtain ⟨n, m, rfl, rfl, h0, h1, rfl⟩ := mkO_ok ho
    obtain ⟨v, u, rfl, ra, rb⟩ := r1.twoI
    obtain rfl := ra.intI
    obtain rfl := rb.intI
    exact ⟨rfl, fun y dx hx hdx ne => core_ok h0 h1 (hk.2.2 m rfl) hx hdx ne fun H' sm r => q _ _ H' (g1.trans sm.gr) (S1.st i1 sm) r rfl⟩
/-- what is said of any call that comes to o -/
theorem ev_lamO (hT : TabS S T) (h1 : ∀ d, o = .ok d → ∀ (S' : Sta) E, Ev K S' S' ρ (t E) (Eq d)) (h2 : ∀ D f d, o = .er D f d → ∀ (S' : Sta) E, XW K S' D f d E → EvR K S' ρ (t E)) (hR : RR o x) : Ev K S S ρ (LamX.tLam T (TTs K RR) t) (Eq x) := by
  cases o with
  | ok d => exact ev_lamOk hT (fun S' E le => h1 d rfl S' E) hR
  | er D f d => exact ev_lamEr hT (fun S' E le hw => h2 D f d rfl S' E hw) hR
end
end Bf
namespace Bf
open PySem PySem.Spec PyProof.Rows L2
/-! ## a ratio == what is none; sums; == of lists of the same things -/
def r_reqO (C : Addr) (ds : List Dt) (a : Dt) : Prop := ∃ n m y, ds = [rat C n m, y] ∧ okN y = true ∧ a = .bl false
abbrev p_reqO (K : PySem.W.Frag) (C : Addr) : Sp := spR K 2 (r_reqO C)
/-- an int, a text, a tuple: how its type is told -/
def PlT (K : PySem.W.Frag) (y : V) (H : Hp) : Prop := (∃ i, y = .int i) ∨ (∃ z, y = .str z) ∨ ∃ b xs, y = .ref b ∧ SqT K H b xs
def rReqO (K : PySem.W.Frag) (C : Addr) : R2 := fun x y H Q => ∃ a dx fs, x = .ref a ∧ H a = some (.ins C dx fs) ∧ PlT K y H ∧ p_reqO K C [x, y] H Q E0
theorem so_reqO {K : PySem.W.Frag} {mg : Str → Option Value} {C fI pN gN pD gD : Addr} {S : Sta} {ds : List Dt} {d : Dt} (T : RatT K mg C fI pN gN pD gD) (hp : r_reqO C ds d) : So K S S [] (t_req K C) (startD 2 ds) (Pu d) := by
  obtain ⟨n, m, y, rfl, hy, rfl⟩ := hp
  have hf : isRatD y = false := by cases y <;> first | rfl | (simp [okN, tyN] at hy)
  exact so_retD (ev_andF ((ev_isRat T (ev_var rfl) (.inl hy)).to (by rw [hf]))) (Sta.Le.refl S) rfl
section
variable {X : Cx} {C q fI pN gN pD gD : Addr} {qd : FuncData}
theorem op_reqO (T : RatT X.K X.mg C fI pN gN pD gD) (F : GOk X.prog X.w X.K X.mg X.base 2 q qd ["self", "other"] (p_reqO X.K C)) (hs : PySem.W.findIn X.K (.ref C) "__eq__" = some (some (.ref q))) (hf : PySem.W.isFn X.K (.ref q) = true)
    (hb : Binds X.K qd ["self", "other"] []) (hr : Room 2 X.A) (hg : X.A.guards = some []) : OpR X (compareOp .Eq) (rReqO X.K C) := by
  intro pins s σ H x y v u Q I rx ry h
  obtain ⟨a, dx, fs, rfl, ha, hT, hsp⟩ := h
  cases rx
  show wpAny (model X.prog X.w) X.A (richCompare .Eq (.ref a) u) (EP X pins σ Q) X.xe s
  obtain ⟨mA, J, _⟩ := ins_get I.hok ha
  obtain ⟨od, J, _⟩ := J.look
  obtain ⟨m, hF⟩ := I.fr
  have look : ∃ t : String, PySem.W.Looks (model X.prog X.w) s.heap (typeOf u) (.type t) ∧ PySem.W.notFirst X.K C (.type t) = true := by
    rcases hT with ⟨i, rfl⟩ | ⟨z, rfl⟩ | ⟨b, xs, rfl, hb⟩
    · obtain ⟨t, rfl⟩ := (show ∃ t, u = Value.int i t from ry)
      exact ⟨"int", PySem.W.Looks.of_pure rfl, rfl⟩
    · obtain ⟨t, rfl⟩ := (show ∃ t, u = Value.str z t from ry)
      exact ⟨"str", PySem.W.Looks.of_pure rfl, rfl⟩
    · obtain rfl := (show u = Value.ref b from ry)
      obtain ⟨its, r, ⟨o, ho, hc, _⟩, _⟩ := I.tuple hb
      exact ⟨"tuple", PySem.W.kitAt_ty _ _ ⟨o, ho, hc⟩, rfl⟩
  obtain ⟨t, ht, hn⟩ := look
  refine PySem.W.cmp_K (op := .Eq) (tb := .type t) hr.units0 hF I.ok.mod.kin J ht hn hs hf ?_
  have r2 : Vals [V.ref a, y] [Value.ref a, u] := .cons rfl (.cons ry .nil)
  refine wpAny_call (codeAny_mono (F.go X.A X.stack s H ⟨[.ref a, u], []⟩ [.ref a, u] [.ref a, y] _ E0 hr hg I.env0 (by
    have := hb s [.ref a, u] I.kIn rfl
    simpa using this) r2 hsp) fun r s' hq => ?_)
  cases r with
  | error e => exact (passL : Passes (L2.CX X.prog X.w) X E0) pins σ H s e s' I hq
  | ok fl =>
    cases fl with
    | ret w =>
      obtain ⟨z, H', I', rz, q⟩ := I.after hq
      exact cmp_back I' rz q
    | next => exact False.elim hq
    | brk => exact False.elim hq
    | cont => exact False.elim hq
end
section
variable {K : PySem.W.Frag} {S : Sta} {C : Addr} {n m : Int}
theorem rv_reqO {y : Dt} (h : (∃ i, y = .int i) ∨ (∃ z, y = .str z) ∨ ∃ xs, y = .tup xs) : Rv2 K S (rReqO K C) (rat C n m) y (Eq (.bl false)) := fun H v u hi r1 r2 Q q => by
  obtain ⟨a, dx, rfl, ha⟩ := r1.ratI
  have hk : okN y = true := by rcases h with ⟨i, rfl⟩ | ⟨z, rfl⟩ | ⟨xs, rfl⟩ <;> rfl
  have hT : PlT K u H := by
    rcases h with ⟨i, rfl⟩ | ⟨z, rfl⟩ | ⟨xs, rfl⟩
    · exact .inl ⟨i, r2.intI⟩
    · exact .inr (.inl ⟨z, r2.strI⟩)
    · obtain ⟨b, us, rfl, hb, _⟩ := r2.tupI
      exact .inr (.inr ⟨b, us, rfl, hb⟩)
  exact ⟨a, dx, _, rfl, ha, hT, [rat C n m, y], .bl false, .cons r1 (.cons r2 .nil), rfl, ⟨n, m, y, rfl, hk, rfl⟩, fun v' H' sm rv => q _ _ H' sm.gr (S.st hi sm) rv rfl⟩
end
/-! ### sums -/
def r_radd (C : Addr) (ds : List Dt) (d : Dt) : Prop := ∃ n m i j, ds = [rat C n m, rat C i j] ∧ CMulW n j ∧ CMulW i m ∧ CMulW m j ∧ 0 ≤ n * j + i * m ∧ 1 ≤ m * j ∧ (m * j).natAbs < 2 ^ 8000 ∧ d = ratL C (n * j + i * m) (m * j)
abbrev p_radd (K : PySem.W.Frag) (C : Addr) : Sp := spR K 2 (r_radd C)
abbrev t_radd (K : PySem.W.Frag) (C : Addr) : TS := (tSeq (tIfS (tNot (tB (tCB (rIsi K) (tCons (tVar 1) (tCons (tC (.ref C)) tNil))))) tNever tNext)
    (tRet (tMake C (spRI C) [] E0 (tCons (tOp rAddI (tOp rMulW (L2.tFld K (tVar 0) "_num") (L2.tFld K (tVar 1) "_den")) (tOp rMulW (L2.tFld K (tVar 1) "_num") (L2.tFld K (tVar 0) "_den"))) (tCons (tOp rMulW (L2.tFld K (tVar 0) "_den") (L2.tFld K (tVar 1) "_den")) tNil)))))
theorem so_radd {K : PySem.W.Frag} {mg : Str → Option Value} {C fI pN gN pD gD : Addr} {S : Sta} {ds : List Dt} {d : Dt} (T : RatT K mg C fI pN gN pD gD) (hp : r_radd C ds d) : So K S S [] (t_radd K C) (startD 2 ds) (Pu d) := by
  obtain ⟨n, m, i, j, rfl, c1, c2, c3, h0, h1, h2, rfl⟩ := hp
  exact so_ifF (et_notT (et_B (ev_isRat T (ev_var rfl) (.inr ⟨i, j, rfl⟩)))) (so_skip (so_retD (ev_mkrat (ea_cons (ev_op (ev_op (ev_fn T (ev_var rfl)) (ev_fd T (ev_var rfl)) (rv_mul c1)) (ev_op (ev_fn T (ev_var rfl)) (ev_fd T (ev_var rfl)) (rv_mul c2)) rv_add) (ea_cons (ev_op (ev_fd T (ev_var rfl)) (ev_fd T (ev_var rfl)) (rv_mul c3)) ea_nil)) h0 h1 h2) (Sta.Le.refl S) rfl))
/-! ### x == y, of lists of the same things, empty dicts too -/
def DDic : Eqv := fun x y H => ∃ a b, x = .ref a ∧ y = .ref b ∧ H a = some (.dK []) ∧ H b = some (.dK [])
def DRepO (K : PySem.W.Frag) (C : Addr) : Eqv := fun x y H => DRepL K C 4 x y H ∨ DDic x y H
def rEqA (K : PySem.W.Frag) (C : Addr) : R2 := fun x y H Q => DLst K (DRepO K C) x y H ∧ ∀ H', Same H H' → Q (.bl true) H'
section
variable {X : Cx} {C q : Addr} {qd : FuncData}
theorem rcP_dic : RcP X 0 DDic := by
  intro A pins s σ H x y u v sb I rx ry d
  obtain ⟨a, b, rfl, rfl, ea, eb⟩ := d
  cases rx
  cases ry
  obtain ⟨_, ya, va, ra, da⟩ := (show ObjOk X.prog X.w H s.heap a (.dK []) from I.hok a _ ea)
  obtain ⟨_, yb, vb, rb, db⟩ := (show ObjOk X.prog X.w H s.heap b (.dK []) from I.hok b _ eb)
  have la : va.length = 0 := by rw [← ra.length]; rfl
  have lb : vb.length = 0 := by rw [← rb.length]; rfl
  refine PySem.W.keq_eq (knd := mixKind X.prog X.w) (r := true) ya yb da db sb.room.units0 (fun _ => L2.hits_all rb ra (fun p hp => nomatch hp)) ?_
  rw [la, lb]
  exact ⟨rfl, H, I, Ext.rfl'⟩
theorem mon_repO {K : PySem.W.Frag} : Mon (DRepO K C) := fun x y H H' e d => by
  rcases d with d | ⟨a, b, rfl, rfl, ea, eb⟩
  · exact .inl (mon_repL x y H H' e d)
  · exact .inr ⟨a, b, rfl, rfl, e _ _ ea, e _ _ eb⟩
theorem eqP_repO (T : RatE X.prog X.w X.K X.mg X.base C q qd) : EqP X 6 (DRepO X.K C) := (eqP_repL T 4).or ((rcP_dic.eqP fun x y H d => by
  obtain ⟨a, b, rfl, rfl, _⟩ := d
  exact ⟨a, b, rfl, rfl⟩).mono (by decide))
theorem op_eqA (T : RatE X.prog X.w X.K X.mg X.base C q qd) (hr : Room 7 X.A) (hg : X.A.guards = some []) : OpR X (compareOp .Eq) (rEqA X.K C) := by
  intro pins s σ H x y v u Q I rx ry h
  obtain ⟨d, q⟩ := h
  show wpAny (model X.prog X.w) X.A (richCompare .Eq v u) (EP X pins σ Q) X.xe s
  refine wpAny_mono (cmp_lst (.inl ⟨rfl, rfl⟩) mon_repO (eqP_repO T) ⟨hr, rfl, hg⟩ I rx ry d) (fun r s' z => ?_) fun _ _ x => x
  obtain ⟨hr', H', I', e⟩ := z
  subst hr'
  exact ⟨.bl true, H', I', rfl, q H' e⟩
end
section
variable {K : PySem.W.Frag} {S : Sta} {C : Addr}
theorem prs_repO {H : Hp} : ∀ {xs ys : List V} {ds : List Dt}, RepA K H xs ds → RepA K H ys ds → (∀ d ∈ ds, eqL C 4 d ∨ d = .dic) → Prs (DRepO K C) xs ys H
  | _, _, _, .nil, .nil, _ => .nil
  | _, _, _, .cons r1 h1, .cons r2 h2, hk => .cons (by
      rcases hk _ List.mem_cons_self with k | k
      · exact .inl ⟨_, r1, r2, k⟩
      · subst k
        cases r1 with
        | dic e1 => cases r2 with
          | dic e2 => exact .inr ⟨_, _, rfl, rfl, e1, e2⟩) (prs_repO h1 h2 fun d hd => hk d (List.mem_cons_of_mem _ hd))
theorem rv_eqA {xs : List Dt} (h : ∀ x ∈ xs, eqL C 4 x ∨ x = .dic) : Rv2 K S (rEqA K C) (.lst xs) (.lst xs) (Eq (.bl true)) := fun H v u hi r1 r2 Q q => by
  obtain ⟨a, us, rfl, ha, ra⟩ := r1.lstI
  obtain ⟨b, vs, rfl, hb, rb⟩ := r2.lstI
  exact ⟨⟨a, b, us, vs, rfl, rfl, ha, hb, prs_repO ra rb h⟩, fun H' sm => q _ _ H' sm.gr (S.st hi sm) (.bl _) rfl⟩
end
end Bf
namespace Bf
open PySem PySem.Spec PyProof.Rows L2
/-! ## the law of ratios: what is said, numbers, the greatest common divisor, what a text is due -/
section
variable {K : PySem.W.Frag} {S SB : Sta} {L : List Addr} {ρ : List (Option Dt)} {P : Po} {c : TT} {u : TS}
/-- while c: .., over data -/
theorem so_while (J : Nat → List (Option Dt) → Prop) {n : Nat} (h0 : J n ρ) (hs : ∀ n ρ', J n ρ' → ∃ k, EvT K S S ρ' c (Eq k) ∧ (k = true → So K S S [] u ρ' { P with nx := fun ρ'' => ∃ m, m < n ∧ J m ρ'', ct := fun ρ'' => ∃ m, m < n ∧ J m ρ'', bk := P.nx }) ∧ (k = false → P.nx ρ')) : Sg K S SB S L (tWhile c u) ρ P := fun D σ B H b i s f0 =>
  have f := f0.mono b.gr
  ⟨fun m σ' H' => Gr H H' ∧ S.I H' ∧ ∃ ρ', Slots K H' σ' ρ' ∧ J m ρ', ⟨n, Gr.refl H, i, ρ, s, h0⟩, fun m σ' H' ⟨g2, i2, ρ', s2, jm⟩ => by
    obtain ⟨k, hc, ht, hf⟩ := hs m ρ' jm
    refine hc σ' H' i2 s2 _ fun b' H3 g3 i3 e => ?_
    subst e
    have g23 := g2.trans g3
    cases k with
    | true =>
      rw [if_pos rfl]
      refine ⟨fun σ'' H'' => Gr H H'' ∧ S.I H'' ∧ ∃ ρ'', Slots K H'' σ'' ρ'' ∧ ∃ m', m' < m ∧ J m' ρ'', fun σ'' H'' ⟨g, i, ρ'', s, m', hm, j⟩ => ⟨m', hm, g, i, ρ'', s, j⟩, ?_⟩
      exact ht rfl _ _ H3 H3 ⟨Gr.refl H3, i3, fun _ z => nomatch z⟩ i3 (s2.mono g3) ⟨fun σ4 ρ4 H4 g4 i4 s4 q => ⟨g23.trans g4, i4, ρ4, s4, q⟩, fun v4 d4 H4 g4 => f.rt v4 d4 H4 (g23.trans g4), fun σ4 ρ4 H4 g4 i4 s4 q => f.nx σ4 ρ4 H4 (g23.trans g4) i4 s4 q, fun σ4 ρ4 H4 g4 i4 s4 q => ⟨g23.trans g4, i4, ρ4, s4, q⟩⟩
    | false =>
      rw [if_neg Bool.false_ne_true]
      exact f.nx _ _ H3 g23 i3 (s2.mono g3) (hf rfl)⟩
end
/-! ### what is said -/
def RS2 (CR C : Addr) : Out → Dt → Prop
  | .ok z, d => ∃ n m, z = rat C n m ∧ d = .lst [.int n, .int m]
  | .er D f z, d => D = CR ∧ f = "given" ∧ d = .lst [.str "ratio", z]
abbrev t__law_said02 (K : PySem.W.Frag) (CR C f c' : Addr) (q : Str) (tl : XK → Hp → VK → Prop) : TS := (tSeq (tAsg (tTup (tCons (tC .non) (tCons (tC .non) tNil))) (gTup K 2 (gCons (gName 1) (gCons (gName 2) gNil))))
    (tSeq (fun D σ H => (fun W => (tAsg (tAct 0 f c' q tl (WE W)) (gName 2))) (wKp (fun cls => PySem.W.exmOne K cls (.ref CR)) 3 (fun a cls d => (tAsg (tVar 3) (gName 1))) (fun _ _ _ _ => False) D) D σ H)
    (tRet (tIf (tTest (tOp rNoNo (tVar 1) (tC .non))) (tLst (tCons (tC (.str "ratio")) (tCons (tKFld [CR] "given" (tVar 1)) tNil))) (tLst (tCons (tProp C (getSp C "_num") [] E0 (tVar 2)) (tCons (tProp C (getSp C "_den") [] E0 (tVar 2)) tNil)))))))
theorem so__law_said02 {K : PySem.W.Frag} {CR C : Addr} {o : Out} {d : Dt} {H0 : Hp} {f c' : Addr} {q : Str} {tl : XK → Hp → VK → Prop} (hx : PySem.W.exmOne K (.ref CR) (.ref CR) = some true) (hc : H0 c' = some (LamX.CodeO c' q)) (hl : LamO K H0 tl o) (hR : RS2 CR C o d) : So K (staSame H0) (staSame H0) [] (t__law_said02 K CR C f c' q tl) (startD 4 [.raw (.ref f)]) (Pu d) := by
  have z2 : 2 ≤ sizeLine := by decide
  refine so_unp (is := [1, 2]) (xs := [.non, .non]) (ev_tup (ea_cons ev_non (ea_cons ev_non ea_nil)) z2) rfl rfl rfl ?_
  cases o with
  | ok z =>
    obtain ⟨n, m, rfl, rfl⟩ := hR
    refine so_seqG (S1 := staSame H0) (M := fun ρ' => ρ' = [some (.raw (.ref f)), some .non, some (rat C n m), none]) (Sta.Le.refl _) (so_keepOk fun W => so_set0D (ev_act rfl hc hl) (Sta.Le.refl _) rfl) fun ρ' hM => ?_
    subst hM
    exact so_retD (ev_ifF ((et_test (ev_op (ev_var rfl) ev_non rv_noNo)).to rfl) (ev_lst (ea_cons (ev_num (ev_var rfl)) (ea_cons (ev_den (ev_var rfl)) ea_nil)) z2)) (Sta.Le.refl _) rfl
  | er C' f' z =>
    obtain ⟨rfl, rfl, rfl⟩ := hR
    refine so_seqG (S1 := staSame H0) (M := fun ρ' => ρ' = [some (.raw (.ref f)), some (.err C' "given" z), some .non, none]) (Sta.Le.refl _) (so_keepEr (S1 := staSame H0) (C := C') (f := "given") (d := z) (i := 3) (j := 1) (tw := fun W => tAsg (tAct 0 f c' q tl (WE W)) (gName 2)) hx (by decide) (by show 3 < 4; decide) (fun W D σ H i s hW => pr_act rfl hc hl i s hW) (Sta.Le.refl _) rfl) fun ρ' hM => ?_
    subst hM
    exact so_retD (ev_ifT ((et_test (ev_op (ev_var rfl) ev_non rv_noNo)).to rfl) (ev_lst (ea_cons ev_str (ea_cons (ev_kfld (ev_var rfl) (by simp)) ea_nil)) z2)) (Sta.Le.refl _) rfl
/-! ### _law_number -/
def nnD (d : Dt) : Prop := ∃ r : Int, d = .int r ∧ 0 ≤ r ∧ r < 10 ^ 30
abbrev p__law_number02 (K : PySem.W.Frag) : Sp := spD K 0 (fun ds => ds = []) (fun _ d => nnD d) 4
abbrev t__law_number02 (K : PySem.W.Frag) : TS := (tRet (tCall (p__law_pick K) [] E0 (tCons (tVar 0) (tCons (tLst (tCons (tC (.int 0)) (tCons (tC (.int 1)) (tCons (tCall (p__law_next K) [] E0 (tCons (tVar 0) (tCons (tC (.int 12)) tNil))) (tCons (tCall (p__law_next K) [] E0 (tCons (tVar 0) (tCons (tOp rPowI (tC (.int 10)) (tC (.int 6))) tNil))) (tCons (tCall (p__law_next K) [] E0 (tCons (tVar 0) (tCons (tOp rPowI (tC (.int 10)) (tC (.int 30))) tNil))) tNil)))))) tNil))))
section
variable {K : PySem.W.Frag} {S S1 : Sta} {ρ : List (Option Dt)} {te ta tb : TE} {a : Addr} {c : CT} {cs : List Int} {n : Nat} {ds : List Dt} {d : Dt}
theorem so__law_number02 (hc : cs ≠ []) (hn : n + 4 ≤ 1000000) (hp : ds = []) : So K (DW K a c cs n) (DW K a c cs (n + 4)) [] (t__law_number02 K) (startD 1 (.raw (.ref a) :: ds)) { nx := fun _ => nnD .non, rt := nnD } := by
  subst hp
  have p6 : ∀ {S : Sta} {ρ : List (Option Dt)}, Ev K S S ρ (tOp rPowI (tC (.int 10)) (tC (.int 6))) (Eq (.int 1000000)) := (ev_op ev_int ev_int (rv_pow ⟨by decide, by decide⟩)).to rfl
  have p30 : ∀ {S : Sta} {ρ : List (Option Dt)}, Ev K S S ρ (tOp rPowI (tC (.int 10)) (tC (.int 30))) (Eq (.int (10 ^ 30))) := (ev_op ev_int ev_int (rv_pow ⟨by decide, by decide⟩)).to rfl
  have nn : ∀ {m : Int}, m ≤ 10 ^ 30 → ∀ {x : Dt}, (∃ r, x = .int r ∧ 0 ≤ r ∧ r < m) → nnD x := fun h _ ⟨r, e, h0, h1⟩ => ⟨r, e, h0, by omega⟩
  refine so_ret (Φ := fun d => ∃ ds, (∃ x y z, ds = [.lst [.int 0, .int 1, x, y, z]] ∧ nnD x ∧ nnD y ∧ nnD z) ∧ pickR ds d) (ev_callDP (k := 1) (cost := 1) (pre := fun ds => ∃ xs, (ds = [.lst xs] ∨ ds = [.tup xs]) ∧ xs ≠ [] ∧ xs.length ≤ 100000) (Θ := pickR) (n := n + 3) (fun σ H i s Q q => ?_) (fun ds ⟨x, y, z, e, _⟩ => by subst e; exact ⟨rfl, _, .inl rfl, by simp, by show 5 ≤ 100000; decide⟩) hc (by omega)) (dw_le (by omega)) fun d hd => ?_
  · refine (ea_consP (ev_var (d := .raw (.ref a)) rfl) (ea_consP (ev_lstP (ea_consP (ev_int (i := 0)) (ea_consP (ev_int (i := 1)) (ea_consP (S1 := DW K a c cs (n + 1)) (ev__law_next (n := n) (m := 12) (ea_cons (ev_var rfl) (ea_cons ev_int ea_nil)) hc (by omega) (by decide) (by decide)) (ea_consP (S1 := DW K a c cs (n + 2)) (ev__law_next (n := n + 1) (m := 1000000) (ea_cons (ev_var rfl) (ea_cons p6 ea_nil)) hc (by omega) (by decide) (by decide)) (ea_consP (S1 := DW K a c cs (n + 3)) (ev__law_next (n := n + 2) (m := 10 ^ 30) (ea_cons (ev_var rfl) (ea_cons p30 ea_nil)) hc (by omega) (by decide) (by decide)) ea_nil))))) fun ds hds => ?_) ea_nil)) σ H i s Q fun vs ds H' g i' r hl => q vs ds H' g i' r ?_
    · obtain ⟨_, _, rfl, _, _, _, rfl, _, _, _, rfl, _, _, _, rfl, _, _, _, rfl, _, rfl⟩ := hds
      show 5 ≤ sizeLine
      decide
    · obtain ⟨_, _, e1, rfl, _, _, e2, ⟨_, rfl, _, _, rfl, rfl, _, _, rfl, rfl, _, _, rfl, hx, _, _, rfl, hy, _, _, rfl, hz, rfl⟩, rfl⟩ := hl
      subst e2
      exact ⟨_, e1, _, _, _, rfl, nn (by decide) hx, nn (by decide) hy, nn (by decide) hz⟩
  · obtain ⟨ds, ⟨x, y, z, rfl, hx, hy, hz⟩, ys, e, hm⟩ := hd
    rcases e with e | e <;> cases e
    simp only [List.mem_cons, List.not_mem_nil, or_false] at hm
    rcases hm with rfl | rfl | rfl | rfl | rfl
    · exact ⟨0, rfl, by decide, by decide⟩
    · exact ⟨1, rfl, by decide, by decide⟩
    · exact hx
    · exact hy
    · exact hz
theorem ev__law_number02 (h : Ev K S (DW K a c cs n) ρ ta (Eq (.raw (.ref a)))) (hc : cs ≠ []) (hn : n + 4 ≤ 1000000) : Ev K S (DW K a c cs (n + 4)) ρ (tCall (p__law_number02 K) [] E0 (tCons ta tNil)) nnD := ev_callD (ds := []) (ea_cons h ea_nil) rfl rfl hc hn
end
/-! ### _law_common -/
def r_lcm (ds : List Dt) (d : Dt) : Prop := ∃ a b : Nat, ds = [.int (a : Nat), .int (b : Nat)] ∧ d = .int (Nat.gcd a b : Nat)
abbrev p__law_common (K : PySem.W.Frag) : Sp := spR K 2 r_lcm
abbrev t__law_common (K : PySem.W.Frag) : TS := (tSeq (tWhile (tTest (tOp rGtI (tVar 1) (tC (.int 0)))) (tPar 0 1 (tCons (tVar 1) (tCons (tOp rModI (tVar 0) (tVar 1)) tNil))))
    (tRet (tVar 0)))
section
variable {K : PySem.W.Frag} {S S1 S2 : Sta} {ρ : List (Option Dt)} {te ta tb : TE} {ds : List Dt} {d : Dt}
theorem so__law_common (hp : r_lcm ds d) : So K S S [] (t__law_common K) (startD 2 ds) (Pu d) := by
  obtain ⟨a, b, rfl, rfl⟩ := hp
  refine so_seq (M := fun ρ' => ρ' = [some (.int (Nat.gcd a b : Nat)), some (.int 0)]) (so_while (fun n ρ' => ∃ a' : Nat, ρ' = [some (.int (a' : Nat)), some (.int (n : Nat))] ∧ Nat.gcd a' n = Nat.gcd a b) (n := b) ⟨a, rfl, rfl⟩ fun n ρ' hJ => ?_) fun ρ' hM => ?_
  · obtain ⟨a', rfl, hg⟩ := hJ
    refine ⟨_, et_test (ev_op (ev_var rfl) ev_int rv_gt), fun e => ?_, fun e => ?_⟩
    · have hn : 0 < n := by have := of_decide_eq_true e; omega
      refine sg_last (so_par (Φl := Eq [.int (n : Nat), .int ((a' % n : Nat) : Int)]) (ea_cons (ev_var rfl) (ea_cons ((ev_op (ev_var rfl) (ev_var rfl) (rv_mod (by omega))).to rfl) ea_nil)) (fun l e => e ▸ rfl) fun x y e => ?_)
      cases e
      exact so_next (Sta.Le.refl _) ⟨a' % n, Nat.mod_lt _ hn, n, rfl, by rw [Nat.gcd_comm, ← Nat.gcd_rec, Nat.gcd_comm]; exact hg⟩
    · have hn : n = 0 := by have := of_decide_eq_false e; omega
      subst hn
      rw [Nat.gcd_zero_right] at hg
      rw [hg]
      rfl
  · subst hM
    exact so_retD (ev_var rfl) (Sta.Le.refl _) rfl
theorem ev_lcm {a b : Nat} (h1 : Ev K S S1 ρ ta (Eq (.int (a : Nat)))) (h2 : Ev K S1 S2 ρ tb (Eq (.int (b : Nat)))) : Ev K S S2 ρ (tCall (p__law_common K) [] E0 (tCons ta (tCons tb tNil))) (Eq (.int (Nat.gcd a b : Nat))) := ev_callR (ea_cons h1 (ea_cons h2 ea_nil)) rfl ⟨a, b, rfl, rfl⟩
end
end Bf
namespace Bf
open PySem PySem.Spec PyProof.Rows L2
/-! ## the law's _law_text_due -/
theorem rd_prt (a : Str) : (∃ p, prtOf a = [p] ∧ rdRat a = if numW 40 p = true then some (valW p, 1) else none) ∨
    (∃ p q, prtOf a = [p, q] ∧ rdRat a = if numW 40 p = true ∧ numW 40 q = true ∧ q ≠ ("0" : Str) then some (valW p, valW q) else none) ∨ (3 ≤ (prtOf a).length ∧ rdRat a = none) := by
  rcases cut_slash a with hc | ⟨p, q, rfl, hc⟩
  · exact .inl ⟨a, prt_none hc, rd_plain hc⟩
  · by_cases hq : 47 ∈ sg q
    · obtain ⟨r, s, hr, hc2⟩ : ∃ r s : Str, q = r ++ "/" ++ s ∧ 47 ∉ sg r := by
        rcases cut_slash q with z | z
        · exact absurd hq z
        · exact z
      refine .inr (.inr ⟨?_, ?_⟩)
      · rw [prt_cut hc, hr, prt_cut hc2]
        have hl : 1 ≤ (prtOf s).length := List.length_pos_iff.mpr (prt_ne s)
        simp only [List.length_cons]
        omega
      · rw [rd_cut hc, if_neg]
        exact fun z => numW_sl z.2.1 hq
    · exact .inr (.inl ⟨p, q, by rw [prt_cut hc, prt_none hq], rd_cut hc⟩)
theorem rd_bad {a w : Str} (hw : w ∈ prtOf a) (h : numW 40 w = false) : rdRat a = none := by
  rcases rd_prt a with ⟨p, e, hr⟩ | ⟨p, q, e, hr⟩ | ⟨_, hr⟩
  · rw [e, List.mem_singleton] at hw
    rw [hr, ← hw, if_neg (by rw [h]; decide)]
  · rw [e] at hw
    simp only [List.mem_cons, List.not_mem_nil, or_false] at hw
    rw [hr, if_neg]
    rcases hw with rfl | rfl
    · exact fun z => by rw [h] at z; cases z.1
    · exact fun z => by rw [h] at z; cases z.2.1
  · exact hr
/-- what is no number -/
def badW (x : Str) : Bool := decide (x = ("" : Str)) || (decide ((40 : Int) < (x.length : Nat)) || !(sg x).all isDg)
theorem bad_num {x : Str} (h : badW x = true) : numW 40 x = false := by
  unfold badW at h
  unfold numW
  rw [sg_len]
  simp only [Bool.or_eq_true, decide_eq_true_eq, Bool.not_eq_true'] at h
  rcases h with h | h | h
  · have : x.length = 0 := by rw [h]; decide +kernel
    rw [this]
    rfl
  · rw [decide_eq_false (show ¬ x.length ≤ 40 by omega)]
    simp
  · rw [h]
    simp
theorem good_num {x : Str} (h : badW x = false) : ∃ c r, sg x = c :: r ∧ numW 40 x = !(decide ((1 : Int) < (x.length : Nat)) && decide (c = 48)) := by
  unfold badW at h
  simp only [Bool.or_eq_false_iff, decide_eq_false_iff_not, Bool.not_eq_false'] at h
  obtain ⟨h1, h2, h3⟩ := h
  have hl := sg_len x
  cases hs : sg x with
  | nil =>
    refine absurd (sg_ext ?_) h1
    rw [hs]
    decide +kernel
  | cons c r =>
    refine ⟨c, r, rfl, ?_⟩
    unfold numW
    rw [hl, h3]
    rw [hs] at hl
    simp only [List.length_cons] at hl
    rw [hs, decide_eq_true (show 1 ≤ x.length by omega), decide_eq_true (show x.length ≤ 40 by omega)]
    simp only [List.head?_cons, Option.some.injEq, Bool.true_and, Bool.and_true]
    rw [Bool.eq_iff_iff]
    by_cases e : x.length = 1
    · have : ¬ ((1 : Int) < (x.length : Nat)) := by omega
      simp [e]
    · have : (1 : Int) < (x.length : Nat) := by omega
      simp [e, this]
def ltdD (a : Str) : Dt := match rdRat a with
  | some (n, m) => .lst [.int ((n / Nat.gcd n m : Nat) : Int), .int ((m / Nat.gcd n m : Nat) : Int)]
  | none => .lst [.str "ratio", .str a]
def r_ltx02 (ds : List Dt) (d : Dt) : Prop := ∃ a : Str, ds = [.str a] ∧ a.length ≤ 900 ∧ d = ltdD a
abbrev p__law_text_due (K : PySem.W.Frag) : Sp := spR K 1 r_ltx02
abbrev b__law_text_due (K : PySem.W.Frag) : TS := (tSeq (tIfS (tOr (tTest (tOp rEq (tVar 2) (tC (.str "")))) (tOr (tTest (tOp rGtI (tCB rLenS (tCons (tVar 2) tNil)) (tC (.int 40)))) (tTest (tOp (rNeNil K) (tLc (iStr (tVar 2)) (gName 3) (tTest (tOp rNotInSg (tVar 3) (tC (.str "0123456789")))) (tVar 3) [3]) (tLst tNil))))) (tRet (tLst (tCons (tC (.str "ratio")) (tCons (tVar 0) tNil)))) tNext)
    (tIfS (tAnd (tTest (tOp rGtI (tCB rLenS (tCons (tVar 2) tNil)) (tC (.int 1)))) (tTest (tOp rEq (tOp (rIx K) (tVar 2) (tC (.int 0))) (tC (.str "0"))))) (tRet (tLst (tCons (tC (.str "ratio")) (tCons (tVar 0) tNil)))) tNext))
abbrev t__law_text_due (K : PySem.W.Frag) : TS := (tSeq (tAsg (tM1 rSplit (tVar 0) (tC (.str "/"))) (gName 1))
    (tSeq (tFor (iList K (tVar 1)) (gName 2) (b__law_text_due K))
    (tSeq (tIfS (tOr (tTest (tOp rGtI (tCB (rLen K) (tCons (tVar 1) tNil)) (tC (.int 2)))) (tAnd (tTest (tOp rEq (tCB (rLen K) (tCons (tVar 1) tNil)) (tC (.int 2)))) (tTest (tOp rEq (tOp (rIx K) (tVar 1) (tC (.int 1))) (tC (.str "0")))))) (tRet (tLst (tCons (tC (.str "ratio")) (tCons (tVar 0) tNil)))) tNext)
    (tSeq (tPar 4 5 (tCons (tCB rIntS (tCons (tOp (rIx K) (tVar 1) (tC (.int 0))) tNil)) (tCons (tIf (tTest (tOp rEq (tCB (rLen K) (tCons (tVar 1) tNil)) (tC (.int 2)))) (tCB rIntS (tCons (tOp (rIx K) (tVar 1) (tC (.int 1))) tNil)) (tC (.int 1))) tNil)))
    (tSeq (tAsg (tCall (p__law_common K) [] E0 (tCons (tVar 4) (tCons (tVar 5) tNil))) (gName 6))
    (tRet (tLst (tCons (tOp rDivW (tVar 4) (tVar 6)) (tCons (tOp rDivW (tVar 5) (tVar 6)) tNil)))))))))
theorem ltd_none {a : Str} (h : rdRat a = none) : ltdD a = .lst [.str "ratio", .str a] := by unfold ltdD; rw [h]
section
variable {K : PySem.W.Frag} {S S1 : Sta} {ρ : List (Option Dt)} {te ta : TE} {ds : List Dt} {d : Dt} {a : Str}
theorem cdv {m : Nat} (h : 0 < m) (h2 : m < 10 ^ 40) : CDivW 0 ((m : Nat) : Int) := by
  refine ⟨by omega, ?_⟩
  rw [Int.natAbs_natCast]
  exact (Nat.log2_lt (by omega)).mpr (Nat.lt_of_lt_of_le h2 (Nat.le_trans (show 10 ^ 40 ≤ 2 ^ 140 by decide) (Nat.pow_le_pow_right (by decide) (by decide))))
/-- from both numbers on -/
theorem ltd_tail {n m : Nat} {x1 x2 x3 x4 x5 x6 : Option Dt} {tb tc : TE} (hn : n < 10 ^ 40) (h0 : 0 < m) (hm : m < 10 ^ 40) (hr : rdRat a = some (n, m))
    (h1 : Ev K S S [some (.str a), x1, x2, x3, x4, x5, x6] tb (Eq (.int (n : Nat)))) (h2 : Ev K S S [some (.str a), x1, x2, x3, x4, x5, x6] tc (Eq (.int (m : Nat)))) :
    So K S S [] (tSeq (tPar 4 5 (tCons tb (tCons tc tNil)))
    (tSeq (tAsg (tCall (p__law_common K) [] E0 (tCons (tVar 4) (tCons (tVar 5) tNil))) (gName 6))
    (tRet (tLst (tCons (tOp rDivW (tVar 4) (tVar 6)) (tCons (tOp rDivW (tVar 5) (tVar 6)) tNil)))))) [some (.str a), x1, x2, x3, x4, x5, x6] (Pu (ltdD a)) := by
  have hg : 0 < Nat.gcd n m := Nat.gcd_pos_of_pos_right _ h0
  have hgl : Nat.gcd n m < 10 ^ 40 := Nat.lt_of_le_of_lt (Nat.gcd_le_right _ h0) hm
  refine so_par (Φl := Eq [.int (n : Nat), .int (m : Nat)]) (ea_cons h1 (ea_cons h2 ea_nil)) (fun l e => e ▸ rfl) fun x y e => ?_
  cases e
  refine so_setD (d := .int (Nat.gcd n m : Nat)) (ev_lcm (ev_var rfl) (ev_var rfl)) ?_
  refine so_retD (ev_lst (ea_cons (ev_op (ev_var rfl) (ev_var rfl) (rv_div (cdv hg hgl))) (ea_cons (ev_op (ev_var rfl) (ev_var rfl) (rv_div (cdv hg hgl))) ea_nil)) (by show 2 ≤ sizeLine; decide)) (Sta.Le.refl S) ?_
  unfold ltdD
  rw [hr]
  rfl
theorem so__law_text_due (hmu : S.Mu) (hp : r_ltx02 ds d) : So K S S [] (t__law_text_due K) (startD 7 ds) (Pu d) := by
  obtain ⟨a, rfl, ha, rfl⟩ := hp
  have z2 : 2 ≤ sizeLine := by decide
  have hsum := prt_sum a
  refine so_setD (d := dS (prtOf a)) ((en_split (ev_var rfl) ev_str (by decide +kernel) (Nat.le_trans (Nat.add_le_add_right ha 2) (by decide))).ev.to rfl) ?_
  have bad : ∀ {w : TS} {P : Po} {x1 x2 x3 x4 x5 x6 : Option Dt}, rdRat a = none → P.rt = Eq (ltdD a) → Sg K S S S [] (tSeq (tRet (tLst (tCons (tC (.str "ratio")) (tCons (tVar 0) tNil)))) w) [some (.str a), x1, x2, x3, x4, x5, x6] P := fun {w P x1 x2 x3 x4 x5 x6} h hP => by
    refine so_ret1 (Φ := Eq (.lst [.str "ratio", .str a])) (ev_lst (ea_cons ev_str (ea_cons (ev_var rfl) ea_nil)) z2) (Sta.Le.refl S) fun d e => ?_
    rw [hP, ltd_none h]
    exact e
  refine so_seq (M := fun ρ' => ∃ y2, ρ' = [some (.str a), some (dS (prtOf a)), y2, none, none, none, none] ∧ ∀ w ∈ prtOf a, numW 40 w = true) (so_forL (ev_var rfl) (fun i ρ' => ∃ y2, ρ' = [some (.str a), some (dS (prtOf a)), y2, none, none, none, none] ∧ ∀ w ∈ (prtOf a).take i, numW 40 w = true) ⟨none, rfl, fun w hw => by simp at hw⟩ (fun i x ρ' hi hJ => ?_) fun ρ' hJ => ?_) fun ρ' hM => ?_
  · obtain ⟨y2, rfl, hpre⟩ := hJ
    obtain ⟨w, hw, rfl⟩ := dS_at hi
    have hmem := List.mem_of_getElem? hw
    have hwl : w.length ≤ 900 := Nat.le_trans (prt_each hmem) ha
    have hz : w.length ≤ sizeLine := Nat.le_trans hwl (by decide)
    refine so_re (ρ' := [some (.str a), some (dS (prtOf a)), some (.str w), none, none, none, none]) rfl ?_
    have hlen : Ev K S S [some (.str a), some (dS (prtOf a)), some (.str w), none, none, none, none] (tCB rLenS (tCons (tVar 2) tNil)) (Eq (.int (w.length : Nat))) := ev_cb (ea_cons (ev_var rfl) ea_nil) (rc_lenS hz)
    have hlc : Ev K S S [some (.str a), some (dS (prtOf a)), some (.str w), none, none, none, none] (tLc (iStr (tVar 2)) (gName 3) (tTest (tOp rNotInSg (tVar 3) (tC (.str "0123456789")))) (tVar 3) [3]) (Eq (.lst (((sg w).filter fun c => !isDg c).map fun c => .str (oneS c)))) :=
      ev_lcStr hmu (ev_var rfl) (List.mem_singleton.mpr rfl) (by show 3 < 7; decide) (by rw [sg_len]; omega) fun c _ => (et_test (ev_op (ev_var rfl) ev_str rv_notInSg)).to (ten_dg c)
    have hne : (!(((sg w).filter fun c => !isDg c).map fun c => Dt.str (oneS c)).isEmpty) = !(sg w).all isDg := by
      congr 1
      rw [Bool.eq_iff_iff, List.isEmpty_iff, List.map_eq_nil_iff, List.filter_eq_nil_iff, List.all_eq_true]
      constructor
      · intro h x hx
        have := h x hx
        simpa using this
      · intro h x hx
        rw [h x hx]
        decide
    refine so_ifD (k := badW w) ((et_or (et_test (ev_op (ev_var rfl) ev_str rv_eqS)) fun _ => et_or (et_test (ev_op hlen ev_int rv_gt)) fun _ => (et_test (ev_op hlc (ev_lst ea_nil (Nat.zero_le _)) rv_neNil)).to hne).to rfl) (fun e => bad (rd_bad hmem (bad_num e)) rfl) fun e => so_skip ?_
    obtain ⟨c, r, hc, hn⟩ := good_num e
    have h0 : Ev K S S [some (.str a), some (dS (prtOf a)), some (.str w), none, none, none, none] (tOp (rIx K) (tVar 2) (tC (.int 0))) (Eq (.str (oneS c))) := ev_op (ev_var rfl) ev_int (rv_ixS hz (by rw [hc]; exact atI_nat (j := 0) rfl))
    refine sg_last (so_ifD (et_and (et_test (ev_op hlen ev_int rv_gt)) fun _ => (et_test (ev_op h0 ev_str rv_eqS)).to (one_zero c)) (fun e2 => bad (rd_bad hmem (by rw [hn, e2]; rfl)) rfl) fun e2 => so_skip (so_next (Sta.Le.refl S) ⟨_, rfl, fun v hv => ?_⟩))
    rw [List.take_add_one, hw] at hv
    rcases List.mem_append.mp hv with hv | hv
    · exact hpre v hv
    · rw [Option.toList_some, List.mem_singleton] at hv
      rw [hv, hn, e2]
      rfl
  · obtain ⟨y2, rfl, h⟩ := hJ
    refine ⟨y2, rfl, fun w hw => h w ?_⟩
    rw [List.length_map, List.take_length]
    exact hw
  · obtain ⟨y2, rfl, hall⟩ := hM
    have hlen : ∀ {x2 x3 x4 x5 x6 : Option Dt}, Ev K S S [some (.str a), some (dS (prtOf a)), x2, x3, x4, x5, x6] (tCB (rLen K) (tCons (tVar 1) tNil)) (Eq (.int ((prtOf a).length : Nat))) := (ev_lenL (ev_var rfl)).to (by rw [List.length_map])
    rcases rd_prt a with ⟨p, e, hr⟩ | ⟨p, q, e, hr⟩ | ⟨h3, hr⟩
    · rw [e] at hlen hall ⊢
      have hp := hall p List.mem_cons_self
      rw [if_pos hp] at hr
      obtain ⟨i1, i2⟩ := num_int hp (by decide)
      refine so_ifF (et_orF ((et_test (ev_op hlen ev_int rv_gt)).to rfl) (et_andF ((et_test (ev_op hlen ev_int rv_eqI)).to rfl))) (so_skip ?_)
      exact ltd_tail (num_lt hp) (by decide) (by decide) hr (ev_cb (ea_cons (ev_ixL (ev_var rfl) ev_int (atI_nat (j := 0) rfl)) ea_nil) (rc_intS i1 i2)) ((ev_ifF ((et_test (ev_op hlen ev_int rv_eqI)).to rfl) ev_int).to rfl)
    · rw [e] at hlen hall ⊢
      have hp := hall p List.mem_cons_self
      have hq := hall q (List.mem_cons_of_mem _ List.mem_cons_self)
      obtain ⟨i1, i2⟩ := num_int hp (by decide)
      obtain ⟨j1, j2⟩ := num_int hq (by decide)
      have h1 : Ev K S S [some (.str a), some (dS [p, q]), y2, none, none, none, none] (tOp (rIx K) (tVar 1) (tC (.int 1))) (Eq (.str q)) := ev_ixL (ev_var rfl) ev_int (atI_nat (j := 1) rfl)
      refine so_ifD (k := decide (q = ("0" : Str))) (et_orF ((et_test (ev_op hlen ev_int rv_gt)).to rfl) (et_andT ((et_test (ev_op hlen ev_int rv_eqI)).to rfl) (et_test (ev_op h1 ev_str rv_eqS)))) (fun e0 => ?_) fun e0 => so_skip ?_
      · refine bad ?_ rfl
        rw [hr, if_neg]
        exact fun z => z.2.2 (of_decide_eq_true e0)
      · have e0 : q ≠ ("0" : Str) := of_decide_eq_false e0
        rw [if_pos ⟨hp, hq, e0⟩] at hr
        have hv : 0 < valW q := by
          have := mt (val_zero hq).mp e0
          omega
        exact ltd_tail (num_lt hp) hv (num_lt hq) hr (ev_cb (ea_cons (ev_ixL (ev_var rfl) ev_int (atI_nat (j := 0) rfl)) ea_nil) (rc_intS i1 i2)) (ev_ifT ((et_test (ev_op hlen ev_int rv_eqI)).to rfl) (ev_cb (ea_cons h1 ea_nil) (rc_intS j1 j2)))
    · exact so_ifT (et_orT ((et_test (ev_op hlen ev_int rv_gt)).to (decide_eq_true (by omega)))) (bad hr rfl)
end
end Bf
namespace Bf
open PySem PySem.Spec PyProof.Rows L2
/-! ## the law's _law_order_right -/
theorem ratL_cop {C : Addr} {n m : Nat} (h : Nat.gcd n m = 1) : ratL C n m = rat C (n : Nat) (m : Nat) := by
  rw [ratL_nat, h, Nat.div_one, Nat.div_one]
theorem ratL_scale {C : Addr} {k n m : Nat} (h : 0 < k) : ratL C ((k * n : Nat) : Int) ((k * m : Nat) : Int) = ratL C (n : Nat) (m : Nat) := by
  rw [ratL_nat, ratL_nat, Nat.gcd_mul_left, Nat.mul_div_mul_left _ _ h, Nat.mul_div_mul_left _ _ h]
/-- in lowest terms -/
theorem low_terms {a b : Nat} (hb : 0 < b) : ∃ g a' b', 0 < g ∧ a = g * a' ∧ b = g * b' ∧ Nat.gcd a' b' = 1 ∧ 0 < b' ∧ a' ≤ a ∧ b' ≤ b ∧ ∀ C : Addr, ratL C (a : Nat) (b : Nat) = rat C (a' : Nat) (b' : Nat) := by
  have hg : 0 < Nat.gcd a b := Nat.gcd_pos_of_pos_right _ hb
  have e1 : a = Nat.gcd a b * (a / Nat.gcd a b) := (Nat.mul_div_cancel' (Nat.gcd_dvd_left a b)).symm
  have e2 : b = Nat.gcd a b * (b / Nat.gcd a b) := (Nat.mul_div_cancel' (Nat.gcd_dvd_right a b)).symm
  exact ⟨Nat.gcd a b, a / Nat.gcd a b, b / Nat.gcd a b, hg, e1, e2, Nat.gcd_div_gcd_div_gcd_of_pos_right hb, Nat.div_pos (Nat.gcd_le_right _ hb) hg, Nat.div_le_self _ _, Nat.div_le_self _ _, fun C => ratL_nat C a b⟩
theorem cop_eq {a b c d : Nat} (hb : 0 < b) (h1 : Nat.gcd a b = 1) (h2 : Nat.gcd c d = 1) (h : a * d = c * b) : a = c ∧ b = d := by
  have d1 : b ∣ d := Nat.Coprime.dvd_of_dvd_mul_left (k := b) (m := a) (n := d) (by rw [Nat.Coprime, Nat.gcd_comm]; exact h1) (by rw [h]; exact Nat.dvd_mul_left b c)
  have d2 : d ∣ b := Nat.Coprime.dvd_of_dvd_mul_left (k := d) (m := c) (n := b) (by rw [Nat.Coprime, Nat.gcd_comm]; exact h2) (by rw [← h]; exact Nat.dvd_mul_left d a)
  have e : b = d := Nat.dvd_antisymm d1 d2
  subst e
  exact ⟨Nat.eq_of_mul_eq_mul_right hb h, rfl⟩
theorem dec_mul {k x y : Nat} (h : 0 < k) : decide ((x : Int) < y) = decide (((k * x : Nat) : Int) < ((k * y : Nat) : Int)) := by
  rw [Bool.eq_iff_iff]
  simp only [decide_eq_true_eq, Int.ofNat_lt]
  exact (Nat.mul_lt_mul_left h).symm
theorem dec_mulE {k x y : Nat} (h : 0 < k) : decide ((x : Int) ≤ y) = decide (((k * x : Nat) : Int) ≤ ((k * y : Nat) : Int)) := by
  rw [Bool.eq_iff_iff]
  simp only [decide_eq_true_eq, Int.ofNat_le]
  exact (Nat.mul_le_mul_left_iff h).symm
def lorOk (a b c d : Nat) : Prop := a < 10 ^ 30 ∧ c < 10 ^ 30 ∧ (0 < b ∧ b ≤ 10 ^ 30) ∧ (0 < d ∧ d ≤ 10 ^ 30)
def r_lor (ds : List Dt) (x : Dt) : Prop := ∃ a b c d : Nat, lorOk a b c d ∧ ds = [.int (a : Nat), .int (b : Nat), .int (c : Nat), .int (d : Nat)] ∧ x = .bl true
abbrev p__law_order_right (K : PySem.W.Frag) : Sp := spR K 4 r_lor
abbrev t__law_order_right (K : PySem.W.Frag) (C : Addr) : TS := (tSeq (tPar 4 5 (tCons (tMake C (spRI C) [] E0 (tCons (tVar 0) (tCons (tVar 1) tNil))) (tCons (tMake C (spRI C) [] E0 (tCons (tVar 2) (tCons (tVar 3) tNil))) tNil)))
    (tSeq (tPar 6 7 (tCons (tOp rMulW (tVar 0) (tVar 3)) (tCons (tOp rMulW (tVar 2) (tVar 1)) tNil)))
    (tSeq (tAsg (tLst (tCons (tOp (rOwn C (p_rlt K C)) (tVar 4) (tVar 5)) (tCons (tOp (rOwn C (p_rle K C)) (tVar 4) (tVar 5)) (tCons (tOp (rOwn C (p_rgt K C)) (tVar 4) (tVar 5)) (tCons (tOp (rOwn C (p_rge K C)) (tVar 4) (tVar 5)) (tCons (tOp (rOwn C (p_req K C)) (tVar 4) (tVar 5)) tNil)))))) (gName 8))
    (tSeq (tIfS (tTest (tOp (rNeD K) (tVar 8) (tLst (tCons (tOp rLtI (tVar 6) (tVar 7)) (tCons (tOp rLeI (tVar 6) (tVar 7)) (tCons (tOp rGtI (tVar 6) (tVar 7)) (tCons (tOp rGeI (tVar 6) (tVar 7)) (tCons (tOp rEq (tVar 6) (tVar 7)) tNil)))))))) (tRet (tC (.bl false))) tNext)
    (tSeq (tIfS (tOr (tTest (tOp (rNeQ K C) (tOp (rOwn C (p_radd K C)) (tVar 4) (tVar 5)) (tMake C (spRI C) [] E0 (tCons (tOp rAddI (tVar 6) (tVar 7)) (tCons (tOp rMulW (tVar 1) (tVar 3)) tNil))))) (tTest (tOp (rNeQ K C) (tOp (rOwn C (p_rmul K C)) (tVar 4) (tVar 5)) (tMake C (spRI C) [] E0 (tCons (tOp rMulW (tVar 0) (tVar 2)) (tCons (tOp rMulW (tVar 1) (tVar 3)) tNil)))))) (tRet (tC (.bl false))) tNext)
    (tRet (tAndV (tNotV (tOp (rReqO K C) (tVar 4) (tVar 0))) (tAndV (tNotV (tOp (rReqO K C) (tVar 4) (tCB (rStrO C (p_o_str K C)) (tCons (tVar 4) tNil)))) (tNotV (tOp (rReqO K C) (tVar 4) (tTup (tCons (tVar 0) (tCons (tVar 1) tNil)))))))))))))
theorem p30 {n : Nat} (h : n ≤ 10 ^ 30) : (n : Int) < 2 ^ 100 := by
  have : n < 2 ^ 100 := Nat.lt_of_le_of_lt h (by decide)
  omega
section
variable {K : PySem.W.Frag} {S S1 S2 : Sta} {ρ : List (Option Dt)} {te ta tb : TE} {ds : List Dt} {x : Dt} {C : Addr}
theorem rv_neSame {d : Dt} (h : ∃ n m, d = rat C n m) : Rv2 K S (rNeQ K C) d d (Eq (.bl false)) := by
  obtain ⟨n, m, rfl⟩ := h
  have := rv_neRat (K := K) (S := S) (C := C) (n := n) (m := m) (i := n) (j := m)
  simpa using this
theorem so__law_order_right (hp : r_lor ds x) : So K S S [] (t__law_order_right K C) (startD 9 ds) (Pu x) := by
  obtain ⟨a, b, c, d, ⟨ha, hc, ⟨b0, hb⟩, ⟨d0, hd⟩⟩, rfl, rfl⟩ := hp
  obtain ⟨g, a', b', g0, ea, eb, cab, b0', la, lb, hab⟩ := low_terms (a := a) b0
  obtain ⟨h, c', d', h0, ec, ed, ccd, d0', lc, ld, hcd⟩ := low_terms (a := c) d0
  have ha' := Nat.le_of_lt ha
  have hc' := Nat.le_of_lt hc
  have q : ∀ {n m : Nat}, n ≤ 10 ^ 30 → m ≤ 10 ^ 30 → CMulW ((n : Nat) : Int) ((m : Nat) : Int) := fun hn hm => cmul (by omega) (p30 hn) (by omega) (p30 hm)
  have bg : ∀ {n m : Nat}, n ≤ 10 ^ 30 → m ≤ 10 ^ 30 → ((n * m : Nat) : Int).natAbs < 2 ^ 8000 := fun {n m} hn hm => by
    rw [Int.natAbs_natCast]
    exact Nat.lt_of_le_of_lt (Nat.mul_le_mul hn hm) (Nat.lt_of_lt_of_le (show 10 ^ 30 * 10 ^ 30 < 2 ^ 200 by decide) (Nat.pow_le_pow_right (by decide) (by decide)))
  have bg1 : ∀ {n : Nat}, n ≤ 10 ^ 30 → ((n : Nat) : Int).natAbs < 2 ^ 8000 := fun {n} hn => by
    rw [Int.natAbs_natCast]
    exact Nat.lt_of_le_of_lt hn (Nat.lt_of_lt_of_le (show 10 ^ 30 < 2 ^ 200 by decide) (Nat.pow_le_pow_right (by decide) (by decide)))
  have la' : a' ≤ 10 ^ 30 := Nat.le_trans la ha'
  have lb' : b' ≤ 10 ^ 30 := Nat.le_trans lb hb
  have lc' : c' ≤ 10 ^ 30 := Nat.le_trans lc hc'
  have ld' : d' ≤ 10 ^ 30 := Nat.le_trans ld hd
  have gh : 0 < g * h := Nat.mul_pos g0 h0
  have ead : a * d = g * h * (a' * d') := by rw [ea, ed]; ac_rfl
  have ecb : c * b = g * h * (c' * b') := by rw [ec, eb]; ac_rfl
  have ebd : b * d = g * h * (b' * d') := by rw [eb, ed]; ac_rfl
  have eac : a * c = g * h * (a' * c') := by rw [ea, ec]; ac_rfl
  have x1 : (a' : Int) * (d' : Int) = ((a' * d' : Nat) : Int) := rfl
  have x2 : (c' : Int) * (b' : Int) = ((c' * b' : Nat) : Int) := rfl
  -- both ratios
  refine so_par (Φl := Eq [rat C (a' : Nat) (b' : Nat), rat C (c' : Nat) (d' : Nat)]) (ea_cons ((ev_mkrat (n := (a : Nat)) (m := (b : Nat)) (ea_cons (ev_var rfl) (ea_cons (ev_var rfl) ea_nil)) (by omega) (by omega) (bg1 hb)).to (hab C)) (ea_cons ((ev_mkrat (n := (c : Nat)) (m := (d : Nat)) (ea_cons (ev_var rfl) (ea_cons (ev_var rfl) ea_nil)) (by omega) (by omega) (bg1 hd)).to (hcd C)) ea_nil)) (fun l e => e ▸ rfl) fun y z e => ?_
  cases e
  refine so_par (Φl := Eq [.int ((a * d : Nat) : Int), .int ((c * b : Nat) : Int)]) (ea_cons ((ev_op (ev_var rfl) (ev_var rfl) (rv_mul (q ha' hd))).to rfl) (ea_cons ((ev_op (ev_var rfl) (ev_var rfl) (rv_mul (q hc' hb))).to rfl) ea_nil)) (fun l e => e ▸ rfl) fun y z e => ?_
  cases e
  let R : List (Option Dt) := [some (.int (a : Nat)), some (.int (b : Nat)), some (.int (c : Nat)), some (.int (d : Nat)), some (rat C (a' : Nat) (b' : Nat)), some (rat C (c' : Nat) (d' : Nat)), some (.int ((a * d : Nat) : Int)), some (.int ((c * b : Nat) : Int)), none]
  refine so_re (ρ' := R) rfl ?_
  have cmp : ∀ {g' : Int → Int → Bool}, Ev K S S R (tOp (rOwn C (spR K 2 (r_rcm C g'))) (tVar 4) (tVar 5)) (Eq (.bl (g' ((a' * d' : Nat) : Int) ((c' * b' : Nat) : Int)))) := fun {g'} => ev_op (ev_var rfl) (ev_var rfl) (rv_own (R := r_rcm C g') ⟨_, _, _, _, rfl, q la' ld', q lc' lb', rfl⟩)
  have heq : (decide ((a' : Int) = c') && decide ((b' : Int) = d')) = decide (((a * d : Nat) : Int) = ((c * b : Nat) : Int)) := by
    rw [Bool.eq_iff_iff]
    simp only [Bool.and_eq_true, decide_eq_true_eq, Int.ofNat_inj]
    rw [ead, ecb]
    constructor
    · rintro ⟨rfl, rfl⟩
      rfl
    · intro e
      exact cop_eq b0' cab ccd (Nat.eq_of_mul_eq_mul_left gh e)
  let TL : List Dt := [.bl (decide (((a * d : Nat) : Int) < ((c * b : Nat) : Int))), .bl (decide (((a * d : Nat) : Int) ≤ ((c * b : Nat) : Int))), .bl (decide (((c * b : Nat) : Int) < ((a * d : Nat) : Int))), .bl (decide (((c * b : Nat) : Int) ≤ ((a * d : Nat) : Int))), .bl (decide (((a * d : Nat) : Int) = ((c * b : Nat) : Int)))]
  have hT : cmpOk (.lst TL) = true := gd_cmp (n := 1) rfl (by decide)
  refine so_setD (d := .lst TL) (ev_lst (ea_cons ((cmp (g' := gLt)).to (by rw [ead, ecb, ← dec_mul gh]; rfl)) (ea_cons ((cmp (g' := gLe)).to (by rw [ead, ecb, ← dec_mulE gh]; rfl)) (ea_cons ((cmp (g' := gGt)).to (by rw [ead, ecb, ← dec_mul gh]; rfl)) (ea_cons ((cmp (g' := gGe)).to (by rw [ead, ecb, ← dec_mulE gh]; rfl)) (ea_cons ((ev_op (ev_var rfl) (ev_var rfl) (rv_own (R := r_req C) ⟨_, _, _, _, rfl, rfl⟩)).to (by rw [heq])) ea_nil))))) (by show 5 ≤ sizeLine; decide)) ?_
  refine so_re (ρ' := [some (.int (a : Nat)), some (.int (b : Nat)), some (.int (c : Nat)), some (.int (d : Nat)), some (rat C (a' : Nat) (b' : Nat)), some (rat C (c' : Nat) (d' : Nat)), some (.int ((a * d : Nat) : Int)), some (.int ((c * b : Nat) : Int)), some (.lst TL)]) rfl ?_
  refine so_ifF ((et_test (ev_op (ev_var rfl) ((ev_lst (ea_cons (ev_op (ev_var rfl) (ev_var rfl) rv_lt) (ea_cons (ev_op (ev_var rfl) (ev_var rfl) rv_le) (ea_cons (ev_op (ev_var rfl) (ev_var rfl) rv_gt) (ea_cons (ev_op (ev_var rfl) (ev_var rfl) rv_ge) (ea_cons (ev_op (ev_var rfl) (ev_var rfl) rv_eqI) ea_nil))))) (by show 5 ≤ sizeLine; decide)).to (y := .lst TL) rfl) (rv_neD hT hT))).to (by rw [cmp_refl hT]; rfl)) (so_skip ?_)
  have bd1 : (1 : Int) ≤ ((b' * d' : Nat) : Int) := by have := Nat.mul_pos b0' d0'; omega
  have bd2 : (1 : Int) ≤ ((b * d : Nat) : Int) := by have := Nat.mul_pos b0 d0; omega
  have n0 : ∀ n : Nat, (0 : Int) ≤ ((n : Nat) : Int) := fun n => by omega
  have sum : ratL C ((a * d + c * b : Nat) : Int) ((b * d : Nat) : Int) = ratL C ((a' * d' + c' * b' : Nat) : Int) ((b' * d' : Nat) : Int) := by
    rw [ead, ecb, ebd, ← Nat.mul_add, ratL_scale gh]
  have prd : ratL C ((a * c : Nat) : Int) ((b * d : Nat) : Int) = ratL C ((a' * c' : Nat) : Int) ((b' * d' : Nat) : Int) := by
    rw [eac, ebd, ratL_scale gh]
  have e1 := ev_op (K := K) (S := S) (S1 := S) (S2 := S) (ρ := [some (.int (a : Nat)), some (.int (b : Nat)), some (.int (c : Nat)), some (.int (d : Nat)), some (rat C (a' : Nat) (b' : Nat)), some (rat C (c' : Nat) (d' : Nat)), some (.int ((a * d : Nat) : Int)), some (.int ((c * b : Nat) : Int)), some (.lst TL)]) (ev_op (ta := tVar 4) (tb := tVar 5) (ev_var rfl) (ev_var rfl) (rv_own (R := r_radd C) (n := (a' : Nat)) (m := (b' : Nat)) (i := (c' : Nat)) (j := (d' : Nat)) (d := ratL C ((a' * d' + c' * b' : Nat) : Int) ((b' * d' : Nat) : Int)) ⟨_, _, _, _, rfl, q la' ld', q lc' lb', q lb' ld', n0 (a' * d' + c' * b'), bd1, bg lb' ld', rfl⟩)) ((ev_mkrat (E := E0) (ea_cons (ev_op (ta := tVar 6) (tb := tVar 7) (ev_var rfl) (ev_var rfl) rv_add) (ea_cons (ev_op (ta := tVar 1) (tb := tVar 3) (ev_var rfl) (ev_var rfl) (rv_mul (q hb hd))) ea_nil)) (n0 (a * d + c * b)) bd2 (bg hb hd)).to sum) (rv_neSame ⟨_, _, rfl⟩)
  have e2 := ev_op (K := K) (S := S) (S1 := S) (S2 := S) (ρ := [some (.int (a : Nat)), some (.int (b : Nat)), some (.int (c : Nat)), some (.int (d : Nat)), some (rat C (a' : Nat) (b' : Nat)), some (rat C (c' : Nat) (d' : Nat)), some (.int ((a * d : Nat) : Int)), some (.int ((c * b : Nat) : Int)), some (.lst TL)]) (ev_op (ta := tVar 4) (tb := tVar 5) (ev_var rfl) (ev_var rfl) (rv_own (R := r_rmul C) (n := (a' : Nat)) (m := (b' : Nat)) (i := (c' : Nat)) (j := (d' : Nat)) (d := ratL C ((a' * c' : Nat) : Int) ((b' * d' : Nat) : Int)) ⟨_, _, _, _, rfl, q la' lc', q lb' ld', n0 (a' * c'), bd1, bg lb' ld', rfl⟩)) ((ev_mkrat (E := E0) (ea_cons (ev_op (ta := tVar 0) (tb := tVar 2) (ev_var rfl) (ev_var rfl) (rv_mul (q ha' hc'))) (ea_cons (ev_op (ta := tVar 1) (tb := tVar 3) (ev_var rfl) (ev_var rfl) (rv_mul (q hb hd))) ea_nil)) (n0 (a * c)) bd2 (bg hb hd)).to prd) (rv_neSame ⟨_, _, rfl⟩)
  refine so_ifF (et_orF ((et_test e1).to rfl) ((et_test e2).to rfl)) (so_skip ?_)
  have h64 : ∀ {n : Nat}, n ≤ 10 ^ 30 → n < 10 ^ 64 := fun h => Nat.lt_of_le_of_lt h (by decide)
  exact so_retD (ev_andT ((ev_not (ev_op (ev_var rfl) (ev_var rfl) (rv_reqO (.inl ⟨_, rfl⟩)))).to rfl) (ev_andT ((ev_not (ev_op (ev_var rfl) (ev_strO (ev_var rfl) (h64 la') (h64 lb')) (rv_reqO (.inr (.inl ⟨_, rfl⟩))))).to rfl) ((ev_not (ev_op (ev_var rfl) (ev_tup (ea_cons (ev_var rfl) (ea_cons (ev_var rfl) ea_nil)) (by show 2 ≤ sizeLine; decide)) (rv_reqO (.inr (.inr ⟨_, rfl⟩))))).to rfl))) (Sta.Le.refl _) rfl
end
end Bf
namespace Bf
open PySem PySem.Spec PyProof.Rows L2
/-! ## A def of draws that makes lambdas -/
def spDT (K : PySem.W.Frag) (T : List (Addr × Str)) (nargs : Nat) (pre : List Dt → Prop) (Φ : List Dt → Dt → Prop) (cost : Nat) : Sp := fun vs H Q _ => ∃ a c cs n ds ws, c.tb = T ∧ vs = .ref a :: ws ∧ RepA K H ws ds ∧ ds.length = nargs ∧ pre ds ∧ cs ≠ [] ∧ n + cost ≤ 1000000 ∧ (DW K a c cs n).I H ∧
  ∀ v d H', Gr H H' → (DW K a c cs (n + cost)).I H' → Rep K H' v d → Φ ds d → Q v H'
section
variable {K : PySem.W.Frag} {S : Sta} {ρ : List (Option Dt)} {a : Addr} {c : CT} {cs : List Int} {n : Nat}
theorem ev_callDT {T : List (Addr × Str)} {t : TA} {ds : List Dt} {k cost : Nat} {pre : List Dt → Prop} {Φ : List Dt → Dt → Prop} {E : XK} (hT : c.tb = T) (ha : EvA K S (DW K a c cs n) ρ t (Eq (.raw (.ref a) :: ds))) (hn : ds.length = k) (hp : pre ds) (hc : cs ≠ []) (hb : n + cost ≤ 1000000) :
    Ev K S (DW K a c cs (n + cost)) ρ (tCall (spDT K T k pre Φ cost) [] E t) (Φ ds) := fun σ H i s Q q =>
  ha σ H i s _ fun vs ds' H1 g1 i1 r1 p1 => by
    subst p1
    rw [List.append_nil]
    cases r1 with
    | cons r0 r1 =>
      obtain rfl := r0.rawI
      exact ⟨a, c, cs, n, ds, _, hT, rfl, r1, hn, hp, hc, hb, i1, fun v d H' g i' r p => q v d H' (g1.trans g) i' r p⟩
end
section
variable {K : PySem.W.Frag} {a : Addr} {c : CT} {cs : List Int} {n : Nat} {ds : List Dt} {t : Ten}
end
end Bf
namespace Bf
open PySem PySem.Spec PyProof.Rows L2
/-! ## the law's _law_read_right -/
theorem rd_ratW {n m : Nat} (h : n < 10 ^ 40) (h1 : 0 < m) (h2 : m < 10 ^ 40) : rdRat (numT n ++ "/" ++ numT m) = some (n, m) := by
  obtain ⟨a1, a2⟩ := num_txt (n := n) (k := 40) (by decide) h
  obtain ⟨b1, b2⟩ := num_txt (n := m) (k := 40) (by decide) h2
  have hz : numT m ≠ ("0" : Str) := fun z => by
    have := (val_zero b1).mpr z
    rw [b2] at this
    omega
  rw [rd_cut (num_nosp _ _ (by decide)), if_pos ⟨a1, b1, hz⟩, a2, b2]
theorem rd_ratX {n m : Nat} (h : n < 10 ^ 40) (h1 : 0 < m) (h2 : m < 10 ^ 40) : rdRat (ratT n m) = some (n, m) := by
  unfold ratT
  split
  · rename_i e
    obtain ⟨a1, a2⟩ := num_txt (n := n) (k := 40) (by decide) h
    rw [rd_plain (num_nosp _ _ (by decide)), if_pos a1, a2, e]
  · exact rd_ratW h h1 h2
/-- what is said of Ratio.read of a text is what the text is due -/
theorem said_text {CR C : Addr} (t : Str) : RS2 CR C (rdR CR C (.str t)) (ltdD t) := by
  unfold rdR ltdD
  dsimp only
  cases e : rdRat t with
  | none => exact ⟨rfl, rfl, rfl⟩
  | some p => exact ⟨_, _, ratL_nat C p.1 p.2, rfl⟩
theorem eq_ltd (C : Addr) (t : Str) : ∃ xs, ltdD t = .lst xs ∧ ∀ x ∈ xs, eqL C 4 x := by
  unfold ltdD
  split
  · exact ⟨_, rfl, fun x hx => by
      simp only [List.mem_cons, List.not_mem_nil, or_false] at hx
      rcases hx with rfl | rfl <;> exact eqL_int _⟩
  · exact ⟨_, rfl, fun x hx => by
      simp only [List.mem_cons, List.not_mem_nil, or_false] at hx
      rcases hx with rfl | rfl <;> exact eqL_str _⟩
def preRr (ds : List Dt) : Prop := ∃ a b : Nat, ds = [.int (a : Nat), .int (b : Nat)] ∧ a < 10 ^ 30 ∧ 0 < b ∧ b ≤ 10 ^ 30
abbrev p__law_read_right (K : PySem.W.Frag) (TL : List (Addr × Str)) : Sp := spDT K TL 2 preRr (fun _ d => d = .bl true) 4
abbrev h__law_read_right (K : PySem.W.Frag) (TL : List (Addr × Str)) (CR C : Addr) : TS := (tSeq (tFor (iList K (tVar 8)) (gName 9) (tIfS (tTest (tOp (rNeA K C) (LamX.tLam TL (TTs K (RS2 CR C)) (fun E => (ClX.tCMeth C (p_o_read K CR C) E (tC (.ref C)) (tCons (tVar 9) tNil)))) (tCall (p__law_text_due K) [] E0 (tCons (tVar 9) tNil)))) (tRet (tC (.bl false))) tNext))
    (tSeq (tAsg (tCall (p__law_pick K) [] E0 (tCons (tVar 0) (tCons (tLst (tCons (tC .non) (tCons (tC (.int 5)) (tCons (tC (.bl true)) (tCons (tTup (tCons (tC (.str "1")) tNil)) (tCons (tLst (tCons (tC (.str "1")) tNil)) (tCons tDNewK (tCons (tVar 3) tNil)))))))) tNil))) (gName 10))
    (tRet (tOp (rEqA K C) (LamX.tLam TL (TTs K (RS2 CR C)) (fun E => (ClX.tCMeth C (p_o_read K CR C) E (tC (.ref C)) (tCons (tVar 10) tNil)))) (tLst (tCons (tC (.str "ratio")) (tCons (tVar 10) tNil)))))))
abbrev t__law_read_right (K : PySem.W.Frag) (TL : List (Addr × Str)) (CR C : Addr) : TS := (tSeq (tPar 3 4 (tCons (tMake C (spRI C) [] E0 (tCons (tVar 1) (tCons (tVar 2) tNil))) (tCons (tOp rAddI (tC (.int 1)) (tCall (p__law_next K) [] E0 (tCons (tVar 0) (tCons (tC (.int 9)) tNil)))) tNil)))
    (tSeq (tIfS (tTest (tOp rNe (tCB (rStrO C (p_o_str K C)) (tCons (tVar 3) tNil)) (tIf (tTest (tOp rEq (tProp C (getSp C "_den") [] E0 (tVar 3)) (tC (.int 1)))) (tCB rStrX (tCons (tProp C (getSp C "_num") [] E0 (tVar 3)) tNil)) (tOp rAddSt (tOp rAddSt (tCB rStrX (tCons (tProp C (getSp C "_num") [] E0 (tVar 3)) tNil)) (tC (.str "/"))) (tCB rStrX (tCons (tProp C (getSp C "_den") [] E0 (tVar 3)) tNil)))))) (tRet (tC (.bl false))) tNext)
    (tSeq (tIfS (tOr (tTest (tOp (rNeQ K C) (ClX.tCMeth C (p_o_read K CR C) E0 (tC (.ref C)) (tCons (tCB (rStrO C (p_o_str K C)) (tCons (tVar 3) tNil)) tNil)) (tVar 3))) (tTest (tOp (rNeQ K C) (ClX.tCMeth C (p_o_read K CR C) E0 (tC (.ref C)) (tCons (tOp rAddSt (tOp rAddSt (tCB rStrX (tCons (tOp rMulW (tVar 1) (tVar 4)) tNil)) (tC (.str "/"))) (tCB rStrX (tCons (tOp rMulW (tVar 2) (tVar 4)) tNil))) tNil)) (tVar 3)))) (tRet (tC (.bl false))) tNext)
    (tSeq (tAsg (tOp rAddSt (tOp rAddSt (tCB rStrX (tCons (tVar 1) tNil)) (tC (.str "/"))) (tCB rStrX (tCons (tVar 2) tNil))) (gName 5))
    (tSeq (tAsg (tCall (p__law_next K) [] E0 (tCons (tVar 0) (tCons (tOp rAddI (tCB rLenS (tCons (tVar 5) tNil)) (tC (.int 1))) tNil))) (gName 6))
    (tSeq (tAsg (tCall (p__law_pick K) [] E0 (tCons (tVar 0) (tCons (tLst (tCons (tC (.str "0")) (tCons (tC (.str "/")) (tCons (tC (.str "-")) (tCons (tC (.str " ")) (tCons (tC (.str "")) (tCons (tC (.str "1")) (tCons (tC (.str "x")) (tCons (tC (.str "+")) (tCons (tC (.str ".")) (tCons (tC (.str "\n")) tNil))))))))))) tNil))) (gName 7))
    (tSeq (tAsg (tLst (tCons (tOp rAddSt (tOp rAddSt (tSl rSlS (tVar 5) tNoPart (tPart (tVar 6))) (tVar 7)) (tSl rSlS (tVar 5) (tPart (tVar 6)) tNoPart)) (tCons (tOp rAddSt (tSl rSlS (tVar 5) tNoPart (tPart (tVar 6))) (tSl rSlS (tVar 5) (tPart (tOp rAddI (tVar 6) (tC (.int 1)))) tNoPart)) (tCons (tOp rAddSt (tC (.str "0")) (tVar 5)) (tCons (tOp rAddSt (tVar 5) (tC (.str "/1"))) (tCons (tC (.str "1/0")) tNil)))))) (gName 8))
    (tSeq (tAsg (tOp (rCatS K) (tVar 8) (tLst (tCons (tC (.str "")) (tCons (tOp rMulS (tC (.str "7")) (tC (.int 41))) (tCons (tOp rAddSt (tOp rAddSt (tOp rMulS (tC (.str "7")) (tC (.int 40))) (tC (.str "/"))) (tOp rMulS (tC (.str "3")) (tC (.int 40)))) (tCons (tOp rAddSt (tC (.str "3/")) (tOp rMulS (tC (.str "7")) (tC (.int 41)))) (tCons (tC (.str "00")) (tCons (tC (.str "0")) (tCons (tC (.str "0/5")) tNil))))))))) (gName 8))
    (h__law_read_right K TL CR C)))))))))
section
variable {K : PySem.W.Frag} {S S1 S2 : Sta} {ρ : List (Option Dt)} {te ta tb : TE} {a : Addr} {c : CT} {cs : List Int} {n : Nat} {ds : List Dt} {C CR : Addr} {j : Nat} {x z : Dt} {t : Str}
/-- what is said of Ratio.read(..) -/
theorem ev_lamRd {T : List (Addr × Str)} (hT : TabS S T) (hj : ρ[j]? = some (some x)) (hx : okRt C x) (hl : ∀ a, x = .str a → a.length ≤ 100000) (hR : RS2 CR C (rdR CR C x) z) : Ev K S S ρ (LamX.tLam T (TTs K (RS2 CR C)) (fun E => (ClX.tCMeth C (p_o_read K CR C) E (tC (.ref C)) (tCons (tVar j) tNil)))) (Eq z) :=
  ev_lamO hT (fun d e S' E => ev_cm (R := r_oread CR C) (ds := [x]) (ea_cons (ev_var hj) ea_nil) rfl ⟨x, rfl, hx, hl, e.symm⟩) (fun D f d e S' E hw => er_cm (R := r_oread CR C) (ds := [x]) (ea_cons (ev_var hj) ea_nil) rfl ⟨x, rfl, hx, hl, e.symm⟩ hw) hR
theorem ev_strX {m : Nat} (h : Ev K S S1 ρ te (Eq (.int (m : Nat)))) (hm : m < 10 ^ 64) : Ev K S S1 ρ (tCB rStrX (tCons te tNil)) (Eq (.str (numT m))) := ev_cb (ea_cons h ea_nil) (rc_strXI (log_big hm))
theorem ev_rdO {n m : Nat} (h : Ev K S S1 ρ te (Eq (.str t))) (hl : t.length ≤ 100000) (hr : rdRat t = some (n, m)) : Ev K S S1 ρ (ClX.tCMeth C (p_o_read K CR C) E0 (tC (.ref C)) (tCons te tNil)) (Eq (ratL C (n : Nat) (m : Nat))) :=
  ev_cm (R := r_oread CR C) (ds := [.str t]) (ea_cons h ea_nil) rfl ⟨.str t, rfl, .inl rfl, fun b e => by cases e; exact hl, by unfold rdR; dsimp only; rw [hr]⟩
/-- the texts tried, and things that are none -/
theorem so_rr_tail {y4 y5 y6 y7 y9 : Option Dt} {p q : Int} {xs : List Dt} {x1 x2 : Dt} (hc : cs ≠ []) (hn : n + 1 ≤ 1000000) (hx : ∀ x ∈ xs, ∃ t : Str, x = .str t ∧ t.length ≤ 900) :
    So K (DW K a c cs n) (DW K a c cs (n + 1)) [] (h__law_read_right K c.tb CR C) [some (.raw (.ref a)), some x1, some x2, some (rat C p q), y4, y5, y6, y7, some (.lst xs), y9, none] { rt := Eq (.bl true) } := by
  refine so_seqG (S1 := DW K a c cs n) (M := fun ρ' => ∃ y9, ρ' = [some (.raw (.ref a)), some x1, some x2, some (rat C p q), y4, y5, y6, y7, some (.lst xs), y9, none]) (dw_le (by omega)) (so_forL (ev_var rfl) (fun _ ρ' => ∃ y9, ρ' = [some (.raw (.ref a)), some x1, some x2, some (rat C p q), y4, y5, y6, y7, some (.lst xs), y9, none]) ⟨_, rfl⟩ (fun i x ρ' hi hJ => ?_) fun ρ' h => h) fun ρ' hM => ?_
  · obtain ⟨y9, rfl⟩ := hJ
    obtain ⟨t, rfl, ht⟩ := hx x (List.mem_of_getElem? hi)
    refine so_re (ρ' := [some (.raw (.ref a)), some x1, some x2, some (rat C p q), y4, y5, y6, y7, some (.lst xs), some (.str t), none]) rfl ?_
    obtain ⟨ys, ey, hy⟩ := eq_ltd C t
    exact so_if0F ((et_test (ev_op (ev_lamRd (x := .str t) (CR := CR) (C := C) dw_tab rfl (.inl rfl) (fun b e => by cases e; omega) (said_text t)) (ev_callR (R := r_ltx02) (ea_cons (ev_var rfl) ea_nil) rfl ⟨t, rfl, ht, rfl⟩) (by rw [ey]; exact rv_neAL hy))).to rfl) (so_next (Sta.Le.refl _) ⟨_, rfl⟩)
  · obtain ⟨y9, rfl⟩ := hM
    have z1 : (1 : Nat) ≤ sizeLine := by decide
    refine so_set (S1 := DW K a c cs (n + 1)) (ev__law_pick (n := n) (xs := [.non, .int 5, .bl true, .tup [.str "1"], .lst [.str "1"], .dic, rat C p q]) (ea_c (ev_var rfl) (ea_c (ev_lst (ea_c ev_non (ea_c ev_int (ea_c ev_bl (ea_c (ev_tup (ea_c ev_str ea_nil) z1) (ea_c (ev_lst (ea_c ev_str ea_nil) z1) (ea_c ev_dic (ea_c (ev_var rfl) ea_nil))))))) (by show 7 ≤ sizeLine; decide)) ea_nil)) hc (by omega) (by simp) (by show 7 ≤ 100000; decide)) fun d hd => ?_
    refine so_re (ρ' := [some (.raw (.ref a)), some x1, some x2, some (rat C p q), y4, y5, y6, y7, some (.lst xs), y9, some d]) rfl ?_
    have hk : okRt C d ∧ (eqL C 4 d ∨ d = .dic) ∧ rdR CR C d = .er CR "given" d := by
      simp only [List.mem_cons, List.not_mem_nil, or_false] at hd
      have one : ∀ y ∈ ([.str "1"] : List Dt), eqL C 3 y := fun y hy => by
        rw [List.mem_singleton] at hy
        rw [hy]
        exact eqL_str _
      rcases hd with rfl | rfl | rfl | rfl | rfl | rfl | rfl
      · exact ⟨.inl rfl, .inl (.inl (.inl rfl)), rfl⟩
      · exact ⟨.inl rfl, .inl (eqL_int 5), rfl⟩
      · exact ⟨.inl rfl, .inl (.inl (.inr (.inl ⟨true, rfl⟩))), rfl⟩
      · exact ⟨.inl rfl, .inl (.inr (.inl ⟨_, rfl, one⟩)), rfl⟩
      · exact ⟨.inl rfl, .inl (.inr (.inr ⟨_, rfl, one⟩)), rfl⟩
      · exact ⟨.inl rfl, .inr rfl, rfl⟩
      · exact ⟨.inr ⟨p, q, rfl⟩, .inl (.inl (.inr (.inr (.inr (.inr ⟨p, q, rfl⟩))))), rfl⟩
    have hns : ∀ b, d = .str b → b.length ≤ 100000 := fun b e => by
      rw [e] at hd
      simp [rat] at hd
    refine so_retD (ev_op (ev_lamRd (x := d) (z := .lst [.str "ratio", d]) (CR := CR) (C := C) dw_tab rfl hk.1 hns (by rw [hk.2.2]; exact ⟨rfl, rfl, rfl⟩)) (ev_lst (ea_cons ev_str (ea_cons (ev_var rfl) ea_nil)) (by show 2 ≤ sizeLine; decide)) (rv_eqA fun y hy => ?_)) (Sta.Le.refl _) rfl
    simp only [List.mem_cons, List.not_mem_nil, or_false] at hy
    rcases hy with rfl | rfl
    · exact .inl (eqL_str _)
    · exact hk.2.1
end
end Bf
namespace Bf
open PySem PySem.Spec PyProof.Rows L2
/-! ## the law's _law_read_right, from its start -/
section
variable {K : PySem.W.Frag} {S S1 S2 : Sta} {ρ : List (Option Dt)} {te ta tb : TE} {a : Addr} {c : CT} {cs : List Int} {n : Nat} {ds : List Dt} {C CR : Addr} {j : Nat} {x z : Dt} {t : Str}
/-- texts behind texts, of known length -/
theorem ev_addS {x y : Str} (ha : Ev K S S1 ρ ta (Eq (.str x))) (hb : Ev K S1 S2 ρ tb (Eq (.str y))) (h : x.length + y.length ≤ 5000) : Ev K S S2 ρ (tOp rAddSt ta tb) (Eq (.str (x ++ y))) := ev_op ha hb (rv_addSt (Nat.le_trans h (by decide)))
theorem so__law_read_right (hc : cs ≠ []) (hn : n + 4 ≤ 1000000) (hp : preRr ds) : So K (DW K a c cs n) (DW K a c cs (n + 4)) [] (t__law_read_right K c.tb CR C) (startD 11 (.raw (.ref a) :: ds)) { rt := Eq (.bl true) } := by
  obtain ⟨p, q, rfl, hp, q0, hq⟩ := hp
  obtain ⟨g, p', q', g0, ep, eq, cpq, q0', lp, lq, hpq⟩ := low_terms (a := p) q0
  have hp' := Nat.le_of_lt hp
  have lp' : p' ≤ 10 ^ 30 := Nat.le_trans lp hp'
  have lq' : q' ≤ 10 ^ 30 := Nat.le_trans lq hq
  have h64 : ∀ {n : Nat}, n ≤ 10 ^ 30 → n < 10 ^ 64 := fun h => Nat.lt_of_le_of_lt h (by decide)
  have h40 : ∀ {n : Nat}, n ≤ 10 ^ 30 → n < 10 ^ 40 := fun h => Nat.lt_of_le_of_lt h (by decide)
  have hq8 : ((q : Nat) : Int).natAbs < 2 ^ 8000 := by
    rw [Int.natAbs_natCast]
    exact Nat.lt_of_le_of_lt hq (Nat.lt_of_lt_of_le (show 10 ^ 30 < 2 ^ 200 by decide) (Nat.pow_le_pow_right (by decide) (by decide)))
  have sl : ("/" : Str).length = 1 := by decide +kernel
  have len40 : ∀ {m : Nat}, m < 10 ^ 40 → (numT m).length ≤ 40 := fun h => numT_len (by decide) h
  -- the ratio, and by
  refine so_par (S1 := DW K a c cs (n + 1)) (Φl := fun l => ∃ k : Nat, l = [rat C (p' : Nat) (q' : Nat), .int (k : Nat)] ∧ 0 < k ∧ k ≤ 9) (fun σ H i s Q qq => (ea_twoP (S1 := DW K a c cs n) ((ev_mkrat (n := (p : Nat)) (m := (q : Nat)) (ea_cons (ev_var rfl) (ea_cons (ev_var rfl) ea_nil)) (by omega) (by omega) hq8).to (hpq C)) (ev_addP (Θ := fun d => ∃ k : Nat, d = .int (k : Nat) ∧ 0 < k ∧ k ≤ 9) ev_int (ev__law_next (n := n) (m := 9) (ea_cons (ev_var rfl) (ea_cons ev_int ea_nil)) hc (by omega) (by decide) (by decide)) fun y ⟨r, e, r0, r1⟩ => ⟨r, e, (1 + r).toNat, by rw [Int.toNat_of_nonneg (by omega)], by omega, by omega⟩)) σ H i s Q fun vs es H' g i' r h => ?_) (fun l ⟨k, e, _⟩ => e ▸ rfl) fun y z hyz => ?_
  · obtain ⟨x, y, rfl, rfl, k, rfl, k0, k9⟩ := h
    exact qq vs _ H' g i' r ⟨k, rfl, k0, k9⟩
  obtain ⟨k, e, k0, k9⟩ := hyz
  cases e
  let R : List (Option Dt) := [some (.raw (.ref a)), some (.int (p : Nat)), some (.int (q : Nat)), some (rat C (p' : Nat) (q' : Nat)), some (.int (k : Nat)), none, none, none, none, none, none]
  refine so_re (ρ' := R) rfl ?_
  have lw : (numT p').length ≤ 40 := len40 (h40 lp')
  have lv : (numT q').length ≤ 40 := len40 (h40 lq')
  have hso : ∀ {S : Sta}, Ev K S S R (tCB (rStrO C (p_o_str K C)) (tCons (tVar 3) tNil)) (Eq (.str (ratT p' q'))) := ev_strO (ev_var rfl) (h64 lp') (h64 lq')
  have hsn : ∀ {S : Sta}, Ev K S S R (tCB rStrX (tCons (tProp C (getSp C "_num") [] E0 (tVar 3)) tNil)) (Eq (.str (numT p'))) := ev_strX (ev_num (ev_var rfl)) (h64 lp')
  have hsd : ∀ {S : Sta}, Ev K S S R (tCB rStrX (tCons (tProp C (getSp C "_den") [] E0 (tVar 3)) tNil)) (Eq (.str (numT q'))) := ev_strX (ev_den (ev_var rfl)) (h64 lq')
  refine so_ifF ((et_test (ev_op hso (ev_if (Φ := Eq (.str (ratT p' q'))) (et_test (ev_op (ev_den (ev_var rfl)) ev_int rv_eqI)) (fun e => hsn.to ?_) fun e => (ev_addS (ev_addS hsn ev_str (by rw [sl]; omega)) hsd (by rw [lenA, sl]; omega)).to ?_) rv_neS)).to (by simp)) (so_skip ?_)
  · have e : ((q' : Nat) : Int) = 1 := of_decide_eq_true e
    unfold ratT
    rw [if_pos (by omega)]
  · have e : ¬ ((q' : Nat) : Int) = 1 := of_decide_eq_false e
    unfold ratT
    rw [if_neg (by omega)]
  -- read again
  have lt : (ratT p' q').length ≤ 100 := by
    unfold ratT
    split
    · omega
    · rw [lenA, lenA, sl]; omega
  have hpk : p * k < 10 ^ 40 := Nat.lt_of_le_of_lt (Nat.mul_le_mul hp' k9) (by decide)
  have hqk : q * k < 10 ^ 40 := Nat.lt_of_le_of_lt (Nat.mul_le_mul hq k9) (by decide)
  have c1 : CMulW ((p : Nat) : Int) ((k : Nat) : Int) := cmul (by omega) (p30 hp') (by omega) (p30 (Nat.le_trans k9 (by decide)))
  have c2 : CMulW ((q : Nat) : Int) ((k : Nat) : Int) := cmul (by omega) (p30 hq) (by omega) (p30 (Nat.le_trans k9 (by decide)))
  have r1 : ∀ {S : Sta}, Ev K S S R (ClX.tCMeth C (p_o_read K CR C) E0 (tC (.ref C)) (tCons (tCB (rStrO C (p_o_str K C)) (tCons (tVar 3) tNil)) tNil)) (Eq (rat C (p' : Nat) (q' : Nat))) := (ev_rdO hso (by omega) (rd_ratX (h40 lp') q0' (h40 lq'))).to (ratL_cop cpq)
  have hkk : ratL C ((p * k : Nat) : Int) ((q * k : Nat) : Int) = rat C (p' : Nat) (q' : Nat) := by
    rw [Nat.mul_comm p k, Nat.mul_comm q k, ratL_scale k0]
    exact hpq C
  have l40 : (numT (p * k)).length ≤ 40 := len40 hpk
  have l41 : (numT (q * k)).length ≤ 40 := len40 hqk
  have r2 : ∀ {S : Sta}, Ev K S S R (ClX.tCMeth C (p_o_read K CR C) E0 (tC (.ref C)) (tCons (tOp rAddSt (tOp rAddSt (tCB rStrX (tCons (tOp rMulW (tVar 1) (tVar 4)) tNil)) (tC (.str "/"))) (tCB rStrX (tCons (tOp rMulW (tVar 2) (tVar 4)) tNil))) tNil)) (Eq (rat C (p' : Nat) (q' : Nat))) :=
    (ev_rdO (ev_addS (ev_addS (ev_strX (m := p * k) (ev_op (ev_var rfl) (ev_var rfl) (rv_mul c1)) (Nat.lt_trans hpk (by decide))) ev_str (by rw [sl]; omega)) (ev_strX (m := q * k) (ev_op (ev_var rfl) (ev_var rfl) (rv_mul c2)) (Nat.lt_trans hqk (by decide))) (by rw [lenA, sl]; omega)) (by rw [lenA, lenA, sl]; omega) (rd_ratW hpk (Nat.mul_pos q0 k0) hqk)).to hkk
  refine so_ifF (et_orF ((et_test (ev_op r1 (ev_var rfl) (rv_neSame ⟨_, _, rfl⟩))).to rfl) ((et_test (ev_op r2 (ev_var rfl) (rv_neSame ⟨_, _, rfl⟩))).to rfl)) (so_skip ?_)
  -- the wording
  have lp40 : (numT p).length ≤ 40 := len40 (h40 hp')
  have lq40 : (numT q).length ≤ 40 := len40 (h40 hq)
  refine so_setD (d := .str (numT p ++ "/" ++ numT q)) (ev_addS (ev_addS (ev_strX (ev_var rfl) (h64 hp')) ev_str (by rw [sl]; omega)) (ev_strX (ev_var rfl) (h64 hq)) (by rw [lenA, sl]; omega)) ?_
  have lwd : (numT p ++ "/" ++ numT q).length ≤ 81 := by rw [lenA, lenA, sl]; omega
  generalize numT p ++ "/" ++ numT q = wd at lwd ⊢
  have wz : wd.length ≤ sizeLine := Nat.le_trans lwd (by decide)
  refine so_re (ρ' := [some (.raw (.ref a)), some (.int (p : Nat)), some (.int (q : Nat)), some (rat C (p' : Nat) (q' : Nat)), some (.int (k : Nat)), some (.str wd), none, none, none, none, none]) rfl ?_
  refine so_set (S1 := DW K a c cs (n + 2)) (ev__law_next (n := n + 1) (m := (wd.length : Nat) + 1) (ea_cons (ev_var rfl) (ea_cons (ev_op (ev_cb (ea_cons (ev_var rfl) ea_nil) (rc_lenS wz)) ev_int rv_add) ea_nil)) hc (by omega) (by omega) (Nat.lt_of_le_of_lt (show _ ≤ 1000 by omega) (by decide))) fun d hd => ?_
  obtain ⟨at0, rfl, _, _⟩ := hd
  refine so_re (ρ' := [some (.raw (.ref a)), some (.int (p : Nat)), some (.int (q : Nat)), some (rat C (p' : Nat) (q' : Nat)), some (.int (k : Nat)), some (.str wd), some (.int at0), none, none, none, none]) rfl ?_
  refine so_set (S1 := DW K a c cs (n + 3)) (ev__law_pick (n := n + 2) (xs := [.str "0", .str "/", .str "-", .str " ", .str "", .str "1", .str "x", .str "+", .str ".", .str "\n"]) (ea_c (ev_var rfl) (ea_c (ev_lst (ea_c ev_str (ea_c ev_str (ea_c ev_str (ea_c ev_str (ea_c ev_str (ea_c ev_str (ea_c ev_str (ea_c ev_str (ea_c ev_str (ea_c ev_str ea_nil)))))))))) (by show 10 ≤ sizeLine; decide)) ea_nil)) hc (by omega) (by simp) (by show 10 ≤ 100000; decide)) fun d hd => ?_
  obtain ⟨sg, rfl, hsg⟩ := shT_mem (k := 1) (by decide +kernel) hd
  let R7 : List (Option Dt) := [some (.raw (.ref a)), some (.int (p : Nat)), some (.int (q : Nat)), some (rat C (p' : Nat) (q' : Nat)), some (.int (k : Nat)), some (.str wd), some (.int at0), some (.str sg), none, none, none]
  refine so_re (ρ' := R7) rfl ?_
  have cl := cutS_length wd none (some at0)
  have cr := cutS_length wd (some at0) none
  have cr1 := cutS_length wd (some (at0 + 1)) none
  have s1 : ("0" : Str).length = 1 ∧ ("/1" : Str).length = 2 ∧ ("1/0" : Str).length = 3 ∧ ("3/" : Str).length = 2 := by decide +kernel
  have evl : ∀ {S : Sta}, Ev K S S R7 (tSl rSlS (tVar 5) tNoPart (tPart (tVar 6))) (Eq (.str (cutS wd none (some at0)))) := ev_slS (ev_var rfl) eo_none (eo_some (ev_var rfl)) wz
  have evr : ∀ {S : Sta}, Ev K S S R7 (tSl rSlS (tVar 5) (tPart (tVar 6)) tNoPart) (Eq (.str (cutS wd (some at0) none))) := ev_slS (ev_var rfl) (eo_some (ev_var rfl)) eo_none wz
  have evr1 : ∀ {S : Sta}, Ev K S S R7 (tSl rSlS (tVar 5) (tPart (tOp rAddI (tVar 6) (tC (.int 1)))) tNoPart) (Eq (.str (cutS wd (some (at0 + 1)) none))) := ev_slS (ev_var rfl) (eo_some (ev_op (ev_var rfl) ev_int rv_add)) eo_none wz
  refine so_setD (d := .lst [.str (cutS wd none (some at0) ++ sg ++ cutS wd (some at0) none), .str (cutS wd none (some at0) ++ cutS wd (some (at0 + 1)) none), .str ("0" ++ wd), .str (wd ++ "/1"), .str "1/0"]) (ev_lst (ea_cons (ev_addS (ev_addS evl (ev_var rfl) (by omega)) evr (by rw [lenA]; omega)) (ea_cons (ev_addS evl evr1 (by omega)) (ea_cons (ev_addS ev_str (ev_var rfl) (by omega)) (ea_cons (ev_addS (ev_var rfl) ev_str (by omega)) (ea_cons ev_str ea_nil))))) (by show 5 ≤ sizeLine; decide)) ?_
  have o7 : 1 ≤ ("7" : Str).length ∧ ("7" : Str).length ≤ 1000 := by decide +kernel
  have o3 : 1 ≤ ("3" : Str).length ∧ ("3" : Str).length ≤ 1000 := by decide +kernel
  have m7 : ∀ {S : Sta} {ρ : List (Option Dt)}, Ev K S S ρ (tOp rMulS (tC (.str "7")) (tC (.int 41))) (Eq (.str (mulT "7" 41))) := ev_op ev_str ev_int (rv_mulS (k := 41) (by decide) o7)
  have m70 : ∀ {S : Sta} {ρ : List (Option Dt)}, Ev K S S ρ (tOp rMulS (tC (.str "7")) (tC (.int 40))) (Eq (.str (mulT "7" 40))) := ev_op ev_str ev_int (rv_mulS (k := 40) (by decide) o7)
  have m3 : ∀ {S : Sta} {ρ : List (Option Dt)}, Ev K S S ρ (tOp rMulS (tC (.str "3")) (tC (.int 40))) (Eq (.str (mulT "3" 40))) := ev_op ev_str ev_int (rv_mulS (k := 40) (by decide) o3)
  have lm : (mulT "7" 41).length = 41 ∧ (mulT "7" 40).length = 40 ∧ (mulT "3" 40).length = 40 := by decide +kernel
  obtain ⟨lm1, lm2, lm3⟩ := lm
  refine so_re (ρ' := [some (.raw (.ref a)), some (.int (p : Nat)), some (.int (q : Nat)), some (rat C (p' : Nat) (q' : Nat)), some (.int (k : Nat)), some (.str wd), some (.int at0), some (.str sg), some (.lst [.str (cutS wd none (some at0) ++ sg ++ cutS wd (some at0) none), .str (cutS wd none (some at0) ++ cutS wd (some (at0 + 1)) none), .str ("0" ++ wd), .str (wd ++ "/1"), .str "1/0"]), none, none]) rfl ?_
  refine so_setD (d := .lst ([.str (cutS wd none (some at0) ++ sg ++ cutS wd (some at0) none), .str (cutS wd none (some at0) ++ cutS wd (some (at0 + 1)) none), .str ("0" ++ wd), .str (wd ++ "/1"), .str "1/0"] ++ [.str "", .str (mulT "7" 41), .str (mulT "7" 40 ++ "/" ++ mulT "3" 40), .str ("3/" ++ mulT "7" 41), .str "00", .str "0", .str "0/5"])) (ev_op (ev_var rfl) (ev_lst (ea_cons ev_str (ea_cons m7 (ea_cons (ev_addS (ev_addS m70 ev_str (by omega)) m3 (by rw [lenA]; omega)) (ea_cons (ev_addS ev_str m7 (by omega)) (ea_cons ev_str (ea_cons ev_str (ea_cons ev_str ea_nil))))))) (by show 7 ≤ sizeLine; decide)) (rv_catL (by show 12 ≤ sizeLine; decide))) ?_
  refine so_re (ρ' := [some (.raw (.ref a)), some (.int (p : Nat)), some (.int (q : Nat)), some (rat C (p' : Nat) (q' : Nat)), some (.int (k : Nat)), some (.str wd), some (.int at0), some (.str sg), some (.lst ([.str (cutS wd none (some at0) ++ sg ++ cutS wd (some at0) none), .str (cutS wd none (some at0) ++ cutS wd (some (at0 + 1)) none), .str ("0" ++ wd), .str (wd ++ "/1"), .str "1/0"] ++ [.str "", .str (mulT "7" 41), .str (mulT "7" 40 ++ "/" ++ mulT "3" 40), .str ("3/" ++ mulT "7" 41), .str "00", .str "0", .str "0/5"])), none, none]) rfl ?_
  refine so_rr_tail (n := n + 3) hc (by omega) fun x hx => ?_
  have k3 : ("" : Str).length = 0 ∧ ("00" : Str).length = 2 ∧ ("0/5" : Str).length = 3 := by decide +kernel
  simp only [List.cons_append, List.nil_append, List.mem_cons, List.not_mem_nil, or_false] at hx
  rcases hx with rfl | rfl | rfl | rfl | rfl | rfl | rfl | rfl | rfl | rfl | rfl | rfl
  · exact ⟨_, rfl, by rw [lenA, lenA]; omega⟩
  · exact ⟨_, rfl, by rw [lenA]; omega⟩
  · exact ⟨_, rfl, by rw [lenA]; omega⟩
  · exact ⟨_, rfl, by rw [lenA]; omega⟩
  · exact ⟨_, rfl, by omega⟩
  · exact ⟨_, rfl, by omega⟩
  · exact ⟨_, rfl, by omega⟩
  · exact ⟨_, rfl, by rw [lenA, lenA]; omega⟩
  · exact ⟨_, rfl, by rw [lenA]; omega⟩
  · exact ⟨_, rfl, by omega⟩
  · exact ⟨_, rfl, by omega⟩
  · exact ⟨_, rfl, by omega⟩
end
end Bf
namespace Bf
open PySem PySem.Spec PyProof.Rows L2
/-! ## Small data may be compared and shown -/
mutual
/-- n deep, at most four things each, ints below 10^12, texts of at most 40 signs -/
def ge : Nat → Dt → Bool
  | _, .non => true
  | _, .bl _ => true
  | _, .int i => decide (i.natAbs < 10 ^ 40)
  | _, .str x => x.cps.all (· < 0x110000) && decide (x.cps.size ≤ 40)
  | n + 1, .lst xs => geA n xs && decide (xs.length ≤ 4)
  | n + 1, .tup xs => geA n xs && decide (xs.length ≤ 4)
  | _, _ => false
def geA : Nat → List Dt → Bool
  | _, [] => true
  | n, x :: xs => ge n x && geA n xs
end
def wE : Nat → Nat
  | 0 => 200
  | n + 1 => 4 * (wE n + 1)
theorem wE_ge : ∀ n, 200 ≤ wE n
  | 0 => Nat.le_refl _
  | n + 1 => by have := wE_ge n; simp only [wE]; omega
structure GeW (n : Nat) (d : Dt) : Prop where
  p : pur d = true
  c : (py d).canLay0 = true
  t : (py d).depth ≤ n
  i : (py d).intsShort 42 = true
  s : (py d).showable = true
  w : (py d).weight ≤ wE n
structure GeWA (n m : Nat) (xs : List Dt) : Prop where
  p : purA xs = true
  c : PyData.canLayAll0 (pyA xs) = true
  t : PyData.depthAll (pyA xs) ≤ n
  i : PyData.intsShortAll 42 (pyA xs) = true
  s : PyData.showableAll (pyA xs) = true
  w : PyData.weightAll (pyA xs) ≤ m * (wE n + 1)
theorem log_ltE {i : Int} (h : i.natAbs < 10 ^ 40) : i.natAbs.log2 < 140 := by
  by_cases h0 : i.natAbs = 0
  · rw [h0]; decide
  · exact (Nat.log2_lt h0).mpr (Nat.lt_of_lt_of_le h (by decide))
mutual
theorem ge_w : ∀ (n : Nat) (d : Dt), ge n d = true → GeW n d
  | n, .non, _ => ⟨rfl, rfl, Nat.zero_le _, rfl, rfl, Nat.zero_le _⟩
  | n, .bl b, _ => ⟨rfl, rfl, Nat.zero_le _, rfl, rfl, Nat.zero_le _⟩
  | n, .int i, h => by
    have h : i.natAbs < 10 ^ 40 := by simpa [ge] using h
    have hl := log_ltE h
    refine ⟨rfl, rfl, Nat.zero_le _, ?_, ?_, ?_⟩
    · unfold py
      simp only [PyData.intsShort, decide_eq_true_eq]
      have e := int_text_length_le10 (k := 40) (by decide) h
      show (Str.ofString (toString i)).length ≤ 42
      rw [PySem.ofString_length]
      omega
    · unfold py
      simp only [PyData.showable, decide_eq_true_eq]
      omega
    · unfold py
      simp only [PyData.weight]
      have := wE_ge n
      split <;> omega
  | n, .str x, h => by
    have h : x.cps.all (· < 0x110000) = true ∧ x.cps.size ≤ 40 := by simpa only [ge, Bool.and_eq_true, decide_eq_true_eq] using h
    refine ⟨rfl, ?_, Nat.zero_le _, rfl, rfl, ?_⟩
    · unfold py
      simp only [PyData.canLay0, PyData.strOk]
      exact h.1
    · unfold py
      simp only [PyData.weight]
      have := wE_ge n
      omega
  | n + 1, .lst xs, h => by
    simp only [ge, Bool.and_eq_true, decide_eq_true_eq] at h
    have g := geA_w n xs h.1
    refine ⟨by unfold pur; exact g.p, by unfold py; simp only [PyData.canLay0]; exact g.c, by unfold py; simp only [PyData.depth]; have := g.t; omega, by unfold py; simp only [PyData.intsShort]; exact g.i, by unfold py; simp only [PyData.showable]; exact g.s, ?_⟩
    unfold py
    simp only [PyData.weight, wE]
    exact Nat.le_trans g.w (Nat.mul_le_mul_right _ h.2)
  | n + 1, .tup xs, h => by
    simp only [ge, Bool.and_eq_true, decide_eq_true_eq] at h
    have g := geA_w n xs h.1
    refine ⟨by unfold pur; exact g.p, by unfold py; simp only [PyData.canLay0]; exact g.c, by unfold py; simp only [PyData.depth]; have := g.t; omega, by unfold py; simp only [PyData.intsShort]; exact g.i, by unfold py; simp only [PyData.showable]; exact g.s, ?_⟩
    unfold py
    simp only [PyData.weight, wE]
    exact Nat.le_trans g.w (Nat.mul_le_mul_right _ h.2)
  | 0, .lst xs, h => by simp [ge] at h
  | 0, .tup xs, h => by simp [ge] at h
  | n, .dic, h => by simp [ge] at h
  | n, .ins _ _ _, h => by simp [ge] at h
  | n, .raw _, h => by simp [ge] at h
  | n, .lat _ _, h => by simp [ge] at h
theorem geA_w : ∀ (n : Nat) (xs : List Dt), geA n xs = true → GeWA n xs.length xs
  | n, [], _ => ⟨rfl, rfl, Nat.zero_le _, rfl, rfl, Nat.zero_le _⟩
  | n, x :: xs, h => by
    simp only [geA, Bool.and_eq_true] at h
    have g := ge_w n x h.1
    have r := geA_w n xs h.2
    refine ⟨by unfold purA; rw [g.p, r.p]; rfl, by unfold pyA; simp only [PyData.canLayAll0]; rw [g.c, r.c]; rfl, by unfold pyA; simp only [PyData.depthAll]; exact Nat.max_le.mpr ⟨g.t, r.t⟩, by unfold pyA; simp only [PyData.intsShortAll]; rw [g.i, r.i]; rfl, by unfold pyA; simp only [PyData.showableAll]; rw [g.s, r.s]; rfl, ?_⟩
    unfold pyA
    simp only [PyData.weightAll, List.length_cons]
    have h1 := g.w
    have h2 := r.w
    rw [Nat.add_mul]
    omega
end
theorem ge_cmp {n : Nat} {d : Dt} (h : ge n d = true) (hn : n ≤ 64) : cmpOk d = true := by
  have g := ge_w n d h
  simp only [cmpOk, SeqAt.shaped, Bool.and_eq_true, decide_eq_true_eq]
  exact ⟨g.p, g.c, Nat.le_trans g.t hn⟩
theorem ge_shw {d : Dt} (h : ge 4 d = true) : shwOk d := by
  have g := ge_w 4 d h
  refine ⟨ge_cmp h (by decide), g.s, ?_⟩
  have h1 := PyData.shown_le 42 (by decide) _ (PyData.leavesShort_of_canLay0 42 _ g.c g.i)
  have h2 := g.w
  have h3 : wE 4 = 51540 := by decide
  rw [h3] at h2
  have h4 : (42 + 2) * (py d).weight ≤ 44 * 51540 := Nat.mul_le_mul (by omega) h2
  exact Nat.le_trans (show _ ≤ 3000000 by omega) (by decide)
theorem ge_pair {x y : Dt} (hx : ge 1 x = true) (hy : ge 1 y = true) : ge 3 (.lst [.str "ratio", .tup [x, y]]) = true := by
  have h1 : ge 2 (.str "ratio") = true := by decide +kernel
  have h2 : ge 2 (.tup [x, y]) = true := by
    show (ge 1 x && (ge 1 y && true) && decide (2 ≤ 4)) = true
    rw [hx, hy]
    rfl
  show (ge 2 (.str "ratio") && (ge 2 (.tup [x, y]) && true) && decide (2 ≤ 4)) = true
  rw [h1, h2]
  rfl
theorem ge_two {x y : Dt} (hx : ge 3 x = true) (hy : ge 3 y = true) : ge 4 (.lst [x, y]) = true := by
  show (ge 3 x && (ge 3 y && true) && decide (2 ≤ 4)) = true
  rw [hx, hy]
  rfl
theorem ge_int {n : Nat} {i : Int} (h : i.natAbs < 10 ^ 40) : ge n (.int i) = true := by
  unfold ge
  exact decide_eq_true h
end Bf
namespace Bf
open PySem PySem.Spec PyProof.Rows L2
/-! ## The law of ratios -/
abbrev p_law02 (cs : List (Addr × Addr)) (K : PySem.W.Frag) : Sp := spLawT cs K
abbrev e_law02 (K : PySem.W.Frag) (TL : List (Addr × Str)) (CR C : Addr) : TS := (tSeq (tAsg (tCall (p__law_pick K) [] E0 (tCons (tVar 1) (tCons (tLst (tCons (tUn rNegI (tC (.int 1))) (tCons (tC .non) (tCons (tC (.bl true)) (tCons (tC (.str "1")) (tCons (tTup (tCons (tC (.int 1)) tNil)) (tCons (tOp rSubI (tC (.int 0)) (tVar 4)) tNil))))))) tNil))) (gName 8))
    (tSeq (tAsg (tLst (tCons (LamX.tLam TL (TTs K (RS2 CR C)) (fun E => (tMake C (spRIX K CR C) [] E (tCons (tVar 8) (tCons (tVar 4) tNil))))) tNil)) (gName 9))
    (tSeq (tDrop (tBM K "list" rAppend (tVar 9) (tCons (LamX.tLam TL (TTs K (RS2 CR C)) (fun E => (tMake C (spRIX K CR C) [] E (tCons (tVar 3) (tCons (tVar 8) tNil))))) tNil)))
    (tSeq (tIfS (tTest (tOp rNe (tCB (rReprX K) (tCons (tVar 9) tNil)) (tCB (rReprX K) (tCons (tLst (tCons (tLst (tCons (tC (.str "ratio")) (tCons (tTup (tCons (tVar 8) (tCons (tVar 4) tNil))) tNil))) (tCons (tLst (tCons (tC (.str "ratio")) (tCons (tTup (tCons (tVar 3) (tCons (tVar 8) tNil))) tNil))) tNil))) tNil)))) (tRet (tC (.bl false))) tNext)
    (tIfS (tTest (tOp (rNeD K) (LamX.tLam TL (TTs K (RS2 CR C)) (fun E => (tMake C (spRIX K CR C) [] E (tCons (tVar 3) (tCons (tC (.int 0)) tNil))))) (tLst (tCons (tC (.str "ratio")) (tCons (tTup (tCons (tVar 3) (tCons (tC (.int 0)) tNil))) tNil))))) (tRet (tC (.bl false))) tNext)))))
abbrev u_law02 (K : PySem.W.Frag) (TL : List (Addr × Str)) (CR C : Addr) : TS := (tSeq (tAsg (tTup (tCons (tCall (p__law_number02 K) [] E0 (tCons (tVar 1) tNil)) (tCons (tOp rAddI (tC (.int 1)) (tCall (p__law_number02 K) [] E0 (tCons (tVar 1) tNil))) tNil))) (gTup K 2 (gCons (gName 3) (gCons (gName 4) gNil))))
    (tSeq (tPar 5 6 (tCons (tCall (p__law_number02 K) [] E0 (tCons (tVar 1) tNil)) (tCons (tOp rAddI (tC (.int 1)) (tCall (p__law_number02 K) [] E0 (tCons (tVar 1) tNil))) tNil)))
    (tSeq (tAsg (tCall (p__law_common K) [] E0 (tCons (tVar 3) (tCons (tVar 4) tNil))) (gName 7))
    (tSeq (tIfS (tTest (tOp (rNeD K) (LamX.tLam TL (TTs K (RS2 CR C)) (fun E => (tMakeK C 2 (spRIX K CR C) (fun vs zs => vs ++ zs.reverse) E (tCons (tVar 4) (tCons (tVar 3) tNil))))) (tLst (tCons (tOp rDivW (tVar 3) (tVar 7)) (tCons (tOp rDivW (tVar 4) (tVar 7)) tNil))))) (tRet (tC (.bl false))) tNext)
    (tSeq (tIfS (tTest (tOp (rNeD K) (LamX.tLam TL (TTs K (RS2 CR C)) (fun E => (tMake C (spRIX K CR C) [.int 1] E (tCons (tVar 3) tNil)))) (tLst (tCons (tVar 3) (tCons (tC (.int 1)) tNil))))) (tRet (tC (.bl false))) tNext)
    (tSeq (tIfS (tOr (tNot (tB (tCall (p__law_read_right K TL) [] E0 (tCons (tVar 1) (tCons (tVar 3) (tCons (tVar 4) tNil)))))) (tNot (tB (tCall (p__law_order_right K) [] E0 (tCons (tVar 3) (tCons (tVar 4) (tCons (tVar 5) (tCons (tVar 6) tNil)))))))) (tRet (tC (.bl false))) tNext)
    (e_law02 K TL CR C)))))))
abbrev r_law02 (K : PySem.W.Frag) (TL : List (Addr × Str)) (CR C : Addr) : TS := (tSeq (tFor (iRng1 (tCons (tC (.int 6)) tNil)) (gName 2) (u_law02 K TL CR C))
    (tRet (tC (.bl true))))
abbrev t_law02 (K : PySem.W.Frag) (TL : List (Addr × Str)) (CR C : Addr) : TS := (tSeq (tAsg (tCall (spBT K) [] E0 (tCons (tVar 0) tNil)) (gName 1)) (r_law02 K TL CR C))
section
variable {K : PySem.W.Frag} {S S1 SB SF : Sta} {L : List Addr} {ρ : List (Option Dt)} {P : Po} {te : TE} {ta : TA} {w : TS} {xs ys : List Dt} {j : Nat}
/-- x = [..]; x.append(a list of another length) -/
theorem so_newAppL (hmu : S.Mu) (hj : j < ρ.length) (ha : EvA K S S ρ ta (Eq xs)) (hz : xs.length < 100000) (he : ∀ p, Ev K S S (ρ.set j (some (.lat p xs))) te (Eq (.lst ys))) (hne : ys.length ≠ xs.length) (hd : nolA ys = true) (q : ∀ p, Sg K S SB SF L w (ρ.set j (some (.lat p (xs ++ [.lst ys])))) P) :
    Sg K S SB SF L (tSeq (tAsg (tLst ta) (gName j)) (tSeq (tDrop (tBM K "list" rAppend (tVar j) (tCons te tNil))) w)) ρ P := fun D σ B H b i s f => by
  refine ha σ H i s _ fun vs ds H1 g1 i1 r1 e => ?_
  subst e
  have hl := r1.len
  have hsz : (100000 : Nat) ≤ sizeLine := by decide
  refine ⟨by omega, fun p hp => ?_⟩
  have sm : Same H1 (upd H1 p (.lst vs)) := same_new hp
  have s2 := ((s.mono g1).mono sm.gr).set (v := .ref p) (.lat upd_same (r1.mono sm.gr)) j
  have hjs : (σ.set j (some (V.ref p)))[j]? = some (some (V.ref p)) := List.getElem?_set_self (by rw [s.len]; exact hj)
  refine ⟨.ref p, hjs, .inl ⟨rfl, _, SqL.of upd_same⟩, ?_⟩
  refine he p _ _ (S.st i1 sm) s2 _ fun v d H3 g3 i3 r3 e => ?_
  subst e
  obtain ⟨q', us, rfl, hq, ra⟩ := r3.lstI
  have hp3 : H3 p = some (.lst vs) := g3 _ _ upd_same rfl
  refine ⟨p, vs, .ref q', rfl, rfl, hp3, by omega, ?_⟩
  have ne : ∀ a o, H1 a = some o → a ≠ p := fun a o e z => by rw [z, hp] at e; cases e
  have g13 := sm.gr.trans g3
  have g14 : Gr H1 (upd H3 p (.lst (vs ++ [.ref q']))) := fun a o e dd => by
    rw [upd_ne (ne a o e)]
    exact g13 _ _ e dd
  have hsq : SqL K (upd H3 p (.lst (vs ++ [.ref q']))) q' us := by
    rcases hq with (hq | ⟨o, hq⟩) | hq
    · have : q' ≠ p := fun z => by
        rw [z, hp3] at hq
        cases hq
        have := ra.len
        omega
      exact .inl (.inl (by rw [upd_ne this]; exact hq))
    · have : q' ≠ p := fun z => by
        rw [z, hp3] at hq
        cases hq
      exact .inl (.inr ⟨o, by rw [upd_ne this]; exact hq⟩)
    · exact .inr hq
  have rl : Rep K (upd H3 p (.lst (vs ++ [.ref q']))) (.ref q') (.lst ys) := .lst hsq (ra.off hp3 hd)
  have s4 := ((s.mono g1).mono g14).set (v := .ref p) (.lat upd_same ((r1.mono g14).app (.cons rl .nil))) j
  exact q p D _ B _ (b.up (g1.trans g14)) (hmu i1 g13 hp hp3 i3) s4 f
end
theorem said_mk {CR C : Addr} {d e : Dt} (h : rightR d e = false) : RS2 CR C (mkO CR C d e) (.lst [.str "ratio", .tup [d, e]]) := by
  have : mkO CR C d e = .er CR "given" (.tup [d, e]) := by
    cases hm : mkO CR C d e with
    | ok z =>
      obtain ⟨n, m, rfl, rfl, h0, h1, _⟩ := mkO_ok hm
      have : rightR (.int n) (.int m) = true := by
        show (decide (0 ≤ n) && decide (1 ≤ m)) = true
        rw [decide_eq_true h0, decide_eq_true h1]
        rfl
      rw [h] at this
      cases this
    | er D f z =>
      obtain ⟨_, rfl, rfl, rfl⟩ := mkO_er hm
      rfl
  rw [this]
  exact ⟨rfl, rfl, rfl⟩
theorem said_mkOk {CR C : Addr} {n m : Nat} (h : 0 < m) : RS2 CR C (mkO CR C (.int (n : Nat)) (.int (m : Nat))) (.lst [.int ((n / Nat.gcd n m : Nat) : Int), .int ((m / Nat.gcd n m : Nat) : Int)]) := by
  have : mkO CR C (.int (n : Nat)) (.int (m : Nat)) = .ok (ratL C (n : Nat) (m : Nat)) := if_pos ⟨by omega, by omega⟩
  rw [this]
  exact ⟨_, _, ratL_nat C n m, rfl⟩
section
variable {K : PySem.W.Frag} {S S1 S2 : Sta} {ρ : List (Option Dt)} {te ta tb : TE} {a : Addr} {c : CT} {cs : List Int} {n : Nat} {C CR : Addr} {d e z : Dt} {i j : Nat} {T : List (Addr × Str)}
/-- what is said of Ratio(..) -/
theorem ev_lamM2 (hT : TabS S T) (h1 : ∀ S' : Sta, Ev K S' S' ρ ta (Eq d)) (h2 : ∀ S' : Sta, Ev K S' S' ρ tb (Eq e)) (hk : mkOk d e) (hR : RS2 CR C (mkO CR C d e) z) : Ev K S S ρ (LamX.tLam T (TTs K (RS2 CR C)) (fun E => (tMake C (spRIX K CR C) [] E (tCons ta (tCons tb tNil))))) (Eq z) :=
  ev_lamO hT (fun d e S' E => ev_mkX2 (ea_cons (h1 S') (ea_cons (h2 S') ea_nil)) hk e) (fun D f d e S' E hw => er_mkX2 (ea_cons (h1 S') (ea_cons (h2 S') ea_nil)) hk e hw) hR
theorem ev_lamM1 (hT : TabS S T) (h1 : ∀ S' : Sta, Ev K S' S' ρ ta (Eq d)) (hk : mkOk d (.int 1)) (hR : RS2 CR C (mkO CR C d (.int 1)) z) : Ev K S S ρ (LamX.tLam T (TTs K (RS2 CR C)) (fun E => (tMake C (spRIX K CR C) [.int 1] E (tCons ta tNil)))) (Eq z) :=
  ev_lamO hT (fun d e S' E => ev_mkX1 (ea_cons (h1 S') ea_nil) hk e) (fun D f d e S' E hw => er_mkX1 (ea_cons (h1 S') ea_nil) hk e hw) hR
theorem ev_lamMk {p q : Nat} (hT : TabS S T) (h1 : ∀ S' : Sta, Ev K S' S' ρ ta (Eq (.int (q : Nat)))) (h2 : ∀ S' : Sta, Ev K S' S' ρ tb (Eq (.int (p : Nat)))) (h0 : 0 < q) (hb : ((q : Nat) : Int).natAbs < 2 ^ 8000) (hR : RS2 CR C (mkO CR C (.int (p : Nat)) (.int (q : Nat))) z) : Ev K S S ρ (LamX.tLam T (TTs K (RS2 CR C)) (fun E => (tMakeK C 2 (spRIX K CR C) (fun vs zs => vs ++ zs.reverse) E (tCons ta (tCons tb tNil))))) (Eq z) := by
  have hk : mkOk (.int (p : Nat)) (.int (q : Nat)) := ⟨rfl, rfl, fun m e => by cases e; exact hb⟩
  have hm : mkO CR C (.int (p : Nat)) (.int (q : Nat)) = .ok (ratL C (p : Nat) (q : Nat)) := if_pos ⟨by omega, by omega⟩
  refine ev_lamO hT (fun d e S' E => ev_mkXk (ea_cons (h1 S') (ea_cons (h2 S') ea_nil)) hk e) (fun D f d e => ?_) hR
  rw [hm] at e
  cases e
theorem cdvS {m : Nat} {x : Int} (h : 0 < m) (h2 : m ≤ 10 ^ 30) : CDivW x ((m : Nat) : Int) := cdv h (Nat.lt_of_le_of_lt h2 (by decide))
theorem nat8 {n : Nat} (hn : n ≤ 10 ^ 30) : ((n : Nat) : Int).natAbs < 2 ^ 8000 := by
  rw [Int.natAbs_natCast]
  exact Nat.lt_of_le_of_lt hn (Nat.lt_of_lt_of_le (show 10 ^ 30 < 2 ^ 200 by decide) (Nat.pow_le_pow_right (by decide) (by decide)))
/-- numbers that may not stand there -/
def oddN (q : Nat) (d : Dt) : Prop := d = .int (-1) ∨ d = .non ∨ d = .bl true ∨ d = .str "1" ∨ d = .tup [.int 1] ∨ d = .int (0 - (q : Nat))
theorem so_law02_tail {x0 y2 y5 y6 y7 y8 y9 : Option Dt} {p q : Nat} (hc : cs ≠ []) (hn : n + 1 ≤ 1000000) (hp : p < 10 ^ 30) (q0 : 0 < q) (hq : q ≤ 10 ^ 30) (P : Po) (hP : ∀ y8 y9, P.nx [x0, some (.raw (.ref a)), y2, some (.int (p : Nat)), some (.int (q : Nat)), y5, y6, y7, y8, y9]) :
    So K (DW K a c cs n) (DW K a c cs (n + 1)) [] (e_law02 K c.tb CR C) [x0, some (.raw (.ref a)), y2, some (.int (p : Nat)), some (.int (q : Nat)), y5, y6, y7, y8, y9] P := by
  have z1 : (1 : Nat) ≤ sizeLine := by decide
  have z2 : (2 : Nat) ≤ sizeLine := by decide
  refine so_set (S1 := DW K a c cs (n + 1)) (ev__law_pick (n := n) (xs := [.int (-1), .non, .bl true, .str "1", .tup [.int 1], .int (0 - (q : Nat))]) (ea_c (ev_var rfl) (ea_c (ev_lst (ea_c (ev_neg ev_int) (ea_c ev_non (ea_c ev_bl (ea_c ev_str (ea_c (ev_tup (ea_c ev_int ea_nil) z1) (ea_c (ev_op ev_int (ev_var rfl) rv_sub) ea_nil)))))) (by show 6 ≤ sizeLine; decide)) ea_nil)) hc (by omega) (by simp) (by show 6 ≤ 100000; decide)) fun d hd => ?_
  have hod : oddN q d := by simpa [oddN] using hd
  have h1 : rightR d (.int (q : Nat)) = false ∧ rightR (.int (p : Nat)) d = false ∧ okN d = true ∨ d = .tup [.int 1] := by
    rcases hod with rfl | rfl | rfl | rfl | rfl | rfl
    · exact .inl ⟨rfl, by show (decide (0 ≤ (p : Int)) && false) = false; rw [Bool.and_false], rfl⟩
    · exact .inl ⟨rfl, rfl, rfl⟩
    · exact .inl ⟨rfl, rfl, rfl⟩
    · exact .inl ⟨rfl, rfl, rfl⟩
    · exact .inr rfl
    · refine .inl ⟨?_, ?_, rfl⟩
      · show (decide ((0 : Int) ≤ 0 - (q : Nat)) && _) = false
        rw [decide_eq_false (by omega), Bool.false_and]
      · show (decide ((0 : Int) ≤ (p : Int)) && decide ((1 : Int) ≤ 0 - (q : Nat))) = false
        rw [decide_eq_false (show ¬ (1 : Int) ≤ 0 - (q : Nat) by omega), Bool.and_false]
  have r1 : rightR d (.int (q : Nat)) = false := by rcases h1 with h | rfl <;> first | exact h.1 | rfl
  have r2 : rightR (.int (p : Nat)) d = false := by rcases h1 with h | rfl <;> first | exact h.2.1 | rfl
  have hok : okN d = true := by rcases h1 with h | rfl <;> first | exact h.2.2 | rfl
  have hnol : nol d = true := by rcases hod with rfl | rfl | rfl | rfl | rfl | rfl <;> rfl
  have hb : ∀ m, d = .int m → m.natAbs < 2 ^ 8000 := fun m e => by
    have : m.natAbs ≤ 10 ^ 30 := by
      rcases hod with rfl | rfl | rfl | rfl | rfl | rfl
      · cases e; decide
      · cases e
      · cases e
      · cases e
      · cases e
      · cases e; omega
    exact Nat.lt_of_le_of_lt this (Nat.lt_of_lt_of_le (show 10 ^ 30 < 2 ^ 200 by decide) (Nat.pow_le_pow_right (by decide) (by decide)))
  have k1 : mkOk d (.int (q : Nat)) := ⟨hok, rfl, fun m e => by cases e; exact nat8 hq⟩
  have k2 : mkOk (.int (p : Nat)) d := ⟨rfl, hok, hb⟩
  have gq : ge 1 (.int (q : Nat)) = true := ge_int (Nat.lt_of_le_of_lt (show ((q : Nat) : Int).natAbs ≤ 10 ^ 30 by omega) (by decide))
  have gp : ge 1 (.int (p : Nat)) = true := ge_int (Nat.lt_of_lt_of_le (show ((p : Nat) : Int).natAbs < 10 ^ 30 by omega) (by decide))
  have g1 : ge 1 d = true := by
    rcases hod with rfl | rfl | rfl | rfl | rfl | rfl
    · exact ge_int (by decide)
    · rfl
    · rfl
    · decide +kernel
    · decide +kernel
    · exact ge_int (Nat.lt_of_le_of_lt (show (0 - (q : Int)).natAbs ≤ 10 ^ 30 by omega) (by decide))
  let R : List (Option Dt) := [x0, some (.raw (.ref a)), y2, some (.int (p : Nat)), some (.int (q : Nat)), y5, y6, y7, some d, y9]
  refine so_re (ρ' := R) rfl ?_
  refine so_newAppL (S := DW K a c cs (n + 1)) (ρ := R) (j := 9) (xs := [.lst [.str "ratio", .tup [d, .int (q : Nat)]]]) (ys := [.str "ratio", .tup [.int (p : Nat), d]]) dw_mu (by show 9 < 10; decide) (ea_cons (ev_lamM2 dw_tab (fun _ => ev_var rfl) (fun _ => ev_var rfl) k1 (said_mk r1)) ea_nil) (by show 1 < 100000; decide) (fun p' => ev_lamM2 dw_tab (fun _ => ev_var rfl) (fun _ => ev_var rfl) k2 (said_mk r2)) (by simp) (by simp [nolA, nol, hnol]) fun pp => ?_
  have two : ∀ {S : Sta} {ρ : List (Option Dt)} {u v : TE} {x y : Dt}, Ev K S S ρ u (Eq x) → Ev K S S ρ v (Eq y) → Ev K S S ρ (tLst (tCons (tC (.str "ratio")) (tCons (tTup (tCons u (tCons v tNil))) tNil))) (Eq (.lst [.str "ratio", .tup [x, y]])) := fun h1 h2 => ev_lst (ea_cons ev_str (ea_cons (ev_tup (ea_cons h1 (ea_cons h2 ea_nil)) z2) ea_nil)) z2
  have shw : shwOk (.lst [.lst [.str "ratio", .tup [d, .int (q : Nat)]], .lst [.str "ratio", .tup [.int (p : Nat), d]]]) := ge_shw (ge_two (ge_pair g1 gq) (ge_pair gp g1))
  refine so_re (ρ' := [x0, some (.raw (.ref a)), y2, some (.int (p : Nat)), some (.int (q : Nat)), y5, y6, y7, some d, some (.lat pp [.lst [.str "ratio", .tup [d, .int (q : Nat)]], .lst [.str "ratio", .tup [.int (p : Nat), d]]])]) rfl ?_
  refine so_ifF ((et_test (ev_op (ev_cb (ea_cons (ev_lat (ev_var rfl)) ea_nil) (rc_reprX shw)) (ev_cb (ea_cons (ev_lst (ea_cons (two (ev_var rfl) (ev_var rfl)) (ea_cons (two (ev_var rfl) (ev_var rfl)) ea_nil)) z2) ea_nil) (rc_reprX shw)) rv_neS)).to (by simp)) (so_skip ?_)
  have k3 : mkOk (.int (p : Nat)) (.int 0) := ⟨rfl, rfl, fun m e => by cases e; decide⟩
  have r3 : rightR (.int (p : Nat)) (.int 0) = false := by
    show (decide ((0 : Int) ≤ (p : Int)) && decide ((1 : Int) ≤ 0)) = false
    rw [decide_eq_false (show ¬ (1 : Int) ≤ 0 by decide), Bool.and_false]
  have c3 : cmpOk (.lst [.str "ratio", .tup [.int (p : Nat), .int 0]]) = true := ge_cmp (ge_pair gp (ge_int (by decide))) (by decide)
  exact so_if0F ((et_test (ev_op (ev_lamM2 dw_tab (fun _ => ev_var rfl) (fun _ => ev_int) k3 (said_mk r3)) (two (ev_var rfl) ev_int) (rv_neD c3 c3))).to (by rw [cmp_refl c3]; rfl)) (so_next (Sta.Le.refl _) (hP _ _))
theorem so_turn02 {x0 y2 y3 y4 y5 y6 y7 y8 y9 : Option Dt} (hc : cs ≠ []) (hn : n + 21 ≤ 1000000) (P : Po) (hP : ∀ y3 y4 y5 y6 y7 y8 y9, P.nx [x0, some (.raw (.ref a)), y2, y3, y4, y5, y6, y7, y8, y9]) :
    So K (DW K a c cs n) (DW K a c cs (n + 21)) [] (u_law02 K c.tb CR C) [x0, some (.raw (.ref a)), y2, y3, y4, y5, y6, y7, y8, y9] P := by
  have z2 : (2 : Nat) ≤ sizeLine := by decide
  have nat : ∀ {x : Dt}, nnD x → ∃ p : Nat, x = .int (p : Nat) ∧ p < 10 ^ 30 := fun ⟨r, e, h0, h1⟩ => ⟨r.toNat, by rw [Int.toNat_of_nonneg h0]; exact e, by omega⟩
  have one : ∀ {m : Nat} {ρ : List (Option Dt)}, m + 4 ≤ 1000000 → ρ[1]? = some (some (.raw (.ref a))) → Ev K (DW K a c cs m) (DW K a c cs (m + 4)) ρ (tOp rAddI (tC (.int 1)) (tCall (p__law_number02 K) [] E0 (tCons (tVar 1) tNil))) (fun d => ∃ q : Nat, d = .int (q : Nat) ∧ 0 < q ∧ q ≤ 10 ^ 30) := fun {m ρ} hm h1 =>
    ev_addP (Θ := fun d => ∃ q : Nat, d = .int (q : Nat) ∧ 0 < q ∧ q ≤ 10 ^ 30) ev_int (ev__law_number02 (n := m) (ev_var h1) hc hm) fun y ⟨r, e, r0, r1⟩ => ⟨r, e, (1 + r).toNat, by rw [Int.toNat_of_nonneg (by omega)], by omega, by omega⟩
  refine so_unpP (is := [3, 4]) (S1 := DW K a c cs (n + 8)) (Φ := fun d => ∃ p q : Nat, d = .tup [.int (p : Nat), .int (q : Nat)] ∧ p < 10 ^ 30 ∧ 0 < q ∧ q ≤ 10 ^ 30) ((ev_tupP (ea_twoP (S1 := DW K a c cs (n + 4)) (ev__law_number02 (n := n) (ev_var rfl) hc (by omega)) (one (m := n + 4) (by omega) rfl)) fun ds h => ?_).weak fun d h => ?_) rfl (fun d h => ?_) fun xs h => ?_
  · obtain ⟨x, y, rfl, _⟩ := h
    exact z2
  · obtain ⟨ds, rfl, x, y, rfl, hx, q, rfl, q0, q1⟩ := h
    obtain ⟨p, rfl, hp⟩ := nat hx
    exact ⟨p, q, rfl, hp, q0, q1⟩
  · obtain ⟨p, q, rfl, _⟩ := h
    exact ⟨_, rfl, rfl, rfl⟩
  obtain ⟨p, q, e, hp, q0, hq⟩ := h
  cases e
  refine so_re (ρ' := [x0, some (.raw (.ref a)), y2, some (.int (p : Nat)), some (.int (q : Nat)), y5, y6, y7, y8, y9]) rfl ?_
  refine so_par (S1 := DW K a c cs (n + 16)) (Φl := fun l => ∃ f w : Nat, l = [.int (f : Nat), .int (w : Nat)] ∧ f < 10 ^ 30 ∧ 0 < w ∧ w ≤ 10 ^ 30) (fun σ H i s Q qq => (ea_twoP (S1 := DW K a c cs (n + 12)) (ev__law_number02 (n := n + 8) (ev_var rfl) hc (by omega)) (one (m := n + 12) (by omega) rfl)) σ H i s Q fun vs es H' g i' r h => ?_) (fun l ⟨f, w, e, _⟩ => e ▸ rfl) fun y z hyz => ?_
  · obtain ⟨x, y, rfl, hx, w, rfl, w0, w1⟩ := h
    obtain ⟨f, rfl, hf⟩ := nat hx
    exact qq vs _ H' g i' r ⟨f, w, rfl, hf, w0, w1⟩
  obtain ⟨f, w, e, hf, w0, hw⟩ := hyz
  cases e
  refine so_re (ρ' := [x0, some (.raw (.ref a)), y2, some (.int (p : Nat)), some (.int (q : Nat)), some (.int (f : Nat)), some (.int (w : Nat)), y7, y8, y9]) rfl ?_
  have hg : 0 < Nat.gcd p q := Nat.gcd_pos_of_pos_right _ q0
  have hgl : Nat.gcd p q ≤ 10 ^ 30 := Nat.le_trans (Nat.gcd_le_right _ q0) hq
  refine so_setD (d := .int (Nat.gcd p q : Nat)) (ev_lcm (ev_var rfl) (ev_var rfl)) ?_
  refine so_re (ρ' := [x0, some (.raw (.ref a)), y2, some (.int (p : Nat)), some (.int (q : Nat)), some (.int (f : Nat)), some (.int (w : Nat)), some (.int (Nat.gcd p q : Nat)), y8, y9]) rfl ?_
  have c1 : ∀ x y : Int, cmpOk (.lst [.int x, .int y]) = true := fun _ _ => rfl
  refine so_ifF ((et_test (ev_op (ev_lamMk dw_tab (fun _ => ev_var rfl) (fun _ => ev_var rfl) q0 (nat8 hq) (said_mkOk q0)) (ev_lst (ea_cons (ev_op (ev_var rfl) (ev_var rfl) (rv_div (cdvS hg hgl))) (ea_cons (ev_op (ev_var rfl) (ev_var rfl) (rv_div (cdvS hg hgl))) ea_nil)) z2) (rv_neD (c1 _ _) (c1 _ _)))).to (by rw [show (.lst [.int ((p / Nat.gcd p q : Nat) : Int), .int ((q / Nat.gcd p q : Nat) : Int)] : Dt) = .lst [.int ((p : Int) / (Nat.gcd p q : Nat)), .int ((q : Int) / (Nat.gcd p q : Nat))] from rfl, cmp_refl (c1 _ _)]; rfl)) (so_skip ?_)
  have s1 : RS2 CR C (mkO CR C (.int (p : Nat)) (.int 1)) (.lst [.int (p : Nat), .int 1]) := by
    have := said_mkOk (CR := CR) (C := C) (n := p) (m := 1) (by decide)
    rw [Nat.gcd_one_right, Nat.div_one, Nat.div_one] at this
    exact this
  refine so_ifF ((et_test (ev_op (ev_lamM1 dw_tab (fun _ => ev_var rfl) ⟨rfl, rfl, fun m e => by cases e; decide⟩ s1) (ev_lst (ea_cons (ev_var rfl) (ea_cons ev_int ea_nil)) z2) (rv_neD (c1 _ _) (c1 _ _)))).to (by rw [cmp_refl (c1 _ _)]; rfl)) (so_skip ?_)
  have rr : Ev K (DW K a c cs (n + 16)) (DW K a c cs (n + 20)) [x0, some (.raw (.ref a)), y2, some (.int (p : Nat)), some (.int (q : Nat)), some (.int (f : Nat)), some (.int (w : Nat)), some (.int (Nat.gcd p q : Nat)), y8, y9] (tCall (p__law_read_right K c.tb) [] E0 (tCons (tVar 1) (tCons (tVar 3) (tCons (tVar 4) tNil)))) (Eq (.bl true)) :=
    (ev_callDT (k := 2) (cost := 4) (pre := preRr) (Φ := fun _ d => d = .bl true) (n := n + 16) (ds := [.int (p : Nat), .int (q : Nat)]) rfl (ea_cons (ev_var rfl) (ea_cons (ev_var rfl) (ea_cons (ev_var rfl) ea_nil))) rfl ⟨p, q, rfl, hp, q0, hq⟩ hc (by omega)).weak fun d e => Eq.symm e
  refine so_ifF (S1 := DW K a c cs (n + 20)) (et_orF (et_notT (et_B rr)) (et_notT (et_B (ev_callR (R := r_lor) (d := .bl true) (ea_cons (ev_var rfl) (ea_cons (ev_var rfl) (ea_cons (ev_var rfl) (ea_cons (ev_var rfl) ea_nil)))) rfl ⟨p, q, f, w, ⟨hp, hf, ⟨q0, hq⟩, ⟨w0, hw⟩⟩, rfl, rfl⟩)))) (so_skip ?_)
  exact so_law02_tail (n := n + 20) hc (by omega) hp q0 hq P fun _ _ => hP _ _ _ _ _ _ _
theorem so_law02 {x0 : Option Dt} (hc : cs ≠ []) : So K (DW K a c cs 0) (DW K a c cs 126) [] (r_law02 K c.tb CR C) [x0, some (.raw (.ref a)), none, none, none, none, none, none, none, none] { rt := Eq (.bl true) } := by
  refine so_seq (M := fun ρ' => ∃ y2 y3 y4 y5 y6 y7 y8 y9, ρ' = [x0, some (.raw (.ref a)), y2, y3, y4, y5, y6, y7, y8, y9]) (so_forR (n := 6) (Z := fun i => DW K a c cs (21 * i)) (ea_cons ev_int ea_nil) (by decide) (fun i hi => dw_le (by omega)) (fun i hi => dw_le (by omega)) (fun i ρ' => ∃ y2 y3 y4 y5 y6 y7 y8 y9, ρ' = [x0, some (.raw (.ref a)), y2, y3, y4, y5, y6, y7, y8, y9]) ⟨_, _, _, _, _, _, _, _, rfl⟩ (fun ti ρ' hi hJ => ?_) fun ρ' h => h) fun ρ' hM => ?_
  · obtain ⟨y2, y3, y4, y5, y6, y7, y8, y9, rfl⟩ := hJ
    exact so_turn02 (n := 21 * ti) hc (by omega) _ fun _ _ _ _ _ _ _ => ⟨_, _, _, _, _, _, _, _, rfl⟩
  obtain ⟨y2, y3, y4, y5, y6, y7, y8, y9, rfl⟩ := hM
  exact so_retD ev_bl (Sta.Le.refl _) rfl
end
end Bf
namespace Bf
open PySem PySem.Spec PyProof.Rows L2
/-! ### the text -/
def topS (i : Nat) : Stmt := PySem.Challenge.pw_beamframes_k02_whole_ratios.main.body.getD i (.Pass ⟨0, 0, 0, 0⟩)
abbrev s_is_whole : Stmt := topS 7
abbrev s_is_numeral : Stmt := topS 8
abbrev s_decimal_of : Stmt := topS 9
abbrev s__law_begin : Stmt := topS 14
abbrev s__law_next : Stmt := topS 15
abbrev s__law_pick : Stmt := topS 16
abbrev s__law_said : Stmt := topS 17
abbrev s__law_number : Stmt := topS 18
abbrev s__law_common : Stmt := topS 19
abbrev s__law_text_due : Stmt := topS 20
abbrev s__law_read_right : Stmt := topS 21
abbrev s__law_order_right : Stmt := topS 22
abbrev s_law : Stmt := topS 23
abbrev s_o_read : Stmt := clsSt (topS 12) 1
abbrev s_o_str : Stmt := clsSt (topS 12) 4
theorem sc_is_whole : FnScope ["thing"] ["thing"] (defScope s_is_whole) := ⟨rfl, rfl, rfl, by decide +kernel, rfl, by decide +kernel, by decide +kernel⟩
theorem sc_is_numeral : FnScope ["text", "most"] ["text", "most"] (defScope s_is_numeral) := ⟨rfl, rfl, rfl, by decide +kernel, rfl, by decide +kernel, by decide +kernel⟩
theorem sc_decimal_of : FnScope ["number", "chunks", "left"] ["number"] (defScope s_decimal_of) := ⟨rfl, rfl, rfl, by decide +kernel, rfl, by decide +kernel, by decide +kernel⟩
theorem sc__law_begin : FnScope ["script"] ["script"] (defScope s__law_begin) := ⟨rfl, rfl, rfl, by decide +kernel, rfl, by decide +kernel, by decide +kernel⟩
theorem sc__law_next : FnScope ["draw", "many", "cell", "cells", "number", "k"] ["draw", "many"] (defScope s__law_next) := ⟨rfl, rfl, rfl, by decide +kernel, rfl, by decide +kernel, by decide +kernel⟩
theorem sc__law_pick : FnScope ["draw", "some"] ["draw", "some"] (defScope s__law_pick) := ⟨rfl, rfl, rfl, by decide +kernel, rfl, by decide +kernel, by decide +kernel⟩
theorem sc__law_said : FnScope ["call", "caught", "found", "e"] ["call"] (defScope s__law_said) := ⟨rfl, rfl, rfl, by decide +kernel, rfl, by decide +kernel, by decide +kernel⟩
theorem sc__law_number : FnScope ["draw"] ["draw"] (defScope s__law_number) := ⟨rfl, rfl, rfl, by decide +kernel, rfl, by decide +kernel, by decide +kernel⟩
theorem sc__law_common : FnScope ["one", "other"] ["one", "other"] (defScope s__law_common) := ⟨rfl, rfl, rfl, by decide +kernel, rfl, by decide +kernel, by decide +kernel⟩
theorem sc__law_text_due : FnScope ["wording", "parts", "part", "sign", "above", "below", "by"] ["wording"] (defScope s__law_text_due) := ⟨rfl, rfl, rfl, by decide +kernel, rfl, by decide +kernel, by decide +kernel⟩
theorem sc__law_read_right : FnScope ["draw", "above", "below", "one", "by", "wording", "at", "sign", "some", "one_text", "odd"] ["draw", "above", "below"] (defScope s__law_read_right) := ⟨rfl, rfl, rfl, by decide +kernel, rfl, by decide +kernel, by decide +kernel⟩
theorem sc__law_order_right : FnScope ["above", "below", "far", "low", "one", "other", "left", "right", "told"] ["above", "below", "far", "low"] (defScope s__law_order_right) := ⟨rfl, rfl, rfl, by decide +kernel, rfl, by decide +kernel, by decide +kernel⟩
theorem sc_law : FnScope ["script", "draw", "turn", "above", "below", "far", "low", "by", "odd", "told"] ["script"] (defScope s_law) := ⟨rfl, rfl, rfl, by decide +kernel, rfl, by decide +kernel, by decide +kernel⟩
theorem sc_o_read : FnScope ["cls", "text", "num", "bar", "den"] ["cls", "text"] (defScope s_o_read) := ⟨rfl, rfl, rfl, by decide +kernel, rfl, by decide +kernel, by decide +kernel⟩
theorem sc_o_str : FnScope ["self"] ["self"] (defScope s_o_str) := ⟨rfl, rfl, rfl, by decide +kernel, rfl, by decide +kernel, by decide +kernel⟩
abbrev s_rI : Stmt := clsSt (topS 12) 0
abbrev s_rN : Stmt := clsSt (topS 12) 2
abbrev s_rD : Stmt := clsSt (topS 12) 3
theorem sc_rI : FnScope ["self", "num", "den", "shared"] ["self", "num", "den"] (defScope s_rI) := ⟨rfl, rfl, rfl, by decide +kernel, rfl, by decide +kernel, by decide +kernel⟩
abbrev s_req : Stmt := clsSt (topS 12) 5
theorem sc_req : FnScope ["self", "other"] ["self", "other"] (defScope s_req) := ⟨rfl, rfl, rfl, by decide +kernel, rfl, by decide +kernel, by decide +kernel⟩
abbrev s_rlt : Stmt := clsSt (topS 12) 6
theorem sc_rlt : FnScope ["self", "other"] ["self", "other"] (defScope s_rlt) := ⟨rfl, rfl, rfl, by decide +kernel, rfl, by decide +kernel, by decide +kernel⟩
abbrev s_rle : Stmt := clsSt (topS 12) 7
theorem sc_rle : FnScope ["self", "other"] ["self", "other"] (defScope s_rle) := ⟨rfl, rfl, rfl, by decide +kernel, rfl, by decide +kernel, by decide +kernel⟩
abbrev s_rgt : Stmt := clsSt (topS 12) 8
theorem sc_rgt : FnScope ["self", "other"] ["self", "other"] (defScope s_rgt) := ⟨rfl, rfl, rfl, by decide +kernel, rfl, by decide +kernel, by decide +kernel⟩
abbrev s_rge : Stmt := clsSt (topS 12) 9
theorem sc_rge : FnScope ["self", "other"] ["self", "other"] (defScope s_rge) := ⟨rfl, rfl, rfl, by decide +kernel, rfl, by decide +kernel, by decide +kernel⟩
abbrev s_rmul : Stmt := clsSt (topS 12) 11
theorem sc_rmul : FnScope ["self", "other"] ["self", "other"] (defScope s_rmul) := ⟨rfl, rfl, rfl, by decide +kernel, rfl, by decide +kernel, by decide +kernel⟩
abbrev s_radd : Stmt := clsSt (topS 12) 10
theorem sc_radd : FnScope ["self", "other"] ["self", "other"] (defScope s_radd) := ⟨rfl, rfl, rfl, by decide +kernel, rfl, by decide +kernel, by decide +kernel⟩
theorem sc_rN : FnScope ["self"] ["self"] (defScope s_rN) := ⟨rfl, rfl, rfl, by decide +kernel, rfl, by decide +kernel, by decide +kernel⟩
theorem sc_rD : FnScope ["self"] ["self"] (defScope s_rD) := ⟨rfl, rfl, rfl, by decide +kernel, rfl, by decide +kernel, by decide +kernel⟩
structure Adr where
  a_is_whole : Addr
  d_is_whole : FuncData
  a_is_numeral : Addr
  d_is_numeral : FuncData
  a_decimal_of : Addr
  d_decimal_of : FuncData
  a__law_begin : Addr
  d__law_begin : FuncData
  a__law_next : Addr
  d__law_next : FuncData
  a__law_pick : Addr
  d__law_pick : FuncData
  a__law_said : Addr
  d__law_said : FuncData
  a__law_number : Addr
  d__law_number : FuncData
  a__law_common : Addr
  d__law_common : FuncData
  a__law_text_due : Addr
  d__law_text_due : FuncData
  a__law_read_right : Addr
  d__law_read_right : FuncData
  a__law_order_right : Addr
  d__law_order_right : FuncData
  a_law : Addr
  d_law : FuncData
  a_o_read : Addr
  d_o_read : FuncData
  a_o_str : Addr
  d_o_str : FuncData
  p_o_read : Addr
  k__law_read_right : Addr
  t__law_read_right : Addr
  k_law : Addr
  t_law : Addr
  c_BadRatio : Addr
  i_BadRatio : Addr
  a_req : Addr
  d_req : FuncData
  a_rlt : Addr
  d_rlt : FuncData
  a_rle : Addr
  d_rle : FuncData
  a_rgt : Addr
  d_rgt : FuncData
  a_rge : Addr
  d_rge : FuncData
  a_rmul : Addr
  d_rmul : FuncData
  a_radd : Addr
  d_radd : FuncData
  c_Ratio : Addr
  i_Ratio : Addr
  e_Ratio : FuncData
  pn_Ratio : Addr
  gn_Ratio : Addr
  hn_Ratio : FuncData
  pd_Ratio : Addr
  gd_Ratio : Addr
  hd_Ratio : FuncData
structure Txt (K : PySem.W.Frag) (mg : Str → Option Value) (A : Adr) : Prop where
  b_BadRatio : BadCls PySem.Challenge.pw_beamframes_k02_whole_ratios K mg "BadRatio" "given" A.c_BadRatio A.i_BadRatio
  r_Ratio : RatT K mg A.c_Ratio A.i_Ratio A.pn_Ratio A.gn_Ratio A.pd_Ratio A.gd_Ratio
  g_Ratio : RatG K A.c_Ratio A.gn_Ratio A.hn_Ratio A.gd_Ratio A.hd_Ratio
  g_fi : L2.FunD K "__init__" "Ratio.__init__" (defArgs s_rI) (defBody s_rI) (defScope s_rI) [.int 1] [] A.i_Ratio A.e_Ratio
  m_gcd : mg "gcd" = some (.builtin "math.gcd")
  o_eq : RatM K A.c_Ratio "__eq__" "Ratio.__eq__" s_req A.a_req A.d_req
  o_lt : RatM K A.c_Ratio "__lt__" "Ratio.__lt__" s_rlt A.a_rlt A.d_rlt
  o_le : RatM K A.c_Ratio "__le__" "Ratio.__le__" s_rle A.a_rle A.d_rle
  o_gt : RatM K A.c_Ratio "__gt__" "Ratio.__gt__" s_rgt A.a_rgt A.d_rgt
  o_ge : RatM K A.c_Ratio "__ge__" "Ratio.__ge__" s_rge A.a_rge A.d_rge
  o_mul : RatM K A.c_Ratio "__mul__" "Ratio.__mul__" s_rmul A.a_rmul A.d_rmul
  o_add : RatM K A.c_Ratio "__add__" "Ratio.__add__" s_radd A.a_radd A.d_radd
  o_sf : PySem.W.selfFirst K A.c_Ratio = true
  o_ne : PySem.W.findIn K (.ref A.c_Ratio) "__ne__" = some (some (.builtin "object.__ne__"))
  o_o_read : CmT K A.c_Ratio "read" "Ratio.read" s_o_read A.a_o_read A.d_o_read ["cls", "text"] A.p_o_read
  o_o_str : SmT K A.c_Ratio "__str__" "Ratio.__str__" s_o_str A.a_o_str A.d_o_str ["self"]
  f_is_whole : Cal K mg "is_whole" s_is_whole ["thing"] A.a_is_whole A.d_is_whole
  f_is_numeral : Cal K mg "is_numeral" s_is_numeral ["text", "most"] A.a_is_numeral A.d_is_numeral
  f_decimal_of : Cal K mg "decimal_of" s_decimal_of ["number"] A.a_decimal_of A.d_decimal_of
  f__law_begin : Cal K mg "_law_begin" s__law_begin ["script"] A.a__law_begin A.d__law_begin
  f__law_next : Cal K mg "_law_next" s__law_next ["draw", "many"] A.a__law_next A.d__law_next
  f__law_pick : Cal K mg "_law_pick" s__law_pick ["draw", "some"] A.a__law_pick A.d__law_pick
  f__law_said : Cal K mg "_law_said" s__law_said ["call"] A.a__law_said A.d__law_said
  f__law_number : Cal K mg "_law_number" s__law_number ["draw"] A.a__law_number A.d__law_number
  f__law_common : Cal K mg "_law_common" s__law_common ["one", "other"] A.a__law_common A.d__law_common
  f__law_text_due : Cal K mg "_law_text_due" s__law_text_due ["wording"] A.a__law_text_due A.d__law_text_due
  f__law_read_right : Cal K mg "_law_read_right" s__law_read_right ["draw", "above", "below"] A.a__law_read_right A.d__law_read_right
  f__law_order_right : Cal K mg "_law_order_right" s__law_order_right ["above", "below", "far", "low"] A.a__law_order_right A.d__law_order_right
  f_law : Cal K mg "law" s_law ["script"] A.a_law A.d_law
  d__law_read_right_law : A.t__law_read_right ≠ A.t_law
  l__law_read_right : FunC K "_law_read_right" "_law_read_right" s__law_read_right A.a__law_read_right A.d__law_read_right (.ref A.k__law_read_right)
  l_law : FunC K "law" "law" s_law A.a_law A.d_law (.ref A.k_law)
  m_bool : mg "bool" = none
  m_int : mg "int" = none
  m_isinstance : mg "isinstance" = none
  m_len : mg "len" = none
  m_range : mg "range" = none
  m_repr : mg "repr" = none
  m_str : mg "str" = none
  i_BadRatio : IsiC K A.c_BadRatio
  c_CHUNK : ∃ u, mg "CHUNK" = some u ∧ RelV (.int 10000000000000000000000000000000000000000000000000000000000000000) u
  c_CHUNK_WIDTH : ∃ u, mg "CHUNK_WIDTH" = some u ∧ RelV (.int 64) u
  c_MOST_DIGITS : ∃ u, mg "MOST_DIGITS" = some u ∧ RelV (.int 40) u
abbrev PG : Program := PySem.Challenge.pw_beamframes_k02_whole_ratios
section
variable {P : Program} {w : World} {K : PySem.W.Frag} {mg : Str → Option Value} {base : Heap} {A : Adr}
theorem ok_is_whole (T : Txt K mg A) : GOk PG w K mg base 1 A.a_is_whole A.d_is_whole ["thing"] (p_is_whole K) := by
  refine okF T.f_is_whole.fn sc_is_whole (fun cdv AA out s H E hr hg => ⟨t_is_whole K, ?_, fun S hmu ds hl hp => so_is_whole hmu hp⟩)
  exact (pss_one (ps_ret (pe_and (pe_callB call_isi (by rfl) T.m_isinstance (by first | exact PySem.boot_isinstance | exact PyProof.Rows.boot_isinstance | decide +kernel) (pa_cons (pv 0) (pa_cons (pe_bltn (v := .ty "int") (by rfl) T.m_int (by first | exact PySem.boot_int | decide +kernel) rfl) pa_nil))) (pe_one (pe_not (pe_callB call_isi (by rfl) T.m_isinstance (by first | exact PySem.boot_isinstance | exact PyProof.Rows.boot_isinstance | decide +kernel) (pa_cons (pv 0) (pa_cons (pe_bltn (v := .ty "bool") (by rfl) T.m_bool (by first | exact PySem.boot_bool | decide +kernel) rfl) pa_nil))))))))
theorem ratI (T : Txt K mg A) : RatI PG K mg A.i_Ratio A.e_Ratio A.c_Ratio := by
  refine ⟨fun w base => ?_, ?_, ?_⟩
  · refine okGD T.g_fi sc_rI (fun vs H Q E h => ?_) fun cdv AA out s H vs Q E hr hg h => ⟨t_rat_init K, PSs.nox ?_, rd_rat_init T.r_Ratio h⟩
    · obtain ⟨x, dx, n, m, rfl, _⟩ := h
      rfl
    · exact (pss_cons (ps_if (pt_not (PW.pt (pw_and (pt_val (pe_g (G := (ok_is_whole T)) (hb := T.f_is_whole.bp) (hm := T.f_is_whole.gl) (hk := T.f_is_whole.fn.kp) (hr := hr.mono (by decide)) (hgd := hg) (hx := passL) (ha := (pa_cons (pv 1) pa_nil)))) (pw_and (pt_val (pe_g (G := (ok_is_whole T)) (hb := T.f_is_whole.bp) (hm := T.f_is_whole.gl) (hk := T.f_is_whole.fn.kp) (hr := hr.mono (by decide)) (hgd := hg) (hx := passL) (ha := (pa_cons (pv 2) pa_nil)))) (pw_and (pt_cmpR op_ge (pv 1) pe_int (nomark _)) (pw_and1 (pt_cmpR op_ge (pv 2) pe_int (nomark _)))))))) (pss_one ps_never) pss_nil) (pss_cons (ps_set (i := 3) sc_rI.nd rfl (Or.inl rfl) (pe_callBfun cr_gcd rfl T.m_gcd (pa_cons (pv 1) (pa_cons (pv 2) pa_nil)))) (pss_cons (ps_fld (pv 0) (pe_op op_fdivW (pv 1) (pv 3)) rfl) (pss_one (ps_fld (pv 0) (pe_op op_fdivW (pv 2) (pv 3)) rfl)))))
  · obtain ⟨ds, r, b⟩ := T.g_fi.binds1 (ps := ["self", "num", "den"]) 3 1 (by simp) rfl (fun T kV doc pm an cdv ct us its hu hi => match us, hu, its, hi with | [_, _, _], _, [_], _ => ⟨_, rfl, rfl⟩)
    cases r
    exact b
  · exact T.g_fi.binds1 (ps := ["self", "num", "den"]) 2 0 (by simp) rfl (fun T kV doc pm an cdv ct us its hu hi => match us, hu, its, hi with | [_, _], _, [_], _ => ⟨_, rfl, rfl⟩)
theorem ok_req (T : Txt K mg A) : GOk PG w K mg base 2 A.a_req A.d_req ["self", "other"] (p_req K A.c_Ratio) := by
  refine okR T.o_eq.fn sc_req (fun cdv AA out s H E hr hg => ⟨t_req K A.c_Ratio, ?_, fun S hmu ds d hl hp => so_req T.r_Ratio hp⟩)
  exact (pss_one (ps_ret (pe_and (pe_callB call_isi (by rfl) T.m_isinstance (by first | exact PySem.boot_isinstance | exact PyProof.Rows.boot_isinstance | decide +kernel) (pa_cons (pv 1) (pa_cons (pe_gc rfl ⟨_, T.r_Ratio.gC, rfl⟩) pa_nil))) (pe_and (pe_cmpR op_eq (L2.pe_fld (pv 0) rfl) (L2.pe_fld (pv 1) rfl) (nomark _)) (pe_one (pe_cmpR op_eq (L2.pe_fld (pv 0) rfl) (L2.pe_fld (pv 1) rfl) (nomark _)))))))
theorem ok_rlt (T : Txt K mg A) : GOk PG w K mg base 2 A.a_rlt A.d_rlt ["self", "other"] (p_rlt K A.c_Ratio) := by
  refine okR T.o_lt.fn sc_rlt (fun cdv AA out s H E hr hg => ⟨t_rcm K A.c_Ratio rLtI, ?_, fun S hmu ds d hl hp => so_rlt T.r_Ratio hp⟩)
  exact (pss_cons (ps_if (pt_not (pt_val (pe_callB call_isi (by rfl) T.m_isinstance (by first | exact PySem.boot_isinstance | exact PyProof.Rows.boot_isinstance | decide +kernel) (pa_cons (pv 1) (pa_cons (pe_gc rfl ⟨_, T.r_Ratio.gC, rfl⟩) pa_nil))))) (pss_one ps_never) pss_nil) (pss_one (ps_ret (pe_cmpR op_lt (pe_op op_mulW (L2.pe_fld (pv 0) rfl) (L2.pe_fld (pv 1) rfl)) (pe_op op_mulW (L2.pe_fld (pv 1) rfl) (L2.pe_fld (pv 0) rfl)) (nomark _)))))
theorem ok_rle (T : Txt K mg A) : GOk PG w K mg base 2 A.a_rle A.d_rle ["self", "other"] (p_rle K A.c_Ratio) := by
  refine okR T.o_le.fn sc_rle (fun cdv AA out s H E hr hg => ⟨t_rcm K A.c_Ratio rLeI, ?_, fun S hmu ds d hl hp => so_rle T.r_Ratio hp⟩)
  exact (pss_cons (ps_if (pt_not (pt_val (pe_callB call_isi (by rfl) T.m_isinstance (by first | exact PySem.boot_isinstance | exact PyProof.Rows.boot_isinstance | decide +kernel) (pa_cons (pv 1) (pa_cons (pe_gc rfl ⟨_, T.r_Ratio.gC, rfl⟩) pa_nil))))) (pss_one ps_never) pss_nil) (pss_one (ps_ret (pe_cmpR op_le (pe_op op_mulW (L2.pe_fld (pv 0) rfl) (L2.pe_fld (pv 1) rfl)) (pe_op op_mulW (L2.pe_fld (pv 1) rfl) (L2.pe_fld (pv 0) rfl)) (nomark _)))))
theorem ok_rgt (T : Txt K mg A) : GOk PG w K mg base 2 A.a_rgt A.d_rgt ["self", "other"] (p_rgt K A.c_Ratio) := by
  refine okR T.o_gt.fn sc_rgt (fun cdv AA out s H E hr hg => ⟨t_rcm K A.c_Ratio rGtI, ?_, fun S hmu ds d hl hp => so_rgt T.r_Ratio hp⟩)
  exact (pss_cons (ps_if (pt_not (pt_val (pe_callB call_isi (by rfl) T.m_isinstance (by first | exact PySem.boot_isinstance | exact PyProof.Rows.boot_isinstance | decide +kernel) (pa_cons (pv 1) (pa_cons (pe_gc rfl ⟨_, T.r_Ratio.gC, rfl⟩) pa_nil))))) (pss_one ps_never) pss_nil) (pss_one (ps_ret (pe_cmpR op_gt (pe_op op_mulW (L2.pe_fld (pv 0) rfl) (L2.pe_fld (pv 1) rfl)) (pe_op op_mulW (L2.pe_fld (pv 1) rfl) (L2.pe_fld (pv 0) rfl)) (nomark _)))))
theorem ok_rge (T : Txt K mg A) : GOk PG w K mg base 2 A.a_rge A.d_rge ["self", "other"] (p_rge K A.c_Ratio) := by
  refine okR T.o_ge.fn sc_rge (fun cdv AA out s H E hr hg => ⟨t_rcm K A.c_Ratio rGeI, ?_, fun S hmu ds d hl hp => so_rge T.r_Ratio hp⟩)
  exact (pss_cons (ps_if (pt_not (pt_val (pe_callB call_isi (by rfl) T.m_isinstance (by first | exact PySem.boot_isinstance | exact PyProof.Rows.boot_isinstance | decide +kernel) (pa_cons (pv 1) (pa_cons (pe_gc rfl ⟨_, T.r_Ratio.gC, rfl⟩) pa_nil))))) (pss_one ps_never) pss_nil) (pss_one (ps_ret (pe_cmpR op_ge (pe_op op_mulW (L2.pe_fld (pv 0) rfl) (L2.pe_fld (pv 1) rfl)) (pe_op op_mulW (L2.pe_fld (pv 1) rfl) (L2.pe_fld (pv 0) rfl)) (nomark _)))))
theorem ok_rmul (T : Txt K mg A) : GOk PG w K mg base 4 A.a_rmul A.d_rmul ["self", "other"] (p_rmul K A.c_Ratio) := by
  refine okR T.o_mul.fn sc_rmul (fun cdv AA out s H E hr hg => ⟨t_rmul K A.c_Ratio, ?_, fun S hmu ds d hl hp => so_rmul T.r_Ratio hp⟩)
  exact (pss_cons (ps_if (pt_not (pt_val (pe_callB call_isi (by rfl) T.m_isinstance (by first | exact PySem.boot_isinstance | exact PyProof.Rows.boot_isinstance | decide +kernel) (pa_cons (pv 1) (pa_cons (pe_gc rfl ⟨_, T.r_Ratio.gC, rfl⟩) pa_nil))))) (pss_one ps_never) pss_nil) (pss_one (ps_ret (pe_mk2 T.r_Ratio (ratI T) (hr.mono (by decide)) hg (pa_cons (pe_op op_mulW (L2.pe_fld (pv 0) rfl) (L2.pe_fld (pv 1) rfl)) (pa_cons (pe_op op_mulW (L2.pe_fld (pv 0) rfl) (L2.pe_fld (pv 1) rfl)) pa_nil))))))
theorem ok_radd (T : Txt K mg A) : GOk PG w K mg base 4 A.a_radd A.d_radd ["self", "other"] (p_radd K A.c_Ratio) := by
  refine okR T.o_add.fn sc_radd (fun cdv AA out s H E hr hg => ⟨t_radd K A.c_Ratio, ?_, fun S hmu ds d hl hp => so_radd T.r_Ratio hp⟩)
  exact (pss_cons (ps_if (pt_not (pt_val (pe_callB call_isi (by rfl) T.m_isinstance (by first | exact PySem.boot_isinstance | exact PyProof.Rows.boot_isinstance | decide +kernel) (pa_cons (pv 1) (pa_cons (pe_gc rfl ⟨_, T.r_Ratio.gC, rfl⟩) pa_nil))))) (pss_one ps_never) pss_nil) (pss_one (ps_ret (pe_mk2 T.r_Ratio (ratI T) (hr.mono (by decide)) hg (pa_cons (pe_op op_add (pe_op op_mulW (L2.pe_fld (pv 0) rfl) (L2.pe_fld (pv 1) rfl)) (pe_op op_mulW (L2.pe_fld (pv 1) rfl) (L2.pe_fld (pv 0) rfl))) (pa_cons (pe_op op_mulW (L2.pe_fld (pv 0) rfl) (L2.pe_fld (pv 1) rfl)) pa_nil))))))
theorem ratX (T : Txt K mg A) : RatX PG K mg A.i_Ratio A.e_Ratio A.c_BadRatio A.c_Ratio := by
  refine ⟨fun w base => ?_, (ratI T).b2, (ratI T).b1, ?_⟩
  · refine okGD T.g_fi sc_rI (fun vs H Q E h => ?_) fun cdv AA out s H vs Q E hr hg h => ⟨t_rat_initX K A.c_BadRatio E, ?_, rd_rat_initX T.r_Ratio h⟩
    · rcases h with ⟨x, dx, n, m, rfl, _⟩ | ⟨x, dx, v, u, d, e, rfl, _⟩ <;> rfl
    · exact (pss_cons (ps_if (pt_not (PW.pt (pw_and (pt_val (pe_g (G := (ok_is_whole T)) (hb := T.f_is_whole.bp) (hm := T.f_is_whole.gl) (hk := T.f_is_whole.fn.kp) (hr := hr.mono (by decide)) (hgd := hg) (hx := passL) (ha := (pa_cons (pv 1) pa_nil)))) (pw_and (pt_val (pe_g (G := (ok_is_whole T)) (hb := T.f_is_whole.bp) (hm := T.f_is_whole.gl) (hk := T.f_is_whole.fn.kp) (hr := hr.mono (by decide)) (hgd := hg) (hx := passL) (ha := (pa_cons (pv 2) pa_nil)))) (pw_and (pt_cmpR op_ge (pv 1) pe_int (nomark _)) (pw_and1 (pt_cmpR op_ge (pv 2) pe_int (nomark _)))))))) (pss_one (ps_raiseB rfl T.b_BadRatio hr (takes_of rfl rfl rfl rfl) (pa_cons (pe_tup (pa_cons (pv 1) (pa_cons (pv 2) pa_nil))) pa_nil))) pss_nil) (pss_cons (ps_set (i := 3) sc_rI.nd rfl (Or.inl rfl) (pe_callBfun cr_gcd rfl T.m_gcd (pa_cons (pv 1) (pa_cons (pv 2) pa_nil)))) (pss_cons (ps_fld (pv 0) (pe_op op_fdivW (pv 1) (pv 3)) rfl) (pss_one (ps_fld (pv 0) (pe_op op_fdivW (pv 2) (pv 3)) rfl)))))
  · obtain ⟨its, b⟩ := T.g_fi.kbindsD (ps := ["self", "num", "den"]) 1 ["den", "num"] (fun us its ws => us ++ ws.reverse) (by simp) (fun r1 _ r3 => r1.append r3.reverse) (fun T kV doc pm an cdv ct us its ws hu hi hw => match us, its, ws, hu, hi, hw with | [_], [_], [_, _], _, _, _ => ⟨_, rfl, rfl⟩)
    exact ⟨_, b⟩
theorem ok_reqO (T : Txt K mg A) : GOk PG w K mg base 2 A.a_req A.d_req ["self", "other"] (p_reqO K A.c_Ratio) := by
  refine okR T.o_eq.fn sc_req (fun cdv AA out s H E hr hg => ⟨t_req K A.c_Ratio, ?_, fun S hmu ds d hl hp => so_reqO T.r_Ratio hp⟩)
  exact (pss_one (ps_ret (pe_and (pe_callB call_isi (by rfl) T.m_isinstance (by first | exact PySem.boot_isinstance | exact PyProof.Rows.boot_isinstance | decide +kernel) (pa_cons (pv 1) (pa_cons (pe_gc rfl ⟨_, T.r_Ratio.gC, rfl⟩) pa_nil))) (pe_and (pe_cmpR op_eq (L2.pe_fld (pv 0) rfl) (L2.pe_fld (pv 1) rfl) (nomark _)) (pe_one (pe_cmpR op_eq (L2.pe_fld (pv 0) rfl) (L2.pe_fld (pv 1) rfl) (nomark _)))))))
theorem ratE (T : Txt K mg A) : RatE PG w K mg base A.c_Ratio A.a_req A.d_req := ⟨ok_req T, T.o_eq.s, T.o_ne, T.o_eq.f, T.r_Ratio.c4, T.o_eq.b⟩
theorem ok_is_numeral (T : Txt K mg A) : GOk PG w K mg base 1 A.a_is_numeral A.d_is_numeral ["text", "most"] (p_is_numeralG K) := by
  refine okR T.f_is_numeral.fn sc_is_numeral (fun cdv AA out s H E hr hg => ⟨t_is_numeral K, ?_, fun S hmu ds d hl hp => so_is_numeralG hp⟩)
  exact (pss_cons (ps_if (PW.pt (pw_or (pt_not (PW.pt (pw_and (pt_val (pe_m0 PySem.F.slot_str_isascii PySem.F.type_str_isascii mt_isascii (pv 0))) (pw_and1 (pt_val (pe_m0 PySem.F.slot_str_isdigit PySem.F.type_str_isdigit mt_isdigit (pv 0))))))) (pw_or1 (pt_cmpR op_gt (pe_callB call_len_str (by rfl) T.m_len (by first | exact PySem.boot_len | exact PyProof.Rows.boot_len | decide +kernel) (pa_cons (pv 0) pa_nil)) (pv 1) (nomark _))))) (pss_one (ps_ret pe_bl)) pss_nil)
      (pss_one (ps_ret (pe_or (pe_cmpR op_eq (pv 0) pe_str (nomark _)) (pe_one (pe_not (pe_m1 PySem.F.slot_str_startswith PySem.F.type_str_startswith mt_startswith (pv 0) pe_str)))))))
theorem ok_decimal_of (T : Txt K mg A) : GOk PG w K mg base 1 A.a_decimal_of A.d_decimal_of ["number"] (p_decimal_of K) := by
  refine okR T.f_decimal_of.fn sc_decimal_of (fun cdv AA out s H E hr hg => ⟨t_decimal_of K, ?_, fun S hmu ds d hl hp => so_decimal_of hmu hp⟩)
  exact (pss_cons (ps_set (i := 1) sc_decimal_of.nd rfl (Or.inl rfl) (pe_lst pa_nil))
      (pss_cons (ps_set (i := 2) sc_decimal_of.nd rfl (Or.inl rfl) (pv 0))
      (pss_cons (ps_while PassesOwn.never (pt_cmpR op_ge (pv 2) (pe_gc rfl T.c_CHUNK) (nomark _)) (pss_cons (ps_expr (pe_bm PySem.F.plainAttrs_list PySem.F.slot_list_append PySem.F.type_list_append mt_append (pv 1) (pa_cons (pe_bm PySem.F.plainAttrs_str PySem.F.slot_str_zfill PySem.F.type_str_zfill mt_zfill (pe_callTy call_strX (by rfl) T.m_str (by first | exact PySem.boot_str | exact PyProof.Rows.boot_str | decide +kernel) (pa_cons (pe_op op_mod (pv 2) (pe_gc rfl T.c_CHUNK)) pa_nil)) (pa_cons (pe_gc rfl T.c_CHUNK_WIDTH) pa_nil)) pa_nil)))
      (pss_one (ps_set (i := 2) sc_decimal_of.nd rfl (Or.inl rfl) (pe_op op_fdivW (pv 2) (pe_gc rfl T.c_CHUNK))))))
      (pss_cons (ps_expr (pe_bm PySem.F.plainAttrs_list PySem.F.slot_list_append PySem.F.type_list_append mt_append (pv 1) (pa_cons (pe_callTy call_strX (by rfl) T.m_str (by first | exact PySem.boot_str | exact PyProof.Rows.boot_str | decide +kernel) (pa_cons (pv 2) pa_nil)) pa_nil)))
      (pss_one (ps_ret (pe_m1 PySem.F.slot_str_join PySem.F.type_str_join mt_join pe_str (pe_revL (pv 1)))))))))
theorem ok__law_begin (T : Txt K mg A) : GOk PG w K mg base 1 A.a__law_begin A.d__law_begin ["script"] (spBT K) := by
  refine okG T.f__law_begin.fn sc__law_begin (fun vs H Q E h => ?_) fun cdv AA out s H vs Q E hr hg h => ⟨t__law_begin K, ?_, ?_⟩
  · obtain ⟨s, ns, T', rfl, _⟩ := h
    rfl
  · exact (pss_one (ps_ret (pe_disp (pps_cons pe_str (pe_op op_catS (pv 0) (pe_lst (pa_cons pe_int pa_nil))) (pps_cons pe_str pe_int (pps_cons pe_str pe_int (pps_cons pe_str pe_int pps_nil)))) (by rfl) (by rfl) (fun z => by cases z) (by decide))))
  · obtain ⟨s, ns, T', rfl, hs, hl, hT, q⟩ := h
    exact rd__law_beginT rfl hs hl hT q
theorem ok__law_next (T : Txt K mg A) : GOk PG w K mg base 1 A.a__law_next A.d__law_next ["draw", "many"] (p__law_next K) := by
  refine okD T.f__law_next.fn sc__law_next rfl (fun cdv AA out s H E hr hg => ⟨t__law_next K, ?_, fun a c cs n ds hc hn hl hp => so__law_next hc hn hp⟩)
  exact (pss_cons (ps_if (pt_cmpR op_gt (pe_dget (hu_of hr) (pv 0) pe_str (fun _ _ => rfl)) pe_int (nomark _)) (pss_cons (ps_asg (pe_tup (pa_cons (pe_dget (hu_of hr) (pv 0) pe_str (fun _ _ => rfl)) (pa_cons (pe_op op_fdivW (pe_dget (hu_of hr) (pv 0) pe_str (fun _ _ => rfl)) (pv 1)) pa_nil))) (pg_tup rfl (pgs_cons (pg_name (i := 2) sc__law_next.nd rfl (Or.inl rfl)) (pgs_cons (pg_sub (pv 0) pe_str (set_dict (hu_of hr))) pgs_nil))))
      (pss_one (ps_ret (pe_op op_mod (pv 2) (pv 1))))) pss_nil)
      (pss_cons (ps_set (i := 3) sc__law_next.nd rfl (Or.inl rfl) (pe_dget (hu_of hr) (pv 0) pe_str (fun _ _ => rfl)))
      (pss_cons (ps_set (i := 2) sc__law_next.nd rfl (Or.inl rfl) (pe_ix ix_seq (pv 3) (pe_op op_mod (pe_dget (hu_of hr) (pv 0) pe_str (fun _ _ => rfl)) (pe_callB call_len_seq (by rfl) T.m_len (by first | exact PySem.boot_len | exact PyProof.Rows.boot_len | decide +kernel) (pa_cons (pv 3) pa_nil))) (fun _ _ => rfl)))
      (pss_cons (ps_asg (pe_op op_add (pe_dget (hu_of hr) (pv 0) pe_str (fun _ _ => rfl)) pe_int) (pg_sub (pv 0) pe_str (set_dict (hu_of hr))))
      (pss_cons (ps_if (PW.pt (pw_and (pt_cmpR op_ge (pv 2) (pe_op op_pow pe_int pe_int) (nomark _)) (pw_and1 (pt_cmpR op_le (pe_dget (hu_of hr) (pv 0) pe_str (fun _ _ => rfl)) (pe_callB call_len_seq (by rfl) T.m_len (by first | exact PySem.boot_len | exact PyProof.Rows.boot_len | decide +kernel) (pa_cons (pv 3) pa_nil)) (nomark _))))) (pss_cons (ps_asg (pe_op op_fdivW (pv 2) (pv 1)) (pg_sub (pv 0) pe_str (set_dict (hu_of hr))))
      (pss_one (ps_ret (pe_op op_mod (pv 2) (pv 1))))) pss_nil)
      (pss_cons (ps_asg (pe_op op_add (pe_dget (hu_of hr) (pv 0) pe_str (fun _ _ => rfl)) pe_int) (pg_sub (pv 0) pe_str (set_dict (hu_of hr))))
      (pss_cons (ps_set (i := 4) sc__law_next.nd rfl (Or.inl rfl) (pe_op op_add (pe_op op_mod (pv 2) pe_int) (pe_op op_mulW (pe_op op_mulW pe_int (pe_dget (hu_of hr) (pv 0) pe_str (fun _ _ => rfl))) (pe_dget (hu_of hr) (pv 0) pe_str (fun _ _ => rfl)))))
      (pss_cons (ps_for PassesOwn.never rfl (pi_tup (pe_tup (pa_cons (pe_dget (hu_of hr) (pv 0) pe_str (fun _ _ => rfl)) (pa_cons (pe_dget (hu_of hr) (pv 0) pe_str (fun _ _ => rfl)) pa_nil)))) (pg_name (i := 5) sc__law_next.nd rfl (Or.inl rfl)) (pss_cons (ps_set (i := 4) sc__law_next.nd rfl (Or.inl rfl) (pe_op op_mod (pe_op op_mulW (pe_op op_add (pe_op op_add (pv 4) (pe_op op_mulW pe_int (pv 5))) pe_int) pe_int) pe_int))
      (pss_one (ps_set (i := 4) sc__law_next.nd rfl (Or.inl rfl) (pe_op op_mod (pe_op op_mulW (pv 4) (pe_op op_add pe_int (pe_op op_mulW pe_int (pe_op op_mod (pv 5) pe_int)))) pe_int)))))
      (pss_one (ps_ret (pe_op op_mod (pe_op op_fdivW (pv 4) pe_int) (pv 1))))))))))))
theorem ok__law_common (T : Txt K mg A) : GOk PG w K mg base 1 A.a__law_common A.d__law_common ["one", "other"] (p__law_common K) := by
  refine okR T.f__law_common.fn sc__law_common (fun cdv AA out s H E hr hg => ⟨t__law_common K, ?_, fun S hmu ds d hl hp => so__law_common hp⟩)
  exact (pss_cons (ps_while PassesOwn.never (pt_cmpR op_gt (pv 1) pe_int (nomark _)) (pss_one (ps_par (i := 0) (j := 1) (by rfl) sc__law_common.nd rfl rfl (by decide) rfl rfl (pa_cons (pv 1) (pa_cons (pe_op op_mod (pv 0) (pv 1)) pa_nil)) (by rfl))))
      (pss_one (ps_ret (pv 0))))
theorem ok_o_str (T : Txt K mg A) : GOk PG w K mg base 2 A.a_o_str A.d_o_str ["self"] (p_o_str K A.c_Ratio) := by
  refine okR T.o_o_str.fn sc_o_str (fun cdv AA out s H E hr hg => ⟨t_o_str K, ?_, fun S hmu ds d hl hp => so_o_str T.r_Ratio hp⟩)
  exact (pss_cons (ps_if (pt_cmpR op_eq (L2.pe_fld (pv 0) rfl) pe_int (nomark _)) (pss_one (ps_ret (pe_joined1 (pe_fmt (pe_g (G := (ok_decimal_of T)) (hb := T.f_decimal_of.bp) (hm := T.f_decimal_of.gl) (hk := T.f_decimal_of.fn.kp) (hr := hr.mono (by decide)) (hgd := hg) (hx := passL) (ha := (pa_cons (L2.pe_fld (pv 0) rfl) pa_nil))))))) pss_nil)
      (pss_one (ps_ret (pe_joined (PJ.cons (pe_fmt (pe_g (G := (ok_decimal_of T)) (hb := T.f_decimal_of.bp) (hm := T.f_decimal_of.gl) (hk := T.f_decimal_of.fn.kp) (hr := hr.mono (by decide)) (hgd := hg) (hx := passL) (ha := (pa_cons (L2.pe_fld (pv 0) rfl) pa_nil)))) (PJ.cons pe_str (PJ.cons (pe_fmt (pe_g (G := (ok_decimal_of T)) (hb := T.f_decimal_of.bp) (hm := T.f_decimal_of.gl) (hk := T.f_decimal_of.fn.kp) (hr := hr.mono (by decide)) (hgd := hg) (hx := passL) (ha := (pa_cons (L2.pe_fld (pv 0) rfl) pa_nil)))) PJ.nil)))))))
theorem ok__law_pick (T : Txt K mg A) : GOk PG w K mg base 2 A.a__law_pick A.d__law_pick ["draw", "some"] (p__law_pick K) := by
  refine okD T.f__law_pick.fn sc__law_pick rfl (fun cdv AA out s H E hr hg => ⟨t__law_pick K, ?_, fun a c cs n ds hc hn hl hp => so__law_pick hc hn hp⟩)
  exact (pss_one (ps_ret (pe_ix ix_seq (pv 1) (pe_g (G := (ok__law_next T)) (hb := T.f__law_next.bp) (hm := T.f__law_next.gl) (hk := T.f__law_next.fn.kp) (hr := hr.mono (by decide)) (hgd := hg) (hx := passL) (ha := (pa_cons (pv 0) (pa_cons (pe_callB call_len_seq (by rfl) T.m_len (by first | exact PySem.boot_len | exact PyProof.Rows.boot_len | decide +kernel) (pa_cons (pv 1) pa_nil)) pa_nil)))) (fun _ _ => rfl))))
theorem ok__law_text_due (T : Txt K mg A) : GOk PG w K mg base 2 A.a__law_text_due A.d__law_text_due ["wording"] (p__law_text_due K) := by
  refine okR T.f__law_text_due.fn sc__law_text_due (fun cdv AA out s H E hr hg => ⟨t__law_text_due K, ?_, fun S hmu ds d hl hp => so__law_text_due hmu hp⟩)
  exact (pss_cons (ps_set (i := 1) sc__law_text_due.nd rfl (Or.inl rfl) (pe_m1 PySem.F.slot_str_split PySem.F.type_str_split mt_split (pv 0) pe_str))
      (pss_cons (ps_for PassesOwn.never rfl (pi_list (pv 1)) (pg_name (i := 2) sc__law_text_due.nd rfl (Or.inl rfl)) (pss_cons (ps_if (PW.pt (pw_or (pt_cmpR op_eq (pv 2) pe_str (nomark _)) (pw_or (pt_cmpR op_gt (pe_callB call_len_str (by rfl) T.m_len (by first | exact PySem.boot_len | exact PyProof.Rows.boot_len | decide +kernel) (pa_cons (pv 2) pa_nil)) pe_int (nomark _)) (pw_or1 (pt_cmpR (op_neNil hr.units) (pe_lc (own := [("sign", 3)]) (g := (gName 3)) (tt := (tTest (tOp rNotInSg (tVar 3) (tC (.str "0123456789"))))) (te := (tVar 3)) rfl sc__law_text_due.nd (pi_str (pv 2)) (blkOk_by (own := [("sign", 3)]) (N := ["wording", "parts", "part", "sign", "above", "below", "by"]) (sc := defScope s__law_text_due) (by decide +kernel))  (fun _ _ _ _ _ => (pg_name (i := 3) sc__law_text_due.nd rfl (Or.inl rfl))) (fun _ _ _ _ _ => (pts_one (pt_cmpR op_notIn_sign (pv 3) pe_str (by rfl))))  (fun _ _ _ _ _ => (pv 3))) (pe_lst pa_nil) (nomark _)))))) (pss_one (ps_ret (pe_lst (pa_cons pe_str (pa_cons (pv 0) pa_nil))))) pss_nil)
      (pss_one (ps_if (PW.pt (pw_and (pt_cmpR op_gt (pe_callB call_len_str (by rfl) T.m_len (by first | exact PySem.boot_len | exact PyProof.Rows.boot_len | decide +kernel) (pa_cons (pv 2) pa_nil)) pe_int (nomark _)) (pw_and1 (pt_cmpR op_eq (pe_ix ix_seq (pv 2) pe_int (fun _ _ => rfl)) pe_str (nomark _))))) (pss_one (ps_ret (pe_lst (pa_cons pe_str (pa_cons (pv 0) pa_nil))))) pss_nil))))
      (pss_cons (ps_if (PW.pt (pw_or (pt_cmpR op_gt (pe_callB call_len_seq (by rfl) T.m_len (by first | exact PySem.boot_len | exact PyProof.Rows.boot_len | decide +kernel) (pa_cons (pv 1) pa_nil)) pe_int (nomark _)) (pw_or1 (PW.pt (pw_and (pt_cmpR op_eq (pe_callB call_len_seq (by rfl) T.m_len (by first | exact PySem.boot_len | exact PyProof.Rows.boot_len | decide +kernel) (pa_cons (pv 1) pa_nil)) pe_int (nomark _)) (pw_and1 (pt_cmpR op_eq (pe_ix ix_seq (pv 1) pe_int (fun _ _ => rfl)) pe_str (nomark _)))))))) (pss_one (ps_ret (pe_lst (pa_cons pe_str (pa_cons (pv 0) pa_nil))))) pss_nil)
      (pss_cons (ps_par (i := 4) (j := 5) (by rfl) sc__law_text_due.nd rfl rfl (by decide) rfl rfl (pa_cons (pe_callTy call_int_str (by rfl) T.m_int (by first | exact PySem.boot_int | exact PyProof.Rows.boot_int | decide +kernel) (pa_cons (pe_ix ix_seq (pv 1) pe_int (fun _ _ => rfl)) pa_nil)) (pa_cons (pe_ifExp (pt_cmpR op_eq (pe_callB call_len_seq (by rfl) T.m_len (by first | exact PySem.boot_len | exact PyProof.Rows.boot_len | decide +kernel) (pa_cons (pv 1) pa_nil)) pe_int (nomark _)) (pe_callTy call_int_str (by rfl) T.m_int (by first | exact PySem.boot_int | exact PyProof.Rows.boot_int | decide +kernel) (pa_cons (pe_ix ix_seq (pv 1) pe_int (fun _ _ => rfl)) pa_nil)) pe_int) pa_nil)) (by rfl))
      (pss_cons (ps_set (i := 6) sc__law_text_due.nd rfl (Or.inl rfl) (pe_g (G := (ok__law_common T)) (hb := T.f__law_common.bp) (hm := T.f__law_common.gl) (hk := T.f__law_common.fn.kp) (hr := hr.mono (by decide)) (hgd := hg) (hx := passL) (ha := (pa_cons (pv 4) (pa_cons (pv 5) pa_nil)))))
      (pss_one (ps_ret (pe_lst (pa_cons (pe_op op_fdivW (pv 4) (pv 6)) (pa_cons (pe_op op_fdivW (pv 5) (pv 6)) pa_nil))))))))))
theorem ok__law_number (T : Txt K mg A) : GOk PG w K mg base 3 A.a__law_number A.d__law_number ["draw"] (p__law_number02 K) := by
  refine okD T.f__law_number.fn sc__law_number rfl (fun cdv AA out s H E hr hg => ⟨t__law_number02 K, ?_, fun a c cs n ds hc hn hl hp => so__law_number02 hc hn hp⟩)
  exact (pss_one (ps_ret (pe_g (G := (ok__law_pick T)) (hb := T.f__law_pick.bp) (hm := T.f__law_pick.gl) (hk := T.f__law_pick.fn.kp) (hr := hr.mono (by decide)) (hgd := hg) (hx := passL) (ha := (pa_cons (pv 0) (pa_cons (pe_lst (pa_cons pe_int (pa_cons pe_int (pa_cons (pe_g (G := (ok__law_next T)) (hb := T.f__law_next.bp) (hm := T.f__law_next.gl) (hk := T.f__law_next.fn.kp) (hr := hr.mono (by decide)) (hgd := hg) (hx := passL) (ha := (pa_cons (pv 0) (pa_cons pe_int pa_nil)))) (pa_cons (pe_g (G := (ok__law_next T)) (hb := T.f__law_next.bp) (hm := T.f__law_next.gl) (hk := T.f__law_next.fn.kp) (hr := hr.mono (by decide)) (hgd := hg) (hx := passL) (ha := (pa_cons (pv 0) (pa_cons (pe_op op_pow pe_int pe_int) pa_nil)))) (pa_cons (pe_g (G := (ok__law_next T)) (hb := T.f__law_next.bp) (hm := T.f__law_next.gl) (hk := T.f__law_next.fn.kp) (hr := hr.mono (by decide)) (hgd := hg) (hx := passL) (ha := (pa_cons (pv 0) (pa_cons (pe_op op_pow pe_int pe_int) pa_nil)))) pa_nil)))))) pa_nil))))))
theorem ok_o_read (T : Txt K mg A) : GOkN PG w K mg base 4 A.a_o_read A.d_o_read ["cls", "text"] (p_o_read K A.c_BadRatio A.c_Ratio) := by
  refine okXN T.o_o_read.fn sc_o_read (fun cdv AA out s H E hr hg => ⟨t_o_read K A.c_BadRatio A.c_Ratio E, ?_, fun S hmu ds o hl hp hw => so_o_read T.r_Ratio hp hw⟩)
  exact (pss_cons (ps_if (pt_not (pt_val (pe_callB call_isi (by rfl) T.m_isinstance (by first | exact PySem.boot_isinstance | exact PyProof.Rows.boot_isinstance | decide +kernel) (pa_cons (pv 1) (pa_cons (pe_bltn (v := .ty "str") (by rfl) T.m_str (by first | exact PySem.boot_str | decide +kernel) rfl) pa_nil))))) (pss_one (ps_raiseBN rfl T.b_BadRatio (by have hd := room_d hr; exact hd) (L2N.takes_of rfl rfl rfl rfl) (pa_cons (pv 1) pa_nil))) pss_nil)
      (pss_cons (ps_asg (pe_m1 PySem.F.slot_str_partition PySem.F.type_str_partition mt_partition (pv 1) pe_str) (pg_tup rfl (pgs_cons (pg_name (i := 2) sc_o_read.nd rfl (Or.inl rfl)) (pgs_cons (pg_name (i := 3) sc_o_read.nd rfl (Or.inl rfl)) (pgs_cons (pg_name (i := 4) sc_o_read.nd rfl (Or.inl rfl)) pgs_nil)))))
      (pss_cons (ps_if (pt_not (pt_truth (pv 3) (by intro _; rfl))) (pss_one (ps_set (i := 4) sc_o_read.nd rfl (Or.inl rfl) pe_str)) pss_nil)
      (pss_cons (ps_if (PW.pt (pw_or (pt_not (PW.pt (pw_and (pt_val (pe_g (G := (ok_is_numeral T)) (hb := T.f_is_numeral.bp) (hm := T.f_is_numeral.gl) (hk := T.f_is_numeral.fn.kp) (hr := hr.mono (by decide)) (hgd := hg) (hx := passL) (ha := (pa_cons (pv 2) (pa_cons (pe_gc rfl T.c_MOST_DIGITS) pa_nil))))) (pw_and1 (pt_val (pe_g (G := (ok_is_numeral T)) (hb := T.f_is_numeral.bp) (hm := T.f_is_numeral.gl) (hk := T.f_is_numeral.fn.kp) (hr := hr.mono (by decide)) (hgd := hg) (hx := passL) (ha := (pa_cons (pv 4) (pa_cons (pe_gc rfl T.c_MOST_DIGITS) pa_nil))))))))) (pw_or1 (pt_cmpR op_eq (pv 4) pe_str (nomark _))))) (pss_one (ps_raiseBN rfl T.b_BadRatio (by have hd := room_d hr; exact hd) (L2N.takes_of rfl rfl rfl rfl) (pa_cons (pv 1) pa_nil))) pss_nil)
      (pss_one (ps_ret (pe_makeL T.r_Ratio.mK ((ratI T).i _ _) (hr.mono (by decide)) hg rfl (Or.inl rfl) (ratI T).b2 .nil passL (pa_cons (pe_callTy call_int_str (by rfl) T.m_int (by first | exact PySem.boot_int | exact PyProof.Rows.boot_int | decide +kernel) (pa_cons (pv 2) pa_nil)) (pa_cons (pe_callTy call_int_str (by rfl) T.m_int (by first | exact PySem.boot_int | exact PyProof.Rows.boot_int | decide +kernel) (pa_cons (pv 4) pa_nil)) pa_nil)))))))))
theorem gv__law_said (T : Txt K mg A) : ∀ cdv, Gives PG w K mg base 6 ["call", "caught", "found", "e"] "_law_said" "call" (defScope s__law_said) A.a__law_said cdv (defBody s__law_said) (TTs K (RS2 A.c_BadRatio A.c_Ratio)) := by
  intro cdv AA out s H Q f c' q tl hr hg act hc h
  obtain ⟨o, d, hl, hR, hq⟩ := h
  refine ⟨t__law_said02 K A.c_BadRatio A.c_Ratio f c' q tl, ?_, ?_⟩
  · exact (pss_cons (ps_asg (pe_tup (pa_cons pe_non (pa_cons pe_non pa_nil))) (pg_tup rfl (pgs_cons (pg_name (i := 1) sc__law_said.nd rfl (Or.inl rfl)) (pgs_cons (pg_name (i := 2) sc__law_said.nd rfl (Or.inl rfl)) pgs_nil))))
      (pss_cons (ps_try_kp (i := 3) (by rfl) (by rfl) (by rfl) sc__law_said.nd (by rfl) (by rfl) (catch_one (by rfl) T.b_BadRatio.gC (by decide)) takes0 (fun W pn xe tk _ => (pss_one (ps_set (i := 2) sc__law_said.nd rfl (Or.inl rfl) (act pn xe (WE W) _ _ (fun σ => passAt tk σ))))) (fun a oe cls d pn hz hf => (pss_one (ps_set (i := 1) sc__law_said.nd rfl (Or.inl rfl) (pv 3)))))
      (pss_one (ps_ret (pe_ifExp (pt_cmpR op_notN (pv 1) pe_non (nomark _)) (pe_lst (pa_cons pe_str (pa_cons (pe_kfld (Cs := [A.c_BadRatio]) (fun C hC => by simp only [List.mem_cons, List.not_mem_nil, or_false] at hC; subst hC; exact T.b_BadRatio.keepC) (pv 1)) pa_nil))) (pe_lst (pa_cons (pe_num T.r_Ratio T.g_Ratio (hr.mono (by decide)) (pv 2)) (pa_cons (pe_den T.r_Ratio T.g_Ratio (hr.mono (by decide)) (pv 2)) pa_nil))))))))
  · refine so__law_said02 T.b_BadRatio.te hc hl hR _ _ H H ⟨Gr.refl H, Same.refl H, fun _ z => nomatch z⟩ (Same.refl H) (slots_start (.cons (.raw _) .nil)) ⟨fun σ ρ H' g i s' e => ?_, fun v d' H' g i r' e => ?_, fun σ ρ H' g i s' e => (show False from e).elim, fun σ ρ H' g i s' e => (show False from e).elim⟩
    · exact hq _ H' i ((show d = .non from e) ▸ .non)
    · exact hq v H' i ((show d = d' from e) ▸ r')
theorem ok__law_read_right (T : Txt K mg A) (TB__law_read_right : LamX.TabB base mg A.k__law_read_right A.t__law_read_right) : GOk PG w K mg base 8 A.a__law_read_right A.d__law_read_right ["draw", "above", "below"] (p__law_read_right K [(A.t__law_read_right, "_law_read_right.<locals>.<lambda>"), (A.t_law, "law.<locals>.<lambda>")]) := by
  refine okGC T.l__law_read_right sc__law_read_right (fun vs H Q E h => ?_) fun AA out s H vs Q E hr hg h => ⟨t__law_read_right K [(A.t__law_read_right, "_law_read_right.<locals>.<lambda>"), (A.t_law, "law.<locals>.<lambda>")] A.c_BadRatio A.c_Ratio, ?_, ?_⟩
  · obtain ⟨a, c, cs, n, ds, ws, hT, rfl, r, hl, _⟩ := h
    show ws.length + 1 = 3
    rw [r.len, hl]
  · exact PSs.nox (pss_cons (ps_par (i := 3) (j := 4) (by rfl) sc__law_read_right.nd rfl rfl (by decide) rfl rfl (pa_cons (pe_mk2 T.r_Ratio (ratI T) (hr.mono (by decide)) hg (pa_cons (pv 1) (pa_cons (pv 2) pa_nil))) (pa_cons (pe_op op_add pe_int (pe_g (G := (ok__law_next T)) (hb := T.f__law_next.bp) (hm := T.f__law_next.gl) (hk := T.f__law_next.fn.kp) (hr := hr.mono (by decide)) (hgd := hg) (hx := passL) (ha := (pa_cons (pv 0) (pa_cons pe_int pa_nil))))) pa_nil)) (by rfl))
      (pss_cons (ps_if (pt_cmpR op_ne (pe_callTy (call_strO (ok_o_str T) T.o_o_str.s T.o_o_str.f T.o_o_str.b (hr.mono (by decide)) hg) (by rfl) T.m_str (by first | exact PySem.boot_str | exact PyProof.Rows.boot_str | decide +kernel) (pa_cons (pv 3) pa_nil)) (pe_ifExp (pt_cmpR op_eq (pe_den T.r_Ratio T.g_Ratio (hr.mono (by decide)) (pv 3)) pe_int (nomark _)) (pe_callTy call_strX (by rfl) T.m_str (by first | exact PySem.boot_str | exact PyProof.Rows.boot_str | decide +kernel) (pa_cons (pe_num T.r_Ratio T.g_Ratio (hr.mono (by decide)) (pv 3)) pa_nil)) (pe_op op_add_str (pe_op op_add_str (pe_callTy call_strX (by rfl) T.m_str (by first | exact PySem.boot_str | exact PyProof.Rows.boot_str | decide +kernel) (pa_cons (pe_num T.r_Ratio T.g_Ratio (hr.mono (by decide)) (pv 3)) pa_nil)) pe_str) (pe_callTy call_strX (by rfl) T.m_str (by first | exact PySem.boot_str | exact PyProof.Rows.boot_str | decide +kernel) (pa_cons (pe_den T.r_Ratio T.g_Ratio (hr.mono (by decide)) (pv 3)) pa_nil)))) (nomark _)) (pss_one (ps_ret pe_bl)) pss_nil)
      (pss_cons (ps_if (PW.pt (pw_or (pt_cmpR (op_neQ (ratE T) (hr.mono (by decide)) hg) (pe_cmG (pe_gc (by rfl) ⟨_, T.r_Ratio.gC, (by rfl)⟩) T.o_o_read.r T.o_o_read.c (ok_o_read T).g (hr.mono (by decide)) hg T.o_o_read.b passL (pa_cons (pe_callTy (call_strO (ok_o_str T) T.o_o_str.s T.o_o_str.f T.o_o_str.b (hr.mono (by decide)) hg) (by rfl) T.m_str (by first | exact PySem.boot_str | exact PyProof.Rows.boot_str | decide +kernel) (pa_cons (pv 3) pa_nil)) pa_nil)) (pv 3) (nomark _)) (pw_or1 (pt_cmpR (op_neQ (ratE T) (hr.mono (by decide)) hg) (pe_cmGK (pe_gc (by rfl) ⟨_, T.r_Ratio.gC, (by rfl)⟩) T.o_o_read.r T.o_o_read.c (ok_o_read T).g (hr.mono (by decide)) hg (kbn_fun T.o_o_read.fn ["cls", "text"] ["text"] (fun _ _ _ _ _ _ us ws h1 h2 => match us, ws, h1, h2 with | [_], [_], _, _ => rfl)) passL (pk_cons (pe_op op_add_str (pe_op op_add_str (pe_callTy call_strX (by rfl) T.m_str (by first | exact PySem.boot_str | exact PyProof.Rows.boot_str | decide +kernel) (pa_cons (pe_op op_mulW (pv 1) (pv 4)) pa_nil)) pe_str) (pe_callTy call_strX (by rfl) T.m_str (by first | exact PySem.boot_str | exact PyProof.Rows.boot_str | decide +kernel) (pa_cons (pe_op op_mulW (pv 2) (pv 4)) pa_nil))) pk_nil) rfl) (pv 3) (nomark _))))) (pss_one (ps_ret pe_bl)) pss_nil)
      (pss_cons (ps_set (i := 5) sc__law_read_right.nd rfl (Or.inl rfl) (pe_op op_add_str (pe_op op_add_str (pe_callTy call_strX (by rfl) T.m_str (by first | exact PySem.boot_str | exact PyProof.Rows.boot_str | decide +kernel) (pa_cons (pv 1) pa_nil)) pe_str) (pe_callTy call_strX (by rfl) T.m_str (by first | exact PySem.boot_str | exact PyProof.Rows.boot_str | decide +kernel) (pa_cons (pv 2) pa_nil))))
      (pss_cons (ps_set (i := 6) sc__law_read_right.nd rfl (Or.inl rfl) (pe_g (G := (ok__law_next T)) (hb := T.f__law_next.bp) (hm := T.f__law_next.gl) (hk := T.f__law_next.fn.kp) (hr := hr.mono (by decide)) (hgd := hg) (hx := passL) (ha := (pa_cons (pv 0) (pa_cons (pe_op op_add (pe_callB call_len_str (by rfl) T.m_len (by first | exact PySem.boot_len | exact PyProof.Rows.boot_len | decide +kernel) (pa_cons (pv 5) pa_nil)) pe_int) pa_nil)))))
      (pss_cons (ps_set (i := 7) sc__law_read_right.nd rfl (Or.inl rfl) (pe_g (G := (ok__law_pick T)) (hb := T.f__law_pick.bp) (hm := T.f__law_pick.gl) (hk := T.f__law_pick.fn.kp) (hr := hr.mono (by decide)) (hgd := hg) (hx := passL) (ha := (pa_cons (pv 0) (pa_cons (pe_lst (pa_cons pe_str (pa_cons pe_str (pa_cons pe_str (pa_cons pe_str (pa_cons pe_str (pa_cons pe_str (pa_cons pe_str (pa_cons pe_str (pa_cons pe_str (pa_cons pe_str pa_nil))))))))))) pa_nil)))))
      (pss_cons (ps_set (i := 8) sc__law_read_right.nd rfl (Or.inl rfl) (pe_lst (pa_cons (pe_op op_add_str (pe_op op_add_str (pe_slice sl_str (pv 5) po_none (po_some (pv 6))) (pv 7)) (pe_slice sl_str (pv 5) (po_some (pv 6)) po_none)) (pa_cons (pe_op op_add_str (pe_slice sl_str (pv 5) po_none (po_some (pv 6))) (pe_slice sl_str (pv 5) (po_some (pe_op op_add (pv 6) pe_int)) po_none)) (pa_cons (pe_op op_add_str pe_str (pv 5)) (pa_cons (pe_op op_add_str (pv 5) pe_str) (pa_cons pe_str pa_nil)))))))
      (pss_cons (ps_set (i := 8) sc__law_read_right.nd rfl (Or.inl rfl) (pe_op op_catS (pv 8) (pe_lst (pa_cons pe_str (pa_cons (pe_op op_mulS pe_str pe_int) (pa_cons (pe_op op_add_str (pe_op op_add_str (pe_op op_mulS pe_str pe_int) pe_str) (pe_op op_mulS pe_str pe_int)) (pa_cons (pe_op op_add_str pe_str (pe_op op_mulS pe_str pe_int)) (pa_cons pe_str (pa_cons pe_str (pa_cons pe_str pa_nil))))))))))
      (pss_cons (ps_for PassesOwn.never rfl (pi_list (pv 8)) (pg_name (i := 9) sc__law_read_right.nd rfl (Or.inr rfl)) (pss_one (ps_if (pt_cmpR (op_neA (ratE T) (hr.mono (by decide)) hg) (pe_lamF (T := [(A.t__law_read_right, "_law_read_right.<locals>.<lambda>"), (A.t_law, "law.<locals>.<lambda>")]) (P := A.t__law_read_right) (c := A.k__law_read_right) T.f__law_said.fn T.f__law_said.bp sc__law_said (by rfl) (Or.inl rfl) T.f__law_said.gl (gv__law_said T) TB__law_read_right rfl (by first | exact List.mem_cons_self | exact List.mem_cons_of_mem _ List.mem_cons_self) (fun p hp hq => by simp only [List.mem_cons, List.not_mem_nil, or_false] at hp; rcases hp with rfl | rfl <;> first | rfl | exact absurd hq T.d__law_read_right_law | exact absurd hq (Ne.symm T.d__law_read_right_law)) (hr.mono (by decide)) hg (fun _ _ _ _ _ => rfl) (fun f c' AA' out' s' H' E hr hg => (pe_cmG (pe_gc (by rfl) ⟨_, T.r_Ratio.gC, (by rfl)⟩) T.o_o_read.r T.o_o_read.c (ok_o_read T).g (hr.mono (by decide)) hg T.o_o_read.b (passes_call (takes_of rfl rfl rfl rfl) (fun _ _ _ _ h => h)) (pa_cons (pv 9) pa_nil)))) (pe_g (G := (ok__law_text_due T)) (hb := T.f__law_text_due.bp) (hm := T.f__law_text_due.gl) (hk := T.f__law_text_due.fn.kp) (hr := hr.mono (by decide)) (hgd := hg) (hx := passL) (ha := (pa_cons (pv 9) pa_nil))) (nomark _)) (pss_one (ps_ret pe_bl)) pss_nil)))
      (pss_cons (ps_set (i := 10) sc__law_read_right.nd rfl (Or.inr rfl) (pe_g (G := (ok__law_pick T)) (hb := T.f__law_pick.bp) (hm := T.f__law_pick.gl) (hk := T.f__law_pick.fn.kp) (hr := hr.mono (by decide)) (hgd := hg) (hx := passL) (ha := (pa_cons (pv 0) (pa_cons (pe_lst (pa_cons pe_non (pa_cons pe_int (pa_cons pe_bl (pa_cons (pe_tup (pa_cons pe_str pa_nil)) (pa_cons (pe_lst (pa_cons pe_str pa_nil)) (pa_cons pe_dnewK (pa_cons (pv 3) pa_nil)))))))) pa_nil)))))
      (pss_one (ps_ret (pe_cmpR (op_eqA (ratE T) (hr.mono (by decide)) hg) (pe_lamF (T := [(A.t__law_read_right, "_law_read_right.<locals>.<lambda>"), (A.t_law, "law.<locals>.<lambda>")]) (P := A.t__law_read_right) (c := A.k__law_read_right) T.f__law_said.fn T.f__law_said.bp sc__law_said (by rfl) (Or.inl rfl) T.f__law_said.gl (gv__law_said T) TB__law_read_right rfl (by first | exact List.mem_cons_self | exact List.mem_cons_of_mem _ List.mem_cons_self) (fun p hp hq => by simp only [List.mem_cons, List.not_mem_nil, or_false] at hp; rcases hp with rfl | rfl <;> first | rfl | exact absurd hq T.d__law_read_right_law | exact absurd hq (Ne.symm T.d__law_read_right_law)) (hr.mono (by decide)) hg (fun _ _ _ _ _ => rfl) (fun f c' AA' out' s' H' E hr hg => (pe_cmG (pe_gc (by rfl) ⟨_, T.r_Ratio.gC, (by rfl)⟩) T.o_o_read.r T.o_o_read.c (ok_o_read T).g (hr.mono (by decide)) hg T.o_o_read.b (passes_call (takes_of rfl rfl rfl rfl) (fun _ _ _ _ h => h)) (pa_cons (pv 10) pa_nil)))) (pe_lst (pa_cons pe_str (pa_cons (pv 10) pa_nil))) (nomark _))))))))))))))
  · obtain ⟨a, c, cs, n, ds, ws, hT, rfl, r, hl, hp, hc, hb, hi, q⟩ := h
    have so := so__law_read_right (K := K) (a := a) (c := c) (C := A.c_Ratio) (CR := A.c_BadRatio) hc hb hp
    rw [hT] at so
    exact so _ _ H H ⟨Gr.refl H, dw_le (by omega) H hi, fun _ z => nomatch z⟩ hi (slots_start (N := ["draw", "above", "below", "one", "by", "wording", "at", "sign", "some", "one_text", "odd"]) (.cons (.raw (.ref a)) r)) ⟨fun _ _ _ _ _ _ z => z.elim, fun v d H2 g2 i2 r e => q v d H2 g2 i2 r (Eq.symm e), fun _ _ _ _ _ _ z => z.elim, fun _ _ _ _ _ _ z => z.elim⟩
theorem ok__law_order_right (T : Txt K mg A) : GOk PG w K mg base 8 A.a__law_order_right A.d__law_order_right ["above", "below", "far", "low"] (p__law_order_right K) := by
  refine okR T.f__law_order_right.fn sc__law_order_right (fun cdv AA out s H E hr hg => ⟨t__law_order_right K A.c_Ratio, ?_, fun S hmu ds d hl hp => so__law_order_right hp⟩)
  exact (pss_cons (ps_par (i := 4) (j := 5) (by rfl) sc__law_order_right.nd rfl rfl (by decide) rfl rfl (pa_cons (pe_mk2 T.r_Ratio (ratI T) (hr.mono (by decide)) hg (pa_cons (pv 0) (pa_cons (pv 1) pa_nil))) (pa_cons (pe_mk2 T.r_Ratio (ratI T) (hr.mono (by decide)) hg (pa_cons (pv 2) (pa_cons (pv 3) pa_nil))) pa_nil)) (by rfl))
      (pss_cons (ps_par (i := 6) (j := 7) (by rfl) sc__law_order_right.nd rfl rfl (by decide) rfl rfl (pa_cons (pe_op op_mulW (pv 0) (pv 3)) (pa_cons (pe_op op_mulW (pv 2) (pv 1)) pa_nil)) (by rfl))
      (pss_cons (ps_set (i := 8) sc__law_order_right.nd rfl (Or.inl rfl) (pe_lst (pa_cons (pe_cmpR (op_ownR (ok_rlt T) T.o_lt.s T.o_lt.f T.o_lt.b (hr.mono (by decide)) hg (fun _ _ => rfl)) (pv 4) (pv 5) (nomark _)) (pa_cons (pe_cmpR (op_ownR (ok_rle T) T.o_le.s T.o_le.f T.o_le.b (hr.mono (by decide)) hg (fun _ _ => rfl)) (pv 4) (pv 5) (nomark _)) (pa_cons (pe_cmpR (op_ownR (ok_rgt T) T.o_gt.s T.o_gt.f T.o_gt.b (hr.mono (by decide)) hg (fun _ _ => rfl)) (pv 4) (pv 5) (nomark _)) (pa_cons (pe_cmpR (op_ownR (ok_rge T) T.o_ge.s T.o_ge.f T.o_ge.b (hr.mono (by decide)) hg (fun _ _ => rfl)) (pv 4) (pv 5) (nomark _)) (pa_cons (pe_cmpR (op_ownR (ok_req T) T.o_eq.s T.o_eq.f T.o_eq.b (hr.mono (by decide)) hg (fun _ _ => rfl)) (pv 4) (pv 5) (nomark _)) pa_nil)))))))
      (pss_cons (ps_if (pt_cmpR (op_neD hr.units) (pv 8) (pe_lst (pa_cons (pe_cmpR op_lt (pv 6) (pv 7) (nomark _)) (pa_cons (pe_cmpR op_le (pv 6) (pv 7) (nomark _)) (pa_cons (pe_cmpR op_gt (pv 6) (pv 7) (nomark _)) (pa_cons (pe_cmpR op_ge (pv 6) (pv 7) (nomark _)) (pa_cons (pe_cmpR op_eq (pv 6) (pv 7) (nomark _)) pa_nil)))))) (nomark _)) (pss_one (ps_ret pe_bl)) pss_nil)
      (pss_cons (ps_if (PW.pt (pw_or (pt_cmpR (op_neQ (ratE T) (hr.mono (by decide)) hg) (pe_op (op_ownB (ok_radd T) T.o_add.s T.o_add.f T.o_sf T.o_add.b (hr.mono (by decide)) hg) (pv 4) (pv 5)) (pe_mk2 T.r_Ratio (ratI T) (hr.mono (by decide)) hg (pa_cons (pe_op op_add (pv 6) (pv 7)) (pa_cons (pe_op op_mulW (pv 1) (pv 3)) pa_nil))) (nomark _)) (pw_or1 (pt_cmpR (op_neQ (ratE T) (hr.mono (by decide)) hg) (pe_op (op_ownB (ok_rmul T) T.o_mul.s T.o_mul.f T.o_sf T.o_mul.b (hr.mono (by decide)) hg) (pv 4) (pv 5)) (pe_mk2 T.r_Ratio (ratI T) (hr.mono (by decide)) hg (pa_cons (pe_op op_mulW (pv 0) (pv 2)) (pa_cons (pe_op op_mulW (pv 1) (pv 3)) pa_nil))) (nomark _))))) (pss_one (ps_ret pe_bl)) pss_nil)
      (pss_one (ps_ret (pe_and (pe_not (pe_cmpR (op_reqO T.r_Ratio (ok_reqO T) T.o_eq.s T.o_eq.f T.o_eq.b (hr.mono (by decide)) hg) (pv 4) (pv 0) (nomark _))) (pe_and (pe_not (pe_cmpR (op_reqO T.r_Ratio (ok_reqO T) T.o_eq.s T.o_eq.f T.o_eq.b (hr.mono (by decide)) hg) (pv 4) (pe_callTy (call_strO (ok_o_str T) T.o_o_str.s T.o_o_str.f T.o_o_str.b (hr.mono (by decide)) hg) (by rfl) T.m_str (by first | exact PySem.boot_str | exact PyProof.Rows.boot_str | decide +kernel) (pa_cons (pv 4) pa_nil)) (nomark _))) (pe_one (pe_not (pe_cmpR (op_reqO T.r_Ratio (ok_reqO T) T.o_eq.s T.o_eq.f T.o_eq.b (hr.mono (by decide)) hg) (pv 4) (pe_tup (pa_cons (pv 0) (pa_cons (pv 1) pa_nil))) (nomark _)))))))))))))
theorem ok_law (T : Txt K mg A) (TB__law_read_right : LamX.TabB base mg A.k__law_read_right A.t__law_read_right) (TB_law : LamX.TabB base mg A.k_law A.t_law) : GOk PG w K mg base 9 A.a_law A.d_law ["script"] (p_law02 [(A.k__law_read_right, A.t__law_read_right), (A.k_law, A.t_law)] K) := by
  refine okGC T.l_law sc_law (fun vs H Q E h => ?_) fun AA out s H vs Q E hr hg h => ⟨t_law02 K [(A.t__law_read_right, "_law_read_right.<locals>.<lambda>"), (A.t_law, "law.<locals>.<lambda>")] A.c_BadRatio A.c_Ratio, ?_, ?_⟩
  · obtain ⟨s, ns, rfl, _⟩ := h
    rfl
  · exact PSs.nox (pss_cons (ps_set (i := 1) sc_law.nd rfl (Or.inl rfl) (pe_g (G := (ok__law_begin T)) (hb := T.f__law_begin.bp) (hm := T.f__law_begin.gl) (hk := T.f__law_begin.fn.kp) (hr := hr.mono (by decide)) (hgd := hg) (hx := passL) (ha := (pa_cons (pv 0) pa_nil))))
      (pss_cons (ps_for PassesOwn.never rfl (pi_range1 rfl T.m_range (pa_cons pe_int pa_nil)) (pg_name (i := 2) sc_law.nd rfl (Or.inl rfl)) (pss_cons (ps_asg (pe_tup (pa_cons (pe_g (G := (ok__law_number T)) (hb := T.f__law_number.bp) (hm := T.f__law_number.gl) (hk := T.f__law_number.fn.kp) (hr := hr.mono (by decide)) (hgd := hg) (hx := passL) (ha := (pa_cons (pv 1) pa_nil))) (pa_cons (pe_op op_add pe_int (pe_g (G := (ok__law_number T)) (hb := T.f__law_number.bp) (hm := T.f__law_number.gl) (hk := T.f__law_number.fn.kp) (hr := hr.mono (by decide)) (hgd := hg) (hx := passL) (ha := (pa_cons (pv 1) pa_nil)))) pa_nil))) (pg_tup rfl (pgs_cons (pg_name (i := 3) sc_law.nd rfl (Or.inr rfl)) (pgs_cons (pg_name (i := 4) sc_law.nd rfl (Or.inr rfl)) pgs_nil))))
      (pss_cons (ps_par (i := 5) (j := 6) (by rfl) sc_law.nd rfl rfl (by decide) rfl rfl (pa_cons (pe_g (G := (ok__law_number T)) (hb := T.f__law_number.bp) (hm := T.f__law_number.gl) (hk := T.f__law_number.fn.kp) (hr := hr.mono (by decide)) (hgd := hg) (hx := passL) (ha := (pa_cons (pv 1) pa_nil))) (pa_cons (pe_op op_add pe_int (pe_g (G := (ok__law_number T)) (hb := T.f__law_number.bp) (hm := T.f__law_number.gl) (hk := T.f__law_number.fn.kp) (hr := hr.mono (by decide)) (hgd := hg) (hx := passL) (ha := (pa_cons (pv 1) pa_nil)))) pa_nil)) (by rfl))
      (pss_cons (ps_set (i := 7) sc_law.nd rfl (Or.inl rfl) (pe_g (G := (ok__law_common T)) (hb := T.f__law_common.bp) (hm := T.f__law_common.gl) (hk := T.f__law_common.fn.kp) (hr := hr.mono (by decide)) (hgd := hg) (hx := passL) (ha := (pa_cons (pv 3) (pa_cons (pv 4) pa_nil)))))
      (pss_cons (ps_if (pt_cmpR (op_neD hr.units) (pe_lamF (T := [(A.t__law_read_right, "_law_read_right.<locals>.<lambda>"), (A.t_law, "law.<locals>.<lambda>")]) (P := A.t_law) (c := A.k_law) T.f__law_said.fn T.f__law_said.bp sc__law_said (by rfl) (Or.inl rfl) T.f__law_said.gl (gv__law_said T) TB_law rfl (by first | exact List.mem_cons_self | exact List.mem_cons_of_mem _ List.mem_cons_self) (fun p hp hq => by simp only [List.mem_cons, List.not_mem_nil, or_false] at hp; rcases hp with rfl | rfl <;> first | rfl | exact absurd hq T.d__law_read_right_law | exact absurd hq (Ne.symm T.d__law_read_right_law)) (hr.mono (by decide)) hg (fun _ _ _ _ _ => rfl) (fun f c' AA' out' s' H' E hr hg => (pe_mkXk T.r_Ratio (ratX T) (hr.mono (by decide)) hg (passes_call (takes_of rfl rfl rfl rfl) (fun _ _ _ _ h => h)) (pk_cons (pv 4) (pk_cons (pv 3) pk_nil))))) (pe_lst (pa_cons (pe_op op_fdivW (pv 3) (pv 7)) (pa_cons (pe_op op_fdivW (pv 4) (pv 7)) pa_nil))) (nomark _)) (pss_one (ps_ret pe_bl)) pss_nil)
      (pss_cons (ps_if (pt_cmpR (op_neD hr.units) (pe_lamF (T := [(A.t__law_read_right, "_law_read_right.<locals>.<lambda>"), (A.t_law, "law.<locals>.<lambda>")]) (P := A.t_law) (c := A.k_law) T.f__law_said.fn T.f__law_said.bp sc__law_said (by rfl) (Or.inl rfl) T.f__law_said.gl (gv__law_said T) TB_law rfl (by first | exact List.mem_cons_self | exact List.mem_cons_of_mem _ List.mem_cons_self) (fun p hp hq => by simp only [List.mem_cons, List.not_mem_nil, or_false] at hp; rcases hp with rfl | rfl <;> first | rfl | exact absurd hq T.d__law_read_right_law | exact absurd hq (Ne.symm T.d__law_read_right_law)) (hr.mono (by decide)) hg (fun _ _ _ _ _ => rfl) (fun f c' AA' out' s' H' E hr hg => (pe_mkX1 T.r_Ratio (ratX T) (hr.mono (by decide)) hg (passes_call (takes_of rfl rfl rfl rfl) (fun _ _ _ _ h => h)) (pa_cons (pv 3) pa_nil)))) (pe_lst (pa_cons (pv 3) (pa_cons pe_int pa_nil))) (nomark _)) (pss_one (ps_ret pe_bl)) pss_nil)
      (pss_cons (ps_if (PW.pt (pw_or (pt_not (pt_val (pe_g (G := (ok__law_read_right T TB__law_read_right)) (hb := T.f__law_read_right.bp) (hm := T.f__law_read_right.gl) (hk := T.f__law_read_right.fn.kp) (hr := hr.mono (by decide)) (hgd := hg) (hx := passL) (ha := (pa_cons (pv 1) (pa_cons (pv 3) (pa_cons (pv 4) pa_nil))))))) (pw_or1 (pt_not (pt_val (pe_g (G := (ok__law_order_right T)) (hb := T.f__law_order_right.bp) (hm := T.f__law_order_right.gl) (hk := T.f__law_order_right.fn.kp) (hr := hr.mono (by decide)) (hgd := hg) (hx := passL) (ha := (pa_cons (pv 3) (pa_cons (pv 4) (pa_cons (pv 5) (pa_cons (pv 6) pa_nil))))))))))) (pss_one (ps_ret pe_bl)) pss_nil)
      (pss_cons (ps_set (i := 8) sc_law.nd rfl (Or.inr rfl) (pe_g (G := (ok__law_pick T)) (hb := T.f__law_pick.bp) (hm := T.f__law_pick.gl) (hk := T.f__law_pick.fn.kp) (hr := hr.mono (by decide)) (hgd := hg) (hx := passL) (ha := (pa_cons (pv 1) (pa_cons (pe_lst (pa_cons (pe_un un_neg pe_int) (pa_cons pe_non (pa_cons pe_bl (pa_cons pe_str (pa_cons (pe_tup (pa_cons pe_int pa_nil)) (pa_cons (pe_op op_sub pe_int (pv 4)) pa_nil))))))) pa_nil)))))
      (pss_cons (ps_set (i := 9) sc_law.nd rfl (Or.inl rfl) (pe_lst (pa_cons (pe_lamF (T := [(A.t__law_read_right, "_law_read_right.<locals>.<lambda>"), (A.t_law, "law.<locals>.<lambda>")]) (P := A.t_law) (c := A.k_law) T.f__law_said.fn T.f__law_said.bp sc__law_said (by rfl) (Or.inl rfl) T.f__law_said.gl (gv__law_said T) TB_law rfl (by first | exact List.mem_cons_self | exact List.mem_cons_of_mem _ List.mem_cons_self) (fun p hp hq => by simp only [List.mem_cons, List.not_mem_nil, or_false] at hp; rcases hp with rfl | rfl <;> first | rfl | exact absurd hq T.d__law_read_right_law | exact absurd hq (Ne.symm T.d__law_read_right_law)) (hr.mono (by decide)) hg (fun _ _ _ _ _ => rfl) (fun f c' AA' out' s' H' E hr hg => (pe_mkX2 T.r_Ratio (ratX T) (hr.mono (by decide)) hg (passes_call (takes_of rfl rfl rfl rfl) (fun _ _ _ _ h => h)) (pa_cons (pv 8) (pa_cons (pv 4) pa_nil))))) pa_nil)))
      (pss_cons (ps_expr (pe_bm PySem.F.plainAttrs_list PySem.F.slot_list_append PySem.F.type_list_append mt_append (pv 9) (pa_cons (pe_lamF (T := [(A.t__law_read_right, "_law_read_right.<locals>.<lambda>"), (A.t_law, "law.<locals>.<lambda>")]) (P := A.t_law) (c := A.k_law) T.f__law_said.fn T.f__law_said.bp sc__law_said (by rfl) (Or.inl rfl) T.f__law_said.gl (gv__law_said T) TB_law rfl (by first | exact List.mem_cons_self | exact List.mem_cons_of_mem _ List.mem_cons_self) (fun p hp hq => by simp only [List.mem_cons, List.not_mem_nil, or_false] at hp; rcases hp with rfl | rfl <;> first | rfl | exact absurd hq T.d__law_read_right_law | exact absurd hq (Ne.symm T.d__law_read_right_law)) (hr.mono (by decide)) hg (fun _ _ _ _ _ => rfl) (fun f c' AA' out' s' H' E hr hg => (pe_mkX2 T.r_Ratio (ratX T) (hr.mono (by decide)) hg (passes_call (takes_of rfl rfl rfl rfl) (fun _ _ _ _ h => h)) (pa_cons (pv 3) (pa_cons (pv 8) pa_nil))))) pa_nil)))
      (pss_cons (ps_if (pt_cmpR op_ne (pe_callB (call_reprX hg (lt70 hr)) (by rfl) T.m_repr (by first | exact PySem.boot_repr | exact PyProof.Rows.boot_repr | decide +kernel) (pa_cons (pv 9) pa_nil)) (pe_callB (call_reprX hg (lt70 hr)) (by rfl) T.m_repr (by first | exact PySem.boot_repr | exact PyProof.Rows.boot_repr | decide +kernel) (pa_cons (pe_lst (pa_cons (pe_lst (pa_cons pe_str (pa_cons (pe_tup (pa_cons (pv 8) (pa_cons (pv 4) pa_nil))) pa_nil))) (pa_cons (pe_lst (pa_cons pe_str (pa_cons (pe_tup (pa_cons (pv 3) (pa_cons (pv 8) pa_nil))) pa_nil))) pa_nil))) pa_nil)) (nomark _)) (pss_one (ps_ret pe_bl)) pss_nil)
      (pss_one (ps_if (pt_cmpR (op_neD hr.units) (pe_lamF (T := [(A.t__law_read_right, "_law_read_right.<locals>.<lambda>"), (A.t_law, "law.<locals>.<lambda>")]) (P := A.t_law) (c := A.k_law) T.f__law_said.fn T.f__law_said.bp sc__law_said (by rfl) (Or.inl rfl) T.f__law_said.gl (gv__law_said T) TB_law rfl (by first | exact List.mem_cons_self | exact List.mem_cons_of_mem _ List.mem_cons_self) (fun p hp hq => by simp only [List.mem_cons, List.not_mem_nil, or_false] at hp; rcases hp with rfl | rfl <;> first | rfl | exact absurd hq T.d__law_read_right_law | exact absurd hq (Ne.symm T.d__law_read_right_law)) (hr.mono (by decide)) hg (fun _ _ _ _ _ => rfl) (fun f c' AA' out' s' H' E hr hg => (pe_mkX2 T.r_Ratio (ratX T) (hr.mono (by decide)) hg (passes_call (takes_of rfl rfl rfl rfl) (fun _ _ _ _ h => h)) (pa_cons (pv 3) (pa_cons pe_int pa_nil))))) (pe_lst (pa_cons pe_str (pa_cons (pe_tup (pa_cons (pv 3) (pa_cons pe_int pa_nil))) pa_nil))) (nomark _)) (pss_one (ps_ret pe_bl)) pss_nil)))))))))))))
      (pss_one (ps_ret pe_bl))))
  · obtain ⟨s, ns, rfl, hs, hl, hH, q⟩ := h
    have hTb : LamX.Tabs [(A.t__law_read_right, "_law_read_right.<locals>.<lambda>"), (A.t_law, "law.<locals>.<lambda>")] H := fun p hp => by
      simp only [List.mem_cons, List.not_mem_nil, or_false] at hp
      rcases hp with rfl | rfl
      · exact LamX.TabS.nil (hH (A.k__law_read_right, A.t__law_read_right) (by simp))
      · exact LamX.TabS.nil (hH (A.k_law, A.t_law) (by simp))
    refine ⟨.ref s, rfl, s, ns, [(A.t__law_read_right, "_law_read_right.<locals>.<lambda>"), (A.t_law, "law.<locals>.<lambda>")], rfl, hs, hl, hTb, fun p c H' g i => ?_⟩
    have i0 := dw_of (n := 0) (Int.le_refl 0) (Int.le_refl 0) (Int.le_refl 0) (Int.le_refl 0) (Int.le_refl 0) H' i
    refine so_law02 (c := ⟨c, [(A.t__law_read_right, "_law_read_right.<locals>.<lambda>"), (A.t_law, "law.<locals>.<lambda>")]⟩) (C := A.c_Ratio) (CR := A.c_BadRatio) (x0 := some (.raw (.ref s))) (by simp) _ _ H' H' ⟨Gr.refl H', dw_le (by decide) H' i0, fun _ z => nomatch z⟩ i0 ((slots_start (N := ["script", "draw", "turn", "above", "below", "far", "low", "by", "odd", "told"]) (.cons (.raw (.ref s)) .nil)).set (v := .ref p) (.raw (.ref p)) 1) ⟨fun _ _ _ _ _ _ z => z.elim, fun v d H2 g2 i2 r e => ?_, fun _ _ _ _ _ _ z => z.elim, fun _ _ _ _ _ _ z => z.elim⟩
    cases e
    obtain rfl := r.blI
    exact q H2
end
end Bf
namespace Bf
open PySem PySem.Spec PyProof.Rows L2
/-- an error of the class at S is what «except S» names -/
theorem exm_self {K : PySem.W.Frag} {S : Addr} (h1 : PySem.W.subIn K (.ref S) (.type "BaseException") = some true) (h2 : PySem.W.isClsIn K S = true) (h3 : PySem.W.typeIn K (.ref S) = some (.type "type")) (h4 : PySem.W.subIn K (.ref S) (.ref S) = some true) : PySem.W.exmOne K (.ref S) (.ref S) = some true := by
  have h2' : (PySem.W.clsIn K S).isSome = true := h2
  have e1 : (PySem.W.subIn K (.ref S) (.type "BaseException") == some true) = true := by rw [h1] <;> rfl
  have e2 : ((PySem.W.clsIn K S).isSome && PySem.W.typeIn K (.ref S) == some (.type "type")) = true := by
    rw [h2', h3] <;> rfl
  show (if (PySem.W.subIn K (.ref S) (.type "BaseException") == some true) = true then (if ((PySem.W.clsIn K S).isSome && PySem.W.typeIn K (.ref S) == some (.type "type")) = true then PySem.W.subIn K (.ref S) (.ref S) else none) else none) = some true
  rw [if_pos e1, if_pos e2]
  exact h4
open PySem.W PySem.Calls PySem.HandSPX in
theorem all_mk {l : PySem.W.OpenLaw} {w : World} {K : PySem.W.Frag} {h : Heap} {mg : Str → Option Value} {fa : Addr} (X : K.In h) (G : h.Ns mainGlobals mg) (hfa : mg "law" = some (.ref fa)) (hl : l.prog = PySem.Challenge.pw_beamframes_k02_whole_ratios)
    {f1 f2 f3 f4 f5 f6 f7 f8 f9 f10 f11 f12 f13 f14 f15 : Addr}
    {od1 an1 : Option Addr} {sl1 : Array (Option Value)} {oc1 kV1 dc1 pm1 cd1 ct1 : Value}
    (a1 : PySem.W.nsIn K mainGlobals "is_whole" = some (some (.ref f1))) (l1 : K.lookup f1 = some ⟨oc1, od1, .func (PySem.W.fnOf "is_whole" "is_whole" (defArgs s_is_whole) (defBody s_is_whole) (defScope s_is_whole) .none kV1 dc1 pm1 an1 cd1 ct1), sl1⟩) (c1 : PySem.W.codeIn K cd1 "is_whole" = true) (k1 : PySem.W.keepIn K (.ref f1) = true)
    {od2 an2 : Option Addr} {sl2 : Array (Option Value)} {oc2 kV2 dc2 pm2 cd2 ct2 : Value}
    (a2 : PySem.W.nsIn K mainGlobals "is_numeral" = some (some (.ref f2))) (l2 : K.lookup f2 = some ⟨oc2, od2, .func (PySem.W.fnOf "is_numeral" "is_numeral" (defArgs s_is_numeral) (defBody s_is_numeral) (defScope s_is_numeral) .none kV2 dc2 pm2 an2 cd2 ct2), sl2⟩) (c2 : PySem.W.codeIn K cd2 "is_numeral" = true) (k2 : PySem.W.keepIn K (.ref f2) = true)
    {od3 an3 : Option Addr} {sl3 : Array (Option Value)} {oc3 kV3 dc3 pm3 cd3 ct3 : Value}
    (a3 : PySem.W.nsIn K mainGlobals "decimal_of" = some (some (.ref f3))) (l3 : K.lookup f3 = some ⟨oc3, od3, .func (PySem.W.fnOf "decimal_of" "decimal_of" (defArgs s_decimal_of) (defBody s_decimal_of) (defScope s_decimal_of) .none kV3 dc3 pm3 an3 cd3 ct3), sl3⟩) (c3 : PySem.W.codeIn K cd3 "decimal_of" = true) (k3 : PySem.W.keepIn K (.ref f3) = true)
    {od4 an4 : Option Addr} {sl4 : Array (Option Value)} {oc4 kV4 dc4 pm4 cd4 ct4 : Value}
    (a4 : PySem.W.nsIn K mainGlobals "_law_begin" = some (some (.ref f4))) (l4 : K.lookup f4 = some ⟨oc4, od4, .func (PySem.W.fnOf "_law_begin" "_law_begin" (defArgs s__law_begin) (defBody s__law_begin) (defScope s__law_begin) .none kV4 dc4 pm4 an4 cd4 ct4), sl4⟩) (c4 : PySem.W.codeIn K cd4 "_law_begin" = true) (k4 : PySem.W.keepIn K (.ref f4) = true)
    {od5 an5 : Option Addr} {sl5 : Array (Option Value)} {oc5 kV5 dc5 pm5 cd5 ct5 : Value}
    (a5 : PySem.W.nsIn K mainGlobals "_law_next" = some (some (.ref f5))) (l5 : K.lookup f5 = some ⟨oc5, od5, .func (PySem.W.fnOf "_law_next" "_law_next" (defArgs s__law_next) (defBody s__law_next) (defScope s__law_next) .none kV5 dc5 pm5 an5 cd5 ct5), sl5⟩) (c5 : PySem.W.codeIn K cd5 "_law_next" = true) (k5 : PySem.W.keepIn K (.ref f5) = true)
    {od6 an6 : Option Addr} {sl6 : Array (Option Value)} {oc6 kV6 dc6 pm6 cd6 ct6 : Value}
    (a6 : PySem.W.nsIn K mainGlobals "_law_pick" = some (some (.ref f6))) (l6 : K.lookup f6 = some ⟨oc6, od6, .func (PySem.W.fnOf "_law_pick" "_law_pick" (defArgs s__law_pick) (defBody s__law_pick) (defScope s__law_pick) .none kV6 dc6 pm6 an6 cd6 ct6), sl6⟩) (c6 : PySem.W.codeIn K cd6 "_law_pick" = true) (k6 : PySem.W.keepIn K (.ref f6) = true)
    {od7 an7 : Option Addr} {sl7 : Array (Option Value)} {oc7 kV7 dc7 pm7 cd7 ct7 : Value}
    (a7 : PySem.W.nsIn K mainGlobals "_law_said" = some (some (.ref f7))) (l7 : K.lookup f7 = some ⟨oc7, od7, .func (PySem.W.fnOf "_law_said" "_law_said" (defArgs s__law_said) (defBody s__law_said) (defScope s__law_said) .none kV7 dc7 pm7 an7 cd7 ct7), sl7⟩) (c7 : PySem.W.codeIn K cd7 "_law_said" = true) (k7 : PySem.W.keepIn K (.ref f7) = true)
    {od8 an8 : Option Addr} {sl8 : Array (Option Value)} {oc8 kV8 dc8 pm8 cd8 ct8 : Value}
    (a8 : PySem.W.nsIn K mainGlobals "_law_number" = some (some (.ref f8))) (l8 : K.lookup f8 = some ⟨oc8, od8, .func (PySem.W.fnOf "_law_number" "_law_number" (defArgs s__law_number) (defBody s__law_number) (defScope s__law_number) .none kV8 dc8 pm8 an8 cd8 ct8), sl8⟩) (c8 : PySem.W.codeIn K cd8 "_law_number" = true) (k8 : PySem.W.keepIn K (.ref f8) = true)
    {od9 an9 : Option Addr} {sl9 : Array (Option Value)} {oc9 kV9 dc9 pm9 cd9 ct9 : Value}
    (a9 : PySem.W.nsIn K mainGlobals "_law_common" = some (some (.ref f9))) (l9 : K.lookup f9 = some ⟨oc9, od9, .func (PySem.W.fnOf "_law_common" "_law_common" (defArgs s__law_common) (defBody s__law_common) (defScope s__law_common) .none kV9 dc9 pm9 an9 cd9 ct9), sl9⟩) (c9 : PySem.W.codeIn K cd9 "_law_common" = true) (k9 : PySem.W.keepIn K (.ref f9) = true)
    {od10 an10 : Option Addr} {sl10 : Array (Option Value)} {oc10 kV10 dc10 pm10 cd10 ct10 : Value}
    (a10 : PySem.W.nsIn K mainGlobals "_law_text_due" = some (some (.ref f10))) (l10 : K.lookup f10 = some ⟨oc10, od10, .func (PySem.W.fnOf "_law_text_due" "_law_text_due" (defArgs s__law_text_due) (defBody s__law_text_due) (defScope s__law_text_due) .none kV10 dc10 pm10 an10 cd10 ct10), sl10⟩) (c10 : PySem.W.codeIn K cd10 "_law_text_due" = true) (k10 : PySem.W.keepIn K (.ref f10) = true)
    {od11 an11 : Option Addr} {sl11 : Array (Option Value)} {oc11 kV11 dc11 pm11 cd11 ct11 : Value}
    (a11 : PySem.W.nsIn K mainGlobals "_law_read_right" = some (some (.ref f11))) (l11 : K.lookup f11 = some ⟨oc11, od11, .func (PySem.W.fnOf "_law_read_right" "_law_read_right" (defArgs s__law_read_right) (defBody s__law_read_right) (defScope s__law_read_right) .none kV11 dc11 pm11 an11 cd11 ct11), sl11⟩) (c11 : PySem.W.codeIn K cd11 "_law_read_right" = true) (k11 : PySem.W.keepIn K (.ref f11) = true)
    {od12 an12 : Option Addr} {sl12 : Array (Option Value)} {oc12 kV12 dc12 pm12 cd12 ct12 : Value}
    (a12 : PySem.W.nsIn K mainGlobals "_law_order_right" = some (some (.ref f12))) (l12 : K.lookup f12 = some ⟨oc12, od12, .func (PySem.W.fnOf "_law_order_right" "_law_order_right" (defArgs s__law_order_right) (defBody s__law_order_right) (defScope s__law_order_right) .none kV12 dc12 pm12 an12 cd12 ct12), sl12⟩) (c12 : PySem.W.codeIn K cd12 "_law_order_right" = true) (k12 : PySem.W.keepIn K (.ref f12) = true)
    {od13 an13 : Option Addr} {sl13 : Array (Option Value)} {oc13 kV13 dc13 pm13 cd13 ct13 : Value}
    (a13 : PySem.W.nsIn K mainGlobals "law" = some (some (.ref f13))) (l13 : K.lookup f13 = some ⟨oc13, od13, .func (PySem.W.fnOf "law" "law" (defArgs s_law) (defBody s_law) (defScope s_law) .none kV13 dc13 pm13 an13 cd13 ct13), sl13⟩) (c13 : PySem.W.codeIn K cd13 "law" = true) (k13 : PySem.W.keepIn K (.ref f13) = true)
    {od14 an14 : Option Addr} {sl14 : Array (Option Value)} {oc14 kV14 dc14 pm14 cd14 ct14 : Value}
     (l14 : K.lookup f14 = some ⟨oc14, od14, .func (PySem.W.fnOf "read" "Ratio.read" (defArgs s_o_read) (defBody s_o_read) (defScope s_o_read) .none kV14 dc14 pm14 an14 cd14 ct14), sl14⟩) (c14 : PySem.W.codeIn K cd14 "Ratio.read" = true) (k14 : PySem.W.keepIn K (.ref f14) = true)
    {od15 an15 : Option Addr} {sl15 : Array (Option Value)} {oc15 kV15 dc15 pm15 cd15 ct15 : Value}
     (l15 : K.lookup f15 = some ⟨oc15, od15, .func (PySem.W.fnOf "__str__" "Ratio.__str__" (defArgs s_o_str) (defBody s_o_str) (defScope s_o_str) .none kV15 dc15 pm15 an15 cd15 ct15), sl15⟩) (c15 : PySem.W.codeIn K cd15 "Ratio.__str__" = true) (k15 : PySem.W.keepIn K (.ref f15) = true)
    (z1 : PySem.W.nsIn K mainGlobals "bool" = some none)
    (z2 : PySem.W.nsIn K mainGlobals "int" = some none)
    (z3 : PySem.W.nsIn K mainGlobals "isinstance" = some none)
    (z4 : PySem.W.nsIn K mainGlobals "len" = some none)
    (z5 : PySem.W.nsIn K mainGlobals "range" = some none)
    (z6 : PySem.W.nsIn K mainGlobals "repr" = some none)
    (z7 : PySem.W.nsIn K mainGlobals "str" = some none)
    {q1 : Tok} (v1 : PySem.W.nsIn K mainGlobals "CHUNK" = some (some (.int 10000000000000000000000000000000000000000000000000000000000000000 q1)))
    {q2 : Tok} (v2 : PySem.W.nsIn K mainGlobals "CHUNK_WIDTH" = some (some (.int 64 q2)))
    {q3 : Tok} (v3 : PySem.W.nsIn K mainGlobals "MOST_DIGITS" = some (some (.int 40 q3)))
    {C1 fI1 cc1 cda1 B1_1 xN1 : Addr} {xnm1 xqn1 fl1 : Str} {xbs1 : List Value} {xsn1 : List Str} {xsub1 : List Value} {xab1 : Bool} {xcol1 : Option Bool} {xdd1 : Option Addr} {xm10 xm11 xm12 xm13 xm15 : Option Value}
    {xoc1 xcl1 xkl1 xdo1 xpm1 xct1 : Value} {xod1 xcd1 xkd1 xan1 : Option Addr} {xos1 xcs1 xks1 : Array (Option Value)} {xvs1 : Array Value} {xtf1 : Tok}
    (xa1 : PySem.W.nsIn K mainGlobals "BadRatio" = some (some (.ref C1))) (xb1 : K.lookup C1 = some (excClassObj xnm1 xqn1 C1 xN1 xbs1 [.ref B1_1, .type "ValueError", .type "Exception", .type "BaseException", .type "object"] true xsn1 xsub1 xab1 xcol1 xdd1 xm10 xm11 xm12 xm13 xm15 "ValueError.__new__"))
    (xc1 : PySem.W.findIn K (.ref C1) "__setattr__" = some (some (.builtin "object.__setattr__"))) (xd1 : PySem.W.findIn K (.ref C1) "__getattribute__" = some (some (.builtin "BaseException.__getattribute__"))) (xe1 : PySem.W.findIn K (.ref C1) "__getattr__" = some none) (xf1 : PySem.W.findIn K (.ref C1) "given" = some none)
    (xg1 : PySem.W.findIn K (.ref C1) "__init__" = some (some (.ref fI1))) (xh1 : PySem.W.typeIn K (.ref fI1) = some (.type "function"))
    (xi1 : K.lookup fI1 = some ⟨xoc1, xod1, .func (fnX "__init__" "BadRatio.__init__" (xA "given" ⟨7, 17, 7, 21⟩ ⟨7, 23, 7, 28⟩) (xB "given" "this is no ratio that may stand here" (fun n => match n with | 1 => ⟨8, 8, 8, 13⟩ | 2 => ⟨8, 8, 8, 15⟩ | 3 => ⟨8, 8, 8, 24⟩ | 4 => ⟨8, 25, 8, 63⟩ | 5 => ⟨8, 8, 8, 64⟩ | 6 => ⟨8, 8, 8, 64⟩ | 7 => ⟨9, 8, 9, 12⟩ | 8 => ⟨9, 8, 9, 18⟩ | 9 => ⟨9, 21, 9, 26⟩ | 10 => ⟨9, 8, 9, 26⟩ | _ => ⟨0, 0, 0, 0⟩)) (xS "given") [("__class__", cc1)] .none .none xdo1 xpm1 xan1 (.ref cda1) xct1), xos1⟩)
    (xj1 : PySem.W.codeIn K (.ref cda1) "BadRatio.__init__" = true) (xk1 : K.lookup cc1 = some ⟨xcl1, xcd1, .cell (some (.ref C1)), xcs1⟩) (xl1 : K.lookup cda1 = some ⟨xkl1, xkd1, .fields xvs1, xks1⟩) (xw1 : xvs1[2]? = some (.str fl1 xtf1)) (xx1 : ((PySem.Challenge.pw_beamframes_k02_whole_ratios.main.file : Str) == fl1) = true)
    (xo1 : PySem.W.keepIn K (.ref C1) = true) (xp1 : PySem.W.subIn K (.ref C1) (.type "BaseException") = some true) (xq1 : PySem.W.typeIn K (.ref C1) = some (.type "type")) (xr1 : PySem.W.hasDictIn K C1 = true) (xs1 : PySem.W.isClsIn K C1 = true) (xt1 : PySem.W.subIn K (.ref C1) (.ref C1) = some true)
    (xu1 : PySem.W.subIn K (.ref C1) (.type "ValueError") = some true) (xv1 : PySem.W.mroIn K C1 (.ref C1) = some true) (xy1 : ks_superIn K C1 C1 "__init__" = some (some (.builtin "ValueError.__init__"))) (xz1 : PySem.W.nsIn K cStatics "thirdparty.any" = some none)
    (zsup : PySem.W.nsIn K mainGlobals "super" = some none)
    {rg_eq : Addr} {ro_eq rk_eq rc_eq rpm_eq ru_eq rt_eq : Value} {rd_eq ra_eq : Option Addr} {rs_eq : Array (Option Value)}
    {rg_lt : Addr} {ro_lt rk_lt rc_lt rpm_lt ru_lt rt_lt : Value} {rd_lt ra_lt : Option Addr} {rs_lt : Array (Option Value)}
    {rg_le : Addr} {ro_le rk_le rc_le rpm_le ru_le rt_le : Value} {rd_le ra_le : Option Addr} {rs_le : Array (Option Value)}
    {rg_gt : Addr} {ro_gt rk_gt rc_gt rpm_gt ru_gt rt_gt : Value} {rd_gt ra_gt : Option Addr} {rs_gt : Array (Option Value)}
    {rg_ge : Addr} {ro_ge rk_ge rc_ge rpm_ge ru_ge rt_ge : Value} {rd_ge ra_ge : Option Addr} {rs_ge : Array (Option Value)}
    {rg_mul : Addr} {ro_mul rk_mul rc_mul rpm_mul ru_mul rt_mul : Value} {rd_mul ra_mul : Option Addr} {rs_mul : Array (Option Value)}
    {rg_add : Addr} {ro_add rk_add rc_add rpm_add ru_add rt_add : Value} {rd_add ra_add : Option Addr} {rs_add : Array (Option Value)}
    {PR14 : Addr} {rrc14 : List Value}
    {RC rfI rp_n rg_n rp_d rg_d rdT : Addr} {rr_n rr_d : List Value} {rdo : Value} {rdd : Option Addr} {rdq : Tok} {rdn : Nat} {rds : Array (Option Value)}
    {ro_n rk_n rc_n rpm_n ru_n rt_n : Value} {rd_n ra_n : Option Addr} {rs_n : Array (Option Value)}
    {ro_d rk_d rc_d rpm_d ru_d rt_d : Value} {rd_d ra_d : Option Addr} {rs_d : Array (Option Value)}
    {ro_i rk_i rc_i rpm_i ru_i rt_i : Value} {rd_i ra_i : Option Addr} {rs_i : Array (Option Value)}
    (rq_a : PySem.W.nsIn K mainGlobals "Ratio" = some (some (.ref RC)))
    (rq_b : PySem.W.plainGet K RC Str.empty = true)
    (rq_c : PySem.W.hasDictIn K RC = true)
    (rq_d : PySem.W.plainOver K RC = true)
    (rq_e : PySem.W.findIn K (.ref RC) "__setattr__" = some (some (.builtin "object.__setattr__")))
    (rq_f : PySem.W.makesIn K RC = true)
    (rq_g : PySem.W.findIn K (.ref RC) "__init__" = some (some (.ref rfI)))
    (rq_h : PySem.W.isFn K (.ref rfI) = true)
    (rq_i : PySem.W.keepIn K (.ref RC) = true)
    (rq_n1 : PySem.W.findIn K (.ref RC) "num" = some (some (.ref rp_n)))
    (rq_n2 : PySem.W.specialIn K (.ref rp_n) "__get__" = some (some (.builtin "property.__get__")))
    (rq_n3 : PySem.W.takesIn K (.ref rp_n) = some true)
    (rq_n4 : PySem.W.recIn K rp_n "property" = some (.ref rg_n :: rr_n))
    (rq_n5 : PySem.W.findIn K (.ref RC) "_num" = some none)
    (rq_n6 : K.lookup rg_n = some ⟨ro_n, rd_n, .func (PySem.W.fnOf "num" "Ratio.num" (defArgs s_rN) (defBody s_rN) (defScope s_rN) .none rk_n rc_n rpm_n ra_n ru_n rt_n), rs_n⟩)
    (rq_n7 : PySem.W.codeIn K ru_n "Ratio.num" = true)
    (rq_d1 : PySem.W.findIn K (.ref RC) "den" = some (some (.ref rp_d)))
    (rq_d2 : PySem.W.specialIn K (.ref rp_d) "__get__" = some (some (.builtin "property.__get__")))
    (rq_d3 : PySem.W.takesIn K (.ref rp_d) = some true)
    (rq_d4 : PySem.W.recIn K rp_d "property" = some (.ref rg_d :: rr_d))
    (rq_d5 : PySem.W.findIn K (.ref RC) "_den" = some none)
    (rq_d6 : K.lookup rg_d = some ⟨ro_d, rd_d, .func (PySem.W.fnOf "den" "Ratio.den" (defArgs s_rD) (defBody s_rD) (defScope s_rD) .none rk_d rc_d rpm_d ra_d ru_d rt_d), rs_d⟩)
    (rq_d7 : PySem.W.codeIn K ru_d "Ratio.den" = true)
    (rq_j : PySem.W.findIn K (.ref RC) "__class__" = some (some (.builtin "object.__class__")))
    (rq_k : PySem.W.specialIn K (.builtin "object.__class__") "__get__" = some (some (.builtin "getset_descriptor.__get__")))
    (rq_l : PySem.W.takesIn K (.builtin "object.__class__") = some true)
    (rq_m : PySem.W.mroIn K RC (.type "object") = some true)
    (rq_noNoneType : PySem.W.kitOne K (.type "NoneType") (.ref RC) = some false)
    (rq_nobool : PySem.W.kitOne K (.type "bool") (.ref RC) = some false)
    (rq_noint : PySem.W.kitOne K (.type "int") (.ref RC) = some false)
    (rq_nostr : PySem.W.kitOne K (.type "str") (.ref RC) = some false)
    (rq_nolist : PySem.W.kitOne K (.type "list") (.ref RC) = some false)
    (rq_notuple : PySem.W.kitOne K (.type "tuple") (.ref RC) = some false)
    (rq_nodict : PySem.W.kitOne K (.type "dict") (.ref RC) = some false)
    (rq_si : PySem.W.kitOne K (.ref RC) (.ref RC) = some true)
    (rq_stbool : PySem.W.kitOne K (.ref RC) (.type "bool") = some false)
    (rq_stint : PySem.W.kitOne K (.ref RC) (.type "int") = some false)
    (rq_ststr : PySem.W.kitOne K (.ref RC) (.type "str") = some false)
    (rq_stlist : PySem.W.kitOne K (.ref RC) (.type "list") = some false)
    (rq_sttuple : PySem.W.kitOne K (.ref RC) (.type "tuple") = some false)
    (rq_fi : K.lookup rfI = some ⟨ro_i, rd_i, .func (PySem.W.fnOf "__init__" "Ratio.__init__" (defArgs s_rI) (defBody s_rI) (defScope s_rI) (.ref rdT) rk_i rc_i rpm_i ra_i ru_i rt_i), rs_i⟩)
    (rq_fc : PySem.W.codeIn K ru_i "Ratio.__init__" = true)
    (rq_fk : PySem.W.keepIn K (.ref rfI) = true)
    (rq_ft : K.lookup rdT = some ⟨rdo, rdd, .seq [.int 1 rdq].toArray rdn, rds⟩)
    (rq_gc : PySem.W.nsIn K mainGlobals "gcd" = some (some (.builtin "math.gcd")))
    (rq_oeq1 : PySem.W.findIn K (.ref RC) "__eq__" = some (some (.ref rg_eq)))
    (rq_oeq2 : PySem.W.isFn K (.ref rg_eq) = true)
    (rq_oeq3 : K.lookup rg_eq = some ⟨ro_eq, rd_eq, .func (PySem.W.fnOf "__eq__" "Ratio.__eq__" (defArgs s_req) (defBody s_req) (defScope s_req) .none rk_eq rc_eq rpm_eq ra_eq ru_eq rt_eq), rs_eq⟩)
    (rq_oeq4 : PySem.W.codeIn K ru_eq "Ratio.__eq__" = true)
    (rq_oeq5 : PySem.W.keepIn K (.ref rg_eq) = true)
    (rq_olt1 : PySem.W.findIn K (.ref RC) "__lt__" = some (some (.ref rg_lt)))
    (rq_olt2 : PySem.W.isFn K (.ref rg_lt) = true)
    (rq_olt3 : K.lookup rg_lt = some ⟨ro_lt, rd_lt, .func (PySem.W.fnOf "__lt__" "Ratio.__lt__" (defArgs s_rlt) (defBody s_rlt) (defScope s_rlt) .none rk_lt rc_lt rpm_lt ra_lt ru_lt rt_lt), rs_lt⟩)
    (rq_olt4 : PySem.W.codeIn K ru_lt "Ratio.__lt__" = true)
    (rq_olt5 : PySem.W.keepIn K (.ref rg_lt) = true)
    (rq_ole1 : PySem.W.findIn K (.ref RC) "__le__" = some (some (.ref rg_le)))
    (rq_ole2 : PySem.W.isFn K (.ref rg_le) = true)
    (rq_ole3 : K.lookup rg_le = some ⟨ro_le, rd_le, .func (PySem.W.fnOf "__le__" "Ratio.__le__" (defArgs s_rle) (defBody s_rle) (defScope s_rle) .none rk_le rc_le rpm_le ra_le ru_le rt_le), rs_le⟩)
    (rq_ole4 : PySem.W.codeIn K ru_le "Ratio.__le__" = true)
    (rq_ole5 : PySem.W.keepIn K (.ref rg_le) = true)
    (rq_ogt1 : PySem.W.findIn K (.ref RC) "__gt__" = some (some (.ref rg_gt)))
    (rq_ogt2 : PySem.W.isFn K (.ref rg_gt) = true)
    (rq_ogt3 : K.lookup rg_gt = some ⟨ro_gt, rd_gt, .func (PySem.W.fnOf "__gt__" "Ratio.__gt__" (defArgs s_rgt) (defBody s_rgt) (defScope s_rgt) .none rk_gt rc_gt rpm_gt ra_gt ru_gt rt_gt), rs_gt⟩)
    (rq_ogt4 : PySem.W.codeIn K ru_gt "Ratio.__gt__" = true)
    (rq_ogt5 : PySem.W.keepIn K (.ref rg_gt) = true)
    (rq_oge1 : PySem.W.findIn K (.ref RC) "__ge__" = some (some (.ref rg_ge)))
    (rq_oge2 : PySem.W.isFn K (.ref rg_ge) = true)
    (rq_oge3 : K.lookup rg_ge = some ⟨ro_ge, rd_ge, .func (PySem.W.fnOf "__ge__" "Ratio.__ge__" (defArgs s_rge) (defBody s_rge) (defScope s_rge) .none rk_ge rc_ge rpm_ge ra_ge ru_ge rt_ge), rs_ge⟩)
    (rq_oge4 : PySem.W.codeIn K ru_ge "Ratio.__ge__" = true)
    (rq_oge5 : PySem.W.keepIn K (.ref rg_ge) = true)
    (rq_omul1 : PySem.W.findIn K (.ref RC) "__mul__" = some (some (.ref rg_mul)))
    (rq_omul2 : PySem.W.isFn K (.ref rg_mul) = true)
    (rq_omul3 : K.lookup rg_mul = some ⟨ro_mul, rd_mul, .func (PySem.W.fnOf "__mul__" "Ratio.__mul__" (defArgs s_rmul) (defBody s_rmul) (defScope s_rmul) .none rk_mul rc_mul rpm_mul ra_mul ru_mul rt_mul), rs_mul⟩)
    (rq_omul4 : PySem.W.codeIn K ru_mul "Ratio.__mul__" = true)
    (rq_omul5 : PySem.W.keepIn K (.ref rg_mul) = true)
    (rq_oadd1 : PySem.W.findIn K (.ref RC) "__add__" = some (some (.ref rg_add)))
    (rq_oadd2 : PySem.W.isFn K (.ref rg_add) = true)
    (rq_oadd3 : K.lookup rg_add = some ⟨ro_add, rd_add, .func (PySem.W.fnOf "__add__" "Ratio.__add__" (defArgs s_radd) (defBody s_radd) (defScope s_radd) .none rk_add rc_add rpm_add ra_add ru_add rt_add), rs_add⟩)
    (rq_oadd4 : PySem.W.codeIn K ru_add "Ratio.__add__" = true)
    (rq_oadd5 : PySem.W.keepIn K (.ref rg_add) = true)
    (rq_mo_read1 : PySem.W.readsIn K RC (.type "type") = true)
    (rq_mo_read2 : PySem.W.specialIn K (.ref RC) "__getattribute__" = some (some (.builtin "type.__getattribute__")))
    (rq_mo_read3 : PySem.W.findCls K (.ref RC) (.type "type") "read" = some (.get (.builtin "classmethod.__get__") (.ref PR14) .none (.ref RC)))
    (rq_mo_read4 : PySem.W.recIn K PR14 "classmethod" = some (.ref f14 :: rrc14))
    (rq_mo_read5 : PySem.W.fnIn K f14 = true)
    (rq_mo_str1 : PySem.W.findIn K (.ref RC) "__str__" = some (some (.ref f15)))
    (rq_mo_str2 : PySem.W.isFn K (.ref f15) = true)
    (rq_osf : PySem.W.selfFirst K RC = true)
    (rq_one : PySem.W.findIn K (.ref RC) "__ne__" = some (some (.builtin "object.__ne__")))
    (xca_1 : PySem.W.findIn K (.ref C1) "__class__" = some (some (.builtin "object.__class__")))
    (xob_1 : PySem.W.mroIn K C1 (.type "object") = some true)
    (xisg1 : PySem.W.specialIn K (.builtin "object.__class__") "__get__" = some (some (.builtin "getset_descriptor.__get__")))
    (xisg2 : PySem.W.takesIn K (.builtin "object.__class__") = some true)
    {KL11 PL11 : Addr} (tbk11 : cd11 = .ref KL11) (tbt11 : h.get? PL11 = some (PySem.W.tabObj #[])) (tbc11 : PySem.W.codeHdIn K KL11 PL11 = true) (tbn11 : K.lookup PL11 = none)
    {KL13 PL13 : Addr} (tbk13 : cd13 = .ref KL13) (tbt13 : h.get? PL13 = some (PySem.W.tabObj #[])) (tbc13 : PySem.W.codeHdIn K KL13 PL13 = true) (tbn13 : K.lookup PL13 = none)
    (tbd_11_13 : PL11 ≠ PL13)
    : ∃ (fd : FuncData) (cs : List (Addr × Addr)), (∀ p ∈ cs, h.get? p.2 = some tabO) ∧ (∀ p ∈ cs, K.lookup p.2 = none) ∧ (∀ p ∈ cs, PySem.W.CodeHd h p.1 p.2) ∧ (∀ (s : Shared) (v : Value), BindsTo s fd ⟨[v], []⟩ [("script", v)]) ∧ ∀ base : Heap, K.In base → base.Ns mainGlobals mg → (∀ p ∈ cs, LamX.TabB base mg p.1 p.2) → GOk l.prog w K mg base 9 fa fd ["script"] (spLawT cs K) := by
  have e := hfa.symm.trans (PySem.W.mg_of X G a13)
  obtain rfl : f13 = fa := by cases e; rfl
  subst tbk11
  subst tbk13
  have T : Txt K mg ⟨f1, (PySem.W.fnOf "is_whole" "is_whole" (defArgs s_is_whole) (defBody s_is_whole) (defScope s_is_whole) .none kV1 dc1 pm1 an1 cd1 ct1), f2, (PySem.W.fnOf "is_numeral" "is_numeral" (defArgs s_is_numeral) (defBody s_is_numeral) (defScope s_is_numeral) .none kV2 dc2 pm2 an2 cd2 ct2), f3, (PySem.W.fnOf "decimal_of" "decimal_of" (defArgs s_decimal_of) (defBody s_decimal_of) (defScope s_decimal_of) .none kV3 dc3 pm3 an3 cd3 ct3), f4, (PySem.W.fnOf "_law_begin" "_law_begin" (defArgs s__law_begin) (defBody s__law_begin) (defScope s__law_begin) .none kV4 dc4 pm4 an4 cd4 ct4), f5, (PySem.W.fnOf "_law_next" "_law_next" (defArgs s__law_next) (defBody s__law_next) (defScope s__law_next) .none kV5 dc5 pm5 an5 cd5 ct5), f6, (PySem.W.fnOf "_law_pick" "_law_pick" (defArgs s__law_pick) (defBody s__law_pick) (defScope s__law_pick) .none kV6 dc6 pm6 an6 cd6 ct6), f7, (PySem.W.fnOf "_law_said" "_law_said" (defArgs s__law_said) (defBody s__law_said) (defScope s__law_said) .none kV7 dc7 pm7 an7 cd7 ct7), f8, (PySem.W.fnOf "_law_number" "_law_number" (defArgs s__law_number) (defBody s__law_number) (defScope s__law_number) .none kV8 dc8 pm8 an8 cd8 ct8), f9, (PySem.W.fnOf "_law_common" "_law_common" (defArgs s__law_common) (defBody s__law_common) (defScope s__law_common) .none kV9 dc9 pm9 an9 cd9 ct9), f10, (PySem.W.fnOf "_law_text_due" "_law_text_due" (defArgs s__law_text_due) (defBody s__law_text_due) (defScope s__law_text_due) .none kV10 dc10 pm10 an10 cd10 ct10), f11, (PySem.W.fnOf "_law_read_right" "_law_read_right" (defArgs s__law_read_right) (defBody s__law_read_right) (defScope s__law_read_right) .none kV11 dc11 pm11 an11 (.ref KL11) ct11), f12, (PySem.W.fnOf "_law_order_right" "_law_order_right" (defArgs s__law_order_right) (defBody s__law_order_right) (defScope s__law_order_right) .none kV12 dc12 pm12 an12 cd12 ct12), f13, (PySem.W.fnOf "law" "law" (defArgs s_law) (defBody s_law) (defScope s_law) .none kV13 dc13 pm13 an13 (.ref KL13) ct13), f14, (PySem.W.fnOf "read" "Ratio.read" (defArgs s_o_read) (defBody s_o_read) (defScope s_o_read) .none kV14 dc14 pm14 an14 cd14 ct14), f15, (PySem.W.fnOf "__str__" "Ratio.__str__" (defArgs s_o_str) (defBody s_o_str) (defScope s_o_str) .none kV15 dc15 pm15 an15 cd15 ct15), PR14, KL11, PL11, KL13, PL13, C1, fI1, rg_eq, (PySem.W.fnOf "__eq__" "Ratio.__eq__" (defArgs s_req) (defBody s_req) (defScope s_req) .none rk_eq rc_eq rpm_eq ra_eq ru_eq rt_eq), rg_lt, (PySem.W.fnOf "__lt__" "Ratio.__lt__" (defArgs s_rlt) (defBody s_rlt) (defScope s_rlt) .none rk_lt rc_lt rpm_lt ra_lt ru_lt rt_lt), rg_le, (PySem.W.fnOf "__le__" "Ratio.__le__" (defArgs s_rle) (defBody s_rle) (defScope s_rle) .none rk_le rc_le rpm_le ra_le ru_le rt_le), rg_gt, (PySem.W.fnOf "__gt__" "Ratio.__gt__" (defArgs s_rgt) (defBody s_rgt) (defScope s_rgt) .none rk_gt rc_gt rpm_gt ra_gt ru_gt rt_gt), rg_ge, (PySem.W.fnOf "__ge__" "Ratio.__ge__" (defArgs s_rge) (defBody s_rge) (defScope s_rge) .none rk_ge rc_ge rpm_ge ra_ge ru_ge rt_ge), rg_mul, (PySem.W.fnOf "__mul__" "Ratio.__mul__" (defArgs s_rmul) (defBody s_rmul) (defScope s_rmul) .none rk_mul rc_mul rpm_mul ra_mul ru_mul rt_mul), rg_add, (PySem.W.fnOf "__add__" "Ratio.__add__" (defArgs s_radd) (defBody s_radd) (defScope s_radd) .none rk_add rc_add rpm_add ra_add ru_add rt_add), RC, rfI, (PySem.W.fnOf "__init__" "Ratio.__init__" (defArgs s_rI) (defBody s_rI) (defScope s_rI) (.ref rdT) rk_i rc_i rpm_i ra_i ru_i rt_i), rp_n, rg_n, (PySem.W.fnOf "num" "Ratio.num" (defArgs s_rN) (defBody s_rN) (defScope s_rN) .none rk_n rc_n rpm_n ra_n ru_n rt_n), rp_d, rg_d, (PySem.W.fnOf "den" "Ratio.den" (defArgs s_rD) (defBody s_rD) (defScope s_rD) .none rk_d rc_d rpm_d ra_d ru_d rt_d)⟩ := {
    r_Ratio := { cl := ⟨rq_b, rq_c, rq_d, rq_e⟩, mK := ⟨rq_f, rq_g, rq_h, rq_i⟩, pn := ⟨rq_n1, rq_n2, rq_n3, ⟨_, rq_n4⟩⟩, pd := ⟨rq_d1, rq_d2, rq_d3, ⟨_, rq_d4⟩⟩, an := rq_n5, ad := rq_d5, gC := PySem.W.mg_of X G rq_a, c1 := rq_j, c2 := rq_k, c3 := rq_l, c4 := rq_m, no := (by intro T hT; simp only [List.mem_cons, List.not_mem_nil, or_false] at hT; rcases hT with rfl | rfl | rfl | rfl | rfl | rfl | rfl <;> assumption), si := rq_si, sT := (by intro T hT; simp only [List.mem_cons, List.not_mem_nil, or_false] at hT; rcases hT with rfl | rfl | rfl | rfl | rfl <;> assumption) }
    g_Ratio := { n := fun P w mg base => L2.fn_getter rq_n6 rq_n7 sc_rN rfl rfl ⟨rq_b, rq_c, rq_d, rq_e⟩ rq_n5, d := fun P w mg base => L2.fn_getter rq_d6 rq_d7 sc_rD rfl rfl ⟨rq_b, rq_c, rq_d, rq_e⟩ rq_d5, bn := L2.Binds.all fun us hl => match us, hl with | [_], _ => rfl, bd := L2.Binds.all fun us hl => match us, hl with | [_], _ => rfl }
    g_fi := ⟨⟨_, _, _, _, _, _, _, _, _, _, rfl, rq_fi, rq_fc, .inr ⟨by simp, _, _, [.int 1 rdq], _, rfl, rq_ft, rfl, .cons ⟨_, rfl⟩ .nil⟩, .inl rfl⟩, rq_fk⟩
    m_gcd := PySem.W.mg_of X G rq_gc
    o_eq := ⟨fun_mk (st := s_req) rq_oeq3 rq_oeq4 rq_oeq5, rq_oeq1, rq_oeq2, L2.Binds.all fun us hl => match us, hl with | [_, _], _ => rfl⟩
    o_lt := ⟨fun_mk (st := s_rlt) rq_olt3 rq_olt4 rq_olt5, rq_olt1, rq_olt2, L2.Binds.all fun us hl => match us, hl with | [_, _], _ => rfl⟩
    o_le := ⟨fun_mk (st := s_rle) rq_ole3 rq_ole4 rq_ole5, rq_ole1, rq_ole2, L2.Binds.all fun us hl => match us, hl with | [_, _], _ => rfl⟩
    o_gt := ⟨fun_mk (st := s_rgt) rq_ogt3 rq_ogt4 rq_ogt5, rq_ogt1, rq_ogt2, L2.Binds.all fun us hl => match us, hl with | [_, _], _ => rfl⟩
    o_ge := ⟨fun_mk (st := s_rge) rq_oge3 rq_oge4 rq_oge5, rq_oge1, rq_oge2, L2.Binds.all fun us hl => match us, hl with | [_, _], _ => rfl⟩
    o_mul := ⟨fun_mk (st := s_rmul) rq_omul3 rq_omul4 rq_omul5, rq_omul1, rq_omul2, L2.Binds.all fun us hl => match us, hl with | [_, _], _ => rfl⟩
    o_add := ⟨fun_mk (st := s_radd) rq_oadd3 rq_oadd4 rq_oadd5, rq_oadd1, rq_oadd2, L2.Binds.all fun us hl => match us, hl with | [_, _], _ => rfl⟩
    o_ne := rq_one
    o_sf := rq_osf
    b_BadRatio := { T := { cls := ⟨_, _, _, _, _, _, _, _, _, _, _, _, _, _, _, xb1, rfl⟩, sa := xc1, noN := xf1, iC := xg1, tC := xh1, sup := xy1, sub := xu1, self := xv1, st := xz1, fn := ⟨_, _, _, _, _, _, _, _, _, _, _, _, _, _, _, _, _, (fun n => match n with | 1 => ⟨8, 8, 8, 13⟩ | 2 => ⟨8, 8, 8, 15⟩ | 3 => ⟨8, 8, 8, 24⟩ | 4 => ⟨8, 25, 8, 63⟩ | 5 => ⟨8, 8, 8, 64⟩ | 6 => ⟨8, 8, 8, 64⟩ | 7 => ⟨9, 8, 9, 12⟩ | 8 => ⟨9, 8, 9, 18⟩ | 9 => ⟨9, 21, 9, 26⟩ | 10 => ⟨9, 8, 9, 26⟩ | _ => ⟨0, 0, 0, 0⟩), _, _, _, _, _, xi1, xj1, xk1, xl1, xw1, xx1, (fun env => ⟨_, rfl⟩), (fun s a b => .of_eq rfl)⟩ }, gC := PySem.W.mg_of X G xa1, kC := xo1, exC := xp1, tyC := xq1, ga := xd1, gg := xe1, hdC := xr1, te := exm_self xp1 xs1 xq1 xt1, ms := PySem.W.mg_none_of X G zsup, top := by rfl, fn := by decide }
    f_is_whole := ⟨fun_mk (st := s_is_whole) l1 c1 k1, PySem.W.mg_of X G a1, fun s us hl => match us, hl with | [_], _ => .of_eq rfl⟩
    f_is_numeral := ⟨fun_mk (st := s_is_numeral) l2 c2 k2, PySem.W.mg_of X G a2, fun s us hl => match us, hl with | [_, _], _ => .of_eq rfl⟩
    f_decimal_of := ⟨fun_mk (st := s_decimal_of) l3 c3 k3, PySem.W.mg_of X G a3, fun s us hl => match us, hl with | [_], _ => .of_eq rfl⟩
    f__law_begin := ⟨fun_mk (st := s__law_begin) l4 c4 k4, PySem.W.mg_of X G a4, fun s us hl => match us, hl with | [_], _ => .of_eq rfl⟩
    f__law_next := ⟨fun_mk (st := s__law_next) l5 c5 k5, PySem.W.mg_of X G a5, fun s us hl => match us, hl with | [_, _], _ => .of_eq rfl⟩
    f__law_pick := ⟨fun_mk (st := s__law_pick) l6 c6 k6, PySem.W.mg_of X G a6, fun s us hl => match us, hl with | [_, _], _ => .of_eq rfl⟩
    f__law_said := ⟨fun_mk (st := s__law_said) l7 c7 k7, PySem.W.mg_of X G a7, fun s us hl => match us, hl with | [_], _ => .of_eq rfl⟩
    f__law_number := ⟨fun_mk (st := s__law_number) l8 c8 k8, PySem.W.mg_of X G a8, fun s us hl => match us, hl with | [_], _ => .of_eq rfl⟩
    f__law_common := ⟨fun_mk (st := s__law_common) l9 c9 k9, PySem.W.mg_of X G a9, fun s us hl => match us, hl with | [_, _], _ => .of_eq rfl⟩
    f__law_text_due := ⟨fun_mk (st := s__law_text_due) l10 c10 k10, PySem.W.mg_of X G a10, fun s us hl => match us, hl with | [_], _ => .of_eq rfl⟩
    f__law_read_right := ⟨fun_mk (st := s__law_read_right) l11 c11 k11, PySem.W.mg_of X G a11, fun s us hl => match us, hl with | [_, _, _], _ => .of_eq rfl⟩
    f__law_order_right := ⟨fun_mk (st := s__law_order_right) l12 c12 k12, PySem.W.mg_of X G a12, fun s us hl => match us, hl with | [_, _, _, _], _ => .of_eq rfl⟩
    f_law := ⟨fun_mk (st := s_law) l13 c13 k13, PySem.W.mg_of X G a13, fun s us hl => match us, hl with | [_], _ => .of_eq rfl⟩
    o_o_read := ⟨fun_mk (st := s_o_read) l14 c14 k14, ⟨rq_mo_read1, rq_mo_read2⟩, ⟨rq_mo_read3, ⟨_, rq_mo_read4⟩, rq_mo_read5⟩, L2.Binds.all fun us hl => match us, hl with | [_, _], _ => rfl⟩
    o_o_str := ⟨fun_mk (st := s_o_str) l15 c15 k15, rq_mo_str1, rq_mo_str2, L2.Binds.all fun us hl => match us, hl with | [_], _ => rfl⟩
    l__law_read_right := ⟨_, _, _, _, _, _, _, _, rfl, l11, c11⟩
    l_law := ⟨_, _, _, _, _, _, _, _, rfl, l13, c13⟩
    d__law_read_right_law := tbd_11_13
    i_BadRatio := ⟨xs1, xd1, xe1, xp1, xca_1, xisg1, xisg2, xob_1⟩
    m_bool := PySem.W.mg_none_of X G z1
    m_int := PySem.W.mg_none_of X G z2
    m_isinstance := PySem.W.mg_none_of X G z3
    m_len := PySem.W.mg_none_of X G z4
    m_range := PySem.W.mg_none_of X G z5
    m_repr := PySem.W.mg_none_of X G z6
    m_str := PySem.W.mg_none_of X G z7
    c_CHUNK := ⟨_, PySem.W.mg_of X G v1, ⟨_, rfl⟩⟩
    c_CHUNK_WIDTH := ⟨_, PySem.W.mg_of X G v2, ⟨_, rfl⟩⟩
    c_MOST_DIGITS := ⟨_, PySem.W.mg_of X G v3, ⟨_, rfl⟩⟩
  }
  refine ⟨(PySem.W.fnOf "law" "law" (defArgs s_law) (defBody s_law) (defScope s_law) .none kV13 dc13 pm13 an13 (.ref KL13) ct13), [(KL11, PL11), (KL13, PL13)], (fun p hp => by simp only [List.mem_cons, List.not_mem_nil, or_false] at hp; rcases hp with rfl | rfl <;> first | exact tbt11 | exact tbt13), (fun p hp => by simp only [List.mem_cons, List.not_mem_nil, or_false] at hp; rcases hp with rfl | rfl <;> first | exact tbn11 | exact tbn13), (fun p hp => by simp only [List.mem_cons, List.not_mem_nil, or_false] at hp; rcases hp with rfl | rfl <;> first | exact PySem.W.codeHd_of_K X tbc11 | exact PySem.W.codeHd_of_K X tbc13), fun s v => .of_eq rfl, fun base _ _ TB => ?_⟩
  rw [hl]
  exact ok_law T (TB (KL11, PL11) (by simp)) (TB (KL13, PL13) (by simp))
end Bf
theorem PySem.W.Fast.tw5731362448237308521 : True := trivial
theorem PySem.W.Fast.tw1008920569442870399 : True := trivial
theorem PySem.W.Fast.tw9522710994290519168 : True := trivial
theorem PySem.W.Fast.tw4010763618226947817 : True := trivial
theorem PySem.W.Fast.tw12578828043662681886 : True := trivial
theorem PySem.W.Fast.tw3312979963815131409 : True := trivial
theorem PySem.W.Fast.tw15477129053310762907 : True := trivial
theorem PySem.W.Fast.tw557992336390065676 : True := trivial
theorem PySem.W.Fast.tw12172083902883314925 : True := trivial
theorem PySem.W.Fast.tw10933058335931906020 : True := trivial
theorem PySem.W.Fast.tw8943148545960574031 : True := trivial
theorem PySem.W.Fast.tw17988877361279021803 : True := trivial
theorem PySem.W.Fast.tw5190926311204039946 : True := trivial
theorem PySem.W.Fast.tw15992475773398499512 : True := trivial
theorem PySem.W.Fast.tw11498090253840445067 : True := trivial
theorem PySem.W.Fast.tw10134164134622802377 : True := trivial
theorem PySem.W.Fast.tw11426065532162040316 : True := trivial
theorem PySem.W.Fast.tw16407282238294434003 : True := trivial
theorem PySem.W.Fast.tw8564543005535820995 : True := trivial
theorem PySem.W.Fast.tw6327121906922707439 : True := trivial
theorem PySem.W.Fast.tw4015216485086518168 : True := trivial
theorem PySem.W.Fast.tw199348847022765105 : True := trivial
theorem PySem.W.Fast.tw18426743494252501735 : True := trivial
theorem PySem.W.Fast.tw13834438342215965490 : True := trivial
theorem PySem.W.Fast.tw4528775778921241531 : True := trivial
theorem PySem.W.Fast.tw2645816711412438922 : True := trivial
theorem PySem.W.Fast.tw8116064451986404546 : True := trivial
theorem PySem.W.Fast.tw15646115211907298932 : True := trivial
theorem PySem.W.Fast.tw138428845591706594 : True := trivial
theorem PySem.W.Fast.tw239077634358478743 : True := trivial
theorem PySem.W.Fast.tw451035408136527396 : True := trivial
theorem PySem.W.Fast.tw591517684414165842 : True := trivial
theorem PySem.W.Fast.tw16011593862097351773 : True := trivial
theorem PySem.W.Fast.tw8119615797381271529 : True := trivial
theorem PySem.W.Fast.tw7176680020026902986 : True := trivial
theorem PySem.W.Fast.tw12935897527042894024 : True := trivial
theorem PySem.W.Fast.tw15623225693583934671 : True := trivial
theorem PySem.W.Fast.tw13083662290943090513 : True := trivial
theorem PySem.W.Fast.tw11520077838514668050 : True := trivial
theorem PySem.W.Fast.tw17176596658269312367 : True := trivial
theorem PySem.W.Fast.tw3032155058667048778 : True := trivial
theorem PySem.W.Fast.tw709257647359184489 : True := trivial
theorem PySem.W.Fast.tw8418204354305623661 : True := trivial
theorem PySem.W.Fast.tw12270227692051655517 : True := trivial
theorem PySem.W.Fast.tw18310935652829170802 : True := trivial
theorem PySem.W.Fast.tw14382384254596482064 : True := trivial
theorem PySem.W.Fast.tw13318773571728060455 : True := trivial
theorem PySem.W.Fast.tw5775004298852465648 : True := trivial
theorem PySem.W.Fast.tw742940054979038488 : True := trivial
theorem PySem.W.Fast.tw7457940471362488815 : True := trivial
theorem PySem.W.Fast.tw8831289708123451335 : True := trivial
theorem PySem.W.Fast.tw112207468030573259 : True := trivial
theorem PySem.W.Fast.tw17407980747872821175 : True := trivial
theorem PySem.W.Fast.tw8633460429463082570 : True := trivial
theorem PySem.W.Fast.tw5012435026584704474 : True := trivial
theorem PySem.W.Fast.tw7823575535495458231 : True := trivial
theorem PySem.W.Fast.tw14188229590786585298 : True := trivial
theorem PySem.W.Fast.tw5066123318822230973 : True := trivial
theorem PySem.W.Fast.tw12791599031148505641 : True := trivial
theorem PySem.W.Fast.tw10255564012826725250 : True := trivial
theorem PySem.W.Fast.tw11949859535218477798 : True := trivial
theorem PySem.W.Fast.tw16442274821351622009 : True := trivial
theorem PySem.W.Fast.tw9036669299093533890 : True := trivial
theorem PySem.W.Fast.tw16796097870128105287 : True := trivial
theorem PySem.W.Fast.tw6473290598397249723 : True := trivial
theorem PySem.W.Fast.tw14475657003179060148 : True := trivial
theorem PySem.W.Fast.tw10352218390352427065 : True := trivial
theorem PySem.W.Fast.tw4003599228271096870 : True := trivial
theorem PySem.W.Fast.tw16980277496765440837 : True := trivial
theorem PySem.W.Fast.tw2075245072903405338 : True := trivial
theorem PySem.W.Fast.tw6241667688728491132 : True := trivial
theorem PySem.W.Fast.tw7058104071921533750 : True := trivial
theorem PySem.W.Fast.tw10388676184225734968 : True := trivial
theorem PySem.W.Fast.tw16402675284950605805 : True := trivial
theorem PySem.W.Fast.tw16081667528948690836 : True := trivial
theorem PySem.W.Fast.tw5529629843605316945 : True := trivial
theorem PySem.W.Fast.tw2803301574702571532 : True := trivial
theorem PySem.W.Fast.tw896802257041265232 : True := trivial
theorem PySem.W.Fast.tw7347880102759506244 : True := trivial
theorem PySem.W.Fast.tw3540591922870357070 : True := trivial
theorem PySem.W.Fast.tw2198454837061232623 : True := trivial
theorem PySem.W.Fast.tw14298243046548443692 : True := trivial
theorem PySem.W.Fast.tw16391726894584784094 : True := trivial
theorem PySem.W.Fast.tw14720603100433973293 : True := trivial
theorem PySem.W.Fast.tw17643279774091050001 : True := trivial
theorem PySem.W.Fast.tw10782140955050217485 : True := trivial
theorem PySem.W.Fast.tw3526172992900162350 : True := trivial
theorem PySem.W.Fast.tw12218253306114574526 : True := trivial
theorem PySem.W.Fast.tw1214063546472154475 : True := trivial
theorem PySem.W.Fast.tw8563727514836752021 : True := trivial
theorem PySem.W.Fast.tw1576301402679399166 : True := trivial
theorem PySem.W.Fast.tw5637931408671703067 : True := trivial
theorem PySem.W.Fast.tw14027758330610102836 : True := trivial
theorem PySem.W.Fast.tw16531277341378777024 : True := trivial
theorem PySem.W.Fast.tw9728377220148388713 : True := trivial
theorem PySem.W.Fast.tw13583883423516036585 : True := trivial
theorem PySem.W.Fast.tw16540667179319202684 : True := trivial
theorem PySem.W.Fast.tw13259806699979599391 : True := trivial
theorem PySem.W.Fast.tw4389535084105145904 : True := trivial
theorem PySem.W.Fast.tw17441681626367076020 : True := trivial
theorem PySem.W.Fast.tw16835160711065773303 : True := trivial
theorem PySem.W.Fast.tw13970505330785480716 : True := trivial
theorem PySem.W.Fast.tw14134709550976764295 : True := trivial
theorem PySem.W.Fast.tw246373003735212318 : True := trivial
theorem PySem.W.Fast.tw15879945954481339618 : True := trivial
theorem PySem.W.Fast.tw400672699467608606 : True := trivial
theorem PySem.W.Fast.tw2345343519479391776 : True := trivial
theorem PySem.W.Fast.tw1439755037602028648 : True := trivial
theorem PySem.W.Fast.tw4584517761903273993 : True := trivial
theorem PySem.W.Fast.tw10044039048080574353 : True := trivial
theorem PySem.W.Fast.tw11092439759810475209 : True := trivial
theorem PySem.W.Fast.tw8847177066849950876 : True := trivial
theorem PySem.W.Fast.tw1467261515034686371 : True := trivial
theorem PySem.W.Fast.tw1857584441478242546 : True := trivial
theorem PySem.W.Fast.tw5209351939925089055 : True := trivial
theorem PySem.W.Fast.tw6871675020513519798 : True := trivial
theorem PySem.W.Fast.tw2153372728694473224 : True := trivial
theorem PySem.W.Fast.tw17047556945734633844 : True := trivial
theorem PySem.W.Fast.tw2521779952042886093 : True := trivial
theorem PySem.W.Fast.tw4929443899360982933 : True := trivial
theorem PySem.W.Fast.tw12632310386128497852 : True := trivial
theorem PySem.W.Fast.tw16347999496546117658 : True := trivial
theorem PySem.W.Fast.tw508243616296319636 : True := trivial
theorem PySem.W.Fast.tw2453243823499661688 : True := trivial
theorem PySem.W.Fast.tw15242660727824344517 : True := trivial
theorem PySem.W.Fast.tw16415885379186248050 : True := trivial
theorem PySem.W.Fast.tw10790029421078706341 : True := trivial
theorem PySem.W.Fast.tw14705806268233596851 : True := trivial
theorem PySem.W.Fast.tw3538566131274900853 : True := trivial
theorem PySem.W.Fast.tw7039801278372611838 : True := trivial
theorem PySem.W.Fast.tw1304687466023254096 : True := trivial
theorem PySem.W.Fast.tw7076461661912834424 : True := trivial
theorem PySem.W.Fast.tw4039867350560149135 : True := trivial
theorem PySem.W.Fast.tw12527716611547237871 : True := trivial
theorem PySem.W.Fast.tw10568384454106872329 : True := trivial
theorem PySem.W.Fast.tw15790063457183912099 : True := trivial
theorem PySem.W.Fast.tw14314737287823557200 : True := trivial
theorem PySem.W.Fast.tw15899237323956405425 : True := trivial
theorem PySem.W.Fast.tw17864573690412868336 : True := trivial
theorem PySem.W.Fast.tw13010831075449592233 : True := trivial
theorem PySem.W.Fast.tw10818820782784628878 : True := trivial
theorem PySem.W.Fast.tw15403985825916152938 : True := trivial
theorem PySem.W.Fast.tw2649274604267466826 : True := trivial
theorem PySem.W.Fast.tw12487926173194454765 : True := trivial
theorem PySem.W.Fast.tw6810886752738054379 : True := trivial
theorem PySem.W.Fast.tw4054204334406607352 : True := trivial
theorem PySem.W.Fast.tw10092665399144881896 : True := trivial
theorem PySem.W.Fast.tw9754645540525058803 : True := trivial
theorem PySem.W.Fast.tw7936610249508377227 : True := trivial
theorem PySem.W.Fast.tw11056213511769394011 : True := trivial
theorem PySem.W.Fast.tw4821123484554707501 : True := trivial
theorem PySem.W.Fast.tw1420565805754010602 : True := trivial
theorem PySem.W.Fast.tw5850419149336501637 : True := trivial
theorem PySem.W.Fast.tw15971918261940886849 : True := trivial
theorem PySem.W.Fast.tw6087630732786136299 : True := trivial
theorem PySem.W.Fast.tw3321283867805877665 : True := trivial
theorem PySem.W.Fast.tw11332633092081669609 : True := trivial
theorem PySem.W.Fast.tw15647577407056240071 : True := trivial
theorem PySem.W.Fast.tw2794311294150784906 : True := trivial
theorem PySem.W.Fast.tw8785515355545763908 : True := trivial
theorem PySem.W.Fast.tw8132453606558704350 : True := trivial
theorem PySem.W.Fast.tw5684086461999152362 : True := trivial
theorem PySem.W.Fast.tw7986285574294919645 : True := trivial
theorem PySem.W.Fast.tw2425560092478311529 : True := trivial
theorem PySem.W.Fast.tw1222597092466481930 : True := trivial
theorem PySem.W.Fast.tw8126687128684037633 : True := trivial
theorem PySem.W.Fast.tw2712372491161740917 : True := trivial
theorem PySem.W.Fast.tw10289698051890422629 : True := trivial
theorem PySem.W.Fast.tw5241930976086317162 : True := trivial
theorem PySem.W.Fast.tw14768241351948586001 : True := trivial
theorem PySem.W.Fast.tw2322530194348604184 : True := trivial
theorem PySem.W.Fast.tw4501197614327745061 : True := trivial
theorem PySem.W.Fast.tw3832947672966993419 : True := trivial
theorem PySem.W.Fast.tw9700678310967334131 : True := trivial
theorem PySem.W.Fast.tw3515627454396531871 : True := trivial
theorem PySem.W.Fast.tw7549012809915443477 : True := trivial
theorem PySem.W.Fast.tw13444821879347968603 : True := trivial
theorem PySem.W.Fast.tw15837089909166479608 : True := trivial
theorem PySem.W.Fast.tw13715589493123729563 : True := trivial
theorem PySem.W.Fast.tw1085912988200938184 : True := trivial
theorem PySem.W.Fast.tw1923989493437695114 : True := trivial
theorem PySem.W.Fast.tw6026315543204424224 : True := trivial
theorem PySem.W.Fast.tw17365205917082836932 : True := trivial
theorem PySem.W.Fast.tw3016131347895083003 : True := trivial
theorem PySem.W.Fast.tw12637299961225439055 : True := trivial
theorem PySem.W.Fast.tw17447204336262995070 : True := trivial
theorem PySem.W.Fast.tw8383795061559260772 : True := trivial
theorem PySem.W.Fast.tw10030730246534508515 : True := trivial
theorem PySem.W.Fast.tw2406849430339899076 : True := trivial
theorem PySem.W.Fast.tw17095192773110809960 : True := trivial
theorem PySem.W.Fast.tw230045157815495230 : True := trivial
theorem PySem.W.Fast.tw10737420470131527379 : True := trivial
theorem PySem.W.Fast.tw16941472120435573599 : True := trivial
theorem PySem.W.Fast.tw12844016807967179801 : True := trivial
theorem PySem.W.Fast.tw102054932219992950 : True := trivial
theorem PySem.W.Fast.tw650852021425305996 : True := trivial
theorem PySem.W.Fast.tw11152720455718800763 : True := trivial
theorem PySem.W.Fast.tw8159261289100582474 : True := trivial
theorem PySem.W.Fast.tw10963075419738217024 : True := trivial
theorem PySem.W.Fast.tw6333239563477112387 : True := trivial
theorem PySem.W.Fast.tw16293347716547204741 : True := trivial
theorem PySem.W.Fast.tw7334426660270365296 : True := trivial
theorem PySem.W.Fast.tw16039337663944464815 : True := trivial
theorem PySem.W.Fast.tw5613206683018337278 : True := trivial
theorem PySem.W.Fast.tw11203856012734543985 : True := trivial
theorem PySem.W.Fast.tw10716178450748771897 : True := trivial
theorem PySem.W.Fast.tw14752649395649630199 : True := trivial
theorem PySem.W.Fast.tw17103319246237330155 : True := trivial
theorem PySem.W.Fast.tw9131931022321076562 : True := trivial
theorem PySem.W.Fast.tw1937138747348782570 : True := trivial
theorem PySem.W.Fast.tw18567606276370666 : True := trivial
theorem PySem.W.Fast.tw10717765824026162896 : True := trivial
theorem PySem.W.Fast.tw2583033079805896908 : True := trivial
theorem PySem.W.Fast.tw15025547944133561228 : True := trivial
theorem PySem.W.Fast.tw13275885653161708106 : True := trivial
theorem PySem.W.Fast.tw9535575915886105398 : True := trivial
theorem PySem.W.Fast.tw17893059805989505308 : True := trivial
theorem PySem.W.Fast.tw4382604602135639231 : True := trivial
theorem PySem.W.Fast.tw18258860653539408201 : True := trivial
theorem PySem.W.Fast.tw6431146479859668075 : True := trivial
theorem PySem.W.Fast.tw4320384409985770995 : True := trivial
theorem PySem.W.Fast.tw17194557124673947731 : True := trivial
theorem PySem.W.Fast.tw9737896530764469284 : True := trivial
theorem PySem.W.Fast.tw14758698274555419715 : True := trivial
theorem PySem.W.Fast.tw16587488849706641124 : True := trivial
theorem PySem.W.Fast.tw8200155886558534368 : True := trivial
theorem PySem.W.Fast.tw16688892084579699843 : True := trivial
theorem PySem.W.Fast.tw3432380383619379437 : True := trivial
theorem PySem.W.Fast.tw10424197072092053890 : True := trivial
theorem PySem.W.Fast.tw7586883530845298721 : True := trivial
theorem PySem.W.Fast.tw15219883424937463183 : True := trivial
theorem PySem.W.Fast.tw7035825536564707070 : True := trivial
theorem PySem.W.Fast.tw16075204461962256744 : True := trivial
theorem PySem.W.Fast.tw9699784968061444275 : True := trivial
theorem PySem.W.Fast.tw9266147700793478057 : True := trivial
theorem PySem.W.Fast.tw3985773789732380926 : True := trivial
theorem PySem.W.Fast.tw16972624570619660616 : True := trivial
theorem PySem.W.Fast.tw14730532523869847254 : True := trivial
theorem PySem.W.Fast.tw12601465070764725823 : True := trivial
theorem PySem.W.Fast.tw12836035971939036671 : True := trivial
theorem PySem.W.Fast.tw1922808224275814202 : True := trivial
theorem PySem.W.Fast.tw4322755548266477163 : True := trivial
theorem PySem.W.Fast.tw12258874816146209176 : True := trivial
theorem PySem.W.Fast.tw11254965379771712185 : True := trivial
theorem PySem.W.Fast.tw2580303590991385700 : True := trivial
theorem PySem.W.Fast.tw135332822821025403 : True := trivial
theorem PySem.W.Fast.tw7211084067986213603 : True := trivial
theorem PySem.W.Fast.tw5568150729148039294 : True := trivial
theorem PySem.W.Fast.tw5065277948021754488 : True := trivial
theorem PySem.W.Fast.tw1644849748202151011 : True := trivial
theorem PySem.W.Fast.tw14532971087827986339 : True := trivial
theorem PySem.W.Fast.tw4285268978502456740 : True := trivial
theorem PySem.W.Fast.tw11757620247723334769 : True := trivial
theorem PySem.W.Fast.tw7571283440882721072 : True := trivial
theorem PySem.W.Fast.tw5859022906989532520 : True := trivial
theorem PySem.W.Fast.tw14072762260445910162 : True := trivial
theorem PySem.W.Fast.tw18392371333910083546 : True := trivial
theorem PySem.W.Fast.tw18347022973492314939 : True := trivial
theorem PySem.W.Fast.tw11374315378205993226 : True := trivial
theorem PySem.W.Fast.tw2012617791251031905 : True := trivial
theorem PySem.W.Fast.tw12621517141338023715 : True := trivial
theorem PySem.W.Fast.tw10785396621011020814 : True := trivial
theorem PySem.W.Fast.tw4063019148805732044 : True := trivial
theorem PySem.W.Fast.tw912562777849291443 : True := trivial
theorem PySem.W.Fast.tw2921576687806554375 : True := trivial
theorem PySem.W.Fast.tw17697272712203105153 : True := trivial
theorem PySem.W.Fast.tw5545009135245333012 : True := trivial
theorem PySem.W.Fast.tw1989161694196825722 : True := trivial
theorem PySem.W.Fast.tw16516892330546530185 : True := trivial
theorem PySem.W.Fast.tw7959618590399427563 : True := trivial
theorem PySem.W.Fast.tw4789326008238314994 : True := trivial
theorem PySem.W.Fast.tw6681306091425719379 : True := trivial
theorem PySem.W.Fast.tw13689222150037098025 : True := trivial
theorem PySem.W.Fast.tw10013148497506446244 : True := trivial
theorem PySem.W.Fast.tw17941380238560493463 : True := trivial
theorem PySem.W.Fast.tw14570600817960520710 : True := trivial
theorem PySem.W.Fast.tw7903011612408788357 : True := trivial
theorem PySem.W.Fast.tw7291678327413181875 : True := trivial
theorem PySem.W.Fast.tw14332965150249595006 : True := trivial
theorem PySem.W.Fast.tw4613568689590850012 : True := trivial
theorem PySem.W.Fast.tw9620333741643139172 : True := trivial
theorem PySem.W.Fast.tw5682428465138963686 : True := trivial
theorem PySem.W.Fast.tw10970412326805727491 : True := trivial
theorem PySem.W.Fast.tw4394794366137866559 : True := trivial
theorem PySem.W.Fast.tw16053104215612816525 : True := trivial
theorem PySem.W.Fast.tw3227484709313379416 : True := trivial
theorem PySem.W.Fast.tw6115907637516936802 : True := trivial
theorem PySem.W.Fast.tw16371011359711164884 : True := trivial
theorem PySem.W.Fast.tw1365198679021114014 : True := trivial
theorem PySem.W.Fast.tw5134725292137887199 : True := trivial
theorem PySem.W.Fast.tw18041331227318537634 : True := trivial
theorem PySem.W.Fast.tw4188536508786345002 : True := trivial
theorem PySem.W.Fast.tw14597324487010962482 : True := trivial
theorem PySem.W.Fast.tw4781589284605948197 : True := trivial
theorem PySem.W.Fast.tw9730417681523276073 : True := trivial
theorem PySem.W.Fast.tw11493866458100270512 : True := trivial
theorem PySem.W.Fast.tw17834982733244463453 : True := trivial
theorem PySem.W.Fast.tw12793778165415805922 : True := trivial
theorem PySem.W.Fast.tw5201503589751834476 : True := trivial
theorem PySem.W.Fast.tw2667250791944015914 : True := trivial
theorem PySem.W.Fast.tw8618234109353467234 : True := trivial
theorem PySem.W.Fast.tw1969107638608972255 : True := trivial
theorem PySem.W.Fast.tw11207720441513887387 : True := trivial
theorem PySem.W.Fast.tw247970220852637123 : True := trivial
theorem PySem.W.Fast.tw2798272029271444327 : True := trivial
theorem PySem.W.Fast.tw8210038896108216938 : True := trivial
theorem PySem.W.Fast.tw12386931458425062114 : True := trivial
theorem PySem.W.Fast.tw12576836179556767282 : True := trivial
theorem PySem.W.Fast.tw17871497245065955450 : True := trivial
theorem PySem.W.Fast.tw18424047865258221677 : True := trivial
theorem PySem.W.Fast.tw9903324022545392257 : True := trivial
theorem PySem.W.Fast.tw3991781315168628778 : True := trivial
theorem PySem.W.Fast.tw9646417142602146887 : True := trivial
theorem PySem.W.Fast.tw2965684788897050920 : True := trivial
theorem PySem.W.Fast.tw1884994060365380524 : True := trivial
theorem PySem.W.Fast.tw18394927601738967295 : True := trivial
theorem PySem.W.Fast.tw13588137113203044023 : True := trivial
theorem PySem.W.Fast.tw8036978243474400733 : True := trivial
theorem PySem.W.Fast.tw5969459051494019517 : True := trivial
theorem PySem.W.Fast.tw8581590438584713917 : True := trivial
theorem PySem.W.Fast.tw2105285762817137508 : True := trivial
theorem PySem.W.Fast.tw16326598321582176490 : True := trivial
theorem PySem.W.Fast.tw6712454932069755534 : True := trivial
theorem PySem.W.Fast.tw2734541129715091366 : True := trivial
theorem PySem.W.Fast.tw13705133976119761002 : True := trivial
theorem PySem.W.Fast.tw7737520887981724027 : True := trivial
theorem PySem.W.Fast.tw17645726148009877062 : True := trivial
theorem PySem.W.Fast.tw17126413556905014104 : True := trivial
theorem PySem.W.Fast.tw8195658351663487583 : True := trivial
theorem PySem.W.Fast.tw720115246866597441 : True := trivial
theorem PySem.W.Fast.tw6448030426930265793 : True := trivial
theorem PySem.W.Fast.tw8057293705625716493 : True := trivial
theorem PySem.W.Fast.tw17335683105034580227 : True := trivial
theorem PySem.W.Fast.tw10809969651683729880 : True := trivial
theorem PySem.W.Fast.tw14779868734303913157 : True := trivial
theorem PySem.W.Fast.tw10809073783868591753 : True := trivial
theorem PySem.W.Fast.tw53242452337426686 : True := trivial
theorem PySem.W.Fast.tw5280770026257479967 : True := trivial
theorem PySem.W.Fast.tw2688359398601295837 : True := trivial
theorem PySem.W.Fast.tw15590984306826484351 : True := trivial
theorem PySem.W.Fast.tw13667364604458616326 : True := trivial
theorem PySem.W.Fast.tw254436110014252222 : True := trivial
theorem PySem.W.Fast.tw8543722288776011149 : True := trivial
theorem PySem.W.Fast.tw18117355425896690339 : True := trivial
theorem PySem.W.Fast.tw16428270045360555833 : True := trivial
theorem PySem.W.Fast.tw1486737627131575751 : True := trivial
theorem PySem.W.Fast.tw6665170237481183674 : True := trivial
theorem PySem.W.Fast.tw16222746296440388435 : True := trivial
theorem PySem.W.Fast.tw12977519475662391972 : True := trivial
theorem PySem.W.Fast.tw11216031596004284647 : True := trivial
theorem PySem.W.Fast.tw15865435654388872664 : True := trivial
theorem PySem.W.Fast.tw1022375344337467682 : True := trivial
theorem PySem.W.Fast.tw4294389860669117183 : True := trivial
theorem PySem.W.Fast.tw4503696631202996946 : True := trivial
theorem PySem.W.Fast.tw5584539085321812948 : True := trivial
theorem PySem.W.Fast.tw15394754423619243455 : True := trivial
theorem PySem.W.Fast.tw3280850196670557021 : True := trivial
theorem PySem.W.Fast.tw9980551319503251685 : True := trivial
theorem PySem.W.Fast.tw3978534122982462628 : True := trivial
theorem PySem.W.Fast.tw452715147846316918 : True := trivial
theorem PySem.W.Fast.tw18363648694853633082 : True := trivial
theorem PySem.W.Fast.tw10596473637362430643 : True := trivial
theorem PySem.W.Fast.tw14170437158866441681 : True := trivial
theorem PySem.W.Fast.tw3142069329955959137 : True := trivial
theorem PySem.W.Fast.tw1918388111218891595 : True := trivial
theorem PySem.W.Fast.tw14128680667777721322 : True := trivial
theorem PySem.W.Fast.tw16548352410179667272 : True := trivial
theorem PySem.W.Fast.tw8552975534682834365 : True := trivial
theorem PySem.W.Fast.tw6456277035443092290 : True := trivial
theorem PySem.W.Fast.tw2744718090242808612 : True := trivial
theorem PySem.W.Fast.tw10800587195893308814 : True := trivial
theorem PySem.W.Fast.tw11035515387060252121 : True := trivial
theorem PySem.W.Fast.tw2032606421667755007 : True := trivial
theorem PySem.W.Fast.tw6243360402959303716 : True := trivial
theorem PySem.W.Fast.tw10480448759357433531 : True := trivial
theorem PySem.W.Fast.tw1682151628069888246 : True := trivial
theorem PySem.W.Fast.tw16614601745433028532 : True := trivial
theorem PySem.W.Fast.tw1129679296655737561 : True := trivial
theorem PySem.W.Fast.tw3256606437108658451 : True := trivial
theorem PySem.W.Fast.tw16494005980810280962 : True := trivial
theorem PySem.W.Fast.tw13331120746312434858 : True := trivial
theorem PySem.W.Fast.tw14947514834680701156 : True := trivial
theorem PySem.W.Fast.tw7105475581270780667 : True := trivial
theorem PySem.W.Fast.tw9730153586046790075 : True := trivial
theorem PySem.W.Fast.tw16457639551625337225 : True := trivial
theorem PySem.W.Fast.tw6546279881823443507 : True := trivial
theorem PySem.W.Fast.tw12960328063720226322 : True := trivial
theorem PySem.W.Fast.tw18180448755539908452 : True := trivial
theorem PySem.W.Fast.tw15419594924754300774 : True := trivial
theorem PySem.W.Fast.tw9057704340776416674 : True := trivial
theorem PySem.W.Fast.tw5833149774047648563 : True := trivial
theorem PySem.W.Fast.tw12459895507729012783 : True := trivial
theorem PySem.W.Fast.tw10228619105164976997 : True := trivial
theorem PySem.W.Fast.tw4088458507247937450 : True := trivial
theorem PySem.W.Fast.tw5851171109965982483 : True := trivial
theorem PySem.W.Fast.tw8927989615031845581 : True := trivial
theorem PySem.W.Fast.tw8802554343648411458 : True := trivial
theorem PySem.W.Fast.tw11184647255234478930 : True := trivial
theorem PySem.W.Fast.tw15778681065463761583 : True := trivial
theorem PySem.W.Fast.tw11144980498339100099 : True := trivial
theorem PySem.W.Fast.tw15756807384193066644 : True := trivial
theorem PySem.W.Fast.tw8257677520676979902 : True := trivial
theorem PySem.W.Fast.tw16653979053849210671 : True := trivial
theorem PySem.W.Fast.tw18418748671183941763 : True := trivial
theorem PySem.W.Fast.tw2270797635075677150 : True := trivial
theorem PySem.W.Fast.tw13923933728242664232 : True := trivial
theorem PySem.W.Fast.tw5960641369880461619 : True := trivial
theorem PySem.W.Fast.tw3951771596896451024 : True := trivial
theorem PySem.W.Fast.tw15252628401384103250 : True := trivial
theorem PySem.W.Fast.tw4478154151033869315 : True := trivial
theorem PySem.W.Fast.tw12972873119535846314 : True := trivial
theorem PySem.W.Fast.tw8870623357797207091 : True := trivial
theorem PySem.W.Fast.tw3748538908176196474 : True := trivial
theorem PySem.W.Fast.tw3251975281326212635 : True := trivial
theorem PySem.W.Fast.tw13525248537510552960 : True := trivial
theorem PySem.W.Fast.tw4679394420268336315 : True := trivial
theorem PySem.W.Fast.tw1952039451892946976 : True := trivial
theorem PySem.W.Fast.tw11945393006750410059 : True := trivial
theorem PySem.W.Fast.tw11241314301820095989 : True := trivial
theorem PySem.W.Fast.tw4691170441634111167 : True := trivial
theorem PySem.W.Fast.tw4975731982946615870 : True := trivial
theorem PySem.W.Fast.tw3724907314959992363 : True := trivial
theorem PySem.W.Fast.tw6197175023815701054 : True := trivial
theorem PySem.W.Fast.tw14722313895483574784 : True := trivial
theorem PySem.W.Fast.tw6761475049520297466 : True := trivial
theorem PySem.W.Fast.tw2771971915788993715 : True := trivial
theorem PySem.W.Fast.tw17121976412779902569 : True := trivial
theorem PySem.W.Fast.tw9366476066064593357 : True := trivial
open PySem PySem.W PyProof.Rows
set_option maxHeartbeats 0 in
theorem PySem.Challenge.cw_beamframes_k02_whole_ratios_holds : PySem.Challenge.rw_beamframes_k02_whole_ratios.Holds := by
  w_on; o_law; k_head; (case hw => w_witness2)
  k_fill
  refine Bf.walk_gT (l := PySem.Challenge.rw_beamframes_k02_whole_ratios) (n := 63) (k := 9) (x := "script") (sp := Bf.spLawT) rfl (by decide) rfl ⟨rfl, by decide, by decide⟩ (fun w h Y => PySem.W.km_in_of Y) ?F (fun _ _ _ a ns hl hH hS => ⟨a, ns, rfl, hS, hl, hH, fun _ => rfl⟩)
  case F =>
    intro w mg fa h Y KX G hmg
    refine' Bf.all_mk KX G hmg rfl ?a1 ?l1 ?c1 ?k1 ?a2 ?l2 ?c2 ?k2 ?a3 ?l3 ?c3 ?k3 ?a4 ?l4 ?c4 ?k4 ?a5 ?l5 ?c5 ?k5 ?a6 ?l6 ?c6 ?k6 ?a7 ?l7 ?c7 ?k7 ?a8 ?l8 ?c8 ?k8 ?a9 ?l9 ?c9 ?k9 ?a10 ?l10 ?c10 ?k10 ?a11 ?l11 ?c11 ?k11 ?a12 ?l12 ?c12 ?k12 ?a13 ?l13 ?c13 ?k13 ?l14 ?c14 ?k14 ?l15 ?c15 ?k15 ?z1 ?z2 ?z3 ?z4 ?z5 ?z6 ?z7 ?v1 ?v2 ?v3 ?xa1 ?xb1 ?xc1 ?xd1 ?xe1 ?xf1 ?xg1 ?xh1 ?xi1 ?xj1 ?xk1 ?xl1 ?xw1 ?xx1 ?xo1 ?xp1 ?xq1 ?xr1 ?xs1 ?xt1 ?xu1 ?xv1 ?xy1 ?xz1 ?zsup ?rq_a ?rq_b ?rq_c ?rq_d ?rq_e ?rq_f ?rq_g ?rq_h ?rq_i ?rq_n1 ?rq_n2 ?rq_n3 ?rq_n4 ?rq_n5 ?rq_n6 ?rq_n7 ?rq_d1 ?rq_d2 ?rq_d3 ?rq_d4 ?rq_d5 ?rq_d6 ?rq_d7 ?rq_j ?rq_k ?rq_l ?rq_m ?rq_noNoneType ?rq_nobool ?rq_noint ?rq_nostr ?rq_nolist ?rq_notuple ?rq_nodict ?rq_si ?rq_stbool ?rq_stint ?rq_ststr ?rq_stlist ?rq_sttuple ?rq_fi ?rq_fc ?rq_fk ?rq_ft ?rq_gc ?rq_oeq1 ?rq_oeq2 ?rq_oeq3 ?rq_oeq4 ?rq_oeq5 ?rq_olt1 ?rq_olt2 ?rq_olt3 ?rq_olt4 ?rq_olt5 ?rq_ole1 ?rq_ole2 ?rq_ole3 ?rq_ole4 ?rq_ole5 ?rq_ogt1 ?rq_ogt2 ?rq_ogt3 ?rq_ogt4 ?rq_ogt5 ?rq_oge1 ?rq_oge2 ?rq_oge3 ?rq_oge4 ?rq_oge5 ?rq_omul1 ?rq_omul2 ?rq_omul3 ?rq_omul4 ?rq_omul5 ?rq_oadd1 ?rq_oadd2 ?rq_oadd3 ?rq_oadd4 ?rq_oadd5 ?rq_mo_read1 ?rq_mo_read2 ?rq_mo_read3 ?rq_mo_read4 ?rq_mo_read5 ?rq_mo_str1 ?rq_mo_str2 ?rq_osf ?rq_one ?xca_1 ?xob_1 ?xisg1 ?xisg2 ?tbk11 ?tbt11 ?tbc11 ?tbn11 ?tbk13 ?tbt13 ?tbc13 ?tbn13 ?tbd_11_13
    (case a1 => k_is); (case l1 => k_is); (case c1 => k_is); (case k1 => k_is); (case a2 => k_is); (case l2 => k_is)
    (case c2 => k_is); (case k2 => k_is); (case a3 => k_is); (case l3 => k_is); (case c3 => k_is); (case k3 => k_is)
    (case a4 => k_is); (case l4 => k_is); (case c4 => k_is); (case k4 => k_is); (case a5 => k_is); (case l5 => k_is)
    (case c5 => k_is); (case k5 => k_is); (case a6 => k_is); (case l6 => k_is); (case c6 => k_is); (case k6 => k_is)
    (case a7 => k_is); (case l7 => k_is); (case c7 => k_is); (case k7 => k_is); (case a8 => k_is); (case l8 => k_is)
    (case c8 => k_is); (case k8 => k_is); (case a9 => k_is); (case l9 => k_is); (case c9 => k_is); (case k9 => k_is)
    (case a10 => k_is); (case l10 => k_is); (case c10 => k_is); (case k10 => k_is); (case a11 => k_is); (case l11 => k_is)
    (case c11 => k_is); (case k11 => k_is); (case a12 => k_is); (case l12 => k_is); (case c12 => k_is); (case k12 => k_is)
    (case a13 => k_is); (case l13 => k_is); (case c13 => k_is); (case k13 => k_is); (case z1 => k_is); (case z2 => k_is)
    (case z3 => k_is); (case z4 => k_is); (case z5 => k_is); (case z6 => k_is); (case z7 => k_is); (case v1 => k_is)
    (case v2 => k_is); (case v3 => k_is); (case xa1 => first | k_is | rfl | decide +kernel); (case xb1 => first | k_is | rfl | decide +kernel); (case xc1 => first | k_is | rfl | decide +kernel); (case xd1 => first | k_is | rfl | decide +kernel)
    (case xe1 => first | k_is | rfl | decide +kernel); (case xf1 => first | k_is | rfl | decide +kernel); (case xg1 => first | k_is | rfl | decide +kernel); (case xh1 => first | k_is | rfl | decide +kernel); (case xi1 => first | k_is | rfl | decide +kernel); (case xj1 => first | k_is | rfl | decide +kernel)
    (case xk1 => first | k_is | rfl | decide +kernel); (case xl1 => first | k_is | rfl | decide +kernel); (case xw1 => first | k_is | rfl | decide +kernel); (case xx1 => first | k_is | rfl | decide +kernel); (case xo1 => first | k_is | rfl | decide +kernel); (case xp1 => first | k_is | rfl | decide +kernel)
    (case xq1 => first | k_is | rfl | decide +kernel); (case xr1 => first | k_is | rfl | decide +kernel); (case xs1 => first | k_is | rfl | decide +kernel); (case xt1 => first | k_is | rfl | decide +kernel); (case xu1 => first | k_is | rfl | decide +kernel); (case xv1 => first | k_is | rfl | decide +kernel)
    (case xy1 => first | k_is | rfl | decide +kernel); (case xz1 => first | k_is | rfl | decide +kernel); (case zsup => k_is); (case rq_a => first | k_is | rfl | decide +kernel); (case rq_b => first | k_is | rfl | decide +kernel); (case rq_c => first | k_is | rfl | decide +kernel)
    (case rq_d => first | k_is | rfl | decide +kernel); (case rq_e => first | k_is | rfl | decide +kernel); (case rq_f => first | k_is | rfl | decide +kernel); (case rq_g => first | k_is | rfl | decide +kernel); (case rq_h => first | k_is | rfl | decide +kernel); (case rq_i => first | k_is | rfl | decide +kernel)
    (case rq_n1 => first | k_is | rfl | decide +kernel); (case rq_n2 => first | k_is | rfl | decide +kernel); (case rq_n3 => first | k_is | rfl | decide +kernel); (case rq_n4 => first | k_is | rfl | decide +kernel); (case rq_n5 => first | k_is | rfl | decide +kernel); (case rq_n6 => first | k_is | rfl | decide +kernel)
    (case rq_n7 => first | k_is | rfl | decide +kernel); (case rq_d1 => first | k_is | rfl | decide +kernel); (case rq_d2 => first | k_is | rfl | decide +kernel); (case rq_d3 => first | k_is | rfl | decide +kernel); (case rq_d4 => first | k_is | rfl | decide +kernel); (case rq_d5 => first | k_is | rfl | decide +kernel)
    (case rq_d6 => first | k_is | rfl | decide +kernel); (case rq_d7 => first | k_is | rfl | decide +kernel); (case rq_j => first | k_is | rfl | decide +kernel); (case rq_k => first | k_is | rfl | decide +kernel); (case rq_l => first | k_is | rfl | decide +kernel); (case rq_m => first | k_is | rfl | decide +kernel)
    (case rq_noNoneType => first | k_is | rfl | decide +kernel); (case rq_nobool => first | k_is | rfl | decide +kernel); (case rq_noint => first | k_is | rfl | decide +kernel); (case rq_nostr => first | k_is | rfl | decide +kernel); (case rq_nolist => first | k_is | rfl | decide +kernel); (case rq_notuple => first | k_is | rfl | decide +kernel)
    (case rq_nodict => first | k_is | rfl | decide +kernel); (case rq_si => first | k_is | rfl | decide +kernel); (case rq_stbool => first | k_is | rfl | decide +kernel); (case rq_stint => first | k_is | rfl | decide +kernel); (case rq_ststr => first | k_is | rfl | decide +kernel); (case rq_stlist => first | k_is | rfl | decide +kernel)
    (case rq_sttuple => first | k_is | rfl | decide +kernel); (case rq_fi => first | k_is | rfl | decide +kernel); (case rq_fc => first | k_is | rfl | decide +kernel); (case rq_fk => first | k_is | rfl | decide +kernel); (case rq_ft => first | k_is | rfl | decide +kernel); (case rq_gc => first | k_is | rfl | decide +kernel)
    (case rq_oeq1 => first | k_is | rfl | decide +kernel); (case rq_oeq2 => first | k_is | rfl | decide +kernel); (case rq_oeq3 => first | k_is | rfl | decide +kernel); (case rq_oeq4 => first | k_is | rfl | decide +kernel); (case rq_oeq5 => first | k_is | rfl | decide +kernel); (case rq_olt1 => first | k_is | rfl | decide +kernel)
    (case rq_olt2 => first | k_is | rfl | decide +kernel); (case rq_olt3 => first | k_is | rfl | decide +kernel); (case rq_olt4 => first | k_is | rfl | decide +kernel); (case rq_olt5 => first | k_is | rfl | decide +kernel); (case rq_ole1 => first | k_is | rfl | decide +kernel); (case rq_ole2 => first | k_is | rfl | decide +kernel)
    (case rq_ole3 => first | k_is | rfl | decide +kernel); (case rq_ole4 => first | k_is | rfl | decide +kernel); (case rq_ole5 => first | k_is | rfl | decide +kernel); (case rq_ogt1 => first | k_is | rfl | decide +kernel); (case rq_ogt2 => first | k_is | rfl | decide +kernel); (case rq_ogt3 => first | k_is | rfl | decide +kernel)
    (case rq_ogt4 => first | k_is | rfl | decide +kernel); (case rq_ogt5 => first | k_is | rfl | decide +kernel); (case rq_oge1 => first | k_is | rfl | decide +kernel); (case rq_oge2 => first | k_is | rfl | decide +kernel); (case rq_oge3 => first | k_is | rfl | decide +kernel); (case rq_oge4 => first | k_is | rfl | decide +kernel)
    (case rq_oge5 => first | k_is | rfl | decide +kernel); (case rq_omul1 => first | k_is | rfl | decide +kernel); (case rq_omul2 => first | k_is | rfl | decide +kernel); (case rq_omul3 => first | k_is | rfl | decide +kernel); (case rq_omul4 => first | k_is | rfl | decide +kernel); (case rq_omul5 => first | k_is | rfl | decide +kernel)
    (case rq_oadd1 => first | k_is | rfl | decide +kernel); (case rq_oadd2 => first | k_is | rfl | decide +kernel); (case rq_oadd3 => first | k_is | rfl | decide +kernel); (case rq_oadd4 => first | k_is | rfl | decide +kernel); (case rq_oadd5 => first | k_is | rfl | decide +kernel); (case rq_mo_read1 => first | k_is | rfl | decide +kernel)
    (case rq_mo_read2 => first | k_is | rfl | decide +kernel); (case rq_mo_read3 => first | k_is | rfl | decide +kernel); (case rq_mo_read4 => first | k_is | rfl | decide +kernel); (case rq_mo_read5 => first | k_is | rfl | decide +kernel); (case rq_mo_str1 => first | k_is | rfl | decide +kernel); (case rq_mo_str2 => first | k_is | rfl | decide +kernel)
    (case rq_osf => first | k_is | rfl | decide +kernel); (case rq_one => first | k_is | rfl | decide +kernel); (case xca_1 => first | k_is | rfl | decide +kernel); (case xob_1 => first | k_is | rfl | decide +kernel); (case xisg1 => first | k_is | rfl | decide +kernel); (case xisg2 => first | k_is | rfl | decide +kernel)
    (case l14 => k_is); (case c14 => k_is); (case k14 => k_is); (case l15 => k_is); (case c15 => k_is); (case k15 => k_is)
    (case tbk11 => rfl); (case tbt11 => exact PySem.W.km_tabs_of Y _ (by first | exact List.mem_cons_self | simp)); (case tbc11 => first | rfl | decide +kernel); (case tbn11 => first | rfl | decide +kernel)
    (case tbk13 => rfl); (case tbt13 => exact PySem.W.km_tabs_of Y _ (by first | exact (List.mem_cons_of_mem _ List.mem_cons_self) | simp)); (case tbc13 => first | rfl | decide +kernel); (case tbn13 => first | rfl | decide +kernel)
    (case tbd_11_13 => first | decide | decide +kernel | (intro z; cases z))
