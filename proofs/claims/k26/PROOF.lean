import PyProof.Rows.All
import Wide.All
import OpenK.AllK
import Wide.FinOn
import KE.KExcSuper
import HandS.Exc
import HandS.ForSpec
import HandS.ForMost
import HandS.ForExc
import HandS.Star
import HandS.IsInst
import HandS.TupAny
import HandS.Style
import KE.KDictKeyed
import KE.KDictLaw
import HandS.Wide
import HandS.RaiseMore
import HandS.Lambda
import HandS.Zip
import HandS.TupMul
import HandS.Property
import HandS.Gcd
import HandS.Defaults
import PyProof.NeKinds
import HandS.Walk
import HandS.Iter
import PyProof.Draws
import HandS.TryOnly
import HandS.ClsMeth
import HandS.RaiseFrom
import HandS.SuiteRaise
import PyProof.CompFree
import HandS.OwnEq
import KE.KCallOwn
import HandS.Text
import HandS.StrMore
import HandS.FStr
import PyProof.StrOps2
import KE.KExcInit
import HandS.TryMany
import KE.KExcIs
import HandS.TupLen
import KE.KDictPairs
import KE.KRevSl
import PyProof.P3In
import HandS.EndTab
import HandS.LawCells
import KE.KDictDisplayH
import HandS.Conv
import HandS.TupLe
import HandS.DictComp
import HandS.Records
import HandS.NoneIn
import HandS.Codes
import KE.KNestM
import PySem.Challenge.RW_beamframes_k26_whole_texts_of_bursts
set_option Elab.async false
set_option linter.all false
set_option maxRecDepth 100000
set_option maxHeartbeats 4000000
namespace Bf
open PySem PySem.Spec PySem.W PySem.Calls PyProof.Rows PySem.HandSPX
/-! ## Own errors: super().__init__('..'); self.f = v -/
def xA (f : Str) (p1 p2 : Pos) : Arguments := { posonlyargs := [], args := [{ arg := "self", annotation := none, pos := p1 }, { arg := f, annotation := none, pos := p2 }], vararg := none, kwonlyargs := [], kw_defaults := [], kwarg := none, defaults := [] }
def xB (f t : Str) (q : Nat → Pos) : List Stmt := [.Expr (.Call (.Attribute (.Call (.Name "super" (q 1)) [] [] (q 2)) "__init__" (q 3)) [.Constant (.str t) 0 (q 4)] [] (q 5)) (q 6), .Assign [.Attribute (.Name "self" (q 7)) f (q 8)] (.Name f (q 9)) (q 10)]
def xS (f : Str) : Scope := { kind := .function, names := [("self", .local), (f, .local), ("__class__", .free), ("super", .globalImplicit)], isGenerator := false, isCoroutine := false, more := [] }
/-- where the call stands in the file plays no part -/
def xCall (t : Str) (q : Nat → Pos) : Prop := ∀ env : Env, ∃ pl : Sem Bool, eval (.Call (.Attribute (.Call (.Name "super" (q 1)) [] [] (q 2)) "__init__" (q 3)) [.Constant (.str t) 0 (q 4)] [] (q 5)) env = (do
  let ov ← attributeBase (.Call (.Name "super" (q 1)) [] [] (q 2)) "__init__" env (eval (.Call (.Name "super" (q 1)) [] [] (q 2)) env)
  standAt (q 3).atName
  let (f, first) ← holding [ov] (getMethod ov "__init__" pl)
  callWith (q 5) f first (backTo (q 5) (starEach [.Constant (.str t) 0 (q 4)] env)) [])
structure BadTxt (prog : Program) (K : Frag) (f : Str) (C fI : Addr) : Prop where
  cls : ∃ nm q N bs bm sn sub ab col dd k0 k1 k2 k3 k5, K.lookup C = some (excClassObj nm q C N bs bm true sn sub ab col dd k0 k1 k2 k3 k5 "ValueError.__new__") ∧ refsVE bm = true
  sa : findIn K (.ref C) "__setattr__" = some (some (.builtin "object.__setattr__"))
  noN : findIn K (.ref C) f = some none
  iC : findIn K (.ref C) "__init__" = some (some (.ref fI))
  tC : typeIn K (.ref fI) = some (.type "function")
  sup : ks_superIn K C C "__init__" = some (some (.builtin "ValueError.__init__"))
  sub : subIn K (.ref C) (.type "ValueError") = some true
  self : mroIn K C (.ref C) = some true
  st : nsIn K cStatics "thirdparty.any" = some none
  fn : ∃ (oc ccl cl : Value) (od cdd cld : Option Addr) (doc pm ct : Value) (an : Option Addr) (osl ccs csl : Array (Option Value)) (qual t : Str) (p1 p2 : Pos) (q : Nat → Pos) (cc cda : Addr) (vs : Array Value) (file : Str) (tf : Tok),
    K.lookup fI = some ⟨oc, od, .func (fnX "__init__" qual (xA f p1 p2) (xB f t q) (xS f) [("__class__", cc)] .none .none doc pm an (.ref cda) ct), osl⟩ ∧ codeIn K (.ref cda) qual = true ∧ K.lookup cc = some ⟨cl, cld, .cell (some (.ref C)), csl⟩ ∧
    K.lookup cda = some ⟨ccl, cdd, .fields vs, ccs⟩ ∧ vs[2]? = some (.str file tf) ∧ ((prog.main.file : Str) == file) = true ∧ xCall t q ∧
    ∀ (s : Shared) (a b : Value), BindsTo s (fnX "__init__" qual (xA f p1 p2) (xB f t q) (xS f) [("__class__", cc)] .none .none doc pm an (.ref cda) ct) ⟨[a, b], []⟩ [(("self" : Str), a), (f, b)]
structure BadEnd (h h' : Heap) (f : Str) (x C dx t1 : Addr) (v : Value) : Prop where
  keep : ∀ b o, b ≠ x → h.get? b = some o → h'.get? b = some o
  obj : h'.get? x = some { cls := .ref C, dict := some dx, data := .fields #[.ref t1, .none, .none, .none, .bool false, .none] }
  dbig : h.objs.size ≤ dx
  dne : dx ≠ x
  ns : h'.Ns1 dx (fun y => if y = f then some v else none)
section
variable {prog : Program} {w : World} {A : Around} {E : Value → Shared → Prop} {R : Result → Shared → Prop} {s : Shared} {K : Frag} {mg mb : Str → Option Value} {C fI : Addr} {f : Str}
theorem bad_init (T : BadTxt prog K f C fI) {x t0 : Addr} {v : Value} (X : K.In s.heap) (hlim : s.heap.NoLimit) (hg : s.heap.Ns mainGlobals mg) (hb : s.heap.Ns builtinsNs mb) (hms : mg "super" = none) (hbs : mb "super" = some (.type "super"))
    (htop : (prog.main.scope.names.lookup ("super" : Str)).isSome = false) (hfn : f ≠ "self" ∧ f ≠ "super" ∧ f ≠ "__class__" ∧ f ≠ "__debug__") (hx : s.heap.get? x = some (excO C t0)) (hnx : K.lookup x = none) (hroom : A.depth < recursionLimit)
    (hq : ∀ h' tk dx t1, BadEnd s.heap h' f x C dx t1 v → R (.ok (.ret .none)) { s with heap := h', toks := tk }) :
    codeAny (model prog w) A (.call (.ref fI) ⟨[.ref x, v], []⟩) R s := by
  obtain ⟨oc, ccl, cl, od, cdd, cld, doc, pm, ct, an, osl, ccs, csl, qual, t, p1, p2, q, cc, cda, vs, file, tf, ho, hcd, hcell, hcode, hvs, hfile, hcall, hbind⟩ := T.fn
  obtain ⟨nm, qn, N, bs, bm, sn, sub, ab, col, dd, k0, k1, k2, k3, k5, hC, hbm⟩ := T.cls
  have hcl : clsIn K C = some { name := nm, bases := bs, mro := .ref C :: bm, ns := N, qualname := qn, hasDict := true, slotNames := sn, subclasses := sub, abstract := ab, collection := col, hasDel := false } := by unfold clsIn; rw [hC] <;> rfl
  obtain ⟨n1, n2, n3, n4⟩ := hfn
  have l1 : (xS f).names.lookup ("self" : Str) = some .local := by simp [xS, List.lookup]
  have l2 : (xS f).names.lookup f = some .local := by
    have : (f == ("self" : Str)) = false := by simpa using n1
    simp [xS, List.lookup, this]
  have l3 : (xS f).names.lookup ("__class__" : Str) = some .free := by
    have e1 : (("__class__" : Str) == f) = false := by simpa using n3.symm
    have e2 : (("__class__" : Str) == "self") = false := by decide
    simp [xS, List.lookup, e1, e2]
  have l4 : (xS f).names.lookup ("super" : Str) = some .globalImplicit := by
    have e1 : (("super" : Str) == f) = false := by simpa using n2.symm
    have e2 : (("super" : Str) == "self") = false := by decide
    have e3 : (("super" : Str) == "__class__") = false := by decide
    simp [xS, List.lookup, e1, e2, e3]
  refine ks_codeAny_call_defAt (fd := fnX "__init__" qual (xA f p1 p2) (xB f t q) (xS f) [("__class__", cc)] .none .none doc pm an (.ref cda) ct) (body := xB f t q) (binds := [(("self" : Str), .ref x), (f, v)]) hroom (X _ _ ho) rfl hlim (codeRec_of X hcd) rfl (hbind _ _ _) (by simp [xS]) (by simp [l1, l2]) (fun h₁ hns k => ?_) rfl rfl rfl
  have X₁ : K.In h₁ := X.keeps k
  have hx₁ := k _ _ hx
  have hC₁ := X₁ _ _ hC
  have m1 : (fun y => List.lookup y [(("self" : Str), Value.ref x), (f, v)].reverse) "self" = some (.ref x) := by
    have : (("self" : Str) == f) = false := by simpa using n1.symm
    simp [List.lookup, this]
  have m2 : (fun y => List.lookup y [(("self" : Str), Value.ref x), (f, v)].reverse) f = some v := by simp [List.lookup]
  have hxL : s.heap.objs.size ≠ x := Nat.ne_of_gt (Heap.lt_size hx)
  -- super()
  obtain ⟨pl, he⟩ := hcall (callEnv (fnX "__init__" qual (xA f p1 p2) (xB f t q) (xS f) [("__class__", cc)] .none .none doc pm an (.ref cda) ct) s.heap.objs.size fI)
  refine ks_wpAt_execs_cons (ks_wpAt_Expr_any (ks_wpAt_MethodCall ?_ he))
  refine ks_wpAt_super_base (f := fI) (cc := cda) (ar := { arg := "self", annotation := none, pos := p1 }) l4 l3 (by decide) rfl (X₁ _ _ ho) rfl rfl rfl (X₁ _ _ hcode) rfl hvs hfile htop ?_
  refine ks_loadName_global rfl l4 (loadGlobal_builtin (hg.keeps k) hms (hb.keeps k) hbs ⟨rfl, ?_⟩)
  refine wpAny_loadName_free rfl l3 rfl ⟨_, X₁ _ _ hcell, rfl⟩ ?_
  refine wpAny_loadName_local rfl l1 hns m1 ?_
  refine ks_wpAny_isType_cls hC₁ rfl ⟨rfl, ?_⟩
  refine ks_wpAny_call_super hC₁ rfl hx₁ rfl (fun c e => nomatch e) (looks_mroIn X₁ T.self) (fun h₂ e k2 => ?_)
  have X₂ : K.In h₂ := X₁.keeps k2
  -- .__init__
  have hne : x ≠ C := fun z => by rw [z, hC] at hnx; cases hnx
  have hsup : alongIn K "__init__" (((Value.ref C :: bm).dropWhile (· != .ref C)).drop 1) = some (some (.builtin "ValueError.__init__")) := by
    have := T.sup
    unfold ks_superIn at this
    rw [hcl] at this
    exact this
  have I2 : InstAt h₂ x (excO C t0) C none := ⟨k2 _ _ hx₁, rfl, rfl, trivial⟩
  refine kxs_getMethod kxs_ValueError e (looks_opaque X₂ T.st) (l₀ := Value.ref C :: bm) (fun A Q E s k q => wpAny_bind ((looks_clsIn X₂ hcl) A _ E s k (wpAny_pure q))) rfl X₂ hsup (I2.type.andThen (looks_subIn X₂ T.sub)) hne (by decide) ?_
  have k3 : ∀ b o, h₂.get? b = some o → (h₂.push (kxs_mw "ValueError.__init__" x)).get? b = some o := fun b o e => Heap.get?_push_of_some _ e
  have hu : (h₂.push (kxs_mw "ValueError.__init__" x)).get? h₂.objs.size = some (kxs_mw "ValueError.__init__" x) := Heap.get?_push_at rfl rfl
  refine kxs_callWith (i := "ValueError.__init__") (x := x) rfl ?_
  refine evalArgs_plain ?_
  refine spliced_more (Calls.Constant_str (spliced_none ⟨hu, ?_⟩)) rfl
  have hx₃ : (h₂.push (kxs_mw "ValueError.__init__" x)).get? x = some (excObj C t0 none .none) := k3 _ _ (k2 _ _ hx₁)
  have hC₃ := X₂.keeps k3 _ _ hC
  refine wpAny_call (codeAny_of_tree ?_)
  show wpAny _ _ (callAny (.ref h₂.objs.size) ⟨[.str t _], []⟩) _ _ _
  simp only [callAny]
  refine wpAny_bind (wpAny_load hu ?_)
  simp only [kxs_mw, show (Value.type "method-wrapper" == Value.type "method" || Value.type "method-wrapper" == Value.type "builtin_function_or_method" || Value.type "method-wrapper" == Value.type "method-wrapper") = true by decide, if_true]
  refine KFB.if_so (by decide) ?_
  refine wpAny_bind (check_bound_init PySem.F.excBase_ValueError.toExcCallFacts hC₃ hx₃ rfl ?_)
  refine wpAny_bind (wpAny_pure (wpAny_pure ?_))
  refine ⟨plainId_quiet PySem.F.excBase_ValueError.init.plain _, codeAny_builtin PySem.F.excBase_ValueError.initEntry ?_⟩
  refine exc_init_tree (cls := .ref C) (t0 := t0) (dv := none) (c2 := .none) (c3 := .none) (b4 := .bool false) hx₃ (by rw [sizeLine_eq]; show 1 ≤ 16777216; decide) fun h₄ k4 e4 t4 => ?_
  have up : ∀ b o, b ≠ x → h₁.get? b = some o → h₄.get? b = some o := fun b o hb e => k4 _ _ hb (k3 _ _ (k2 _ _ e))
  have X₄ : K.In h₄ := fun a o e => up a o (fun z => by rw [z, hnx] at e; cases e) (X₁ a o e)
  have hns₄ := hns.at (h' := h₄) fun o e => up _ _ hxL e
  -- self.f = v
  show _root_.PySem.wpAt _ _ _ (execs _ _) _ _ _
  refine ks_wpAt_execs_cons (ks_wpAt_Assign_Attr (wpAt_of_wpAny ?_))
  refine wpAny_Name (wpAny_loadName_local rfl l2 hns₄ m2 ?_) (by simpa using n4)
  refine wpAny_Name (wpAny_loadName_local rfl l1 hns₄ m1 ?_) (by decide)
  refine set_plain X₄ (ox := excO C (h₂.push (kxs_mw "ValueError.__init__" x)).objs.size) (od := none) ⟨e4, rfl, rfl, trivial⟩ T.sa ?_
  refine exc_osa X₄ e4 hcl (show refsVE (.ref C :: bm) = true from hbm) rfl T.noN (fun h₅ tk₅ dx k₅ dn dne hx₅ hn₅ => ?_)
  show _root_.PySem.wpAt _ _ _ (execs [] _) _ _ _
  refine wpAt_of_wpAny (wpAny_execs_nil (hq h₅ tk₅ dx (h₂.push (kxs_mw "ValueError.__init__" x)).objs.size ⟨fun b o hb e => k₅ b o hb (up b o hb (k b o e)), hx₅, Nat.le_of_lt (Nat.lt_of_lt_of_le hns₄.lt dn), dne, hn₅⟩))
end
end Bf
namespace Bf
open PySem PySem.Spec PySem.W PySem.Calls PyProof.Rows PySem.HandSPX
/-- a made error: new, its dict holds its field -/
structure BadMade (h h' : Heap) (f : Str) (e C d : Addr) (v : Value) : Prop where
  keep : ∀ b o, h.get? b = some o → h'.get? b = some o
  new : h.objs.size ≤ e
  obj : ∃ t1 : Addr, h'.get? e = some { cls := .ref C, dict := some d, data := .fields #[.ref t1, .none, .none, .none, .bool false, .none] }
  dbig : h.objs.size ≤ d
  dne : d ≠ e
  ns : h'.Ns1 d (fun y => if y = f then some v else none)
section
variable {prog : Program} {w : World} {A : Around} {R : Result → Shared → Prop} {s : Shared} {K : Frag} {mg mb : Str → Option Value} {C fI : Addr} {f : Str}
theorem bad_made (T : BadTxt prog K f C fI) {v : Value} (X : K.In s.heap) (hlim : s.heap.NoLimit) (hg : s.heap.Ns mainGlobals mg) (hb : s.heap.Ns builtinsNs mb) (hms : mg "super" = none) (hbs : mb "super" = some (.type "super"))
    (htop : (prog.main.scope.names.lookup ("super" : Str)).isSome = false) (hfn : f ≠ "self" ∧ f ≠ "super" ∧ f ≠ "__class__" ∧ f ≠ "__debug__") (hroom : A.depth + 1 < recursionLimit)
    (hq : ∀ h' tk e d, BadMade s.heap h' f e C d v → R (.ok (.ret (.ref e))) { s with heap := h', toks := tk }) : codeAny (model prog w) A (.call (.ref C) ⟨[v], []⟩) R s := by
  obtain ⟨nm, qn, N, bs, bm, sn, sub, ab, col, dd, k0, k1, k2, k3, k5, hC, hbm⟩ := T.cls
  obtain ⟨hp, g, dr, tk, os⟩ := s
  have k : ∀ b o, hp.get? b = some o → ((hp.push (kdv_tup [v])).push (excO C hp.objs.size)).get? b = some o := fun b o e => Heap.get?_push_of_some _ (Heap.get?_push_of_some _ e)
  have hget : ((hp.push (kdv_tup [v])).push (excO C hp.objs.size)).get? (hp.objs.size + 1) = some (excO C hp.objs.size) := by heap_get
  have hnx : K.lookup (hp.objs.size + 1) = none := by
    cases e : K.lookup (hp.objs.size + 1) with
    | none => rfl
    | some o => exact absurd (Nat.lt_of_succ_lt (Heap.lt_size (show hp.get? (hp.objs.size + 1) = some o from X _ _ e))) (Nat.lt_irrefl _)
  refine call_own PySem.F.excBase_ValueError (fun Y => refsVE_contains Y bm hbm) (X _ _ hC) (looks_findIn X T.iC) (fun self => bind_fn X self T.tC) (by rw [sizeLine_eq]; show 1 ≤ 16777216; decide) ?_
  refine bad_init (s := ⟨(hp.push (kdv_tup [v])).push (excO C hp.objs.size), g, dr, tk, os⟩) T (X.keeps k) (hlim.keeps k) (hg.keeps k) (hb.keeps k) hms hbs htop hfn hget hnx hroom fun h' tk' dx t1 M => ?_
  have old : ∀ b o, hp.get? b = some o → h'.get? b = some o := fun b o e => M.keep b o (Nat.ne_of_lt (Nat.lt_succ_of_lt (Heap.lt_size e))) (k b o e)
  have z : hp.objs.size ≤ dx := by
    have q := M.dbig
    first
      | (rw [show (Shared.heap ⟨(hp.push (kdv_tup [v])).push (excO C hp.objs.size), g, dr, tk, os⟩) = (hp.push (kdv_tup [v])).push (excO C hp.objs.size) from rfl, Heap.size_push, Heap.size_push] at q; omega)
      | (simp only [Heap.size_push] at q; omega)
  exact ⟨rfl, hq h' tk' (hp.objs.size + 1) dx ⟨old, Nat.le_succ _, ⟨t1, M.obj⟩, z, M.dne, M.ns⟩⟩
end
end Bf
/-! Data over the hand layer: a def's body read over plain data, the heap out of sight. -/
namespace Bf
open PySem PySem.Spec PyProof.Rows L2

/-! ### A. defs that are called where no guard runs (for repr) -/
structure GOk (P : Program) (w : World) (K : PySem.W.Frag) (mg : Str → Option Value) (base : Heap) (k : Nat) (f : Addr) (fd : FuncData) (ps : List Str) (sp : Sp) : Prop where
  len : ∀ vs H Q E, sp vs H Q E → vs.length = ps.length
  go : ∀ (A : Around) (out : List Env) (s : Shared) (H : Hp) (args : Args) (us : List Value) (vs : List V) (Q : VK) (E : XK),
    Room k A → A.guards = some [] → Env0 P w K mg base A out s H → BindsTo s fd args (ps.zip us) → Vals vs us → sp vs H Q E →
    codeAny (model P w) A (.call (.ref f) args) (CR (L2.CX P w) out P w H s Q E) s
section
variable {P : Program} {w : World} {K : PySem.W.Frag} {mg : Str → Option Value} {base : Heap}
theorem GOk.up {j k : Nat} {f : Addr} {fd : FuncData} {ps : List Str} {sp : Sp} (G : GOk P w K mg base j f fd ps sp) (h : j ≤ k) : GOk P w K mg base k f fd ps sp :=
  ⟨G.len, fun A out s H args us vs Q E r => G.go A out s H args us vs Q E (r.mono h)⟩
/-- a def by its body -/
theorem okG {x qual : Str} {st : Stmt} {f : Addr} {fd : FuncData} {N ps : List Str} {k : Nat} {sp : Sp} (F : Fun K x qual st f fd) (S : FnScope N ps (defScope st)) (len : ∀ vs H Q E, sp vs H Q E → vs.length = ps.length)
    (hb : ∀ (cdv : Value) (A : Around) (out : List Env) (s : Shared) (H : Hp) (vs : List V) (Q : VK) (E : XK), Room k (A.deeper (envOfC qual (defScope st) s.heap.objs.size f cdv)) → A.guards = some [] → sp vs H Q E →
      ∃ t, PSs (cxOf (L2.CX P w) P w K mg base N qual (defScope st) f cdv A out s H E) (defBody st) t ∧ t { nx := fun _ H' => Q .non H', rt := Q } (start N vs) H) :
    GOk P w K mg base (k + 1) f fd ps sp := by
  obtain ⟨oc, od, kV, doc, pm, an, cdv, ct, osl, rfl, lk, hcd⟩ := F.ex
  refine ⟨len, fun A out s H args us vs Q E hr hgd e0 hbi r hsp => ?_⟩
  refine StX.run_bnd lk hcd S hr e0 (G := fun xs H2 => xs = vs ∧ H2 = H) (fun A' Ex Q' h => ?_) fun s2 H2 xs ⟨ex, eH⟩ hr' => ?_
  · exact hbi _ _ _ _ (h s H vs us e0 Un.refl rfl (fun _ _ z => z) r (len _ _ _ _ hsp) ⟨rfl, rfl⟩)
  · subst ex eH
    exact hb cdv A out s2 _ _ Q E hr' hgd hsp
end
/-- how a def's arguments bind: all by place -/
def BPos (fd : FuncData) (ps : List Str) : Prop := ∀ (s : Shared) (us : List Value), us.length = ps.length → BindsTo s fd ⟨us, []⟩ (ps.zip us)
/-- all by name, in the order ks -/
def BKw (fd : FuncData) (ps ks : List Str) (g : List Value → List Value) : Prop := ∀ (s : Shared) (ws : List Value), ws.length = ks.length → BindsTo s fd ⟨[], ks.zip ws⟩ (ps.zip (g ws))
section
variable {X : Cx} {k : Nat} {f : Addr} {fd : FuncData} {ps ks : List Str} {sp : Sp} {E : XK} {x : Str} {p pos : Pos} {e : Expr} {es : List Expr} {kws : List Keyword} {t : TA}
theorem run_g {pins : List (Addr × Obj)} {σ : L2.St} {H : Hp} {s : Shared} {Q : VK} {args : Args} {us : List Value} {vs : List V} (G : GOk X.prog X.w X.K X.mg X.base k f fd ps sp) (hr : Room k X.A) (hgd : X.A.guards = some []) (hx : Passes (L2.CX X.prog X.w) X E)
    (I : Inv X pins σ H s) (hb : BindsTo s fd args (ps.zip us)) (r : Vals vs us) (h : sp vs H Q E) : wpAny (model X.prog X.w) X.A (call (.ref f) args.pos args.kw) (EP X pins σ Q) X.xe s := by
  refine wpAny_call (codeAny_mono (G.go X.A X.stack s H args us vs Q E hr hgd I.env0 hb r h) fun r' s' hq => ?_)
  match r', hq with
  | .error er, hq => exact hx pins σ H s er s' I hq
  | .ok (.ret u), hq => exact I.after hq
  | .ok .next, hq => exact hq.elim
  | .ok .brk, hq => exact hq.elim
  | .ok .cont, hq => exact hq.elim
/-- f(e, ..) -/
theorem pe_g (G : GOk X.prog X.w X.K X.mg X.base k f fd ps sp) (hb : BPos fd ps) (hm : X.mg x = some (.ref f)) (hk : PySem.W.keepIn X.K (.ref f) = true) (hr : Room k X.A) (hgd : X.A.guards = some []) (hx : Passes (L2.CX X.prog X.w) X E) (ha : PA X (e :: es) t)
    (hg : Gl X x := by rfl) (hdb : (x == ("__debug__" : Str)) = false := by decide) (he : starEach (e :: es) X.env = (false, eval e X.env) :: starEach es X.env := by rfl) (hpl : (backTo pos (starEach es X.env)).any (·.1) = false := by rfl) :
    PE X (.Call (.Name x p) (e :: es) [] pos) (tCall sp [] E t) := by
  refine ⟨fun pins s σ H Q I h => wpAny_Call_Name_kw (ld_glob I hg hm ?_ hdb)⟩
  refine PySem.W.callWith_K (h₀ := X.base) I.ok.mod.kin hk (thn (ha.run pos pins s σ H _ I h) fun us s1 ⟨vs, H1, I1, r, q⟩ => ⟨I1.kIn, ?_⟩) he hpl
  have q : sp (vs ++ []) H1 Q E := q
  rw [List.append_nil] at q
  exact run_g (args := ⟨us, []⟩) G hr hgd hx I1 (hb s1 us (r.length.symm.trans (G.len _ _ _ _ q))) r q
/-- f(k = v, ..), all by name: gV puts the values in the parameters' order -/
def tCallW (sp : Sp) (n : Nat) (gV : List V → List V) (E : XK) (t : TA) : TE := fun σ H Q => t σ H fun zs H1 => zs.length = n ∧ sp (gV zs) H1 Q E
theorem pe_gw {g : List Value → List Value} {gV : List V → List V} (G : GOk X.prog X.w X.K X.mg X.base k f fd ps sp) (hb : BKw fd ps ks g) (hgv : ∀ {vs us}, Vals vs us → vs.length = ks.length → Vals (gV vs) (g us)) (hm : X.mg x = some (.ref f)) (hk : PySem.W.keepIn X.K (.ref f) = true)
    (hr : Room k X.A) (hgd : X.A.guards = some []) (hx : Passes (L2.CX X.prog X.w) X E) (hkw : PK X kws t) (hg : Gl X x := by rfl)
    (hall : (backToKw pos (keywordEach kws X.env)).all (·.1.isSome) = true := by rfl) (hks : (backToKw pos (keywordEach kws X.env)).filterMap (·.1) = ks := by rfl) (hdb : (x == ("__debug__" : Str)) = false := by decide)
    (hpl : ((backTo pos (starEach [] X.env)).any (·.1) || (backToKw pos (keywordEach kws X.env)).any (·.1.isNone)) = false := by rfl) :
    PE X (.Call (.Name x p) [] kws pos) (tCallW sp ks.length gV E t) := by
  refine ⟨fun pins s σ H Q I h => wpAny_Call_Name_kw (ld_glob I hg hm ?_ hdb)⟩
  refine PySem.W.callWith_KW0 (h₀ := X.base) I.ok.mod.kin hk hall ?_ hpl
  refine thn (hkw.run pos pins s σ H _ I h) fun ws s2 ⟨zs, H2, I2, rz, ln, q2⟩ => ⟨I2.kIn, ?_⟩
  rw [hks]
  exact run_g (args := ⟨[], ks.zip ws⟩) G hr hgd hx I2 (hb s2 ws (rz.length.symm.trans ln)) (hgv rz ln) q2
end

/-! ### B. plain data -/
inductive Dt where
  | non | bl (b : Bool) | int (i : Int) | str (x : Str) | lst (xs : List Dt) | tup (xs : List Dt)
  /-- an empty dict -/
  | dic
  /-- an instance: its class, its fields -/
  | ins (C : Addr) (ns : List Str) (xs : List Dt)
  /-- any value, by itself -/
  | raw (v : V)
  /-- the list at p -/
  | lat (p : Addr) (xs : List Dt)
  /-- an error that was caught or made: its class, its field -/
  | err (C : Addr) (f : Str) (d : Dt)
  /-- a dict by its keys (tuples) and its values -/
  | dct (ks xs : List Dt)
  /-- the dict at p whose keys are ints -/
  | dti (p : Addr) (ks : List Int) (xs : List Dt)
  /-- the dict at p whose keys are tuples -/
  | dat (p : Addr) (w : World) (ks xs : List Dt)
  /-- what is at p, whatever it holds -/
  | cel (p : Addr) (w : World)
/-- an error as an object: its class, its dict -/
def ErrO (cls : Value) (d : Option Addr) (a : Addr) : HO := .ext fun h => ∃ oe : Obj, h.get? a = some oe ∧ Zc cls d oe ∧ ∃ vs, oe.data = .fields vs

mutual
/-- hash(d), d without texts -/
def hKey : Dt → Int
  | .non => reduceHash 0xFCA86420
  | .bl b => hashInt (if b = true then 1 else 0)
  | .int i => hashInt i
  | .tup xs => reduceHash (Builtin.Tuple.tupleHashOf (hKeys xs))
  | _ => 0
def hKeys : List Dt → List Int
  | [] => []
  | x :: xs => hKey x :: hKeys xs
end
def ents : List Dt → List Addr → List Value → List DictEntry
  | k :: ks, a :: as, u :: us => ⟨hKey k, .ref a, u⟩ :: ents ks as us
  | _, _, _ => []
/-- a dict as an object: its keys (as data, and where they stand), its values -/
def DicO (ks : List Dt) (as : List Addr) (vs : List V) (d : Addr) : HO := .ext fun h => (d == sysModules) = false ∧ ∃ (o : Obj) (es : Array DictEntry) (ep : Nat) (us : List Value), h.get? d = some o ∧ o.ExactDict ∧ o.data = .dict es ep ∧ Vals vs us ∧ es.toList = ents ks as us
mutual
def nk : Dt → NestedKey
  | .bl b => .num (if b = true then 1 else 0)
  | .int i => .num i
  | .str x => .text x
  | .tup xs => .tup (nkA xs)
  | _ => .none
def nkA : List Dt → List NestedKey
  | [] => []
  | x :: xs => nk x :: nkA xs
end
/-- a dict's entries, by the keys' data -/
def entsW (w : World) : List Dt → List Addr → List Value → List DictEntry
  | k :: ks, a :: as, u :: us => ⟨(nk k).hash w, .ref a, u⟩ :: entsW w ks as us
  | _, _, _ => []
/-- a dict that may grow, as an object: its keys (as data, and where they stand), its values -/
def DatO (w : World) (ks : List Dt) (as : List Addr) (vs : List V) (d : Addr) : HO := .ext fun h => (d == sysModules) = false ∧ ∃ (o : Obj) (es : Array DictEntry) (ep : Nat) (us : List Value), h.get? d = some o ∧ o.ExactDict ∧ o.data = .dict es ep ∧ Vals vs us ∧ es.toList = entsW w ks as us
/-- a dict with ints as keys -/
def iK (ks : List Int) (vs : List V) : List (Key × V) := (ks.map Sum.inl).zip vs
/-- dicts whose first key is a text, and tables of code objects, are no data -/
def dob : HO → Bool
  | .dK ((.inr _, _) :: _) => false
  | .tbl _ => false
  | _ => true
theorem dob_iK : ∀ (ks : List Int) (vs : List V), dob (.dK (iK ks vs)) = true
  | [], _ => by simp [iK, dob]
  | _ :: _, [] => by simp [iK, dob]
  | _ :: _, _ :: _ => rfl
/-- data stay -/
def Gr (H H' : Hp) : Prop := ∀ a o, H a = some o → dob o = true → H' a = some o
theorem Gr.refl (H : Hp) : Gr H H := fun _ _ h _ => h
theorem Gr.trans {H H1 H2 : Hp} (a : Gr H H1) (b : Gr H1 H2) : Gr H H2 := fun c o h d => b c o (a c o h d) d
theorem _root_.L2.Same.gr {H H' : Hp} (s : Same H H') : Gr H H' := fun c o h _ => s c o h
theorem same_new {H : Hp} {p : Addr} {o : HO} (h : H p = none) : Same H (upd H p o) := fun b x e => by
  rw [upd_ne (ne_of_none e h)]
  exact e
theorem Gr.sqL {K : PySem.W.Frag} {H H' : Hp} {a : Addr} {xs : List V} (g : Gr H H') (h : SqL K H a xs) : SqL K H' a xs := by
  rcases h with (h | ⟨o, h⟩) | h
  · exact .inl (.inl (g _ _ h rfl))
  · exact .inl (.inr ⟨o, g _ _ h rfl⟩)
  · exact .inr h
theorem Gr.sqT {K : PySem.W.Frag} {H H' : Hp} {a : Addr} {xs : List V} (g : Gr H H') (h : SqT K H a xs) : SqT K H' a xs := by
  rcases h with (h | ⟨o, h⟩) | h
  · exact .inl (.inl (g _ _ h rfl))
  · exact .inl (.inr ⟨o, g _ _ h rfl⟩)
  · exact .inr h

mutual
inductive Rep (K : PySem.W.Frag) (H : Hp) : V → Dt → Prop
  | non : Rep K H .non .non
  | bl (b : Bool) : Rep K H (.bl b) (.bl b)
  | int (i : Int) : Rep K H (.int i) (.int i)
  | str (x : Str) : Rep K H (.str x) (.str x)
  | lst {a : Addr} {vs : List V} {ds : List Dt} : SqL K H a vs → RepA K H vs ds → Rep K H (.ref a) (.lst ds)
  | tup {a : Addr} {vs : List V} {ds : List Dt} : SqT K H a vs → RepA K H vs ds → Rep K H (.ref a) (.tup ds)
  | dic {a : Addr} : H a = some (.dK []) → Rep K H (.ref a) .dic
  | ins {a C dx : Addr} {ns : List Str} {vs : List V} {ds : List Dt} : H a = some (.ins C dx (ns.zip vs)) → RepA K H vs ds → Rep K H (.ref a) (.ins C ns ds)
  | raw (v : V) : Rep K H v (.raw v)
  | lat {p : Addr} {vs : List V} {ds : List Dt} : H p = some (.lst vs) → RepA K H vs ds → Rep K H (.ref p) (.lat p ds)
  | err {a C dd : Addr} {f : Str} {v : V} {d : Dt} : H a = some (ErrO (.ref C) (some dd) a) → H dd = some (.xd [(f, v)]) → Rep K H v d → Rep K H (.ref a) (.err C f d)
  | dti {p : Addr} {vs : List V} {ks : List Int} {ds : List Dt} : H p = some (.dK (iK ks vs)) → ks.length = ds.length → RepA K H vs ds → Rep K H (.ref p) (.dti p ks ds)
  | dat {p : Addr} {w : World} {as : List Addr} {vs : List V} {ks ds : List Dt} : H p = some (DatO w ks as vs p) → ks.length = ds.length → RepA K H (as.map V.ref) ks → RepA K H vs ds → Rep K H (.ref p) (.dat p w ks ds)
  | cel {p : Addr} {w : World} {o : HO} : H p = some o → dob o = true → Rep K H (.ref p) (.cel p w)
  | dct {a : Addr} {as : List Addr} {vs : List V} {ks ds : List Dt} : H a = some (DicO ks as vs a) → RepA K H (as.map V.ref) ks → RepA K H vs ds → Rep K H (.ref a) (.dct ks ds)
inductive RepA (K : PySem.W.Frag) (H : Hp) : List V → List Dt → Prop
  | nil : RepA K H [] []
  | cons {v : V} {vs : List V} {d : Dt} {ds : List Dt} : Rep K H v d → RepA K H vs ds → RepA K H (v :: vs) (d :: ds)
end
section
variable {K : PySem.W.Frag} {H H' : Hp}
mutual
theorem Rep.mono (g : Gr H H') : ∀ {v : V} {d : Dt}, Rep K H v d → Rep K H' v d
  | _, _, .non => .non
  | _, _, .bl b => .bl b
  | _, _, .int i => .int i
  | _, _, .str x => .str x
  | _, _, .lst h r => .lst (g.sqL h) (r.mono g)
  | _, _, .tup h r => .tup (g.sqT h) (r.mono g)
  | _, _, .dic h => .dic (g _ _ h rfl)
  | _, _, .ins h r => .ins (g _ _ h rfl) (r.mono g)
  | _, _, .raw v => .raw v
  | _, _, .lat h r => .lat (g _ _ h rfl) (r.mono g)
  | _, _, .err h1 h2 r => .err (g _ _ h1 rfl) (g _ _ h2 rfl) (r.mono g)
  | _, _, .dct h r1 r2 => .dct (g _ _ h rfl) (r1.mono g) (r2.mono g)
  | _, _, .dti h l r => .dti (g _ _ h (dob_iK _ _)) l (r.mono g)
  | _, _, .dat h l r1 r2 => .dat (g _ _ h rfl) l (r1.mono g) (r2.mono g)
  | _, _, .cel h e => .cel (g _ _ h e) e
theorem RepA.mono (g : Gr H H') : ∀ {vs : List V} {ds : List Dt}, RepA K H vs ds → RepA K H' vs ds
  | _, _, .nil => .nil
  | _, _, .cons h r => .cons (h.mono g) (r.mono g)
end
theorem RepA.len : ∀ {vs : List V} {ds : List Dt}, RepA K H vs ds → vs.length = ds.length
  | _, _, .nil => rfl
  | _, _, .cons _ r => congrArg (· + 1) r.len
theorem RepA.at_ : ∀ {vs : List V} {ds : List Dt} {i : Nat} {d : Dt}, RepA K H vs ds → ds[i]? = some d → ∃ v, vs[i]? = some v ∧ Rep K H v d
  | _, _, _, _, .nil, h => by simp at h
  | _, _, 0, _, .cons r _, h => ⟨_, rfl, by simp at h; exact h ▸ r⟩
  | _, _, i + 1, d, .cons _ r, h => by
    obtain ⟨v, e, q⟩ := RepA.at_ (i := i) (d := d) r (by simpa using h)
    exact ⟨v, by simpa using e, q⟩
theorem RepA.ta : ∀ {vs : List V} {ds : List Dt} {i : Nat} {v : V}, RepA K H vs ds → vs[i]? = some v → ∃ d, ds[i]? = some d ∧ Rep K H v d
  | _, _, _, _, .nil, h => by simp at h
  | _, _, 0, _, .cons r _, h => ⟨_, rfl, by simp at h; exact h ▸ r⟩
  | _, _, i + 1, v, .cons _ r, h => by
    obtain ⟨d, e, q⟩ := RepA.ta (i := i) (v := v) r (by simpa using h)
    exact ⟨d, by simpa using e, q⟩
theorem RepA.app : ∀ {vs ws : List V} {ds es : List Dt}, RepA K H vs ds → RepA K H ws es → RepA K H (vs ++ ws) (ds ++ es)
  | _, _, _, _, .nil, s => s
  | _, _, _, _, .cons h r, s => .cons h (r.app s)
theorem RepA.take : ∀ {vs : List V} {ds : List Dt} (n : Nat), RepA K H vs ds → RepA K H (vs.take n) (ds.take n)
  | _, _, 0, _ => .nil
  | _, _, _ + 1, .nil => .nil
  | _, _, n + 1, .cons h r => .cons h (r.take n)
theorem RepA.drop : ∀ {vs : List V} {ds : List Dt} (n : Nat), RepA K H vs ds → RepA K H (vs.drop n) (ds.drop n)
  | _, _, 0, r => r
  | _, _, _ + 1, .nil => .nil
  | _, _, n + 1, .cons _ r => r.drop n
theorem RepA.bls : ∀ {vs : List V} {bs : List Bool}, RepA K H vs (bs.map Dt.bl) → vs = bs.map V.bl
  | _, [], .nil => rfl
  | _, _ :: _, .cons (.bl _) r => congrArg _ r.bls
theorem RepA.ints : ∀ {vs : List V} {ns : List Int}, RepA K H vs (ns.map Dt.int) → vs = ns.map V.int
  | _, [], .nil => rfl
  | _, _ :: _, .cons (.int _) r => congrArg _ r.ints
theorem Rep.tupI {v : V} {ds : List Dt} (h : Rep K H v (.tup ds)) : ∃ a vs, v = .ref a ∧ SqT K H a vs ∧ RepA K H vs ds := by
  cases h with
  | tup h r => exact ⟨_, _, rfl, h, r⟩
theorem Rep.latI {v : V} {p : Addr} {ds : List Dt} (h : Rep K H v (.lat p ds)) : v = .ref p ∧ ∃ vs, H p = some (.lst vs) ∧ RepA K H vs ds := by
  cases h with
  | lat h r => exact ⟨rfl, _, h, r⟩
theorem Rep.latL {v : V} {p : Addr} {ds : List Dt} (h : Rep K H v (.lat p ds)) : Rep K H v (.lst ds) := by
  obtain ⟨rfl, vs, h, r⟩ := h.latI
  exact .lst (SqL.of h) r
theorem Rep.lstI {v : V} {ds : List Dt} (h : Rep K H v (.lst ds)) : ∃ a vs, v = .ref a ∧ SqL K H a vs ∧ RepA K H vs ds := by
  cases h with
  | lst h r => exact ⟨_, _, rfl, h, r⟩
theorem Rep.intI {v : V} {i : Int} (h : Rep K H v (.int i)) : v = .int i := by cases h <;> rfl
theorem Rep.blI {v : V} {b : Bool} (h : Rep K H v (.bl b)) : v = .bl b := by cases h <;> rfl
theorem Rep.strI {v : V} {x : Str} (h : Rep K H v (.str x)) : v = .str x := by cases h <;> rfl
theorem Rep.rawI {v u : V} (h : Rep K H v (.raw u)) : v = u := by cases h <;> rfl
end

/-- what holds of the heap all along -/
structure Sta where
  I : Hp → Prop
  st : ∀ {H H' : Hp}, I H → Same H H' → I H'
/-- the slots' data -/
structure Slots (K : PySem.W.Frag) (H : Hp) (σ : L2.St) (ρ : List (Option Dt)) : Prop where
  len : σ.length = ρ.length
  val : ∀ (i : Nat) (d : Dt), ρ[i]? = some (some d) → ∃ v, σ[i]? = some (some v) ∧ Rep K H v d
section
variable {K : PySem.W.Frag} {H H' : Hp} {σ : L2.St} {ρ : List (Option Dt)}
theorem Slots.mono (s : Slots K H σ ρ) (g : Gr H H') : Slots K H' σ ρ := ⟨s.len, fun i d h => let ⟨v, e, r⟩ := s.val i d h; ⟨v, e, r.mono g⟩⟩
theorem Slots.set (s : Slots K H σ ρ) {v : V} {d : Dt} (r : Rep K H v d) (j : Nat) : Slots K H (σ.set j (some v)) (ρ.set j (some d)) := by
  refine ⟨by rw [List.length_set, List.length_set, s.len], fun i e h => ?_⟩
  by_cases hj : j = i
  · subst hj
    by_cases hl : j < ρ.length
    · rw [List.getElem?_set_self hl] at h
      cases h
      exact ⟨v, List.getElem?_set_self (by rw [s.len]; exact hl), r⟩
    · rw [List.getElem?_eq_none (by rw [List.length_set]; omega)] at h
      cases h
  · rw [List.getElem?_set_ne hj] at h
    obtain ⟨u, hu, q⟩ := s.val i e h
    exact ⟨u, by rw [List.getElem?_set_ne hj]; exact hu, q⟩
/-- a slot whose data are forgotten -/
theorem Slots.lose (s : Slots K H σ ρ) {ν : Option V} (j : Nat) : Slots K H (σ.set j ν) (ρ.set j none) := by
  refine ⟨by rw [List.length_set, List.length_set, s.len], fun i e h => ?_⟩
  by_cases hj : j = i
  · subst hj
    by_cases hl : j < ρ.length
    · rw [List.getElem?_set_self hl] at h
      cases h
    · rw [List.getElem?_eq_none (by rw [List.length_set]; omega)] at h
      cases h
  · rw [List.getElem?_set_ne hj] at h
    obtain ⟨u, hu, q⟩ := s.val i e h
    exact ⟨u, by rw [List.getElem?_set_ne hj]; exact hu, q⟩
def wipeD (ρ : List (Option Dt)) : List Nat → List (Option Dt)
  | [] => ρ
  | v :: vs => (wipeD ρ vs).set v none
theorem Slots.wipe (s : Slots K H σ ρ) : ∀ vs : List Nat, Slots K H (L2.wipe σ vs) (wipeD ρ vs)
  | [] => s
  | v :: vs => (s.wipe vs).lose v
end

/-! ### C. what an expression comes to -/
section
variable (K : PySem.W.Frag) (S S' : Sta)
def Ev (ρ : List (Option Dt)) (te : TE) (Φ : Dt → Prop) : Prop := ∀ (σ : L2.St) (H : Hp), S.I H → Slots K H σ ρ → ∀ Q : VK, (∀ v d H', Gr H H' → S'.I H' → Rep K H' v d → Φ d → Q v H') → te σ H Q
def EvT (ρ : List (Option Dt)) (tt : TT) (Φ : Bool → Prop) : Prop := ∀ (σ : L2.St) (H : Hp), S.I H → Slots K H σ ρ → ∀ Q : Bool → Hp → Prop, (∀ b H', Gr H H' → S'.I H' → Φ b → Q b H') → tt σ H Q
def EvA (ρ : List (Option Dt)) (ta : TA) (Φ : List Dt → Prop) : Prop := ∀ (σ : L2.St) (H : Hp), S.I H → Slots K H σ ρ → ∀ Q : List V → Hp → Prop, (∀ vs ds H', Gr H H' → S'.I H' → RepA K H' vs ds → Φ ds → Q vs H') → ta σ H Q
def EvO (ρ : List (Option Dt)) (to : TO) (Φ : Option Int → Prop) : Prop := ∀ (σ : L2.St) (H : Hp), S.I H → Slots K H σ ρ → ∀ Q : Option Int → Hp → Prop, (∀ o H', Gr H H' → S'.I H' → Φ o → Q o H') → to σ H Q
end
section
variable (K : PySem.W.Frag) (S : Sta)
/-- a two-place operation over data -/
def Rv2 (r : R2) (x y : Dt) (Φ : Dt → Prop) : Prop := ∀ (H : Hp) (v u : V), S.I H → Rep K H v x → Rep K H u y → ∀ Q : VK, (∀ v' d H', Gr H H' → S.I H' → Rep K H' v' d → Φ d → Q v' H') → r v u H Q
def RvC (r : List V → Hp → VK → Prop) (xs : List Dt) (Φ : Dt → Prop) : Prop := ∀ (H : Hp) (vs : List V), S.I H → RepA K H vs xs → ∀ Q : VK, (∀ v' d H', Gr H H' → S.I H' → Rep K H' v' d → Φ d → Q v' H') → r vs H Q
end
section
variable {K : PySem.W.Frag} {S S1 S2 S3 : Sta} {ρ : List (Option Dt)} {ta tb te : TE} {t u : TT} {Φ Ψ Θ : Dt → Prop} {x y z d : Dt}
theorem Ev.weak (h : Ev K S S1 ρ te Φ) (w : ∀ d, Φ d → Ψ d) : Ev K S S1 ρ te Ψ := fun σ H i s Q q => h σ H i s Q fun v d H' g i' r p => q v d H' g i' r (w d p)
theorem EvT.weak {Φ Ψ : Bool → Prop} (h : EvT K S S1 ρ t Φ) (w : ∀ d, Φ d → Ψ d) : EvT K S S1 ρ t Ψ := fun σ H i s Q q => h σ H i s Q fun v H' g i' p => q v H' g i' (w v p)
theorem Ev.to (h : Ev K S S1 ρ te (Eq x)) (e : x = y) : Ev K S S1 ρ te (Eq y) := e ▸ h
theorem EvT.to {a b : Bool} (h : EvT K S S1 ρ t (Eq a)) (e : a = b) : EvT K S S1 ρ t (Eq b) := e ▸ h
theorem ev_var {i : Nat} (h : ρ[i]? = some (some d)) : Ev K S S ρ (tVar i) (Eq d) := fun σ H hi s Q q => by
  obtain ⟨v, e, r⟩ := s.val i d h
  exact ⟨v, e, q v d H (Gr.refl H) hi r rfl⟩
theorem ev_lat {p : Addr} {xs : List Dt} (h : Ev K S S1 ρ te (Eq (.lat p xs))) : Ev K S S1 ρ te (Eq (.lst xs)) := fun σ H i s Q q => h σ H i s Q fun v d H' g i' r e => q v _ H' g i' ((show Dt.lat p xs = d from e) ▸ r).latL rfl
theorem ev_int {i : Int} : Ev K S S ρ (tC (.int i)) (Eq (.int i)) := fun σ H hi s Q q => q _ _ H (Gr.refl H) hi (.int i) rfl
theorem ev_bl {b : Bool} : Ev K S S ρ (tC (.bl b)) (Eq (.bl b)) := fun σ H hi s Q q => q _ _ H (Gr.refl H) hi (.bl b) rfl
theorem ev_non : Ev K S S ρ (tC .non) (Eq .non) := fun σ H hi s Q q => q _ _ H (Gr.refl H) hi .non rfl
theorem ev_str {x : Str} : Ev K S S ρ (tC (.str x)) (Eq (.str x)) := fun σ H hi s Q q => q _ _ H (Gr.refl H) hi (.str x) rfl
theorem ev_raw {v : V} : Ev K S S ρ (tC v) (Eq (.raw v)) := fun σ H hi s Q q => q _ _ H (Gr.refl H) hi (.raw v) rfl
theorem ev_opP {r : R2} (ha : Ev K S S1 ρ ta Φ) (hb : Ev K S1 S2 ρ tb Ψ) (hr : ∀ x y, Φ x → Ψ y → Rv2 K S2 r x y Θ) : Ev K S S2 ρ (tOp r ta tb) Θ := fun σ H i s Q q =>
  ha σ H i s _ fun v x H1 g1 i1 r1 p1 => hb σ H1 i1 (s.mono g1) _ fun u y H2 g2 i2 r2 p2 => hr x y p1 p2 H2 v u i2 (r1.mono g2) r2 Q fun v' d H3 g3 i3 r3 p3 => q v' d H3 ((g1.trans g2).trans g3) i3 r3 p3
theorem ev_op {r : R2} (ha : Ev K S S1 ρ ta (Eq x)) (hb : Ev K S1 S2 ρ tb (Eq y)) (hr : Rv2 K S2 r x y Θ) : Ev K S S2 ρ (tOp r ta tb) Θ := ev_opP ha hb fun _ _ e1 e2 => e1 ▸ e2 ▸ hr
theorem ev_un {r : V → Hp → VK → Prop} (ha : Ev K S S1 ρ ta (Eq x)) (hr : ∀ (H : Hp) (v : V), S1.I H → Rep K H v x → ∀ Q : VK, (∀ v' d H', Gr H H' → S1.I H' → Rep K H' v' d → Θ d → Q v' H') → r v H Q) : Ev K S S1 ρ (tUn r ta) Θ := fun σ H i s Q q =>
  ha σ H i s _ fun v x' H1 g1 i1 r1 p1 => hr H1 v i1 (p1 ▸ r1) Q fun v' d H3 g3 i3 r3 p3 => q v' d H3 (g1.trans g3) i3 r3 p3
/-! operations that hand back a plain value and leave the heap -/
theorem rv_at {r : R2} (h : ∀ H v u, S.I H → Rep K H v x → Rep K H u y → ∀ Q : VK, (∀ v', Rep K H v' z → Q v' H) → r v u H Q) : Rv2 K S r x y (Eq z) := fun H v u i r1 r2 Q q =>
  h H v u i r1 r2 Q fun v' r' => q v' z H (Gr.refl H) i r' rfl
theorem rv_I0 {g : Int → Int → V} {i j : Int} (hz : ∀ H, Rep K H (g i j) z) : Rv2 K S (rI0 g) (.int i) (.int j) (Eq z) := rv_at fun H v u _ r1 r2 Q q => ⟨i, j, r1.intI, r2.intI, q _ (hz H)⟩
theorem rv_I {C : Int → Int → Prop} {g : Int → Int → V} {i j : Int} (hc : C i j) (hz : ∀ H, Rep K H (g i j) z) : Rv2 K S (rI C g) (.int i) (.int j) (Eq z) := rv_at fun H v u _ r1 r2 Q q => ⟨i, j, r1.intI, r2.intI, hc, q _ (hz H)⟩
theorem rv_ii {g : Int → Int → Int} {i j : Int} : Rv2 K S (rI0 fun a b => .int (g a b)) (.int i) (.int j) (Eq (.int (g i j))) := rv_I0 fun _ => .int _
theorem rv_iic {C : Int → Int → Prop} {g : Int → Int → Int} {i j : Int} (hc : C i j) : Rv2 K S (rI C fun a b => .int (g a b)) (.int i) (.int j) (Eq (.int (g i j))) := rv_I hc fun _ => .int _
theorem rv_ib {g : Int → Int → Bool} {i j : Int} : Rv2 K S (rI0 fun a b => .bl (g a b)) (.int i) (.int j) (Eq (.bl (g i j))) := rv_I0 fun _ => .bl _
theorem rv_eqI {i j : Int} : Rv2 K S rEq (.int i) (.int j) (Eq (.bl (decide (i = j)))) := rv_at fun H v u _ r1 r2 Q q => by
  obtain rfl := r1.intI; obtain rfl := r2.intI
  exact ⟨rfl, by rw [show decide (V.int i = V.int j) = decide (i = j) by by_cases e : i = j <;> simp [e]]; exact q _ (.bl _)⟩
theorem rv_eqS {i j : Str} : Rv2 K S rEq (.str i) (.str j) (Eq (.bl (decide (i = j)))) := rv_at fun H v u _ r1 r2 Q q => by
  obtain rfl := r1.strI; obtain rfl := r2.strI
  exact ⟨rfl, by rw [show decide (V.str i = V.str j) = decide (i = j) by by_cases e : i = j <;> simp [e]]; exact q _ (.bl _)⟩
theorem rv_neS {i j : Str} : Rv2 K S rNe (.str i) (.str j) (Eq (.bl (!decide (i = j)))) := rv_at fun H v u _ r1 r2 Q q => by
  obtain rfl := r1.strI; obtain rfl := r2.strI
  exact ⟨rfl, by rw [show decide (V.str i = V.str j) = decide (i = j) by by_cases e : i = j <;> simp [e]]; exact q _ (.bl _)⟩
/-- is None -/
def Dt.isNon : Dt → Bool
  | .non => true
  | .raw .non => true
  | _ => false
theorem Rep.isNon {H : Hp} {v : V} (r : Rep K H v d) : decide (v = .non) = d.isNon := by
  cases r with
  | raw v => cases v <;> rfl
  | _ => rfl
theorem rv_isN : Rv2 K S (fun x y H Q => y = .non ∧ Q (.bl (decide (x = .non))) H) d .non (Eq (.bl d.isNon)) := rv_at fun H v u _ r1 r2 Q q => by
  refine ⟨by cases r2; rfl, ?_⟩
  rw [r1.isNon]
  exact q _ (.bl _)
/-! argument lists, displays -/
theorem ea_nil : EvA K S S ρ tNil (Eq []) := fun σ H i s Q q => q _ _ H (Gr.refl H) i .nil rfl
theorem ea_consP {tr : TA} {Φl : List Dt → Prop} (ha : Ev K S S1 ρ ta Φ) (hr : EvA K S1 S2 ρ tr Φl) : EvA K S S2 ρ (tCons ta tr) (fun l => ∃ d ds, l = d :: ds ∧ Φ d ∧ Φl ds) := fun σ H i s Q q =>
  ha σ H i s _ fun v d H1 g1 i1 r1 p1 => hr σ H1 i1 (s.mono g1) _ fun vs ds H2 g2 i2 r2 p2 => q _ _ H2 (g1.trans g2) i2 (.cons (r1.mono g2) r2) ⟨d, ds, rfl, p1, p2⟩
theorem ea_cons {tr : TA} {ds : List Dt} (ha : Ev K S S1 ρ ta (Eq d)) (hr : EvA K S1 S2 ρ tr (Eq ds)) : EvA K S S2 ρ (tCons ta tr) (Eq (d :: ds)) := fun σ H i s Q q =>
  ha σ H i s _ fun v d' H1 g1 i1 r1 p1 => hr σ H1 i1 (s.mono g1) _ fun vs ds' H2 g2 i2 r2 p2 => q _ _ H2 (g1.trans g2) i2 (.cons (p1 ▸ r1.mono g2) (p2 ▸ r2)) rfl
theorem ev_tupP {t : TA} {Φl : List Dt → Prop} (h : EvA K S S1 ρ t Φl) (hz : ∀ ds, Φl ds → ds.length ≤ sizeLine) : Ev K S S1 ρ (tTup t) (fun d => ∃ ds, d = .tup ds ∧ Φl ds) := fun σ H i s Q q =>
  h σ H i s _ fun vs ds H1 g1 i1 r1 p1 => ⟨by rw [r1.len]; exact hz ds p1, fun p hp => q _ _ _ (g1.trans (same_new hp).gr) (S1.st i1 (same_new hp)) (.tup (SqT.of upd_same) (r1.mono (same_new hp).gr)) ⟨ds, rfl, p1⟩⟩
theorem ev_lstP {t : TA} {Φl : List Dt → Prop} (h : EvA K S S1 ρ t Φl) (hz : ∀ ds, Φl ds → ds.length ≤ sizeLine) : Ev K S S1 ρ (tLst t) (fun d => ∃ ds, d = .lst ds ∧ Φl ds) := fun σ H i s Q q =>
  h σ H i s _ fun vs ds H1 g1 i1 r1 p1 => ⟨by rw [r1.len]; exact hz ds p1, fun p hp => q _ _ _ (g1.trans (same_new hp).gr) (S1.st i1 (same_new hp)) (.lst (SqL.of upd_same) (r1.mono (same_new hp).gr)) ⟨ds, rfl, p1⟩⟩
theorem ev_tup {t : TA} {ds : List Dt} (h : EvA K S S1 ρ t (Eq ds)) (hz : ds.length ≤ sizeLine) : Ev K S S1 ρ (tTup t) (Eq (.tup ds)) := (ev_tupP h fun _ e => e ▸ hz).weak fun _ ⟨_, e, e'⟩ => e ▸ e' ▸ rfl
theorem ev_lst {t : TA} {ds : List Dt} (h : EvA K S S1 ρ t (Eq ds)) (hz : ds.length ≤ sizeLine) : Ev K S S1 ρ (tLst t) (Eq (.lst ds)) := (ev_lstP h fun _ e => e ▸ hz).weak fun _ ⟨_, e, e'⟩ => e ▸ e' ▸ rfl
theorem ev_dic : Ev K S S ρ tDNewK (Eq .dic) := fun σ H i s Q q p hp => q _ _ _ (same_new hp).gr (S.st i (same_new hp)) (.dic upd_same) rfl

/-! calls -/
/-- a def over data: from ds (n of them, such that pre) it hands back f ds and leaves all else -/
def spF (K : PySem.W.Frag) (n : Nat) (pre : List Dt → Prop) (f : List Dt → Dt) : Sp := fun vs H Q _ => ∃ ds, RepA K H vs ds ∧ ds.length = n ∧ pre ds ∧ ∀ v H', Same H H' → Rep K H' v (f ds) → Q v H'
theorem ev_callF {t : TA} {ds : List Dt} {n : Nat} {pre : List Dt → Prop} {f : List Dt → Dt} {E : XK} (ha : EvA K S S1 ρ t (Eq ds)) (hn : ds.length = n) (hp : pre ds) : Ev K S S1 ρ (tCall (spF K n pre f) [] E t) (Eq (f ds)) := fun σ H i s Q q =>
  ha σ H i s _ fun vs ds' H1 g1 i1 r1 p1 => by
    subst p1
    rw [List.append_nil]
    exact ⟨ds, r1, hn, hp, fun v H2 sm r => q v _ H2 (g1.trans sm.gr) (S1.st i1 sm) r rfl⟩
theorem ev_cbP {r : List V → Hp → VK → Prop} {t : TA} {Φl : List Dt → Prop} (ha : EvA K S S1 ρ t Φl) (hr : ∀ ds, Φl ds → RvC K S1 r ds Θ) : Ev K S S1 ρ (tCB r t) Θ := fun σ H i s Q q =>
  ha σ H i s _ fun vs ds' H1 g1 i1 r1 p1 => hr ds' p1 H1 vs i1 r1 Q fun v' d H3 g3 i3 r3 p3 => q v' d H3 (g1.trans g3) i3 r3 p3
theorem ev_cb {r : List V → Hp → VK → Prop} {t : TA} {ds : List Dt} (ha : EvA K S S1 ρ t (Eq ds)) (hr : RvC K S1 r ds Θ) : Ev K S S1 ρ (tCB r t) Θ := ev_cbP ha fun _ e => e ▸ hr
theorem rc_at {r : List V → Hp → VK → Prop} {xs : List Dt} (h : ∀ H vs, S.I H → RepA K H vs xs → ∀ Q : VK, (∀ v', Rep K H v' z → Q v' H) → r vs H Q) : RvC K S r xs (Eq z) := fun H vs i r1 Q q => h H vs i r1 Q fun v' r' => q v' z H (Gr.refl H) i r' rfl
theorem RepA.oneI {H : Hp} {vs : List V} (r : RepA K H vs [d]) : ∃ v, vs = [v] ∧ Rep K H v d := by
  cases r with
  | cons h r => cases r; exact ⟨_, rfl, h⟩
theorem RepA.twoI {H : Hp} {vs : List V} (r : RepA K H vs [x, y]) : ∃ v u, vs = [v, u] ∧ Rep K H v x ∧ Rep K H u y := by
  cases r with
  | cons h r => obtain ⟨u, rfl, q⟩ := r.oneI; exact ⟨_, _, rfl, h, q⟩
def rLen (K : PySem.W.Frag) : List V → Hp → VK → Prop := fun xs H Q => ∃ p ys, xs = [.ref p] ∧ (SqL K H p ys ∨ SqT K H p ys) ∧ Q (.int ys.length) H
theorem rc_lenT {xs : List Dt} : RvC K S (rLen K) [.tup xs] (Eq (.int xs.length)) := rc_at fun H vs i r Q q => by
  obtain ⟨v, rfl, r1⟩ := r.oneI
  obtain ⟨a, us, rfl, h, ra⟩ := r1.tupI
  exact ⟨a, us, rfl, .inr h, by rw [ra.len]; exact q _ (.int _)⟩
theorem rc_lenL {xs : List Dt} : RvC K S (rLen K) [.lst xs] (Eq (.int xs.length)) := rc_at fun H vs i r Q q => by
  obtain ⟨v, rfl, r1⟩ := r.oneI
  obtain ⟨a, us, rfl, h, ra⟩ := r1.lstI
  exact ⟨a, us, rfl, .inl h, by rw [ra.len]; exact q _ (.int _)⟩
theorem rc_all {bs : List Bool} : RvC K S (rAll K) [.lst (bs.map Dt.bl)] (Eq (.bl (bs.all id))) := rc_at fun H vs i r Q q => by
  obtain ⟨v, rfl, r1⟩ := r.oneI
  obtain ⟨a, us, rfl, h, ra⟩ := r1.lstI
  exact ⟨a, bs, rfl, by rw [← ra.bls]; exact h, q _ (.bl _)⟩

/-! subscripts, slices, joined tuples -/
theorem atI_rep {H : Hp} {vs : List V} {ds : List Dt} {i : Int} (r : RepA K H vs ds) (h : atI ds i = some d) : ∃ v, atI vs i = some v ∧ Rep K H v d := by
  unfold atI at h ⊢
  rw [r.len]
  cases e : ixN ds.length i with
  | none => rw [e] at h; cases h
  | some j =>
    rw [e] at h
    exact r.at_ h
theorem rv_ixT {xs : List Dt} {i : Int} (h : atI xs i = some d) : Rv2 K S (rIxT K) (.tup xs) (.int i) (Eq d) := rv_at fun H v u _ r1 r2 Q q => by
  obtain ⟨a, us, rfl, ht, ra⟩ := r1.tupI
  obtain rfl := r2.intI
  obtain ⟨v, e, rv⟩ := atI_rep ra h
  exact ⟨a, us, i, v, rfl, rfl, ht, e, q v rv⟩
theorem rv_ixL {xs : List Dt} {i : Int} (h : atI xs i = some d) : Rv2 K S (rIxL K) (.lst xs) (.int i) (Eq d) := rv_at fun H v u _ r1 r2 Q q => by
  obtain ⟨a, us, rfl, ht, ra⟩ := r1.lstI
  obtain rfl := r2.intI
  obtain ⟨v, e, rv⟩ := atI_rep ra h
  exact ⟨a, us, i, v, rfl, rfl, ht, e, q v rv⟩
theorem rv_ixSL {xs : List Dt} {i : Int} (h : atI xs i = some d) : Rv2 K S (rIx K) (.lst xs) (.int i) (Eq d) := fun H v u hi r1 r2 Q q => .inl (rv_ixL h H v u hi r1 r2 Q q)
theorem rv_ixST {xs : List Dt} {i : Int} (h : atI xs i = some d) : Rv2 K S (rIx K) (.tup xs) (.int i) (Eq d) := fun H v u hi r1 r2 Q q => .inr (.inl (rv_ixT h H v u hi r1 r2 Q q))
/-- a part of a sequence -/
def cutD (xs : List Dt) (lo hi : Option Int) : List Dt := (xs.drop (HT.sIx xs.length 0 lo)).take (HT.sIx xs.length xs.length hi - HT.sIx xs.length 0 lo)
theorem cut_rep {H : Hp} {vs : List V} {ds : List Dt} (r : RepA K H vs ds) (lo hi : Option Int) : RepA K H (cutV vs lo hi) (cutD ds lo hi) := by
  unfold cutV cutD
  rw [r.len]
  exact (r.drop _).take _
theorem eo_none : EvO K S S ρ tNoPart (Eq none) := fun σ H i s Q q => q _ H (Gr.refl H) i rfl
theorem eo_some {i : Int} (h : Ev K S S1 ρ te (Eq (.int i))) : EvO K S S1 ρ (tPart te) (Eq (some i)) := fun σ H hi s Q q => h σ H hi s _ fun v d H1 g1 i1 r1 p1 => by
  subst p1
  exact ⟨i, r1.intI, q _ H1 g1 i1 rfl⟩
theorem ev_slL {tl th : TO} {xs : List Dt} {lo hi : Option Int} (ha : Ev K S S1 ρ te (Eq (.lst xs))) (hl : EvO K S1 S2 ρ tl (Eq lo)) (hh : EvO K S2 S3 ρ th (Eq hi)) : Ev K S S3 ρ (tSl (rSlL K) te tl th) (Eq (.lst (cutD xs lo hi))) := fun σ H i s Q q =>
  ha σ H i s _ fun v d' H1 g1 i1 r1 p1 => hl σ H1 i1 (s.mono g1) _ fun l H2 g2 i2 p2 => hh σ H2 i2 (s.mono (g1.trans g2)) _ fun u H3 g3 i3 p3 => by
    subst p1 p2 p3
    obtain ⟨a, vs, rfl, h, ra⟩ := r1.lstI
    have g23 := g2.trans g3
    exact ⟨a, vs, rfl, g23.sqL h, fun p hp => q _ _ _ ((g1.trans g23).trans (same_new hp).gr) (S3.st i3 (same_new hp)) (.lst (SqL.of upd_same) ((cut_rep (ra.mono g23) lo hi).mono (same_new hp).gr)) rfl⟩
/-! choices -/
theorem ev_if {b : Bool} (ht : EvT K S S1 ρ t (Eq b)) (ha : b = true → Ev K S1 S2 ρ ta Φ) (hb : b = false → Ev K S1 S2 ρ tb Φ) : Ev K S S2 ρ (tIf t ta tb) Φ := fun σ H i s Q q =>
  ht σ H i s _ fun c H1 g1 i1 p1 => by
    subst p1
    cases b with
    | true => rw [if_pos rfl]; exact ha rfl σ H1 i1 (s.mono g1) Q fun v d H2 g2 => q v d H2 (g1.trans g2)
    | false => rw [if_neg Bool.false_ne_true]; exact hb rfl σ H1 i1 (s.mono g1) Q fun v d H2 g2 => q v d H2 (g1.trans g2)
theorem ev_and {a b : Bool} (ha : Ev K S S1 ρ ta (Eq (.bl a))) (hb : a = true → Ev K S1 S1 ρ tb (Eq (.bl b))) : Ev K S S1 ρ (tAndV ta tb) (Eq (.bl (a && b))) := fun σ H i s Q q =>
  ha σ H i s _ fun v d H1 g1 i1 r1 p1 => by
    subst p1
    refine ⟨a, r1.blI, ?_⟩
    cases a with
    | true => rw [if_pos rfl]; exact hb rfl σ H1 i1 (s.mono g1) Q fun v d H2 g2 => q v d H2 (g1.trans g2)
    | false => rw [if_neg Bool.false_ne_true]; exact q _ _ H1 g1 i1 (.bl _) rfl
theorem ev_or {a b : Bool} (ha : Ev K S S1 ρ ta (Eq (.bl a))) (hb : a = false → Ev K S1 S1 ρ tb (Eq (.bl b))) : Ev K S S1 ρ (tOrV ta tb) (Eq (.bl (a || b))) := fun σ H i s Q q =>
  ha σ H i s _ fun v d H1 g1 i1 r1 p1 => by
    subst p1
    refine ⟨a, r1.blI, ?_⟩
    cases a with
    | false => rw [if_neg Bool.false_ne_true]; exact hb rfl σ H1 i1 (s.mono g1) Q fun v d H2 g2 => q v d H2 (g1.trans g2)
    | true => rw [if_pos rfl]; exact q _ _ H1 g1 i1 (.bl _) rfl
theorem ev_not {a : Bool} (ha : Ev K S S1 ρ ta (Eq (.bl a))) : Ev K S S1 ρ (tNotV ta) (Eq (.bl (!a))) := fun σ H i s Q q =>
  ha σ H i s _ fun v d H1 g1 i1 r1 p1 => by
    subst p1
    exact ⟨a, r1.blI, q _ _ H1 g1 i1 (.bl _) rfl⟩
theorem et_B {a : Bool} (ha : Ev K S S1 ρ ta (Eq (.bl a))) : EvT K S S1 ρ (tB ta) (Eq a) := fun σ H i s Q q => ha σ H i s _ fun v d H1 g1 i1 r1 p1 => by
  subst p1
  exact ⟨a, r1.blI, q _ H1 g1 i1 rfl⟩
theorem et_test {a : Bool} (ha : Ev K S S1 ρ ta (Eq (.bl a))) : EvT K S S1 ρ (tTest ta) (Eq a) := fun σ H i s Q q => ha σ H i s _ fun v d H1 g1 i1 r1 p1 => by
  subst p1
  exact ⟨a, r1.blI, q _ H1 g1 i1 rfl⟩
theorem et_and {a b : Bool} (ha : EvT K S S1 ρ t (Eq a)) (hb : a = true → EvT K S1 S1 ρ u (Eq b)) : EvT K S S1 ρ (tAnd t u) (Eq (a && b)) := fun σ H i s Q q => ha σ H i s _ fun c H1 g1 i1 p1 => by
  subst p1
  cases a with
  | true => rw [if_pos rfl]; exact hb rfl σ H1 i1 (s.mono g1) Q fun v H2 g2 => q v H2 (g1.trans g2)
  | false => rw [if_neg Bool.false_ne_true]; exact q _ H1 g1 i1 rfl
theorem et_or {a b : Bool} (ha : EvT K S S1 ρ t (Eq a)) (hb : a = false → EvT K S1 S1 ρ u (Eq b)) : EvT K S S1 ρ (tOr t u) (Eq (a || b)) := fun σ H i s Q q => ha σ H i s _ fun c H1 g1 i1 p1 => by
  subst p1
  cases a with
  | false => rw [if_neg Bool.false_ne_true]; exact hb rfl σ H1 i1 (s.mono g1) Q fun v H2 g2 => q v H2 (g1.trans g2)
  | true => rw [if_pos rfl]; exact q _ H1 g1 i1 rfl
theorem et_not {a : Bool} (ha : EvT K S S1 ρ t (Eq a)) : EvT K S S1 ρ (tNot t) (Eq (!a)) := fun σ H i s Q q => ha σ H i s _ fun c H1 g1 i1 p1 => by
  subst p1
  exact q _ H1 g1 i1 rfl
theorem et_yes : EvT K S S ρ tYes (Eq true) := fun σ H i s Q q => q _ H (Gr.refl H) i rfl
/-- a < b < c over ints -/
theorem ev_chain {g g' : Int → Int → Bool} {tc : TE} {i j l : Int} (ha : Ev K S S1 ρ ta (Eq (.int i))) (hb : Ev K S1 S2 ρ tb (Eq (.int j))) (hc : Ev K S2 S2 ρ tc (Eq (.int l))) :
    Ev K S S2 ρ (tChain (rI0 fun a b => .bl (g a b)) (rI0 fun a b => .bl (g' a b)) ta tb tc) (Eq (.bl (g i j && g' j l))) := fun σ H hi s Q q =>
  ha σ H hi s _ fun v d H1 g1 i1 r1 p1 => hb σ H1 i1 (s.mono g1) _ fun u d2 H2 g2 i2 r2 p2 => by
    subst p1 p2
    refine ⟨i, j, (r1.mono g2).intI, r2.intI, g i j, rfl, ?_⟩
    cases e : g i j with
    | true =>
      rw [if_pos rfl]
      exact hc σ H2 i2 (s.mono (g1.trans g2)) _ fun w d3 H3 g3 i3 r3 p3 => by
        subst p3
        exact ⟨j, l, (r2.mono g3).intI, r3.intI, q _ _ H3 ((g1.trans g2).trans g3) i3 (.bl _) (by rw [e, Bool.true_and])⟩
    | false =>
      rw [if_neg Bool.false_ne_true]
      exact q _ _ H2 (g1.trans g2) i2 (.bl _) (by rw [e, Bool.false_and])
end
end Bf
namespace Bf
open PySem PySem.Spec PyProof.Rows L2

/-! ### D. statements over data -/
structure Po where
  nx : List (Option Dt) → Prop := fun _ => False
  rt : Dt → Prop := fun _ => False
  bk : List (Option Dt) → Prop := fun _ => False
  ct : List (Option Dt) → Prop := fun _ => False
structure Ft (K : PySem.W.Frag) (S : Sta) (P : Po) (D : Ends) (H : Hp) : Prop where
  nx : ∀ (σ : L2.St) ρ H', Gr H H' → S.I H' → Slots K H' σ ρ → P.nx ρ → D.nx σ H'
  rt : ∀ v d H', Gr H H' → S.I H' → Rep K H' v d → P.rt d → D.rt v H'
  bk : ∀ (σ : L2.St) ρ H', Gr H H' → S.I H' → Slots K H' σ ρ → P.bk ρ → D.bk σ H'
  ct : ∀ (σ : L2.St) ρ H', Gr H H' → S.I H' → Slots K H' σ ρ → P.ct ρ → D.ct σ H'
/-- what holds at first holds at last -/
def Sta.Le (S SF : Sta) : Prop := ∀ H, S.I H → SF.I H
theorem Sta.Le.refl (S : Sta) : S.Le S := fun _ h => h
theorem Sta.Le.trans {S S1 S2 : Sta} (a : S.Le S1) (b : S1.Le S2) : S.Le S2 := fun H h => b H (a H h)
/-- from what holds at the base B on: the lists in L are newer than B and may be changed -/
structure Bs (SB : Sta) (L : List Addr) (B H : Hp) : Prop where
  gr : Gr B H
  i : SB.I B
  new : ∀ p ∈ L, B p = none
theorem Bs.up {SB : Sta} {L : List Addr} {B H H' : Hp} (b : Bs SB L B H) (g : Gr H H') : Bs SB L B H' := ⟨b.gr.trans g, b.i, b.new⟩
/-- S holds at first, SB at the base, SF at last -/
def Sg (K : PySem.W.Frag) (S SB SF : Sta) (L : List Addr) (ts : TS) (ρ : List (Option Dt)) (P : Po) : Prop := ∀ (D : Ends) (σ : L2.St) (B H : Hp), Bs SB L B H → S.I H → Slots K H σ ρ → Ft K SF P D B → ts D σ H
abbrev So (K : PySem.W.Frag) (S SF : Sta) (L : List Addr) (ts : TS) (ρ : List (Option Dt)) (P : Po) : Prop := Sg K S SF SF L ts ρ P
section
variable {K : PySem.W.Frag} {S S1 S2 SB SF : Sta} {L : List Addr} {ρ : List (Option Dt)} {P : Po} {ta tb te tl : TE} {c : TT} {t u w : TS} {Φ Ψ Θ : Dt → Prop} {x y z d : Dt} {D : Ends} {H H' : Hp}
theorem Ft.mono (f : Ft K SF P D H) (g : Gr H H') : Ft K SF P D H' := ⟨fun σ ρ H2 g2 => f.nx σ ρ H2 (g.trans g2), fun v d H2 g2 => f.rt v d H2 (g.trans g2), fun σ ρ H2 g2 => f.bk σ ρ H2 (g.trans g2), fun σ ρ H2 g2 => f.ct σ ρ H2 (g.trans g2)⟩
theorem Ft.le (f : Ft K SF P D H) (l : S.Le SF) : Ft K S P D H := ⟨fun σ ρ H2 g2 i2 => f.nx σ ρ H2 g2 (l _ i2), fun v d H2 g2 i2 => f.rt v d H2 g2 (l _ i2), fun σ ρ H2 g2 i2 => f.bk σ ρ H2 g2 (l _ i2), fun σ ρ H2 g2 i2 => f.ct σ ρ H2 g2 (l _ i2)⟩
theorem so_next (l : S.Le SF) (h : P.nx ρ) : Sg K S SB SF L tNext ρ P := fun D σ B H b i s f => f.nx σ ρ H b.gr (l _ i) s h
/-- a statement, then the rest -/
theorem so_seq {M : List (Option Dt) → Prop} (h1 : Sg K S SB SF L t ρ { P with nx := M }) (h2 : ∀ ρ', M ρ' → So K SF SF [] u ρ' P) : Sg K S SB SF L (tSeq t u) ρ P := fun D σ B H b i s f =>
  h1 { D with nx := u D } σ B H b i s ⟨fun σ' ρ' H' g i' s' m => h2 ρ' m D σ' H' H' ⟨Gr.refl H', i', fun _ z => nomatch z⟩ i' s' (f.mono g), f.rt, f.bk, f.ct⟩
/-- a statement that leaves what holds and the loose lists, in the middle -/
theorem so_mid {M : List (Option Dt) → Prop} (l : S.Le SF) (h1 : So K S S [] t ρ { P with nx := M }) (h2 : ∀ ρ', M ρ' → Sg K S SB SF L u ρ' P) : Sg K S SB SF L (tSeq t u) ρ P := fun D σ B H b i s f =>
  h1 { D with nx := u D } σ H H ⟨Gr.refl H, i, fun _ z => nomatch z⟩ i s ⟨fun σ' ρ' H' g i' s' m => h2 ρ' m D σ' B H' (b.up g) i' s' f, ((f.mono b.gr).le l).rt, ((f.mono b.gr).le l).bk, ((f.mono b.gr).le l).ct⟩
theorem so_le (l : S.Le S1) (h : Sg K S1 SB SF L t ρ P) : Sg K S SB SF L t ρ P := fun D σ B H b i s f => h D σ B H b (l _ i) s f
/-- a statement, then the rest, the loose lists kept -/
theorem so_seqG {M : List (Option Dt) → Prop} (l : S1.Le SF) (h1 : Sg K S SB S1 L t ρ { P with nx := M }) (h2 : ∀ ρ', M ρ' → Sg K S1 SB SF L u ρ' P) : Sg K S SB SF L (tSeq t u) ρ P := fun D σ B H b i s f =>
  h1 { D with nx := u D } σ B H b i s ⟨fun σ' ρ' H' g i' s' m => h2 ρ' m D σ' B H' ⟨g, b.i, b.new⟩ i' s' f, (f.le l).rt, (f.le l).bk, (f.le l).ct⟩
theorem so_skip (h : Sg K S SB SF L w ρ P) : Sg K S SB SF L (tSeq tNext w) ρ P := fun D σ B H b i s f => h D σ B H b i s f
theorem so_assoc (h : Sg K S SB SF L (tSeq t (tSeq u w)) ρ P) : Sg K S SB SF L (tSeq (tSeq t u) w) ρ P := fun D σ B H b i s f => h D σ B H b i s f
theorem so_ret (h : Ev K S S1 ρ te Φ) (l : S1.Le SF) (q : ∀ d, Φ d → P.rt d) : Sg K S SB SF L (tRet te) ρ P := fun D σ B H b i s f => h σ H i s _ fun v d H1 g1 i1 r1 p1 => f.rt v d H1 (b.gr.trans g1) (l _ i1) r1 (q d p1)
theorem so_retD (h : Ev K S S1 ρ te (Eq d)) (l : S1.Le SF) (q : P.rt d) : Sg K S SB SF L (tRet te) ρ P := so_ret h l fun _ e => e ▸ q
theorem so_ret1 (h : Ev K S S1 ρ te Φ) (l : S1.Le SF) (q : ∀ d, Φ d → P.rt d) : Sg K S SB SF L (tSeq (tRet te) w) ρ P := fun D σ B H b i s f => h σ H i s _ fun v d H1 g1 i1 r1 p1 => f.rt v d H1 (b.gr.trans g1) (l _ i1) r1 (q d p1)
theorem so_ret1D (h : Ev K S S1 ρ te (Eq d)) (l : S1.Le SF) (q : P.rt d) : Sg K S SB SF L (tSeq (tRet te) w) ρ P := so_ret1 h l fun _ e => e ▸ q
/-- x = e -/
theorem so_set {j : Nat} (h : Ev K S S1 ρ te Φ) (q : ∀ d, Φ d → Sg K S1 SB SF L w (ρ.set j (some d)) P) : Sg K S SB SF L (tSeq (tAsg te (gName j)) w) ρ P := fun D σ B H b i s f =>
  h σ H i s _ fun v d H1 g1 i1 r1 p1 => q d p1 D _ B H1 (b.up g1) i1 ((s.mono g1).set r1 j) f
theorem so_setD {j : Nat} (h : Ev K S S1 ρ te (Eq d)) (q : Sg K S1 SB SF L w (ρ.set j (some d)) P) : Sg K S SB SF L (tSeq (tAsg te (gName j)) w) ρ P := so_set h fun _ e => e ▸ q
theorem so_set0 {j : Nat} (h : Ev K S S1 ρ te Φ) (l : S1.Le SF) (q : ∀ d, Φ d → P.nx (ρ.set j (some d))) : Sg K S SB SF L (tAsg te (gName j)) ρ P := fun D σ B H b i s f =>
  h σ H i s _ fun v d H1 g1 i1 r1 p1 => f.nx _ _ H1 (b.gr.trans g1) (l _ i1) ((s.mono g1).set r1 j) (q d p1)
theorem so_set0D {j : Nat} (h : Ev K S S1 ρ te (Eq d)) (l : S1.Le SF) (q : P.nx (ρ.set j (some d))) : Sg K S SB SF L (tAsg te (gName j)) ρ P := so_set0 h l fun _ e => e ▸ q
theorem so_drop (h : Ev K S S1 ρ te Φ) (q : Sg K S1 SB SF L w ρ P) : Sg K S SB SF L (tSeq (tDrop te) w) ρ P := fun D σ B H b i s f => h σ H i s _ fun v d H1 g1 i1 r1 p1 => q D σ B H1 (b.up g1) i1 (s.mono g1) f
theorem so_if {Φb : Bool → Prop} (h : EvT K S S1 ρ c Φb) (h1 : Φb true → Sg K S1 SB SF L (tSeq t w) ρ P) (h2 : Φb false → Sg K S1 SB SF L (tSeq u w) ρ P) : Sg K S SB SF L (tSeq (tIfS c t u) w) ρ P := fun D σ B H b i s f => h σ H i s _ fun k H1 g1 i1 p1 => by
  cases k with
  | true => rw [if_pos rfl]; exact h1 p1 D σ B H1 (b.up g1) i1 (s.mono g1) f
  | false => rw [if_neg Bool.false_ne_true]; exact h2 p1 D σ B H1 (b.up g1) i1 (s.mono g1) f
theorem so_if0 {Φb : Bool → Prop} (h : EvT K S S1 ρ c Φb) (h1 : Φb true → Sg K S1 SB SF L t ρ P) (h2 : Φb false → Sg K S1 SB SF L u ρ P) : Sg K S SB SF L (tIfS c t u) ρ P := fun D σ B H b i s f => h σ H i s _ fun k H1 g1 i1 p1 => by
  cases k with
  | true => rw [if_pos rfl]; exact h1 p1 D σ B H1 (b.up g1) i1 (s.mono g1) f
  | false => rw [if_neg Bool.false_ne_true]; exact h2 p1 D σ B H1 (b.up g1) i1 (s.mono g1) f
theorem so_ifD {k : Bool} (h : EvT K S S1 ρ c (Eq k)) (h1 : k = true → Sg K S1 SB SF L (tSeq t w) ρ P) (h2 : k = false → Sg K S1 SB SF L (tSeq u w) ρ P) : Sg K S SB SF L (tSeq (tIfS c t u) w) ρ P := so_if h h1 h2
theorem so_ifT (h : EvT K S S1 ρ c (Eq true)) (h1 : Sg K S1 SB SF L (tSeq t w) ρ P) : Sg K S SB SF L (tSeq (tIfS c t u) w) ρ P := so_if h (fun _ => h1) fun e => nomatch e
theorem so_ifF (h : EvT K S S1 ρ c (Eq false)) (h1 : Sg K S1 SB SF L (tSeq u w) ρ P) : Sg K S SB SF L (tSeq (tIfS c t u) w) ρ P := so_if h (fun e => nomatch e) fun _ => h1
theorem so_if0F (h : EvT K S S1 ρ c (Eq false)) (h1 : Sg K S1 SB SF L u ρ P) : Sg K S SB SF L (tIfS c t u) ρ P := so_if0 h (fun e => nomatch e) fun _ => h1
/-- a, b, .. = e -/
def gNames : List Nat → TGs
  | [] => gNil
  | i :: is => gCons (gName i) (gNames is)
def setAll (ρ : List (Option Dt)) : List Nat → List Dt → List (Option Dt)
  | i :: is, d :: ds => setAll (ρ.set i (some d)) is ds
  | _, _ => ρ
theorem names_run {Q : L2.St → Hp → Prop} : ∀ {is : List Nat} {vs : List V} {ds : List Dt} {σ : L2.St} {ρ : List (Option Dt)}, Slots K H σ ρ → RepA K H vs ds → ds.length = is.length → (∀ σ', Slots K H σ' (setAll ρ is ds) → Q σ' H) → gNames is vs σ H Q
  | [], _, _, σ, ρ, s, .nil, _, q => ⟨rfl, q σ s⟩
  | i :: is, _, _, σ, ρ, s, .cons (v := v) (vs := vs) (d := d) (ds := ds) r ra, hl, q => ⟨v, vs, rfl, names_run (is := is) (s.set r i) ra (by simpa using hl) q⟩
  | [], _, _, _, _, _, .cons _ _, hl, _ => by simp at hl
  | _ :: _, _, _, _, _, _, .nil, hl, _ => by simp at hl
theorem so_unp {n : Nat} {g : TGs} {is : List Nat} {xs : List Dt} (h : Ev K S S1 ρ te (Eq (.tup xs))) (hg : g = gNames is) (hn : xs.length = n) (hi : xs.length = is.length) (q : Sg K S1 SB SF L w (setAll ρ is xs) P) : Sg K S SB SF L (tSeq (tAsg te (gTup K n g)) w) ρ P := fun D σ B H b i s f =>
  h σ H i s _ fun v d H1 g1 i1 r1 p1 => by
    subst p1 hg
    obtain ⟨a, vs, rfl, ht, ra⟩ := r1.tupI
    exact ⟨a, vs, rfl, ht, ra.len.trans hn, names_run (s.mono g1) ra hi fun σ' s' => q D σ' B H1 (b.up g1) i1 s' f⟩

/-! loops -/
theorem so_forT {j : Nat} {xs : List Dt} (h : Ev K S S ρ tl (Eq (.tup xs))) (J : Nat → List (Option Dt) → Prop) (h0 : J 0 ρ)
    (hs : ∀ i x ρ', xs[i]? = some x → J i ρ' → So K S S [] t (ρ'.set j (some x)) { P with nx := J (i + 1), ct := J (i + 1), bk := P.nx }) (hd : ∀ ρ', J xs.length ρ' → P.nx ρ') : Sg K S SB S L (tFor (iTup K tl) (gName j) t) ρ P := fun D σ B H b i s f0 =>
  have f := f0.mono b.gr
  h σ H i s _ fun v d H1 g1 i1 r1 p1 => by
    subst p1
    obtain ⟨a, vs, rfl, ht, ra⟩ := r1.tupI
    refine ⟨a, rfl, ⟨vs, ht⟩, for_tup (K := K) (a := a) (xs := vs) (fun n σ' H' => Gr H1 H' ∧ S.I H' ∧ ∃ ρ', Slots K H' σ' ρ' ∧ J n ρ') ⟨Gr.refl H1, i1, ρ, s.mono g1, h0⟩ (fun n σ' H' _ p => p.1.sqT ht) (fun n x σ' H' hx p => ?_) fun σ' H' p => ?_⟩
    · obtain ⟨g2, i2, ρ', s2, jn⟩ := p
      obtain ⟨d, hd', rd⟩ := ra.ta hx
      refine hs n d ρ' hd' jn _ _ H' H' ⟨Gr.refl H', i2, fun _ z => nomatch z⟩ i2 (s2.set (rd.mono g2) j) ⟨fun σ3 ρ3 H3 g3 i3 s3 q => ⟨g2.trans g3, i3, ρ3, s3, q⟩, fun v3 d3 H3 g3 => f.rt v3 d3 H3 ((g1.trans g2).trans g3), fun σ3 ρ3 H3 g3 i3 s3 q => f.nx σ3 ρ3 H3 ((g1.trans g2).trans g3) i3 s3 q, fun σ3 ρ3 H3 g3 i3 s3 q => ⟨g2.trans g3, i3, ρ3, s3, q⟩⟩
    · obtain ⟨g2, i2, ρ', s2, jn⟩ := p
      rw [ra.len] at jn
      exact f.nx σ' ρ' H' (g1.trans g2) i2 s2 (hd ρ' jn)
/-- for i in range(n): what holds may turn with each round (Z) -/
theorem so_forR {j n : Nat} {ta : TA} {Z : Nat → Sta} (h : EvA K S (Z 0) ρ ta (Eq [.int n])) (hn : n < 2 ^ 62) (hz : ∀ i, i ≤ n → (Z i).Le SF) (hup : ∀ i, i < n → (Z i).Le (Z (i + 1))) (J : Nat → List (Option Dt) → Prop) (h0 : J 0 ρ)
    (hs : ∀ (i : Nat) ρ', i < n → J i ρ' → So K (Z i) (Z (i + 1)) [] t (ρ'.set j (some (.int i))) { P with nx := J (i + 1), ct := J (i + 1), bk := P.nx }) (hd : ∀ ρ', J n ρ' → P.nx ρ') : Sg K S SB SF L (tFor (iRng1 ta) (gName j) t) ρ P := fun D σ B H b i s f0 =>
  have f := f0.mono b.gr
  h σ H i s _ fun vs ds H1 g1 i1 r1 p1 => by
    subst p1
    obtain ⟨v, rfl, rv⟩ := r1.oneI
    obtain rfl := rv.intI
    refine ⟨n, rfl, by omega, by omega, ?_⟩
    rw [Int.toNat_natCast]
    refine for_range (lo := 0) (n := n) (fun m σ' H' => Gr H1 H' ∧ (Z m).I H' ∧ ∃ ρ', Slots K H' σ' ρ' ∧ J m ρ') ⟨Gr.refl H1, i1, ρ, s.mono g1, h0⟩ (fun m σ' H' hm p => ?_) fun σ' H' p => ?_
    · obtain ⟨g2, i2, ρ', s2, jn⟩ := p
      rw [Int.zero_add]
      have l := hz (m + 1) hm
      exact hs m ρ' hm jn _ _ H' H' ⟨Gr.refl H', hup m hm _ i2, fun _ z => nomatch z⟩ i2 (s2.set (.int _) j) ⟨fun σ3 ρ3 H3 g3 i3 s3 q => ⟨g2.trans g3, i3, ρ3, s3, q⟩, fun v3 d3 H3 g3 i3 => f.rt v3 d3 H3 ((g1.trans g2).trans g3) (l _ i3), fun σ3 ρ3 H3 g3 i3 s3 q => f.nx σ3 ρ3 H3 ((g1.trans g2).trans g3) (l _ i3) s3 q, fun σ3 ρ3 H3 g3 i3 s3 q => ⟨g2.trans g3, i3, ρ3, s3, q⟩⟩
    · obtain ⟨g2, i2, ρ', s2, jn⟩ := p
      exact f.nx σ' ρ' H' (g1.trans g2) (hz n (Nat.le_refl n) _ i2) s2 (hd ρ' jn)
end

/-! ### E. comprehensions: the list that grows is none of the items' -/
mutual
def nol : Dt → Bool
  | .lst _ => false
  | .lat _ _ => false
  | .tup xs => nolA xs
  | .ins _ _ xs => nolA xs
  | .err _ _ d => nol d
  | .dct ks xs => nolA ks && nolA xs
  | .dti _ _ xs => nolA xs
  | .dat _ _ ks xs => nolA ks && nolA xs
  | .cel _ _ => false
  | _ => true
def nolA : List Dt → Bool
  | [] => true
  | x :: xs => nol x && nolA xs
end
section
variable {K : PySem.W.Frag} {H : Hp} {D : Addr} {acc : List V} {o : HO}
theorem upd_other {a : Addr} {u : HO} (hD : H D = some (.lst acc)) (ha : H a = some u) (hu : ∀ xs, u ≠ .lst xs) : upd H D o a = some u := by
  rw [upd_ne (fun e => by rw [e, hD] at ha; exact hu acc (Option.some.inj ha).symm)]
  exact ha
mutual
theorem Rep.off (hD : H D = some (.lst acc)) : ∀ {v : V} {d : Dt}, nol d = true → Rep K H v d → Rep K (upd H D o) v d
  | _, _, _, .non => .non
  | _, _, _, .bl b => .bl b
  | _, _, _, .int i => .int i
  | _, _, _, .str x => .str x
  | _, _, h, .lst _ _ => by simp [nol] at h
  | _, _, h, .tup q r => .tup (by
      rcases q with (q | ⟨o', q⟩) | q
      · exact .inl (.inl (upd_other hD q fun _ z => nomatch z))
      · exact .inl (.inr ⟨o', upd_other hD q fun _ z => nomatch z⟩)
      · exact .inr q) (r.off hD (by simpa [nol] using h))
  | _, _, _, .dic h => .dic (upd_other hD h fun _ z => nomatch z)
  | _, _, h, .ins q r => .ins (upd_other hD q fun _ z => nomatch z) (r.off hD (by simpa [nol] using h))
  | _, _, _, .raw v => .raw v
  | _, _, h, .lat _ _ => by simp [nol] at h
  | _, _, h, .err q1 q2 r => .err (upd_other hD q1 fun _ z => nomatch (show HO.ext _ = HO.lst _ from z)) (upd_other hD q2 fun _ z => nomatch z) (r.off hD (by simpa [nol] using h))
  | _, _, h, .dct q r1 r2 => .dct (upd_other hD q fun _ z => nomatch (show HO.ext _ = HO.lst _ from z)) (r1.off hD (Bool.and_eq_true_iff.mp (by simpa only [nol] using h)).1) (r2.off hD (Bool.and_eq_true_iff.mp (by simpa only [nol] using h)).2)
  | _, _, h, .dti q l r => .dti (upd_other hD q fun _ z => nomatch (show HO.dK _ = HO.lst _ from z)) l (r.off hD (by simpa only [nol] using h))
  | _, _, h, .cel _ _ => by simp [nol] at h
  | _, _, h, .dat q l r1 r2 => .dat (upd_other hD q fun _ z => nomatch (show HO.ext _ = HO.lst _ from z)) l (r1.off hD (Bool.and_eq_true_iff.mp (by simpa only [nol] using h)).1) (r2.off hD (Bool.and_eq_true_iff.mp (by simpa only [nol] using h)).2)
theorem RepA.off (hD : H D = some (.lst acc)) : ∀ {vs : List V} {ds : List Dt}, nolA ds = true → RepA K H vs ds → RepA K (upd H D o) vs ds
  | _, _, _, .nil => .nil
  | _, _, h, .cons q r => by
    simp only [nolA, Bool.and_eq_true] at h
    exact .cons (q.off hD h.1) (r.off hD h.2)
end
end
theorem nolA_app : ∀ {xs ys : List Dt}, nolA (xs ++ ys) = (nolA xs && nolA ys)
  | [], _ => by simp [nolA]
  | x :: xs, ys => by simp only [List.cons_append, nolA, nolA_app, Bool.and_assoc]
theorem nolA_all : ∀ {xs : List Dt}, nolA xs = true ↔ ∀ x ∈ xs, nol x = true
  | [] => by simp [nolA]
  | x :: xs => by simp [nolA, nolA_all]
theorem wipe_set (ν : Option V) (j : Nat) : ∀ (vs : List Nat) (σ : L2.St), (L2.wipe (σ.set j ν) vs).set j none = (L2.wipe σ vs).set j none
  | [], σ => by simp [L2.wipe, List.set_set]
  | v :: vs, σ => by
    show ((L2.wipe (σ.set j ν) vs).set v none).set j none = ((L2.wipe σ vs).set v none).set j none
    by_cases h : v = j
    · subst h
      rw [wipe_set ν v vs σ]
    · rw [List.set_comm _ _ h, wipe_set ν j vs σ, List.set_comm _ _ h]
theorem wipe_in (ν : Option V) (j : Nat) : ∀ (vs : List Nat) (σ : L2.St), j ∈ vs → L2.wipe (σ.set j ν) vs = L2.wipe σ vs
  | v :: vs, σ, h => by
    show (L2.wipe (σ.set j ν) vs).set v none = (L2.wipe σ vs).set v none
    by_cases e : v = j
    · subst e
      exact wipe_set ν v vs σ
    · rw [wipe_in ν j vs σ ((List.mem_cons.mp h).resolve_left (Ne.symm e))]
theorem wipe_twice : ∀ (vs : List Nat) (σ : L2.St), L2.wipe (L2.wipe σ vs) vs = L2.wipe σ vs
  | [], σ => rfl
  | v :: vs, σ => by
    show (L2.wipe ((L2.wipe σ vs).set v none) vs).set v none = (L2.wipe σ vs).set v none
    rw [wipe_set none v vs, wipe_twice vs σ]
theorem wipe_put (ν : Option V) {j : Nat} {vs : List Nat} (σ : L2.St) (h : j ∈ vs) : L2.wipe ((L2.wipe σ vs).set j ν) vs = L2.wipe σ vs := by
  rw [wipe_in ν j vs _ h, wipe_twice]
/-- a list may turn under what holds all along -/
def Sta.Mu (S : Sta) : Prop := ∀ {H1 H : Hp} {D : Addr} {o : HO} {ws : List V}, S.I H1 → Gr H1 H → H1 D = none → H D = some (.lst ws) → S.I H → S.I (upd H D o)
theorem gr_off {H1 H : Hp} {D : Addr} {o : HO} (g : Gr H1 H) (h : H1 D = none) : Gr H1 (upd H D o) := fun a u e d => by
  rw [upd_ne (ne_of_none e h)]
  exact g a u e d
section
variable {K : PySem.W.Frag} {S S1 : Sta} {ρ : List (Option Dt)} {te tl : TE} {tt : TT} {vs : List Nat} {j : Nat}
/-- a comprehension over a source whose items are told; every item's data such that Φ i, or left out -/
theorem lc_turns {g : L2.St} {H1 : Hp} {D : Addr} {σ : L2.St} (hmu : ∀ {H2 : Hp} {o : HO} {ws : List V}, Gr H1 H2 → H2 D = some (.lst ws) → S1.I H2 → S1.I (upd H2 D o)) (le : S.Le S1) (hD : H1 D = none) {Z : Nat → List Dt → Prop} {i : Nat} {acc : List V} {ds : List Dt} {x : V} {dx : Dt} {H : Hp} (hj : j ∈ vs)
    {p : Bool} {Φ : Dt → Prop} (s : Slots K H1 σ ρ) (gH : Gr H1 H) (iH : S.I H) (hH : H D = some (.lst acc)) (ra : RepA K H acc ds) (hnol : nolA ds = true) (rx : Rep K H x dx)
    (hz : ds.length < sizeLine) (ht : EvT K S S ((wipeD ρ vs).set j (some dx)) tt (Eq p)) (he : p = true → Ev K S S1 ((wipeD ρ vs).set j (some dx)) te (fun d => Φ d ∧ nol d = true))
    {Pv : Hp → Prop} (hy : p = true → ∀ H' acc' d, Φ d → nol d = true → Gr H1 H' → S1.I H' → H' D = some (.lst acc') → RepA K H' acc' (ds ++ [d]) → Pv H') (hn : p = false → ∀ H', Gr H1 H' → S1.I H' → H' D = some (.lst acc) → RepA K H' acc ds → Pv H') :
    gName j x (L2.wipe σ vs) H fun σ2 H2 => L2.wipe σ2 vs = L2.wipe σ vs ∧ tt σ2 H2 fun b H3 => if b = true then te σ2 H3 fun y H4 => ∃ acc, H4 D = some (.lst acc) ∧ acc.length < sizeLine ∧ Pv (upd H4 D (.lst (acc ++ [y]))) else Pv H3 := by
  refine ⟨wipe_put _ σ hj, ht _ H iH (((s.mono gH).wipe vs).set rx j) _ fun b H3 g3 i3 p3 => ?_⟩
  subst p3
  have hH3 : H3 D = some (.lst acc) := g3 _ _ hH rfl
  cases p with
  | false =>
    rw [if_neg Bool.false_ne_true]
    exact hn rfl H3 (gH.trans g3) (le _ i3) hH3 (ra.mono g3)
  | true =>
    rw [if_pos rfl]
    refine he rfl _ H3 i3 (((s.mono (gH.trans g3)).wipe vs).set (rx.mono g3) j) _ fun y d H4 g4 i4 r4 p4 => ?_
    have hH4 : H4 D = some (.lst acc) := g4 _ _ hH3 rfl
    have ra4 := ra.mono (g3.trans g4)
    refine ⟨acc, hH4, by rw [ra4.len]; exact hz, hy rfl _ (acc ++ [y]) d p4.1 p4.2 (gr_off ((gH.trans g3).trans g4) hD) (hmu ((gH.trans g3).trans g4) hH4 i4) upd_same ?_⟩
    exact (ra4.off hH4 hnol).app (.cons (r4.off hH4 p4.2) .nil)
/-- [te for x in a tuple if tt], the element a function of the item -/
theorem ev_lcT {xs : List Dt} {f : Dt → Dt} {p : Dt → Bool} (hmu : S.Mu) (h : Ev K S S ρ tl (Eq (.tup xs))) (hj : j ∈ vs) (hz : xs.length ≤ 100000) (ht : ∀ x ∈ xs, EvT K S S ((wipeD ρ vs).set j (some x)) tt (Eq (p x)))
    (he : ∀ x ∈ xs, p x = true → Ev K S S ((wipeD ρ vs).set j (some x)) te (Eq (f x))) (hf : ∀ x ∈ xs, p x = true → nol (f x) = true) : Ev K S S ρ (tLc (iTup K tl) (gName j) tt te vs) (Eq (.lst ((xs.filter p).map f))) := fun σ H i s Q q =>
  h σ H i s _ fun v d H1 g1 i1 r1 p1 => by
    subst p1
    obtain ⟨a, us, rfl, hT, ra⟩ := r1.tupI
    refine ⟨a, rfl, ⟨us, hT⟩, fun D hD => lc_tup (K := K) (a := a) (xs := us) (fun n H' => Gr H1 H' ∧ S.I H' ∧ ∃ acc, H' D = some (.lst acc) ∧ RepA K H' acc (((xs.take n).filter p).map f)) ⟨(same_new hD).gr, S.st i1 (same_new hD), [], upd_same, .nil⟩
      (fun n H' _ q' => q'.1.sqT hT) (fun n x H' hx q' => ?_) fun H' q' => ?_⟩
    · obtain ⟨g2, i2, acc, ha, rac⟩ := q'
      obtain ⟨dx, hdx, rdx⟩ := ra.ta hx
      have hmem : dx ∈ xs := List.mem_of_getElem? hdx
      have htake : xs.take (n + 1) = xs.take n ++ [dx] := by rw [List.take_add_one, hdx]; rfl
      have hnol : nolA (((xs.take n).filter p).map f) = true := nolA_all.mpr fun y hy => by
        obtain ⟨z, hz1, rfl⟩ := List.mem_map.mp hy
        obtain ⟨hz2, hz3⟩ := List.mem_filter.mp hz1
        exact hf z (List.mem_of_mem_take hz2) hz3
      refine lc_turns (g := σ) (Z := fun _ _ => True) (i := n) (acc := acc) (ds := ((xs.take n).filter p).map f) (dx := dx) (p := p dx) (Φ := Eq (f dx)) (S := S) (S1 := S) (fun g e i => hmu i1 g hD e i) (Sta.Le.refl S) hD hj (s.mono g1) g2 i2 ha rac hnol (rdx.mono g2) ?_ (ht dx hmem) (fun e => (he dx hmem e).weak fun d e2 => ⟨e2, e2 ▸ hf dx hmem e⟩) (fun e H2 acc' d e1 _ g3 i3 h3 r3 => ?_) fun e H2 g3 i3 h3 r3 => ?_
      · rw [List.length_map]
        refine Nat.lt_of_le_of_lt (List.length_filter_le _ _) ?_
        refine Nat.lt_of_le_of_lt (List.length_take_le _ _) (Nat.lt_of_le_of_lt (Nat.le_trans (Nat.le_of_lt ?_) hz) (by decide))
        have := (List.getElem?_eq_some_iff.mp hdx).1
        exact this
      · subst e1
        refine ⟨g3, i3, acc', h3, ?_⟩
        rw [htake, List.filter_append, List.map_append]
        simpa [List.filter_cons, e] using r3
      · refine ⟨g3, i3, acc, h3, ?_⟩
        rw [htake, List.filter_append, List.map_append]
        simpa [List.filter_cons, e] using r3
    · obtain ⟨g2, i2, acc, ha, rac⟩ := q'
      rw [ra.len, List.take_length] at rac
      exact q _ _ H' (g1.trans g2) i2 (.lst (SqL.of ha) rac) rfl
theorem ev_lcL {xs : List Dt} {f : Dt → Dt} {p : Dt → Bool} (hmu : S.Mu) (h : Ev K S S ρ tl (Eq (.lst xs))) (hj : j ∈ vs) (hz : xs.length ≤ 100000) (ht : ∀ x ∈ xs, EvT K S S ((wipeD ρ vs).set j (some x)) tt (Eq (p x)))
    (he : ∀ x ∈ xs, p x = true → Ev K S S ((wipeD ρ vs).set j (some x)) te (Eq (f x))) (hf : ∀ x ∈ xs, p x = true → nol (f x) = true) : Ev K S S ρ (tLc (iList K tl) (gName j) tt te vs) (Eq (.lst ((xs.filter p).map f))) := fun σ H i s Q q =>
  h σ H i s _ fun v d H1 g1 i1 r1 p1 => by
    subst p1
    obtain ⟨a, us, rfl, hT, ra⟩ := r1.lstI
    refine ⟨a, rfl, ⟨us, hT⟩, fun D hD => lc_list (K := K) (a := a) (xs := us) (fun n H' => Gr H1 H' ∧ S.I H' ∧ ∃ acc, H' D = some (.lst acc) ∧ RepA K H' acc (((xs.take n).filter p).map f)) ⟨(same_new hD).gr, S.st i1 (same_new hD), [], upd_same, .nil⟩
      (fun n H' _ q' => q'.1.sqL hT) (fun n x H' hx q' => ?_) fun H' q' => ?_⟩
    · obtain ⟨g2, i2, acc, ha, rac⟩ := q'
      obtain ⟨dx, hdx, rdx⟩ := ra.ta hx
      have hmem : dx ∈ xs := List.mem_of_getElem? hdx
      have htake : xs.take (n + 1) = xs.take n ++ [dx] := by rw [List.take_add_one, hdx]; rfl
      have hnol : nolA (((xs.take n).filter p).map f) = true := nolA_all.mpr fun y hy => by
        obtain ⟨z, hz1, rfl⟩ := List.mem_map.mp hy
        obtain ⟨hz2, hz3⟩ := List.mem_filter.mp hz1
        exact hf z (List.mem_of_mem_take hz2) hz3
      refine lc_turns (g := σ) (Z := fun _ _ => True) (i := n) (acc := acc) (ds := ((xs.take n).filter p).map f) (dx := dx) (p := p dx) (Φ := Eq (f dx)) (S := S) (S1 := S) (fun g e i => hmu i1 g hD e i) (Sta.Le.refl S) hD hj (s.mono g1) g2 i2 ha rac hnol (rdx.mono g2) ?_ (ht dx hmem) (fun e => (he dx hmem e).weak fun d e2 => ⟨e2, e2 ▸ hf dx hmem e⟩) (fun e H2 acc' d e1 _ g3 i3 h3 r3 => ?_) fun e H2 g3 i3 h3 r3 => ?_
      · rw [List.length_map]
        refine Nat.lt_of_le_of_lt (List.length_filter_le _ _) ?_
        refine Nat.lt_of_le_of_lt (List.length_take_le _ _) (Nat.lt_of_le_of_lt (Nat.le_trans (Nat.le_of_lt ?_) hz) (by decide))
        have := (List.getElem?_eq_some_iff.mp hdx).1
        exact this
      · subst e1
        refine ⟨g3, i3, acc', h3, ?_⟩
        rw [htake, List.filter_append, List.map_append]
        simpa [List.filter_cons, e] using r3
      · refine ⟨g3, i3, acc, h3, ?_⟩
        rw [htake, List.filter_append, List.map_append]
        simpa [List.filter_cons, e] using r3
    · obtain ⟨g2, i2, acc, ha, rac⟩ := q'
      rw [ra.len, List.take_length] at rac
      exact q _ _ H' (g1.trans g2) i2 (.lst (SqL.of ha) rac) rfl
/-- [te for x in range(n)], every element such that Φ; what holds may turn with each -/
theorem ev_lcRP {ta : TA} {n : Nat} {Φ : Dt → Prop} {Z : Nat → Sta} (hmu : ∀ {m m' : Nat} {H1 H : Hp} {D : Addr} {o : HO} {ws : List V}, (Z m).I H1 → Gr H1 H → H1 D = none → H D = some (.lst ws) → (Z m').I H → (Z m').I (upd H D o)) (hle : ∀ m, (Z m).Le (Z (m + 1))) (h : EvA K S (Z 0) ρ ta (Eq [.int n])) (hn : n ≤ 100000) (hj : j ∈ vs)
    (he : ∀ i : Nat, i < n → Ev K (Z i) (Z (i + 1)) ((wipeD ρ vs).set j (some (.int i))) te (fun d => Φ d ∧ nol d = true)) :
    Ev K S (Z n) ρ (tLc (iRng1 ta) (gName j) tYes te vs) (fun d => ∃ ds, d = .lst ds ∧ ds.length = n ∧ nolA ds = true ∧ ∀ x ∈ ds, Φ x) := fun σ H i s Q q =>
  h σ H i s _ fun ws es H1 g1 i1 r1 p1 => by
    subst p1
    obtain ⟨v, rfl, rv⟩ := r1.oneI
    obtain rfl := rv.intI
    refine ⟨n, rfl, by omega, by omega, fun D hD => ?_⟩
    rw [Int.toNat_natCast]
    refine lc_range (lo := 0) (n := n) (fun m H' => Gr H1 H' ∧ (Z m).I H' ∧ ∃ acc ds, H' D = some (.lst acc) ∧ RepA K H' acc ds ∧ ds.length = m ∧ nolA ds = true ∧ ∀ x ∈ ds, Φ x) ⟨(same_new hD).gr, (Z 0).st i1 (same_new hD), [], [], upd_same, .nil, rfl, rfl, fun _ z => nomatch z⟩
      (fun m H' hm q' => ?_) fun H' q' => ?_
    · obtain ⟨g2, i2, acc, ds, ha, rac, hl, hno, hph⟩ := q'
      rw [Int.zero_add]
      refine lc_turns (g := σ) (Z := fun _ _ => True) (i := m) (acc := acc) (ds := ds) (dx := .int m) (p := true) (Φ := Φ) (S := Z m) (S1 := Z (m + 1)) (fun g e i => hmu i1 g hD e i) (hle m) hD hj (s.mono g1) g2 i2 ha rac hno (.int _) (Nat.lt_of_lt_of_le (by rw [hl]; exact Nat.lt_of_lt_of_le hm hn) (by decide)) et_yes (fun _ => he m hm) (fun e H2 acc' d e1 e2 g3 i3 h3 r3 => ?_) fun e => nomatch e
      refine ⟨g3, i3, acc', ds ++ [d], h3, r3, by rw [List.length_append, hl]; rfl, by rw [nolA_app, hno]; simp [nolA, e2], fun x hx => ?_⟩
      rcases List.mem_append.mp hx with hx | hx
      · exact hph x hx
      · rw [List.mem_singleton.mp hx]
        exact e1
    · obtain ⟨g2, i2, acc, ds, ha, rac, hl, hno, hph⟩ := q'
      exact q _ _ H' (g1.trans g2) i2 (.lst (SqL.of ha) rac) ⟨ds, rfl, hl, hno, hph⟩
end

/-- all that was is as it was -/
def staSameQ (H : Hp) : Sta := ⟨fun H' => Same H H', fun a b => a.trans b⟩
/-! lists that may be changed -/
section
variable {K : PySem.W.Frag} {S SB SF : Sta} {L : List Addr} {ρ : List (Option Dt)} {P : Po} {te : TE} {w : TS} {x d : Dt} {D : Ends} {H H' : Hp}
/-- a list that is made on the way: it is new at some H1 in between, nothing else knows it -/
def EvN (K : PySem.W.Frag) (S S' : Sta) (ρ : List (Option Dt)) (te : TE) (xs : List Dt) : Prop := ∀ (σ : L2.St) (H : Hp), S.I H → Slots K H σ ρ → ∀ Q : VK,
  (∀ p vs H1 H', Gr H H1 → S'.I H1 → H1 p = none → Gr H1 H' → S'.I H' → H' p = some (.lst vs) → RepA K H' vs xs → Q (.ref p) H') → te σ H Q
theorem EvN.ev {S1 : Sta} {xs : List Dt} (h : EvN K S S1 ρ te xs) : Ev K S S1 ρ te (Eq (.lst xs)) := fun σ H i s Q q => h σ H i s Q fun p vs H1 H' g _ _ g2 i' e r => q _ _ H' (g.trans g2) i' (.lst (SqL.of e) r) rfl
theorem EvN.to {S1 : Sta} {xs ys : List Dt} (h : EvN K S S1 ρ te xs) (e : xs = ys) : EvN K S S1 ρ te ys := e ▸ h
theorem en_lst {S1 : Sta} {t : TA} {ds : List Dt} (h : EvA K S S1 ρ t (Eq ds)) (hz : ds.length ≤ sizeLine) : EvN K S S1 ρ (tLst t) ds := fun σ H i s Q q =>
  h σ H i s _ fun vs ds' H1 g1 i1 r1 e => by
    subst e
    exact ⟨by rw [r1.len]; exact hz, fun p hp => q p vs H1 _ g1 i1 hp (same_new hp).gr (S1.st i1 (same_new hp)) upd_same (r1.mono (same_new hp).gr)⟩
/-- what holds bears that a loose list is changed -/
def Loose (S SF : Sta) : Prop := ∀ {B H : Hp} {p : Addr} {vs : List V} {o : HO}, SF.I B → Gr B H → B p = none → H p = some (.lst vs) → S.I H → S.I (upd H p o)
end
end Bf
namespace Bf
open PySem PySem.Spec PyProof.Rows L2

/-! ### F. what kind a thing is -/
/-- the name of a thing's class (not of an instance, not of a value by itself) -/
def tyN : Dt → Option String
  | .non => some "NoneType"
  | .bl _ => some "bool"
  | .int _ => some "int"
  | .str _ => some "str"
  | .lst _ => some "list"
  | .tup _ => some "tuple"
  | .dic => some "dict"
  | .raw (.ty _) => none
  | _ => none
section
variable {K : PySem.W.Frag} {S : Sta} {ρ : List (Option Dt)} {H : Hp} {d : Dt} {v : V} {n T : String}
theorem Rep.ty (r : Rep K H v d) (h : tyN d = some n) : TyX K H v (.type n) := by
  cases r with
  | non => cases h; exact .base .non
  | bl b => cases h; exact .base (.bl b)
  | int i => cases h; exact .base (.int i)
  | str x => cases h; exact .base (.str x)
  | lst q r =>
    cases h
    rcases q with (q | ⟨o, q⟩) | ⟨o, its, n, hk, hc, _⟩
    · exact .base (.lst q)
    · exact .base (.frz q)
    · exact .kList hk hc
  | tup q r =>
    cases h
    rcases q with (q | ⟨o, q⟩) | ⟨o, its, n, hk, hc, _⟩
    · exact .base (.tup q)
    · exact .fTuple q
    · exact .kTuple hk hc
  | dic q => cases h; exact .base (.dK q)
  | ins q r => cases h
  | raw v => cases v <;> cases h
  | lat q r => cases h
  | err q1 q2 r => cases h
  | dct q r1 r2 => cases h
  | dti q l r => cases h
  | dat q l r1 r2 => cases h
  | cel q e => cases h
theorem rc_isi {b : Bool} (h : tyN d = some n) (hk : kitB n T = some b) : RvC K S (rIsi K) [d, .raw (.ty T)] (Eq (.bl b)) := rc_at fun H vs i r Q q => by
  obtain ⟨v, u, rfl, r1, r2⟩ := r.twoI
  obtain rfl := r2.rawI
  exact ⟨v, .ty T, _, _, b, rfl, .ty T, r1.ty h, kit_ty hk, q _ (.bl b)⟩
end

/-! ### G. == and repr of data without dicts, instances -/
mutual
def py : Dt → PyData
  | .non => .none
  | .bl b => .bool b
  | .int i => .int i
  | .str x => .str x
  | .lst xs => .list (pyA xs)
  | .tup xs => .tuple (pyA xs)
  | .dic => .dict []
  | .ins _ _ _ => .none
  | .raw _ => .none
  | .lat _ _ => .none
  | .err _ _ _ => .none
  | .dct _ _ => .none
  | .dti _ _ _ => .none
  | .dat _ _ _ _ => .none
  | .cel _ _ => .none
def pyA : List Dt → List PyData
  | [] => []
  | x :: xs => py x :: pyA xs
end
mutual
/-- no dict, no instance, no value by itself -/
def pur : Dt → Bool
  | .lst xs => purA xs
  | .tup xs => purA xs
  | .dic => false
  | .ins _ _ _ => false
  | .raw _ => false
  | .lat _ _ => false
  | .err _ _ _ => false
  | .dct _ _ => false
  | .dti _ _ _ => false
  | .dat _ _ _ _ => false
  | .cel _ _ => false
  | _ => true
def purA : List Dt → Bool
  | [] => true
  | x :: xs => pur x && purA xs
end
section
variable {K : PySem.W.Frag} {H : Hp}
mutual
theorem Rep.dp : ∀ {v : V} {d : Dt}, pur d = true → Rep K H v d → Dp K H v (py d)
  | _, _, _, .non => by unfold py; exact .non
  | _, _, _, .bl b => by unfold py; exact .bl b
  | _, _, _, .int i => by unfold py; exact .int i
  | _, _, _, .str x => by unfold py; exact .str x
  | _, _, h, .lst q r => by unfold py; exact .lst q (r.dp (by simpa [pur] using h))
  | _, _, h, .tup q r => by unfold py; exact .tup q (r.dp (by simpa [pur] using h))
  | _, _, h, .dic _ => by simp [pur] at h
  | _, _, h, .ins _ _ => by simp [pur] at h
  | _, _, h, .raw _ => by simp [pur] at h
  | _, _, h, .lat _ _ => by simp [pur] at h
  | _, _, h, .err _ _ _ => by simp [pur] at h
  | _, _, h, .dct _ _ _ => by simp [pur] at h
  | _, _, h, .dti _ _ _ => by simp [pur] at h
  | _, _, h, .dat _ _ _ _ => by simp [pur] at h
  | _, _, h, .cel _ _ => by simp [pur] at h
theorem RepA.dp : ∀ {vs : List V} {ds : List Dt}, purA ds = true → RepA K H vs ds → DpAll K H vs (pyA ds)
  | _, _, _, .nil => by unfold pyA; exact .nil
  | _, _, h, .cons q r => by
    simp only [purA, Bool.and_eq_true] at h
    unfold pyA
    exact .cons (q.dp h.1) (r.dp h.2)
end
end
/-- fit to be compared -/
def cmpOk (d : Dt) : Bool := pur d && SeqAt.shaped (py d)
section
variable {K : PySem.W.Frag} {S : Sta} {x y : Dt}
theorem rv_eqD (hx : cmpOk x = true) (hy : cmpOk y = true) : Rv2 K S (rEqD K) x y (Eq (.bl (PyData.eqv (py x) (py y)))) := rv_at fun H v u _ r1 r2 Q q => by
  simp only [cmpOk, Bool.and_eq_true] at hx hy
  exact ⟨_, _, r1.dp hx.1, r2.dp hy.1, hx.2, hy.2, q _ (.bl _)⟩
end
/-! ### H. lists joined, whatever their lists are -/
def rCatS (K : PySem.W.Frag) : R2 := fun x y H Q => ∃ l b xs zs, x = .ref l ∧ y = .ref b ∧ SqL K H l xs ∧ SqL K H b zs ∧ xs.length + zs.length ≤ sizeLine ∧ ∀ p, H p = none → Q (.ref p) (upd H p (.lst (xs ++ zs)))
theorem op_catS {X : Cx} : OpR X (binaryOp .Add) (rCatS X.K) := by
  intro pins s σ H x y v u Q I rx ry h
  obtain ⟨l, b, xs, zs, rfl, rfl, h1, h2, hz, q⟩ := h
  cases rx
  cases ry
  obtain ⟨its, r1, ⟨⟨c1, d1, dt1, sl1⟩, n1, o1, e1, _, f1⟩, _⟩ := I.list h1
  obtain ⟨jts, r2, ⟨⟨c2, d2, dt2, sl2⟩, n2, o2, e2, _, f2⟩, _⟩ := I.list h2
  simp only at e1 e2 f1 f2
  subst e1 e2 f1 f2
  have l1 := r1.length
  have l2 := r2.length
  refine concat_meets ⟨_, o1, rfl⟩ ⟨_, o2, rfl⟩ noFill_list_add seq_list_add PySem.F.slot_list_add PySem.F.entry_list_add (PySem.F.args_list_add_2 _ _)
    (list_addW l b its.toArray jts.toArray n1 n2 d1 d2 sl1 sl2 (by rw [List.size_toArray, List.size_toArray]; omega)) ⟨o1, o2, ?_⟩
  rw [show its.toArray ++ jts.toArray = (its ++ jts).toArray by simp]
  exact ⟨.ref _, _, I.lnew (t' := s.toks) (r1.append r2) (by rw [List.length_append]; omega), rfl, q _ I.fresh⟩
section
variable {K : PySem.W.Frag} {S : Sta} {ρ : List (Option Dt)} {x y d : Dt}
theorem rv_catL {xs ys : List Dt} (hz : xs.length + ys.length ≤ sizeLine) : Rv2 K S (rCatS K) (.lst xs) (.lst ys) (Eq (.lst (xs ++ ys))) := fun H v u i r1 r2 Q q => by
  obtain ⟨a, vs, rfl, h1, ra⟩ := r1.lstI
  obtain ⟨b, us, rfl, h2, rb⟩ := r2.lstI
  exact ⟨a, b, vs, us, rfl, rfl, h1, h2, by rw [ra.len, rb.len]; exact hz, fun p hp => q _ _ _ (same_new hp).gr (S.st i (same_new hp)) (.lst (SqL.of upd_same) ((ra.app rb).mono (same_new hp).gr)) rfl⟩
/-! tuple(..), list(..) -/
def rTupO (K : PySem.W.Frag) : List V → Hp → VK → Prop := fun xs H Q => ∃ p ys, xs = [.ref p] ∧ ((SqL K H p ys ∧ ∀ l, H l = none → Q (.ref l) (upd H l (.tup ys))) ∨ (SqT K H p ys ∧ Q (.ref p) H))
theorem rc_tupL {xs : List Dt} : RvC K S (rTupO K) [.lst xs] (Eq (.tup xs)) := fun H vs i r Q q => by
  obtain ⟨v, rfl, r1⟩ := r.oneI
  obtain ⟨a, us, rfl, h, ra⟩ := r1.lstI
  exact ⟨a, us, rfl, .inl ⟨h, fun p hp => q _ _ _ (same_new hp).gr (S.st i (same_new hp)) (.tup (SqT.of upd_same) (ra.mono (same_new hp).gr)) rfl⟩⟩
/-! int(True) -/
/-! in a written tuple of ints -/
theorem any_ints {H : Hp} (i : Int) : ∀ (ns : List Int), inV (.int i) (ns.map V.int) = decide (i ∈ ns)
  | [] => by simp [inV]
  | n :: ns => by
    have ih := any_ints (H := H) i ns
    unfold inV at ih ⊢
    rw [List.map_cons, List.any_cons, ih]
    have e : eqV (.int n) (.int i) = decide (n = i) := by
      unfold eqV
      by_cases h : n = i
      · simp [h]
      · simp [h]
    rw [e]
    by_cases h : n = i
    · simp [h]
    · by_cases h2 : i ∈ ns
      · simp [h, h2]
      · simp [h, h2, Ne.symm h]
end

/-! ### I. a def over data, by its body -/
def startD (n : Nat) (ds : List Dt) : List (Option Dt) := ds.map some ++ List.replicate (n - ds.length) none
theorem slots_start {K : PySem.W.Frag} {H : Hp} {N : List Str} {vs : List V} {ds : List Dt} (r : RepA K H vs ds) : Slots K H (L2.start N vs) (startD N.length ds) := by
  refine ⟨by simp [L2.start, startD, r.len], fun i d h => ?_⟩
  unfold startD at h
  unfold L2.start
  by_cases hi : i < ds.length
  · rw [List.getElem?_append_left (by simpa using hi), List.getElem?_map] at h
    cases e : ds[i]? with
    | none => rw [e] at h; cases h
    | some d' =>
      rw [e] at h
      cases h
      obtain ⟨v, hv, rv⟩ := r.at_ e
      exact ⟨v, by rw [List.getElem?_append_left (by rw [List.length_map, r.len]; exact hi), List.getElem?_map, hv]; rfl, rv⟩
  · rw [List.getElem?_append_right (by simpa using hi), List.getElem?_replicate] at h
    split at h <;> cases h
/-- all that was is as it was -/
abbrev staSame (H : Hp) : Sta := staSameQ H
theorem staSame_mu {H : Hp} : (staSame H).Mu := fun {H1 H2 D o ws} i1 _ hD _ i2 b u e => by
  have hb : b ≠ D := fun z => by
    have y := i1 b u e
    rw [z, hD] at y
    cases y
  rw [upd_ne hb]
  exact i2 b u e
theorem okF {P : Program} {w : World} {K : PySem.W.Frag} {mg : Str → Option Value} {base : Heap} {x qual : Str} {st : Stmt} {f : Addr} {fd : FuncData} {N ps : List Str} {k : Nat} {pre : List Dt → Prop} {F : List Dt → Dt} (Fu : Fun K x qual st f fd) (Sc : FnScope N ps (defScope st))
    (hb : ∀ (cdv : Value) (A : Around) (out : List Env) (s : Shared) (H : Hp) (E : XK), Room k (A.deeper (envOfC qual (defScope st) s.heap.objs.size f cdv)) → A.guards = some [] →
      ∃ t, PSs (cxOf (L2.CX P w) P w K mg base N qual (defScope st) f cdv A out s H E).nox (defBody st) t ∧ ∀ (S : Sta), S.Mu → ∀ ds : List Dt, ds.length = ps.length → pre ds → So K S S [] t (startD N.length ds) { nx := fun _ => F ds = .non, rt := Eq (F ds) }) :
    GOk P w K mg base (k + 1) f fd ps (spF K ps.length pre F) := by
  refine okG Fu Sc (fun vs H Q E h => ?_) fun cdv A out s H vs Q E hr hg h => ?_
  · obtain ⟨ds, r, hl, _⟩ := h
    exact r.len.trans hl
  · obtain ⟨ds, r, hl, hp, q⟩ := h
    obtain ⟨t, ht, so⟩ := hb cdv A out s H E hr hg
    refine ⟨t, ht.nox, so (staSame H) staSame_mu ds hl hp _ _ H H ⟨Gr.refl H, Same.refl H, fun _ z => nomatch z⟩ (Same.refl H) (slots_start r) ⟨fun σ ρ H' g i s' e => ?_, fun v d H' g i r' e => ?_, fun _ _ _ _ _ _ z => z.elim, fun _ _ _ _ _ _ z => z.elim⟩⟩
    · exact q _ H' i ((show F ds = .non from e) ▸ .non)
    · exact q v H' i ((show F ds = d from e) ▸ r')

end Bf
namespace Bf
open PySem PySem.Spec PyProof.Rows L2
/-! ### J. the readings' names -/
abbrev rAddI : R2 := rI0 fun i j => .int (i + j)
abbrev rSubI : R2 := rI0 fun i j => .int (i - j)
abbrev rMulW : R2 := rI CMulW fun i j => .int (i * j)
abbrev rDivW : R2 := rI CDivW fun i j => .int (i / j)
abbrev rModI : R2 := rI (fun _ j => 0 < j) fun i j => .int (i % j)
abbrev rPowI : R2 := rI CPow fun i j => .int (i ^ j.toNat)
abbrev rLeI : R2 := rI0 fun i j => .bl (decide (i ≤ j))
abbrev rGtI : R2 := rI0 fun i j => .bl (decide (j < i))
abbrev rGeI : R2 := rI0 fun i j => .bl (decide (j ≤ i))
abbrev rIsNo : R2 := fun x y H Q => y = .non ∧ Q (.bl (decide (x = .non))) H
abbrev rNegI : V → Hp → VK → Prop := rU fun i => .int (-i)
section
variable {K : PySem.W.Frag} {S S1 S2 : Sta} {ρ : List (Option Dt)} {te tl ta : TE} {vs : List Nat} {j : Nat} {x y d : Dt} {t u : TT}
theorem ev_neg {i : Int} (h : Ev K S S1 ρ ta (Eq (.int i))) : Ev K S S1 ρ (tUn rNegI ta) (Eq (.int (-i))) := ev_un h fun H v _ r Q q => ⟨i, r.intI, q _ _ H (Gr.refl H) (by assumption) (.int _) rfl⟩
/-! and, or where the first answer decides -/
theorem ev_andT {b : Bool} {tb : TE} (ha : Ev K S S1 ρ ta (Eq (.bl true))) (hb : Ev K S1 S1 ρ tb (Eq (.bl b))) : Ev K S S1 ρ (tAndV ta tb) (Eq (.bl b)) := (ev_and ha fun _ => hb).to (by rw [Bool.true_and])
theorem ev_andF {tb : TE} (ha : Ev K S S1 ρ ta (Eq (.bl false))) : Ev K S S1 ρ (tAndV ta tb) (Eq (.bl false)) := (ev_and (b := false) ha fun e => nomatch e).to (by rw [Bool.false_and])
theorem et_andT {b : Bool} (ha : EvT K S S1 ρ t (Eq true)) (hb : EvT K S1 S1 ρ u (Eq b)) : EvT K S S1 ρ (tAnd t u) (Eq b) := (et_and ha fun _ => hb).to (by rw [Bool.true_and])
theorem et_orT (ha : EvT K S S1 ρ t (Eq true)) : EvT K S S1 ρ (tOr t u) (Eq true) := (et_or (b := true) ha fun e => nomatch e).to (by rw [Bool.true_or])
theorem et_orF {b : Bool} (ha : EvT K S S1 ρ t (Eq false)) (hb : EvT K S1 S1 ρ u (Eq b)) : EvT K S S1 ρ (tOr t u) (Eq b) := (et_or ha fun _ => hb).to (by rw [Bool.false_or])
theorem et_notT (ha : EvT K S S1 ρ t (Eq true)) : EvT K S S1 ρ (tNot t) (Eq false) := (et_not ha).to rfl
theorem et_notF (ha : EvT K S S1 ρ t (Eq false)) : EvT K S S1 ρ (tNot t) (Eq true) := (et_not ha).to rfl
theorem ev_ifT {Φ : Dt → Prop} {tb : TE} (ht : EvT K S S1 ρ t (Eq true)) (ha : Ev K S1 S2 ρ ta Φ) : Ev K S S2 ρ (tIf t ta tb) Φ := ev_if ht (fun _ => ha) fun e => nomatch e
theorem ev_ifF {Φ : Dt → Prop} {tb : TE} (ht : EvT K S S1 ρ t (Eq false)) (hb : Ev K S1 S2 ρ tb Φ) : Ev K S S2 ρ (tIf t ta tb) Φ := ev_if ht (fun e => nomatch e) fun _ => hb
/-! a < b < c where the first already fails, or not -/

/-! isinstance -/
def okN (d : Dt) : Bool := (tyN d).isSome
def isIntD : Dt → Bool
  | .int _ => true
  | .bl _ => true
  | _ => false
def isBlD : Dt → Bool
  | .bl _ => true
  | _ => false
def isTupD : Dt → Bool
  | .tup _ => true
  | _ => false
def isStrD : Dt → Bool
  | .str _ => true
  | _ => false
theorem rc_isInt (h : okN d = true) : RvC K S (rIsi K) [d, .raw (.ty "int")] (Eq (.bl (isIntD d))) := by
  cases d with
  | non => exact rc_isi (b := false) rfl (by decide +kernel)
  | bl => exact rc_isi (b := true) rfl (by decide +kernel)
  | int => exact rc_isi (b := true) rfl (by decide +kernel)
  | str => exact rc_isi (b := false) rfl (by decide +kernel)
  | lst => exact rc_isi (b := false) rfl (by decide +kernel)
  | tup => exact rc_isi (b := false) rfl (by decide +kernel)
  | dic => exact rc_isi (b := false) rfl (by decide +kernel)
  | ins => cases h
  | raw v => cases v <;> cases h
  | lat => cases h
  | err => cases h
  | dct => cases h
  | dti => cases h
  | dat => cases h
  | cel => cases h
theorem rc_isBl (h : okN d = true) : RvC K S (rIsi K) [d, .raw (.ty "bool")] (Eq (.bl (isBlD d))) := by
  cases d with
  | non => exact rc_isi (b := false) rfl (by decide +kernel)
  | bl => exact rc_isi (b := true) rfl (by decide +kernel)
  | int => exact rc_isi (b := false) rfl (by decide +kernel)
  | str => exact rc_isi (b := false) rfl (by decide +kernel)
  | lst => exact rc_isi (b := false) rfl (by decide +kernel)
  | tup => exact rc_isi (b := false) rfl (by decide +kernel)
  | dic => exact rc_isi (b := false) rfl (by decide +kernel)
  | ins => cases h
  | raw v => cases v <;> cases h
  | lat => cases h
  | err => cases h
  | dct => cases h
  | dti => cases h
  | dat => cases h
  | cel => cases h
theorem rc_isTup (h : okN d = true) : RvC K S (rIsi K) [d, .raw (.ty "tuple")] (Eq (.bl (isTupD d))) := by
  cases d with
  | non => exact rc_isi (b := false) rfl (by decide +kernel)
  | bl => exact rc_isi (b := false) rfl (by decide +kernel)
  | int => exact rc_isi (b := false) rfl (by decide +kernel)
  | str => exact rc_isi (b := false) rfl (by decide +kernel)
  | lst => exact rc_isi (b := false) rfl (by decide +kernel)
  | tup => exact rc_isi (b := true) rfl (by decide +kernel)
  | dic => exact rc_isi (b := false) rfl (by decide +kernel)
  | ins => cases h
  | raw v => cases v <;> cases h
  | lat => cases h
  | err => cases h
  | dct => cases h
  | dti => cases h
  | dat => cases h
  | cel => cases h
theorem rc_isStr (h : okN d = true) : RvC K S (rIsi K) [d, .raw (.ty "str")] (Eq (.bl (isStrD d))) := by
  cases d with
  | non => exact rc_isi (b := false) rfl (by decide +kernel)
  | bl => exact rc_isi (b := false) rfl (by decide +kernel)
  | int => exact rc_isi (b := false) rfl (by decide +kernel)
  | str => exact rc_isi (b := true) rfl (by decide +kernel)
  | lst => exact rc_isi (b := false) rfl (by decide +kernel)
  | tup => exact rc_isi (b := false) rfl (by decide +kernel)
  | dic => exact rc_isi (b := false) rfl (by decide +kernel)
  | ins => cases h
  | raw v => cases v <;> cases h
  | lat => cases h
  | err => cases h
  | dct => cases h
  | dti => cases h
  | dat => cases h
  | cel => cases h
/-! [te for x in a list for y in (a tuple)] -/
end
end Bf
namespace Bf
open PySem PySem.Spec PyProof.Rows L2

/-! ### K. a def of the text -/
structure Cal (K : PySem.W.Frag) (mg : Str → Option Value) (x : Str) (st : Stmt) (ps : List Str) (f : Addr) (fd : FuncData) : Prop where
  fn : Fun K x x st f fd
  gl : mg x = some (.ref f)
  bp : BPos fd ps
def idL : List Value → List Value := fun ws => ws
def swpL : List Value → List Value
  | [a, b] => [b, a]
  | ws => ws
def idV : List V → List V := fun ws => ws
def swpV : List V → List V
  | [a, b] => [b, a]
  | ws => ws
theorem kwv {n : Nat} : ∀ {vs : List V} {us : List Value}, Vals vs us → vs.length = n → Vals (idV vs) (idL us) := fun r _ => r
theorem kws {n : Nat} : ∀ {vs : List V} {us : List Value}, Vals vs us → vs.length = n → Vals (swpV vs) (swpL us)
  | _, _, .nil, _ => .nil
  | _, _, .cons a .nil, _ => .cons a .nil
  | _, _, .cons a (.cons b .nil), _ => .cons b (.cons a .nil)
  | _, _, .cons a (.cons b (.cons c r)), _ => .cons a (.cons b (.cons c r))
theorem idV_rep {K : PySem.W.Frag} {H : Hp} {vs : List V} {ds : List Dt} (r : RepA K H vs ds) : RepA K H (idV vs) ds := r
/-! ### L. the draws' dict -/
def rSetD : TSet := fun o i v H Q => ∃ a H', o = .ref a ∧ DPut H a i v H' ∧ Q H'
theorem set_dict {X : Cx} (hu : X.A.units + 1 < cLine) : PSet X rSetD := by
  intro pins s σ H o i v ov iv u Q I ro ri rv h
  obtain ⟨a, H', rfl, g, q⟩ := h
  obtain rfl : ov = Value.ref a := ro
  exact d_setItem hu I g ri rv fun s4 I4 => ⟨H', I4, q⟩
def drK (c : Addr) (i l u : Int) : List (Key × V) := [(.inr "cells", .ref c), (.inr "at", .int i), (.inr "left", .int l), (.inr "used", .int u)]
section
variable {c : Addr} {i l u x : Int}
theorem dr_cells : valV (drK c i l u) (.inr "cells") = some (.ref c) := by with_unfolding_all rfl
theorem dr_at : valV (drK c i l u) (.inr "at") = some (.int i) := by with_unfolding_all rfl
theorem dr_left : valV (drK c i l u) (.inr "left") = some (.int l) := by with_unfolding_all rfl
theorem dr_used : valV (drK c i l u) (.inr "used") = some (.int u) := by with_unfolding_all rfl
theorem dr_pat : putK (drK c i l u) (.inr "at") (.int x) = drK c x l u := by with_unfolding_all rfl
theorem dr_pleft : putK (drK c i l u) (.inr "left") (.int x) = drK c i x u := by with_unfolding_all rfl
theorem dr_pused : putK (drK c i l u) (.inr "used") (.int x) = drK c i l x := by with_unfolding_all rfl
theorem dr_merge : mergeK [] [((.inr "cells" : Key), V.ref c), (.inr "at", .int i), (.inr "left", .int l), (.inr "used", .int u)] = drK c i l u := by with_unfolding_all rfl
end
/-- where the cells stand; the tables of code objects, and the name that each bears -/
structure CT where
  p : Addr
  tb : List (Addr × Str)
/-- an object that is no table and no code object turns: the tables stay -/
theorem tabs_upd {T : List (Addr × Str)} {H : Hp} {D : Addr} {o u : HO} (h : LamX.Tabs T H) (e : H D = some u) (h1 : ∀ ps, u ≠ .tbl ps) (h2 : ∀ f, u ≠ .ext f) : LamX.Tabs T (upd H D o) := fun p hp => by
  obtain ⟨ps, a1, a2, a3⟩ := h p hp
  have keep : ∀ {b : Addr} {x : HO}, H b = some x → x ≠ u → upd H D o b = some x := fun {b x} e' hn => by
    rw [upd_ne (fun z => by rw [z, e] at e'; exact hn (Option.some.inj e').symm)]
    exact e'
  refine ⟨ps, keep a1 (fun z => h1 ps z.symm), a2, fun pos cv hc => ?_⟩
  obtain ⟨c', e1, e2⟩ := a3 pos cv hc
  exact ⟨c', e1, keep e2 (fun z => h2 _ z.symm)⟩
theorem tabs_off {T : List (Addr × Str)} {H : Hp} {D : Addr} {o : HO} {ws : List V} (h : LamX.Tabs T H) (e : H D = some (.lst ws)) : LamX.Tabs T (upd H D o) := tabs_upd h e (fun _ z => nomatch z) fun _ z => nomatch z
/-- the draws' dict at a, its cells cs at c: just so -/
def DS (K : PySem.W.Frag) (a : Addr) (c : CT) (cs : List Int) (i l u : Int) : Sta :=
  ⟨fun H => H a = some (.dK (drK c.p i l u)) ∧ SqL K H c.p (cs.map V.int) ∧ LamX.Tabs c.tb H, fun h s => ⟨s _ _ h.1, s.seq h.2.1, h.2.2.ext fun b o e => s b o e⟩⟩
/-- .. with counts up to n -/
def DW (K : PySem.W.Frag) (a : Addr) (c : CT) (cs : List Int) (n : Nat) : Sta :=
  ⟨fun H => ∃ i l u, (DS K a c cs i l u).I H ∧ 0 ≤ i ∧ i ≤ n ∧ 0 ≤ l ∧ 0 ≤ u ∧ u ≤ n, fun ⟨i, l, u, h, r⟩ s => ⟨i, l, u, (DS K a c cs i l u).st h s, r⟩⟩
section
variable {K : PySem.W.Frag} {a : Addr} {c : CT} {cs : List Int} {i l u x : Int} {n m : Nat} {S S1 SF : Sta} {L : List Addr} {ρ : List (Option Dt)} {P : Po} {te : TE} {w : TS} {Φ : Dt → Prop}
theorem dw_le (h : n ≤ m) : (DW K a c cs n).Le (DW K a c cs m) := fun H ⟨i, l, u, h0, h1, h2, h3, h4, h5⟩ => ⟨i, l, u, h0, h1, by omega, h3, h4, by omega⟩
theorem dw_of (h0 : 0 ≤ i) (h1 : i ≤ n) (h2 : 0 ≤ l) (h3 : 0 ≤ u) (h4 : u ≤ n) : (DS K a c cs i l u).Le (DW K a c cs n) := fun H h => ⟨i, l, u, h, h0, h1, h2, h3, h4⟩
theorem ds_off {H1 H : Hp} {D : Addr} {o : HO} {ws : List V} (ha : ∃ o, H1 a = some o) (hc : SqL K H1 c.p (cs.map V.int)) (g : Gr H1 H) (hD : H1 D = none) (hd : H D = some (.lst ws)) (h : (DS K a c cs i l u).I H) : (DS K a c cs i l u).I (upd H D o) := by
  obtain ⟨o1, e⟩ := ha
  refine ⟨?_, (gr_off g hD).sqL hc, tabs_off h.2.2 hd⟩
  rw [upd_ne (ne_of_none e hD)]
  exact h.1
theorem dw_off {H1 H : Hp} {D : Addr} {o : HO} {ws : List V} (h1 : (DW K a c cs m).I H1) (g : Gr H1 H) (hD : H1 D = none) (hd : H D = some (.lst ws)) (h : (DW K a c cs n).I H) : (DW K a c cs n).I (upd H D o) := by
  obtain ⟨i1, l1, u1, hh, _⟩ := h1
  obtain ⟨i, l, u, h, r⟩ := h
  exact ⟨i, l, u, ds_off ⟨_, hh.1⟩ hh.2.1 g hD hd h, r⟩
theorem dw_mu : (DW K a c cs n).Mu := fun i1 g hD e i2 => dw_off i1 g hD e i2
/-- what is so by cases -/
theorem so_open (h : ∀ i l u : Int, 0 ≤ i → i ≤ n → 0 ≤ l → 0 ≤ u → u ≤ n → So K (DS K a c cs i l u) SF L w ρ P) : So K (DW K a c cs n) SF L w ρ P := fun D σ B H b ⟨i, l, u, h0, h1, h2, h3, h4, h5⟩ s f => h i l u h1 h2 h3 h4 h5 D σ B H b h0 s f
theorem ev_dget {k : Str} {v : V} {d : Dt} {j : Nat} (hj : ρ[j]? = some (some (.raw (.ref a)))) (hk : valV (drK c.p i l u) (.inr k) = some v) (hd : ∀ H, (DS K a c cs i l u).I H → Rep K H v d) : Ev K (DS K a c cs i l u) (DS K a c cs i l u) ρ (tDGet (tVar j) (tC (.str k))) (Eq d) := fun σ H h s Q q => by
  obtain ⟨v0, hv, rv⟩ := s.val j _ hj
  obtain rfl := rv.rawI
  exact ⟨.ref a, hv, a, v, rfl, hk ▸ DGet.k (k := Sum.inr k) h.1, q _ _ H (Gr.refl H) h (hd H h) rfl⟩
theorem ev_dat {j : Nat} (hj : ρ[j]? = some (some (.raw (.ref a)))) : Ev K (DS K a c cs i l u) (DS K a c cs i l u) ρ (tDGet (tVar j) (tC (.str "at"))) (Eq (.int i)) := ev_dget hj dr_at fun _ _ => .int i
theorem ev_dleft {j : Nat} (hj : ρ[j]? = some (some (.raw (.ref a)))) : Ev K (DS K a c cs i l u) (DS K a c cs i l u) ρ (tDGet (tVar j) (tC (.str "left"))) (Eq (.int l)) := ev_dget hj dr_left fun _ _ => .int l
theorem ev_dused {j : Nat} (hj : ρ[j]? = some (some (.raw (.ref a)))) : Ev K (DS K a c cs i l u) (DS K a c cs i l u) ρ (tDGet (tVar j) (tC (.str "used"))) (Eq (.int u)) := ev_dget hj dr_used fun _ _ => .int u
theorem rep_ints {H : Hp} : ∀ ns : List Int, RepA K H (ns.map V.int) (ns.map Dt.int)
  | [] => .nil
  | n :: ns => .cons (.int n) (rep_ints ns)
theorem ev_dcells {j : Nat} (hj : ρ[j]? = some (some (.raw (.ref a)))) : Ev K (DS K a c cs i l u) (DS K a c cs i l u) ρ (tDGet (tVar j) (tC (.str "cells"))) (Eq (.lst (cs.map Dt.int))) := ev_dget hj dr_cells fun _ h => .lst h.2.1 (rep_ints cs)
/-- draw[k] = e -/
theorem so_dset {k : Str} {j : Nat} {i' l' u' : Int} (h : Ev K S (DS K a c cs i l u) ρ te (Eq (.int x))) (hj : ρ[j]? = some (some (.raw (.ref a)))) (hk : putK (drK c.p i l u) (.inr k) (.int x) = drK c.p i' l' u') (q : So K (DS K a c cs i' l' u') SF L w ρ P) :
    So K S SF L (tSeq (tAsg te (gSub (tVar j) (tC (.str k)) rSetD)) w) ρ P := fun D σ B H b hi s f => h σ H hi s _ fun v d H1 g1 i1 r1 e => by
  subst e
  obtain rfl := r1.intI
  obtain ⟨v0, hv, rv⟩ := (s.mono g1).val j _ hj
  obtain rfl := rv.rawI
  have gg : ∀ {C : Hp}, Gr C H1 → Gr C (upd H1 a (.dK (drK c.p i' l' u'))) := fun {C} g p o e d => by
    by_cases hp : p = a
    · subst hp
      have y := g p o e d
      rw [i1.1] at y
      cases y
      cases d
    · rw [upd_ne hp]
      exact g p o e d
  refine ⟨.ref a, hv, a, _, rfl, DPut.k (k := Sum.inr k) i1.1 (by show 4 < sizeLine; decide), ?_⟩
  rw [hk]
  exact q D σ B _ ⟨gg (b.gr.trans g1), b.i, b.new⟩ ⟨upd_same, (gg (Gr.refl H1)).sqL i1.2.1, tabs_upd i1.2.2 i1.1 (fun _ z => nomatch z) fun _ z => nomatch z⟩ ((s.mono g1).mono (gg (Gr.refl H1))) f
/-- cell, draw["left"] = (x, y) -/
theorem so_dset2 {j m : Nat} {ta : TA} {x y : Int} (h : EvA K S (DS K a c cs i l u) ρ ta (Eq [.int x, .int y])) (hj : ρ[j]? = some (some (.raw (.ref a)))) (hm : m ≠ j) (q : So K (DS K a c cs i y u) SF L w (ρ.set m (some (.int x))) P) :
    So K S SF L (tSeq (tAsg (tTup ta) (gTup K 2 (gCons (gName m) (gCons (gSub (tVar j) (tC (.str "left")) rSetD) gNil)))) w) ρ P := fun D σ B H b hi s f => h σ H hi s _ fun vs ds H1 g1 i1 r1 e => by
  subst e
  obtain ⟨v, u', rfl, ra, rb⟩ := r1.twoI
  obtain rfl := ra.intI
  obtain rfl := rb.intI
  refine ⟨by show 2 ≤ sizeLine; decide, fun p hp => ?_⟩
  have s2 := same_new (o := .tup [.int x, .int y]) hp
  have i2 := (DS K a c cs i l u).st i1 s2
  have g2 := g1.trans s2.gr
  have hs := ((s.mono g2).set (v := .int x) (d := .int x) (.int x) m)
  obtain ⟨v0, hv, rv⟩ := hs.val j (.raw (.ref a)) (by rw [List.getElem?_set_ne hm]; exact hj)
  obtain rfl := rv.rawI
  have gg : ∀ {C : Hp}, Gr C (upd H1 p (.tup [.int x, .int y])) → Gr C (upd (upd H1 p (.tup [.int x, .int y])) a (.dK (drK c.p i y u))) := fun {C} g p' o e d => by
    by_cases hp : p' = a
    · subst hp
      have z := g p' o e d
      rw [i2.1] at z
      cases z
      cases d
    · rw [upd_ne hp]
      exact g p' o e d
  refine ⟨p, _, rfl, SqT.of upd_same, rfl, .int x, [.int y], rfl, .int y, [], rfl, .ref a, hv, a, _, rfl, DPut.k (k := Sum.inr "left") i2.1 (by show 4 < sizeLine; decide), rfl, ?_⟩
  rw [dr_pleft]
  exact q D _ B _ ⟨gg (b.gr.trans g2), b.i, b.new⟩ ⟨upd_same, (gg (Gr.refl _)).sqL i2.2.1, tabs_upd i2.2.2 i2.1 (fun _ z => nomatch z) fun _ z => nomatch z⟩ (hs.mono (gg (Gr.refl _))) f

/-! ### M. defs that draw -/
def spD (K : PySem.W.Frag) (nargs : Nat) (pre : List Dt → Prop) (Φ : List Dt → Dt → Prop) (cost : Nat) : Sp := fun vs H Q _ => ∃ a c cs n ds ws, vs = .ref a :: ws ∧ RepA K H ws ds ∧ ds.length = nargs ∧ pre ds ∧ cs ≠ [] ∧ n + cost ≤ 1000000 ∧ (DW K a c cs n).I H ∧
  ∀ v d H', Gr H H' → (DW K a c cs (n + cost)).I H' → Rep K H' v d → Φ ds d → Q v H'
theorem ev_callD {t : TA} {ds : List Dt} {k cost : Nat} {pre : List Dt → Prop} {Φ : List Dt → Dt → Prop} {E : XK} (ha : EvA K S (DW K a c cs n) ρ t (Eq (.raw (.ref a) :: ds))) (hn : ds.length = k) (hp : pre ds) (hc : cs ≠ []) (hb : n + cost ≤ 1000000) :
    Ev K S (DW K a c cs (n + cost)) ρ (tCall (spD K k pre Φ cost) [] E t) (Φ ds) := fun σ H i s Q q =>
  ha σ H i s _ fun vs ds' H1 g1 i1 r1 p1 => by
    subst p1
    rw [List.append_nil]
    cases r1 with
    | cons r0 r1 =>
      obtain rfl := r0.rawI
      exact ⟨a, c, cs, n, ds, _, rfl, r1, hn, hp, hc, hb, i1, fun v d H' g i' r p => q v d H' (g1.trans g) i' r p⟩
theorem okD {P : Program} {w : World} {mg : Str → Option Value} {base : Heap} {x qual : Str} {st : Stmt} {f : Addr} {fd : FuncData} {N ps : List Str} {k na cost : Nat} {pre : List Dt → Prop} {Φ : List Dt → Dt → Prop} (Fu : Fun K x qual st f fd) (Sc : FnScope N ps (defScope st)) (hps : ps.length = na + 1)
    (hb : ∀ (cdv : Value) (A : Around) (out : List Env) (s : Shared) (H : Hp) (E : XK), Room k (A.deeper (envOfC qual (defScope st) s.heap.objs.size f cdv)) → A.guards = some [] →
      ∃ t, PSs (cxOf (L2.CX P w) P w K mg base N qual (defScope st) f cdv A out s H E).nox (defBody st) t ∧ ∀ (a : Addr) (c : CT) (cs : List Int) (n : Nat) (ds : List Dt), cs ≠ [] → n + cost ≤ 1000000 → ds.length = na → pre ds →
        So K (DW K a c cs n) (DW K a c cs (n + cost)) [] t (startD N.length (.raw (.ref a) :: ds)) { nx := fun _ => Φ ds .non, rt := Φ ds }) :
    GOk P w K mg base (k + 1) f fd ps (spD K na pre Φ cost) := by
  refine okG Fu Sc (fun vs H Q E h => ?_) fun cdv A out s H vs Q E hr hg h => ?_
  · obtain ⟨a, c, cs, n, ds, ws, rfl, r, hl, _⟩ := h
    rw [List.length_cons, r.len, hl, hps]
  · obtain ⟨a, c, cs, n, ds, ws, rfl, r, hl, hp, hc, hn, hi, q⟩ := h
    obtain ⟨t, ht, so⟩ := hb cdv A out s H E hr hg
    refine ⟨t, ht.nox, so a c cs n ds hc hn hl hp _ _ H H ⟨Gr.refl H, dw_le (Nat.le_add_right n cost) H hi, fun _ z => nomatch z⟩ hi (slots_start (.cons (.raw _) r)) ⟨fun σ ρ H' g i s' e => ?_, fun v d H' g i r' e => ?_, fun _ _ _ _ _ _ z => z.elim, fun _ _ _ _ _ _ z => z.elim⟩⟩
    · exact q _ _ H' g i .non e
    · exact q v d H' g i r' e
end
end Bf
namespace Bf
open PySem PySem.Spec PyProof.Rows L2
/-! ### N. the operations by their names -/
section
variable {K : PySem.W.Frag} {S S1 S2 S3 : Sta} {ρ : List (Option Dt)} {i j : Int} {ta tb tc te : TE} {d x y : Dt}
theorem rv_add : Rv2 K S rAddI (.int i) (.int j) (Eq (.int (i + j))) := rv_ii
theorem rv_sub : Rv2 K S rSubI (.int i) (.int j) (Eq (.int (i - j))) := rv_ii
theorem rv_mul (h : CMulW i j) : Rv2 K S rMulW (.int i) (.int j) (Eq (.int (i * j))) := rv_iic h
theorem rv_div (h : CDivW i j) : Rv2 K S rDivW (.int i) (.int j) (Eq (.int (i / j))) := rv_iic h
theorem rv_mod (h : 0 < j) : Rv2 K S rModI (.int i) (.int j) (Eq (.int (i % j))) := rv_iic (C := fun _ j => 0 < j) h
theorem rv_pow (h : CPow i j) : Rv2 K S rPowI (.int i) (.int j) (Eq (.int (i ^ j.toNat))) := rv_iic h
theorem rv_le : Rv2 K S rLeI (.int i) (.int j) (Eq (.bl (decide (i ≤ j)))) := rv_ib
theorem rv_gt : Rv2 K S rGtI (.int i) (.int j) (Eq (.bl (decide (j < i)))) := rv_ib
theorem rv_ge : Rv2 K S rGeI (.int i) (.int j) (Eq (.bl (decide (j ≤ i)))) := rv_ib
theorem rv_isNo : Rv2 K S rIsNo d .non (Eq (.bl d.isNon)) := rv_isN
theorem ev_lele {l : Int} (ha : Ev K S S1 ρ ta (Eq (.int i))) (hb : Ev K S1 S2 ρ tb (Eq (.int j))) (hc : Ev K S2 S2 ρ tc (Eq (.int l))) : Ev K S S2 ρ (tChain rLeI rLeI ta tb tc) (Eq (.bl (decide (i ≤ j) && decide (j ≤ l)))) := ev_chain ha hb hc
/-- the class's name as an argument -/
theorem ev_ty {T : String} : Ev K S S ρ (tC (.ty T)) (Eq (.raw (.ty T))) := ev_raw
theorem ev_isInt (h : Ev K S S1 ρ ta (Eq d)) (hd : okN d = true) : Ev K S S1 ρ (tCB (rIsi K) (tCons ta (tCons (tC (.ty "int")) tNil))) (Eq (.bl (isIntD d))) := ev_cb (ea_cons h (ea_cons ev_ty ea_nil)) (rc_isInt hd)
theorem ev_isBl (h : Ev K S S1 ρ ta (Eq d)) (hd : okN d = true) : Ev K S S1 ρ (tCB (rIsi K) (tCons ta (tCons (tC (.ty "bool")) tNil))) (Eq (.bl (isBlD d))) := ev_cb (ea_cons h (ea_cons ev_ty ea_nil)) (rc_isBl hd)
theorem ev_isTup (h : Ev K S S1 ρ ta (Eq d)) (hd : okN d = true) : Ev K S S1 ρ (tCB (rIsi K) (tCons ta (tCons (tC (.ty "tuple")) tNil))) (Eq (.bl (isTupD d))) := ev_cb (ea_cons h (ea_cons ev_ty ea_nil)) (rc_isTup hd)
theorem ev_isStr (h : Ev K S S1 ρ ta (Eq d)) (hd : okN d = true) : Ev K S S1 ρ (tCB (rIsi K) (tCons ta (tCons (tC (.ty "str")) tNil))) (Eq (.bl (isStrD d))) := ev_cb (ea_cons h (ea_cons ev_ty ea_nil)) (rc_isStr hd)
theorem ev_lenT {xs : List Dt} (h : Ev K S S1 ρ ta (Eq (.tup xs))) : Ev K S S1 ρ (tCB (rLen K) (tCons ta tNil)) (Eq (.int xs.length)) := ev_cb (ea_cons h ea_nil) rc_lenT
theorem ev_lenL {xs : List Dt} (h : Ev K S S1 ρ ta (Eq (.lst xs))) : Ev K S S1 ρ (tCB (rLen K) (tCons ta tNil)) (Eq (.int xs.length)) := ev_cb (ea_cons h ea_nil) rc_lenL
theorem ev_allL {bs : List Bool} (h : Ev K S S1 ρ ta (Eq (.lst (bs.map Dt.bl)))) : Ev K S S1 ρ (tCB (rAll K) (tCons ta tNil)) (Eq (.bl (bs.all id))) := ev_cb (ea_cons h ea_nil) rc_all
/-- all([p(x) for x in a tuple]) -/
theorem ev_allT {tl : TE} {m : Nat} {vs : List Nat} {xs : List Dt} {p : Dt → Bool} (hmu : S.Mu) (h : Ev K S S ρ tl (Eq (.tup xs))) (hj : m ∈ vs) (hz : xs.length ≤ 100000) (he : ∀ x ∈ xs, Ev K S S ((wipeD ρ vs).set m (some x)) te (Eq (.bl (p x)))) :
    Ev K S S ρ (tCB (rAll K) (tCons (tLc (iTup K tl) (gName m) tYes te vs) tNil)) (Eq (.bl (xs.all p))) := by
  have h1 := ev_lcT (K := K) (S := S) (ρ := ρ) (te := te) (tl := tl) (tt := tYes) (vs := vs) (j := m) (xs := xs) (f := fun x => .bl (p x)) (p := fun _ => true) hmu h hj hz (fun _ _ => et_yes) (fun x hx _ => he x hx) fun _ _ _ => rfl
  have e : ((xs.filter fun _ => true).map fun x => Dt.bl (p x)) = (xs.map p).map Dt.bl := by
    rw [List.filter_eq_self.mpr fun _ _ => rfl, List.map_map]
    rfl
  rw [e] at h1
  have e2 : xs.all p = (xs.map p).all id := by rw [List.all_map]; rfl
  rw [e2]
  exact ev_allL h1
theorem ev_ixL {xs : List Dt} (h : Ev K S S1 ρ ta (Eq (.lst xs))) (hb : Ev K S1 S2 ρ tb (Eq (.int i))) (hi : atI xs i = some d) : Ev K S S2 ρ (tOp (rIx K) ta tb) (Eq d) := ev_op h hb (rv_ixSL hi)
theorem ev_ixLP {xs : List Dt} {Φ Θ : Dt → Prop} (h : Ev K S S1 ρ ta (Eq (.lst xs))) (hb : Ev K S1 S2 ρ tb Φ) (hi : ∀ y, Φ y → ∃ k d, y = .int k ∧ atI xs k = some d ∧ Θ d) : Ev K S S2 ρ (tOp (rIx K) ta tb) Θ := ev_opP h hb fun x y e p => by
  obtain ⟨k, d, rfl, hk, hd⟩ := hi y p
  subst e
  exact fun H v u i r1 r2 Q q => rv_ixSL hk H v u i r1 r2 Q fun v' d' H' g i' r e => q v' d' H' g i' r (e ▸ hd)
end
/-! ### O. plain through and through -/
mutual
def pl : Dt → Bool
  | .lst xs => plA xs
  | .tup xs => plA xs
  | .ins _ _ _ => false
  | .raw _ => false
  | .lat _ _ => false
  | .err _ _ _ => false
  | .dct _ _ => false
  | .dti _ _ _ => false
  | .dat _ _ _ _ => false
  | .cel _ _ => false
  | _ => true
def plA : List Dt → Bool
  | [] => true
  | x :: xs => pl x && plA xs
end
theorem pl_okN {d : Dt} (h : pl d = true) : okN d = true := by
  cases d with
  | ins => simp [pl] at h
  | raw => simp [pl] at h
  | lat => simp [pl] at h
  | err => simp [pl] at h
  | dct => simp [pl] at h
  | dti => simp [pl] at h
  | dat => simp [pl] at h
  | cel => simp [pl] at h
  | _ => rfl
theorem plA_all : ∀ {xs : List Dt}, plA xs = true ↔ ∀ x ∈ xs, pl x = true
  | [] => by simp [plA]
  | x :: xs => by simp [plA, plA_all]
end Bf
namespace Bf
open PySem PySem.Spec PyProof.Rows L2
/-! ## Lists that are changed within loops -/
section
variable {K : PySem.W.Frag} {S S0 S1 SB SF : Sta} {L : List Addr} {ρ : List (Option Dt)} {P : Po} {te tl t1 t2 : TE} {w t : TS} {d : Dt} {p q : Addr} {j : Nat} {xs ys : List Dt} {H : Hp} {σ : L2.St}
/-- what holds bears that the list at p is changed -/
def LooseP (S S0 : Sta) (p : Addr) : Prop := ∀ {B H : Hp} {vs : List V} {o : HO}, S0.I B → Gr B H → B p = none → H p = some (.lst vs) → S.I H → S.I (upd H p o)
theorem Loose.at_ (h : Loose S S0) (p : Addr) : LooseP S S0 p := fun i g hp e k => h i g hp e k
theorem mu_looseP (h : S.Mu) : LooseP S S p := fun i g hp e k => h i g hp e k
/-- d is not touched where the list at p is changed -/
def offOk (p : Addr) : Dt → Prop
  | .lat q xs => q ≠ p ∧ nolA xs = true
  | d => nol d = true
theorem Rep.offK {v : V} {acc : List V} {o : HO} (hD : H p = some (.lst acc)) (h : offOk p d) (r : Rep K H v d) : Rep K (upd H p o) v d := by
  cases d with
  | lat q xs =>
    obtain ⟨rfl, vs, e, ra⟩ := r.latI
    exact .lat (by rw [upd_ne h.1]; exact e) (ra.off hD h.2)
  | _ => exact r.off hD h
def Offs (p : Addr) (ρ : List (Option Dt)) (j : Nat) : Prop := ∀ (i : Nat) (d : Dt), i ≠ j → ρ[i]? = some (some d) → offOk p d
/-- slot by slot -/
def offL (p : Addr) (j : Nat) : Nat → List (Option Dt) → Prop
  | _, [] => True
  | n, o :: r => (n ≠ j → ∀ d, o = some d → offOk p d) ∧ offL p j (n + 1) r
theorem offs_of : ∀ {ρ : List (Option Dt)} {n : Nat}, offL p j n ρ → ∀ (i : Nat) (d : Dt), i + n ≠ j → ρ[i]? = some (some d) → offOk p d
  | [], _, _, i, d, _, e => by simp at e
  | o :: r, n, h, 0, d, hi, e => h.1 (by omega) d (by simpa using e)
  | o :: r, n, h, i + 1, d, hi, e => offs_of h.2 i d (by omega) (by simpa using e)
theorem Offs.mk (h : offL p j 0 ρ) : Offs p ρ j := fun i d hi e => offs_of h i d (by omega) e
theorem slots_offK {vs us : List V} (s : Slots K H σ ρ) (hj : ρ[j]? = some (some (.lat p xs))) (hn : Offs p ρ j) (hp : H p = some (.lst vs)) (r : RepA K (upd H p (.lst us)) us ys) : Slots K (upd H p (.lst us)) σ (ρ.set j (some (.lat p ys))) := by
  refine ⟨by rw [List.length_set]; exact s.len, fun i d h => ?_⟩
  by_cases hij : j = i
  · subst hij
    have hl : j < ρ.length := (List.getElem?_eq_some_iff.mp hj).1
    rw [List.getElem?_set_self hl] at h
    cases h
    obtain ⟨v, hv, rv⟩ := s.val j _ hj
    obtain ⟨rfl, _⟩ := rv.latI
    exact ⟨_, hv, .lat upd_same r⟩
  · rw [List.getElem?_set_ne hij] at h
    obtain ⟨v, hv, rv⟩ := s.val i d h
    exact ⟨v, hv, rv.offK hp (hn i d (Ne.symm hij) h)⟩
/-- the list at p is changed -/
theorem sg_put {D : Ends} {B : Hp} {vs us : List V} (hL : p ∈ L) (hlo : LooseP S SB p) (hj : ρ[j]? = some (some (.lat p xs))) (hn : Offs p ρ j) (b : Bs SB L B H) (i : S.I H) (s : Slots K H σ ρ) (f : Ft K SF P D B) (hp : H p = some (.lst vs)) (r : RepA K (upd H p (.lst us)) us ys)
    (k : Sg K S SB SF L w (ρ.set j (some (.lat p ys))) P) : w D σ (upd H p (.lst us)) :=
  k D σ B _ ⟨gr_off b.gr (b.new p hL), b.i, b.new⟩ (hlo b.i b.gr (b.new p hL) hp i) (slots_offK s hj hn hp r) f
/-- xs.append(e) -/
theorem so_appP (hL : p ∈ L) (hlo : LooseP S SB p) (hj : ρ[j]? = some (some (.lat p xs))) (hx : nolA xs = true) (hn : Offs p ρ j) (hz : xs.length < 100000) (h : Ev K S S ρ te (Eq d)) (hd : nol d = true)
    (k : Sg K S SB SF L w (ρ.set j (some (.lat p (xs ++ [d])))) P) : Sg K S SB SF L (tSeq (tDrop (tBM K "list" rAppend (tVar j) (tCons te tNil))) w) ρ P := fun D σ B H b i s f => by
  obtain ⟨v, hv, rv⟩ := s.val j _ hj
  obtain ⟨rfl, vs, hp, ra⟩ := rv.latI
  refine ⟨.ref p, hv, .inl ⟨rfl, _, SqL.of hp⟩, h σ H i s _ fun u d' H1 g1 i1 r1 e => ?_⟩
  subst e
  have hp1 : H1 p = some (.lst vs) := g1 _ _ hp rfl
  have ra1 := ra.mono g1
  refine ⟨p, vs, u, rfl, rfl, hp1, by rw [ra1.len]; exact Nat.lt_of_lt_of_le hz (by decide), ?_⟩
  exact sg_put (w := w) (D := D) hL hlo hj hn (b.up g1) i1 (s.mono g1) f hp1 ((ra1.off hp1 hx).app (.cons (r1.off hp1 hd) .nil)) k
theorem RepA.front {vs : List V} : ∀ {us : List V} {ds : List Dt} {d : Dt}, RepA K H us (ds ++ [d]) → RepA K H us.dropLast ds ∧ ∃ v, us[us.length - 1]? = some v ∧ Rep K H v d
  | _, [], _, .cons r .nil => ⟨.nil, _, rfl, r⟩
  | _, a :: ds, _, .cons (v := v) (vs := vs') r ra => by
    obtain ⟨h1, u, h2, h3⟩ := RepA.front (vs := vs) ra
    have hne : vs' ≠ [] := fun e => by rw [e] at h2; simp at h2
    refine ⟨by rw [List.dropLast_cons_of_ne_nil hne]; exact .cons r h1, u, ?_, h3⟩
    have hl : 0 < vs'.length := List.length_pos_iff.mpr hne
    rw [List.length_cons, Nat.add_sub_cancel]
    obtain ⟨m, hm⟩ : ∃ m, vs'.length = m + 1 := ⟨vs'.length - 1, by omega⟩
    rw [hm, List.getElem?_cons_succ]
    rwa [hm, Nat.add_sub_cancel] at h2
theorem RepA.setI {vs : List V} {ds : List Dt} (r : RepA K H vs ds) {i : Nat} {v : V} {d : Dt} (rv : Rep K H v d) : RepA K H (vs.set i v) (ds.set i d) := by
  induction ds generalizing vs i with
  | nil => cases r; exact .nil
  | cons x xs ih =>
    cases r with
    | cons r0 ra =>
      cases i with
      | zero => exact .cons rv ra
      | succ i => exact .cons r0 (ih ra)
/-- x = a new list, no list of ours before -/
theorem so_newF {i : Nat} (h : EvN K S S1 ρ te xs) (l : S1.Le SF) (k : ∀ p, (∀ (i : Nat) (p' : Addr) (zs : List Dt), ρ[i]? = some (some (Dt.lat p' zs)) → p' ≠ p) → So K S1 SF [p] w (ρ.set i (some (.lat p xs))) P) : Sg K S SB SF L (tSeq (tAsg te (gName i)) w) ρ P := fun D σ B H b i s f =>
  h σ H i s _ fun p vs H1 H2 g1 i1 hp g2 i2 e r => k p (fun i p' zs e2 e3 => by
      obtain ⟨v, _, rv⟩ := (s.mono g1).val i _ e2
      obtain ⟨_, vs', hp', _⟩ := rv.latI
      rw [e3, hp] at hp'
      cases hp') D _ H1 H2 ⟨g2, l _ i1, fun a ha => by rw [List.mem_singleton.mp ha]; exact hp⟩ i2 ((s.mono (g1.trans g2)).set (.lat e r) _) (f.mono (b.gr.trans g1))
/-! ### loops in which loose lists are changed -/
theorem SqT.offP {a : Addr} {vs ws : List V} {o : HO} (hD : H p = some (.lst ws)) (q : SqT K H a vs) : SqT K (upd H p o) a vs := by
  rcases q with (q | ⟨o', q⟩) | q
  · exact .inl (.inl (upd_other hD q fun _ z => nomatch z))
  · exact .inl (.inr ⟨o', upd_other hD q fun _ z => nomatch z⟩)
  · exact .inr q
end
end Bf
namespace Bf
open PySem PySem.Spec PyProof.Rows L2
/-! ## a tuple times 0 or 1 -/
theorem mul_one (l : Addr) (items : Array Value) (n : Nat) (dd : Option Addr) (sl : Array (Option Value)) (u : Tok) :
    Meets (Builtin.«tuple.__mul__» ⟨[.ref l, .int 1 u], []⟩) (fun _ R s => s.heap.get? l = some { cls := .type "tuple", dict := dd, data := .seq items n, slots := sl } ∧ R (.ok (.ret (Value.ref l))) s) :=
  .of_wp fun prog w A R s h => by
    obtain ⟨hp, g, d, tk, os⟩ := s
    obtain ⟨hl, h⟩ := h
    have f1 := AutoSeq1.idx_int
    have c0 : (decide ((1 : Int) < -(2 ^ 63)) || decide ((1 : Int) ≥ 2 ^ 63)) = false := by decide
    have c1 : (items.isEmpty || (1 : Int) == 1) = true := by simp
    wp_walk using wpAny_loadPart' hl
    repeat (first
      | (refine wpAny_ite_false (decide_eq_false (by rw [c0]; exact Bool.false_ne_true)) ?_; wp_walk using wpAny_loadPart' hl)
      | (refine wpAny_ite_true (decide_eq_true c1) ?_; wp_walk using wpAny_loadPart' hl))
    exact ⟨_, rfl, h⟩
theorem mul_zero (l : Addr) (items : Array Value) (n : Nat) (dd : Option Addr) (sl : Array (Option Value)) (u : Tok) (hi : items.isEmpty = false) :
    Meets (Builtin.«tuple.__mul__» ⟨[.ref l, .int 0 u], []⟩) (fun _ R s => s.heap.get? l = some { cls := .type "tuple", dict := dd, data := .seq items n, slots := sl } ∧ R (.ok (.ret (Value.ref s.heap.objs.size))) { s with heap := s.heap.push { cls := Value.type "tuple", data := Data.seq #[] }, toks := s.toks }) :=
  .of_wp fun prog w A R s h => by
    obtain ⟨hp, g, d, tk, os⟩ := s
    obtain ⟨hl, h⟩ := h
    have f1 := AutoSeq1.idx_int
    have c0 : (decide ((0 : Int) < -(2 ^ 63)) || decide ((0 : Int) ≥ 2 ^ 63)) = false := by decide
    have c1 : (items.isEmpty || (0 : Int) == 1) = false := by rw [hi]; rfl
    have c2 : (decide ((0 : Int) ≤ 0) || items.isEmpty) = true := by rw [hi]; rfl
    wp_walk using wpAny_loadPart' hl
    repeat (first
      | (refine wpAny_ite_false (decide_eq_false (by rw [c0]; exact Bool.false_ne_true)) ?_; wp_walk using wpAny_loadPart' hl)
      | (refine wpAny_ite_false (decide_eq_false (by rw [c1]; exact Bool.false_ne_true)) ?_; wp_walk using wpAny_loadPart' hl)
      | (refine wpAny_ite_true (decide_eq_true c2) ?_; wp_walk using wpAny_loadPart' hl))
    exact ⟨_, rfl, h⟩
end Bf
namespace Bf
open PySem PySem.Spec PyProof.Rows L2
/-! ## Promises by a relation -/
section
variable {K : PySem.W.Frag} {S S1 S2 SB SF : Sta} {L : List Addr} {ρ : List (Option Dt)} {P : Po} {te tl : TE} {w t : TS} {d : Dt} {j : Nat} {vs : List Nat} {xs : List Dt}
def spR (K : PySem.W.Frag) (n : Nat) (R : List Dt → Dt → Prop) : Sp := fun vs H Q _ => ∃ ds d, RepA K H vs ds ∧ ds.length = n ∧ R ds d ∧ ∀ v H', Same H H' → Rep K H' v d → Q v H'
theorem ev_callR {t : TA} {ds : List Dt} {n : Nat} {R : List Dt → Dt → Prop} {E : XK} (ha : EvA K S S1 ρ t (Eq ds)) (hn : ds.length = n) (hp : R ds d) : Ev K S S1 ρ (tCall (spR K n R) [] E t) (Eq d) := fun σ H i s Q q =>
  ha σ H i s _ fun vs ds' H1 g1 i1 r1 p1 => by
    subst p1
    rw [List.append_nil]
    exact ⟨ds, d, r1, hn, hp, fun v H2 sm r => q v _ H2 (g1.trans sm.gr) (S1.st i1 sm) r rfl⟩
theorem okR {P : Program} {w : World} {mg : Str → Option Value} {base : Heap} {x qual : Str} {st : Stmt} {f : Addr} {fd : FuncData} {N ps : List Str} {k : Nat} {R : List Dt → Dt → Prop} (Fu : Fun K x qual st f fd) (Sc : FnScope N ps (defScope st))
    (hb : ∀ (cdv : Value) (A : Around) (out : List Env) (s : Shared) (H : Hp) (E : XK), Room k (A.deeper (envOfC qual (defScope st) s.heap.objs.size f cdv)) → A.guards = some [] →
      ∃ t, PSs (cxOf (L2.CX P w) P w K mg base N qual (defScope st) f cdv A out s H E).nox (defBody st) t ∧ ∀ (S : Sta), S.Mu → ∀ (ds : List Dt) (d : Dt), ds.length = ps.length → R ds d → So K S S [] t (startD N.length ds) { nx := fun _ => d = .non, rt := Eq d }) :
    GOk P w K mg base (k + 1) f fd ps (spR K ps.length R) := by
  refine okG Fu Sc (fun vs H Q E h => ?_) fun cdv A out s H vs Q E hr hg h => ?_
  · obtain ⟨ds, d, r, hl, _⟩ := h
    exact r.len.trans hl
  · obtain ⟨ds, d, r, hl, hp, q⟩ := h
    obtain ⟨t, ht, so⟩ := hb cdv A out s H E hr hg
    refine ⟨t, ht.nox, so (staSame H) staSame_mu ds d hl hp _ _ H H ⟨Gr.refl H, Same.refl H, fun _ z => nomatch z⟩ (Same.refl H) (slots_start r) ⟨fun σ ρ H' g i s' e => ?_, fun v d' H' g i r' e => ?_, fun _ _ _ _ _ _ z => z.elim, fun _ _ _ _ _ _ z => z.elim⟩⟩
    · exact q _ H' i ((show d = .non from e) ▸ .non)
    · exact q v H' i ((show d = d' from e) ▸ r')
end
end Bf
namespace Bf
open PySem PySem.Spec PyProof.Rows L2
/-! ## raise C(e), C an own error with a field -/
/-- what is known of the class at C, by the name x -/
structure BadCls (prog : Program) (K : PySem.W.Frag) (mg : Str → Option Value) (x f : Str) (C fI : Addr) : Prop where
  T : BadTxt prog K f C fI
  gC : mg x = some (.ref C)
  kC : PySem.W.keepIn K (.ref C) = true
  exC : PySem.W.subIn K (.ref C) (.type "BaseException") = some true
  tyC : PySem.W.typeIn K (.ref C) = some (.type "type")
  ga : PySem.W.findIn K (.ref C) "__getattribute__" = some (some (.builtin "BaseException.__getattribute__"))
  gg : PySem.W.findIn K (.ref C) "__getattr__" = some none
  hdC : PySem.W.hasDictIn K C = true
  te : PySem.W.exmOne K (.ref C) (.ref C) = some true
  ms : mg "super" = none
  top : (prog.main.scope.names.lookup ("super" : Str)).isSome = false
  fn : f ≠ "self" ∧ f ≠ "super" ∧ f ≠ "__class__" ∧ f ≠ "__debug__"
theorem relO_one {f : Str} {v : V} {v' : Value} (r : RelV v v') (g : Str) : RelO (List.lookup g [(f, v)]) (if g = f then some v' else none) := by
  by_cases h : g = f
  · subst h
    rw [if_pos rfl]
    have q : List.lookup g [(g, v)] = some v := by simp [List.lookup]
    rw [q]
    exact r
  · rw [if_neg h]
    have q1 : (g == f) = false := by simpa using h
    have q2 : List.lookup g [(f, v)] = none := by simp [List.lookup, q1]
    rw [q2]
    trivial
section
variable {X : Cx} {C fI : Addr} {x f : Str}
def tMkB (C : Addr) (f : Str) (ta : TA) : L2.St → Hp → XK → Prop := fun σ H Q => ta σ H fun vs H1 => ∃ v, vs = [v] ∧ ∀ d, H1 d = none → Q (.ref C) (some d) (upd H1 d (.xd [(f, v)]))
theorem pmk_bad {a : Expr} {ta : TA} {p pos : Pos} {k : Nat} (T : BadCls X.prog X.K X.mg x f C fI) (hr : Room k X.A) (ha : PA X [a] ta) (hg : Gl X x := by rfl) (hdb : (x == ("__debug__" : Str)) = false := by decide)
    (he : starEach (a :: []) X.env = (false, eval a X.env) :: starEach [] X.env := by rfl) (hpl : (backTo pos (starEach [] X.env)).any (·.1) = false := by rfl) :
    PMk X (.Call (.Name x p) [a] [] pos) (tMkB C f ta) := by
  intro pins s σ H Q I h
  refine wpAny_Call_Name_kw (ld_glob I hg T.gC ?_ hdb)
  refine PySem.W.callWith_K (h₀ := X.base) I.ok.mod.kin T.kC (thn (ha.run pos pins s σ H _ I h) fun us s1 hh => ?_) he hpl
  obtain ⟨vs, H1, I1, r1, v, rfl, q1⟩ := hh
  refine ⟨I1.kIn, ?_⟩
  obtain ⟨u, rfl, ru⟩ := r1.one
  show wpAny _ _ (call (.ref C) [u]) _ _ _
  have hlim := I1.nolimit
  obtain ⟨mb, hb1, hb2⟩ := I1.mod.blt
  have hg1 := I1.mod.glob.keeps I1.bk
  have hb3 := hb1.keeps I1.bk
  obtain ⟨hp, g, dr, tk, os⟩ := s1
  refine wpAny_call (bad_made T.T I1.kIn hlim hg1 hb3 T.ms ((hb2 _ (by decide)).trans (by first | rfl | decide +kernel)) T.top T.fn (by have := hr.dp; omega) fun h' tk' e d M => ?_)
  show MkP X pins σ Q (.ref e) ⟨h', g, dr, tk', os⟩
  obtain ⟨t1, hoe⟩ := M.obj
  obtain ⟨G', g1, g2⟩ := restrict h' fun b => decide (b ≠ e)
  have gk : ∀ b, b ≠ e → G'.get? b = h'.get? b := fun b hb => g1 b (decide_eq_true hb)
  have ge : G'.get? e = none := g2 e (by simp)
  have old : ∀ b o, hp.get? b = some o → G'.get? b = some o := fun b o q => (gk b (Nat.ne_of_lt (Nat.lt_of_lt_of_le (Heap.lt_size q) M.new))).trans (M.keep b o q)
  have ob : ObjOk X.prog X.w (upd H1 d (.xd [(f, v)])) G' d (.xd [(f, v)]) := ⟨_, M.ns.at (fun o q => (gk d M.dne).trans q), fun y => relO_one ru y⟩
  have J : Inv X pins σ (upd H1 d (.xd [(f, v)])) ⟨G', g, dr, tk', os⟩ := I1.laid (t' := tk') old M.dbig ob
  refine ⟨e, _, _, ⟨G', g, dr, tk', os⟩, _, .ref C, some d, rfl, J, fun b o q => ?_, ge, hoe, ⟨rfl, rfl⟩, rfl, rfl, ?_, rfl, I1.bare, raises_own T.exC T.tyC, q1 d (I1.hok.fresh M.dbig)⟩
  · by_cases hb : b = e
    · have q' : G'.get? b = some o := q
      rw [hb, ge] at q'
      cases q'
    · exact (gk b hb).symm.trans q
  · rw [upd_ne (Ne.symm M.dne)]
    exact I1.hok.fresh M.new
/-- raise C(e) -/
def tRaiseB (C : Addr) (f : Str) (W : WX) (ta : TA) : TS := fun _ σ H => tMkB C f ta σ H fun cls d H' => W cls d σ H'
theorem ps_raiseB {a : Expr} {ta : TA} {W : WX} {p pos pos2 : Pos} {k : Nat} (hc : X.calm = true) (T : BadCls X.prog X.K X.mg x f C fI) (hr : Room k X.A) (tk : Takes X W) (ha : PA X [a] ta) (hg : Gl X x := by rfl) (hdb : (x == ("__debug__" : Str)) = false := by decide)
    (he : starEach (a :: []) X.env = (false, eval a X.env) :: starEach [] X.env := by rfl) (hpl : (backTo pos (starEach [] X.env)).any (·.1) = false := by rfl) :
    PS X (.Raise (some (.Call (.Name x p) [a] [] pos)) none pos2) (tRaiseB C f W ta) := ps_raise hc tk (pmk_bad T hr ha hg hdb he hpl)
/-- n.f, n the error that the suite holds (at a; its class cls, its dict d) -/
def tFld (C : Addr) (f : Str) (a : Addr) (cls : Value) (d : Option Addr) (te : TE) : TE := fun σ H Q => te σ H fun y H1 => y = .ref a ∧ cls = .ref C ∧ ∃ (dd : Addr) (v : V), d = some dd ∧ H1 dd = some (.xd [(f, v)]) ∧ Q v H1
theorem pe_fld {a : Addr} {oe : Obj} {cls : Value} {d : Option Addr} {pn : List (Addr × Obj)} {e : Expr} {te : TE} {pos : Pos} (T : BadCls X.prog X.K X.mg x f C fI) (hz : Zc cls d oe) (hf : ∃ vs, oe.data = .fields vs) (he : PE (X.suite a ((a, oe) :: pn)) e te)
    (hb : attributeBase e f X.env (eval e X.env) = eval e X.env := by rfl) :
    PE (X.suite a ((a, oe) :: pn)) (.Attribute e f pos) (tFld C f a cls d te) := by
  refine ⟨fun pins s σ H Q I h => ?_⟩
  refine attr_of hb (thn (he.run pins s σ H _ I h) fun u s1 hq => ?_)
  obtain ⟨y, H1, I1, rx, rfl, rfl, dd, v, rfl, ea, q⟩ := hq
  obtain rfl : u = Value.ref a := rx
  obtain ⟨ha, _⟩ := I1.pin (a, oe) (List.mem_append_left _ List.mem_cons_self)
  obtain ⟨vs, hd⟩ := hf
  obtain ⟨mA, hns, hr⟩ := show ObjOk X.prog X.w H1 s1.heap dd (.xd [(f, v)]) from I1.hok dd _ ea
  obtain ⟨od, ho, hl⟩ := lookIn_ns hns
  have l : List.lookup f [(f, v)] = some v := by simp [List.lookup]
  obtain ⟨u, hu, ru⟩ := RelO.some_of (v := v) (o := mA f) (by rw [← l]; exact hr f)
  have J : PySem.W.InstAt s1.heap a oe C (some od) := ⟨ha, hz.1, by unfold PySem.W.notCls; rw [hd] <;> rfl, by rw [hz.2]; exact ho⟩
  exact HandSPX.exc_get I1.kIn J T.ga T.gg T.exC (PySem.W.findObj_own T.hdC T.T.noN rfl (by rw [hl, hu])) (handed_of ru) ⟨v, H1, I1.tok _, ru, q⟩
end
end Bf
namespace Bf
open PySem PySem.Spec PyProof.Rows L2
/-! ## Defs that raise, over data -/
section
variable {X : Cx} {k : Nat} {f : Addr} {fd : FuncData} {ps : List Str} {sp : Sp} {E : L2.St → XK} {x : Str} {p pos : Pos} {e : Expr} {es : List Expr} {t : TA}
end
/-- what a call comes to -/
inductive Out where
  | ok (d : Dt)
  | er (C : Addr) (f : Str) (d : Dt)
def spX (K : PySem.W.Frag) (n : Nat) (R : List Dt → Out → Prop) : Sp := fun vs H Q E => ∃ ds o, RepA K H vs ds ∧ ds.length = n ∧ R ds o ∧ match o with
  | .ok d => ∀ v H', Same H H' → Rep K H' v d → Q v H'
  | .er C f d => ∀ a v H', Same H H' → H' a = some (.xd [(f, v)]) → Rep K H' v d → E (.ref C) (some a) H'
/-- E takes the error -/
def XW (K : PySem.W.Frag) (S : Sta) (C : Addr) (f : Str) (d : Dt) (E : XK) : Prop := ∀ a v H', S.I H' → H' a = some (.xd [(f, v)]) → Rep K H' v d → E (.ref C) (some a) H'
def PO : Out → Po
  | .ok d => { nx := fun _ => d = .non, rt := Eq d }
  | .er _ _ _ => {}
section
variable {K : PySem.W.Frag} {S S1 S2 SB SF : Sta} {L : List Addr} {ρ : List (Option Dt)} {P : Po} {te ta tb : TE} {tt : TT} {w t u : TS} {tl : TA} {d : Dt} {j n : Nat} {ds : List Dt} {R : List Dt → Out → Prop} {E : XK} {C : Addr} {f : Str}
theorem okX {Pg : Program} {w : World} {mg : Str → Option Value} {base : Heap} {x qual : Str} {st : Stmt} {g : Addr} {fd : FuncData} {N ps : List Str} {k : Nat} (Fu : Fun K x qual st g fd) (Sc : FnScope N ps (defScope st))
    (hb : ∀ (cdv : Value) (A : Around) (out : List Env) (s : Shared) (H : Hp) (E : XK), Room k (A.deeper (envOfC qual (defScope st) s.heap.objs.size g cdv)) → A.guards = some [] →
      ∃ t, PSs (cxOf (L2.CX Pg w) Pg w K mg base N qual (defScope st) g cdv A out s H E) (defBody st) t ∧ ∀ (S : Sta), S.Mu → ∀ (ds : List Dt) (o : Out), ds.length = ps.length → R ds o → (∀ C f d, o = .er C f d → XW K S C f d E) → So K S S [] t (startD N.length ds) (PO o)) :
    GOk Pg w K mg base (k + 1) g fd ps (spX K ps.length R) := by
  refine okG Fu Sc (fun vs H Q E h => ?_) fun cdv A out s H vs Q E hr hg h => ?_
  · obtain ⟨ds, o, r, hl, _⟩ := h
    exact r.len.trans hl
  · obtain ⟨ds, o, r, hl, hp, q⟩ := h
    obtain ⟨t, ht, so⟩ := hb cdv A out s H E hr hg
    have hw : ∀ C f d, o = .er C f d → XW K (staSame H) C f d E := fun C f d e a v H' i ha rv => by
      subst e
      exact q a v H' i ha rv
    refine ⟨t, ht, so (staSame H) staSame_mu ds o hl hp hw _ _ H H ⟨Gr.refl H, Same.refl H, fun _ z => nomatch z⟩ (Same.refl H) (slots_start r) ⟨fun σ ρ H' g i s' e => ?_, fun v d' H' g i r' e => ?_, fun σ ρ H' g i s' e => ?_, fun σ ρ H' g i s' e => ?_⟩⟩
    · cases o with
      | ok d => exact q _ H' i ((show d = .non from e) ▸ .non)
      | er => exact (show False from e).elim
    · cases o with
      | ok d => exact q v H' i ((show d = d' from e) ▸ r')
      | er => exact (show False from e).elim
    · cases o <;> exact (show False from e).elim
    · cases o <;> exact (show False from e).elim
/-- f(..) that comes back -/
theorem ev_callX (ha : EvA K S S1 ρ tl (Eq ds)) (hn : ds.length = n) (hp : R ds (.ok d)) : Ev K S S1 ρ (tCall (spX K n R) [] E tl) (Eq d) := fun σ H i s Q q =>
  ha σ H i s _ fun vs ds' H1 g1 i1 r1 p1 => by
    subst p1
    rw [List.append_nil]
    exact ⟨ds, .ok d, r1, hn, hp, fun v H2 sm r => q v _ H2 (g1.trans sm.gr) (S1.st i1 sm) r rfl⟩
/-- te raises, whatever is wished of its value -/
def EvR (K : PySem.W.Frag) (S : Sta) (ρ : List (Option Dt)) (te : TE) : Prop := ∀ (σ : L2.St) (H : Hp), S.I H → Slots K H σ ρ → ∀ Q : VK, te σ H Q
theorem er_callX (ha : EvA K S S1 ρ tl (Eq ds)) (hn : ds.length = n) (hp : R ds (.er C f d)) (hw : XW K S1 C f d E) : EvR K S ρ (tCall (spX K n R) [] E tl) := fun σ H i s Q =>
  ha σ H i s _ fun vs ds' H1 g1 i1 r1 p1 => by
    subst p1
    rw [List.append_nil]
    exact ⟨ds, .er C f d, r1, hn, hp, fun a v H2 sm ea rv => hw a v H2 (S1.st i1 sm) ea rv⟩
theorem so_setR {g : TG} (h : EvR K S ρ te) : Sg K S SB SF L (tSeq (tAsg te g) w) ρ P := fun D σ B H b i s ft => h σ H i s _
theorem so_retR (h : EvR K S ρ te) : Sg K S SB SF L (tRet te) ρ P := fun D σ B H b i s ft => h σ H i s _
/-- raise C(e) -/
theorem so_raiseB (h : Ev K S S1 ρ te (Eq d)) (hw : XW K S1 C f d E) : Sg K S SB SF L (tRaiseB C f (fun cls d _ H => E cls d H) (tCons te tNil)) ρ P := fun D σ B H b i s ft =>
  h σ H i s _ fun v d' H1 g1 i1 r1 e => by
    subst e
    exact ⟨v, rfl, fun a ha => hw a v _ (S1.st i1 (same_new ha)) upd_same (r1.mono (same_new ha).gr)⟩
theorem so_raise1B (h : Ev K S S1 ρ te (Eq d)) (hw : XW K S1 C f d E) : Sg K S SB SF L (tSeq (tRaiseB C f (fun cls d _ H => E cls d H) (tCons te tNil)) w) ρ P := fun D σ B H b i s ft =>
  h σ H i s _ fun v d' H1 g1 i1 r1 e => by
    subst e
    exact ⟨v, rfl, fun a ha => hw a v _ (S1.st i1 (same_new ha)) upd_same (r1.mono (same_new ha).gr)⟩
/-! ### try .. except C as n -/
theorem Slots.none_ {H : Hp} {σ : L2.St} (s : Slots K H σ ρ) (j : Nat) : Slots K H (σ.set j none) (ρ.set j none) := by
  refine ⟨by rw [List.length_set, List.length_set]; exact s.len, fun i d h => ?_⟩
  by_cases hij : j = i
  · subst hij
    by_cases hl : j < ρ.length
    · rw [List.getElem?_set_self hl] at h
      cases h
    · rw [List.getElem?_eq_none (by rw [List.length_set]; omega)] at h
      cases h
  · rw [List.getElem?_set_ne hij] at h
    obtain ⟨v, hv, rv⟩ := s.val i d h
    exact ⟨v, by rw [List.getElem?_set_ne hij]; exact hv, rv⟩
variable {c : Value} {i : Nat} {tw : WX → TS} {ts : Addr → Value → Option Addr → TS} {Wout : WX}
/-! at one place: what is wished plays no part -/
section
variable {σ : L2.St} {H : Hp} {D : Ends}
theorem pr_ret (h : ∀ Q, te σ H Q) : (tRet te) D σ H := h _
end
end
end Bf
namespace Bf
open PySem PySem.Spec PyProof.Rows L2
/-! ## Tables: the defs over data, and their readings -/
/-! ### is_whole, is_whole_from, is_duration, is_bit_count -/
def isW (d : Dt) : Bool := isIntD d && !isBlD d
def one1 (g : Dt → Dt) : List Dt → Dt
  | [d] => g d
  | _ => .non
abbrev p_is_whole (K : PySem.W.Frag) : Sp := spF K 1 (fun ds => ∃ d, ds = [d] ∧ okN d = true) (one1 fun d => .bl (isW d))
/-- what a pure def's body is to come to -/
abbrev Pu (d : Dt) : Po := { nx := fun _ => d = .non, rt := Eq d }
abbrev t_is_whole (K : PySem.W.Frag) : TS := (tRet (tAndV (tCB (rIsi K) (tCons (tVar 0) (tCons (tC (.ty "int")) tNil))) (tNotV (tCB (rIsi K) (tCons (tVar 0) (tCons (tC (.ty "bool")) tNil))))))
section
variable {K : PySem.W.Frag} {S : Sta} {ds : List Dt}
theorem so_is_whole (hmu : S.Mu) (hp : ∃ d, ds = [d] ∧ okN d = true) : So K S S [] (t_is_whole K) (startD 1 ds) (Pu (one1 (fun d => .bl (isW d)) ds)) := by
  obtain ⟨d, rfl, hd⟩ := hp
  exact so_retD (ev_and (ev_isInt (ev_var rfl) hd) fun _ => ev_not (ev_isBl (ev_var rfl) hd)) (Sta.Le.refl S) rfl
end
/-! ### are_durations, is_pulse_and_gap -/
/-- plain, and its tuple not too long -/
def plS (d : Dt) : Bool := pl d && match d with
  | .tup xs => decide (xs.length ≤ 100000)
  | _ => true
section
variable {K : PySem.W.Frag} {S : Sta} {ds : List Dt}
end
/-! ### begins_with, the first wrong part -/
def plSA (xs : List Dt) : Bool := xs.all plS
section
variable {K : PySem.W.Frag} {S : Sta} {ds : List Dt}
end
end Bf
namespace Bf
open PySem PySem.Spec PyProof.Rows L2
/-! ## Right tables, words -/
/-- a right table's parts -/
inductive Tab where
  | ha (u b : Int)
  | pa (h : List Int) (z1 z2 o1 o2 s b : Int)
def tI (ns : List Int) : Dt := .tup (ns.map Dt.int)
def Tab.d : Tab → Dt
  | .ha u b => .tup [.str "halves", .int u, .int b]
  | .pa h z1 z2 o1 o2 s b => .tup [.str "pairs", tI h, tI [z1, z2], tI [o1, o2], .int s, .int b]
def Tab.b : Tab → Int
  | .ha _ b => b
  | .pa _ _ _ _ _ _ b => b
def dur (i : Int) : Prop := 1 ≤ i ∧ i ≤ 99999
def Tab.ok : Tab → Prop
  | .ha u b => dur u ∧ 1 ≤ b ∧ b ≤ 8
  | .pa h z1 z2 o1 o2 s b => (h.length = 0 ∨ h.length = 2 ∨ h.length = 4) ∧ (∀ x ∈ h, dur x) ∧ dur z1 ∧ dur z2 ∧ dur o1 ∧ dur o2 ∧ ¬ (o1 = z1 ∧ o2 = z2) ∧ dur s ∧ 1 ≤ b ∧ b ≤ 8
theorem Tab.b1 {T : Tab} (h : T.ok) : 1 ≤ T.b ∧ T.b ≤ 8 := by
  cases T with
  | ha u b => exact h.2
  | pa => exact ⟨h.2.2.2.2.2.2.2.2.1, h.2.2.2.2.2.2.2.2.2⟩
section
variable {K : PySem.W.Frag} {S : Sta} {ds : List Dt}
end
/-! ### is_word -/
section
variable {K : PySem.W.Frag} {S : Sta} {ds : List Dt}
end
/-! ### words -/
def wordsL : Nat → List (List Int)
  | 0 => [[]]
  | n + 1 => (wordsL n).flatMap fun w => [w ++ [0], w ++ [1]]
section
variable {K : PySem.W.Frag} {S : Sta} {ds : List Dt}
end
end Bf
namespace Bf
open PySem PySem.Spec PyProof.Rows L2
/-! ## need_table for any plain data -/
def plD (d : Dt) : Prop := pl d = true ∧ ∀ xs, d = .tup xs → plSA xs = true
section
variable {K : PySem.W.Frag} {S : Sta} {ds : List Dt} {o : Out} {C : Addr} {E : XK}
end
end Bf
namespace Bf
open PySem PySem.Spec PyProof.Rows L2
/-! ## Small data may be compared and shown -/
mutual
/-- n deep, at most ten things each, ints below 10^12, texts of at most 40 signs -/
def gd : Nat → Dt → Bool
  | _, .non => true
  | _, .bl _ => true
  | _, .int i => decide (i.natAbs < 10 ^ 12)
  | _, .str x => x.cps.all (· < 0x110000) && decide (x.cps.size ≤ 40)
  | n + 1, .lst xs => gdA n xs && decide (xs.length ≤ 10)
  | n + 1, .tup xs => gdA n xs && decide (xs.length ≤ 10)
  | _, _ => false
def gdA : Nat → List Dt → Bool
  | _, [] => true
  | n, x :: xs => gd n x && gdA n xs
end
def wB : Nat → Nat
  | 0 => 64
  | n + 1 => 10 * (wB n + 1)
theorem wB_ge : ∀ n, 64 ≤ wB n
  | 0 => Nat.le_refl _
  | n + 1 => by have := wB_ge n; simp only [wB]; omega
structure GdW (n : Nat) (d : Dt) : Prop where
  p : pur d = true
  c : (py d).canLay0 = true
  t : (py d).depth ≤ n
  i : (py d).intsShort 13 = true
  s : (py d).showable = true
  w : (py d).weight ≤ wB n
structure GdWA (n m : Nat) (xs : List Dt) : Prop where
  p : purA xs = true
  c : PyData.canLayAll0 (pyA xs) = true
  t : PyData.depthAll (pyA xs) ≤ n
  i : PyData.intsShortAll 13 (pyA xs) = true
  s : PyData.showableAll (pyA xs) = true
  w : PyData.weightAll (pyA xs) ≤ m * (wB n + 1)
theorem log_lt {i : Int} (h : i.natAbs < 10 ^ 12) : i.natAbs.log2 < 40 := by
  by_cases h0 : i.natAbs = 0
  · rw [h0]; decide
  · exact (Nat.log2_lt h0).mpr (Nat.lt_trans h (by decide))
mutual
theorem gd_w : ∀ (n : Nat) (d : Dt), gd n d = true → GdW n d
  | n, .non, _ => ⟨rfl, rfl, Nat.zero_le _, rfl, rfl, Nat.zero_le _⟩
  | n, .bl b, _ => ⟨rfl, rfl, Nat.zero_le _, rfl, rfl, Nat.zero_le _⟩
  | n, .int i, h => by
    have h : i.natAbs < 10 ^ 12 := by simpa [gd] using h
    have hl := log_lt h
    refine ⟨rfl, rfl, Nat.zero_le _, ?_, ?_, ?_⟩
    · unfold py
      simp only [PyData.intsShort, decide_eq_true_eq]
      exact PyData.shown_int_le h
    · unfold py
      simp only [PyData.showable, decide_eq_true_eq]
      omega
    · unfold py
      simp only [PyData.weight]
      have := wB_ge n
      split <;> omega
  | n, .str x, h => by
    have h : x.cps.all (· < 0x110000) = true ∧ x.cps.size ≤ 40 := by simpa only [gd, Bool.and_eq_true, decide_eq_true_eq] using h
    refine ⟨rfl, ?_, Nat.zero_le _, rfl, rfl, ?_⟩
    · unfold py
      simp only [PyData.canLay0, PyData.strOk]
      exact h.1
    · unfold py
      simp only [PyData.weight]
      have := wB_ge n
      omega
  | n + 1, .lst xs, h => by
    simp only [gd, Bool.and_eq_true, decide_eq_true_eq] at h
    have g := gdA_w n xs h.1
    refine ⟨by unfold pur; exact g.p, by unfold py; simp only [PyData.canLay0]; exact g.c, by unfold py; simp only [PyData.depth]; have := g.t; omega, by unfold py; simp only [PyData.intsShort]; exact g.i, by unfold py; simp only [PyData.showable]; exact g.s, ?_⟩
    unfold py
    simp only [PyData.weight, wB]
    exact Nat.le_trans g.w (Nat.mul_le_mul_right _ h.2)
  | n + 1, .tup xs, h => by
    simp only [gd, Bool.and_eq_true, decide_eq_true_eq] at h
    have g := gdA_w n xs h.1
    refine ⟨by unfold pur; exact g.p, by unfold py; simp only [PyData.canLay0]; exact g.c, by unfold py; simp only [PyData.depth]; have := g.t; omega, by unfold py; simp only [PyData.intsShort]; exact g.i, by unfold py; simp only [PyData.showable]; exact g.s, ?_⟩
    unfold py
    simp only [PyData.weight, wB]
    exact Nat.le_trans g.w (Nat.mul_le_mul_right _ h.2)
  | 0, .lst xs, h => by simp [gd] at h
  | 0, .tup xs, h => by simp [gd] at h
  | n, .dic, h => by simp [gd] at h
  | n, .ins _ _ _, h => by simp [gd] at h
  | n, .raw _, h => by simp [gd] at h
  | n, .lat _ _, h => by simp [gd] at h
theorem gdA_w : ∀ (n : Nat) (xs : List Dt), gdA n xs = true → GdWA n xs.length xs
  | n, [], _ => ⟨rfl, rfl, Nat.zero_le _, rfl, rfl, Nat.zero_le _⟩
  | n, x :: xs, h => by
    simp only [gdA, Bool.and_eq_true] at h
    have g := gd_w n x h.1
    have r := gdA_w n xs h.2
    refine ⟨by unfold purA; rw [g.p, r.p]; rfl, by unfold pyA; simp only [PyData.canLayAll0]; rw [g.c, r.c]; rfl, by unfold pyA; simp only [PyData.depthAll]; exact Nat.max_le.mpr ⟨g.t, r.t⟩, by unfold pyA; simp only [PyData.intsShortAll]; rw [g.i, r.i]; rfl, by unfold pyA; simp only [PyData.showableAll]; rw [g.s, r.s]; rfl, ?_⟩
    unfold pyA
    simp only [PyData.weightAll, List.length_cons]
    have h1 := g.w
    have h2 := r.w
    rw [Nat.add_mul]
    omega
end
end Bf
namespace Bf
open PySem PySem.Spec PyProof.Rows L2
/-! ## The end: the law's def is called with the script -/
section
variable {P : Program} {w : World} {K : PySem.W.Frag} {mg mb : Str → Option Value} {k : Nat} {fa a : Addr} {fd : FuncData} {x : Str} {sp : Sp} {s₁ : Shared} {vs : List Value} {ns : List Int}
end
/-- a constant of the module -/
theorem pe_gc {X : Cx} {x : Str} {v : V} {pos : Pos} (hg : Gl X x) (hm : ∃ u, X.mg x = some u ∧ RelV v u) (hd : (x == ("__debug__" : Str)) = false := by decide) : PE X (.Name x pos) (tC v) := by
  obtain ⟨u, e, r⟩ := hm
  exact pe_glob hg e r hd
end Bf
namespace Bf
open PySem PySem.Spec PyProof.Rows L2
/-! ## The law's draws -/
/-- a number below ds' one -/
def nextR : List Dt → Dt → Prop := fun ds d => ∃ m r, ds = [.int m] ∧ d = .int r ∧ 0 ≤ r ∧ r < m
abbrev p__law_next (K : PySem.W.Frag) : Sp := spD K 1 (fun ds => ∃ m, ds = [.int m] ∧ 0 < m ∧ m.natAbs < 2 ^ 8000) nextR 1
abbrev t__law_next (K : PySem.W.Frag) : TS := (tSeq (tIfS (tTest (tOp rGtI (tDGet (tVar 0) (tC (.str "left"))) (tC (.int 0)))) (tSeq (tAsg (tTup (tCons (tDGet (tVar 0) (tC (.str "left"))) (tCons (tOp rDivW (tDGet (tVar 0) (tC (.str "left"))) (tVar 1)) tNil))) (gTup K 2 (gCons (gName 2) (gCons (gSub (tVar 0) (tC (.str "left")) rSetD) gNil))))
    (tRet (tOp rModI (tVar 2) (tVar 1)))) tNext)
    (tSeq (tAsg (tDGet (tVar 0) (tC (.str "cells"))) (gName 3))
    (tSeq (tAsg (tOp (rIx K) (tVar 3) (tOp rModI (tDGet (tVar 0) (tC (.str "at"))) (tCB (rLen K) (tCons (tVar 3) tNil)))) (gName 2))
    (tSeq (tAsg (tOp rAddI (tDGet (tVar 0) (tC (.str "at"))) (tC (.int 1))) (gSub (tVar 0) (tC (.str "at")) rSetD))
    (tSeq (tIfS (tAnd (tTest (tOp rGeI (tVar 2) (tOp rPowI (tC (.int 10)) (tC (.int 18))))) (tTest (tOp rLeI (tDGet (tVar 0) (tC (.str "at"))) (tCB (rLen K) (tCons (tVar 3) tNil))))) (tSeq (tAsg (tOp rDivW (tVar 2) (tVar 1)) (gSub (tVar 0) (tC (.str "left")) rSetD))
    (tRet (tOp rModI (tVar 2) (tVar 1)))) tNext)
    (tSeq (tAsg (tOp rAddI (tDGet (tVar 0) (tC (.str "used"))) (tC (.int 1))) (gSub (tVar 0) (tC (.str "used")) rSetD))
    (tSeq (tAsg (tOp rAddI (tOp rModI (tVar 2) (tC (.int 1000000007))) (tOp rMulW (tOp rMulW (tC (.int 7919)) (tDGet (tVar 0) (tC (.str "used")))) (tDGet (tVar 0) (tC (.str "used"))))) (gName 4))
    (tSeq (tFor (iTup K (tTup (tCons (tDGet (tVar 0) (tC (.str "at"))) (tCons (tDGet (tVar 0) (tC (.str "used"))) tNil)))) (gName 5) (tSeq (tAsg (tOp rModI (tOp rMulW (tOp rAddI (tOp rAddI (tVar 4) (tOp rMulW (tC (.int 31)) (tVar 5))) (tC (.int 7))) (tC (.int 48271))) (tC (.int 2147483647))) (gName 4))
    (tAsg (tOp rModI (tOp rMulW (tVar 4) (tOp rAddI (tC (.int 69621)) (tOp rMulW (tC (.int 2)) (tOp rModI (tVar 5) (tC (.int 1000)))))) (tC (.int 2147483629))) (gName 4))))
    (tRet (tOp rModI (tOp rDivW (tVar 4) (tC (.int 7))) (tVar 1)))))))))))
theorem mul_in {x y B C : Int} (h1 : 0 ≤ x) (h2 : x ≤ B) (h3 : 0 ≤ y) (h4 : y ≤ C) : 0 ≤ x * y ∧ x * y ≤ B * C :=
  ⟨Int.mul_nonneg h1 h3, Int.mul_le_mul h2 h4 h3 (Int.le_trans h1 h2)⟩
theorem cmul {x y : Int} (h1 : 0 ≤ x) (h2 : x < 2 ^ 100) (h3 : 0 ≤ y) (h4 : y < 2 ^ 100) : CMulW x y := wide_mul (a := 100) (b := 100) (by omega) (by omega) (by decide) (by decide) (by decide)
theorem cdivs {x y : Int} (h : 0 < y) (hb : y.natAbs < 2 ^ 8000) : CDivW x y := wide_div (b := 8000) h hb (by decide) (by decide)
section
variable {K : PySem.W.Frag} {a : Addr} {c : CT} {cs : List Int} {n : Nat} {ds : List Dt}
theorem so__law_next (hc : cs ≠ []) (hn : n + 1 ≤ 1000000) (hp : ∃ m, ds = [.int m] ∧ 0 < m ∧ m.natAbs < 2 ^ 8000) :
    So K (DW K a c cs n) (DW K a c cs (n + 1)) [] (t__law_next K) (startD 6 (.raw (.ref a) :: ds)) { nx := fun _ => nextR ds .non, rt := nextR ds } := by
  obtain ⟨m, rfl, hm, hmb⟩ := hp
  refine so_open fun i l u i0 i1 l0 u0 u1 => ?_
  have fin : ∀ x : Int, nextR [.int m] (.int (x % m)) := fun x => ⟨m, _, rfl, rfl, Int.emod_nonneg _ (by omega), Int.emod_lt_of_pos _ hm⟩
  refine so_ifD (et_test (ev_op (ev_dleft rfl) ev_int rv_gt)) (fun e => ?_) fun e => so_skip ?_
  · have hl : 0 < l := of_decide_eq_true e
    refine so_assoc (so_dset2 (ea_cons (ev_dleft rfl) (ea_cons (ev_op (ev_dleft rfl) (ev_var rfl) (rv_div (cdivs hm hmb))) ea_nil)) rfl (by decide) ?_)
    exact so_ret1D (ev_op (ev_var rfl) (ev_var rfl) (rv_mod hm)) (dw_of i0 (by omega) (Int.ediv_nonneg (by omega) (by omega)) u0 (by omega)) (fin _)
  · have hcl : 0 < cs.length := List.length_pos_iff.mpr hc
    have hcm : (0 : Int) < ((cs.map Dt.int).length : Nat) := by rw [List.length_map]; omega
    have hix : 0 ≤ i % ((cs.map Dt.int).length : Nat) ∧ i % ((cs.map Dt.int).length : Nat) < (cs.length : Nat) := ⟨Int.emod_nonneg _ (by omega), by have := Int.emod_lt_of_pos i hcm; rw [List.length_map] at this ⊢; exact this⟩
    obtain ⟨cell, hcell⟩ : ∃ cell : Int, atI (cs.map Dt.int) (i % ((cs.map Dt.int).length : Nat)) = some (.int cell) := by
      have hlt : (i % ((cs.map Dt.int).length : Nat)).toNat < cs.length := by omega
      refine ⟨cs[(i % ((cs.map Dt.int).length : Nat)).toNat], ?_⟩
      have e1 : ((i % ((cs.map Dt.int).length : Nat)).toNat : Int) = i % ((cs.map Dt.int).length : Nat) := Int.toNat_of_nonneg hix.1
      have := atI_nat (xs := cs.map Dt.int) (j := (i % ((cs.map Dt.int).length : Nat)).toNat) (v := .int cs[(i % ((cs.map Dt.int).length : Nat)).toNat]) (by rw [List.getElem?_map, List.getElem?_eq_getElem hlt]; rfl)
      rwa [e1] at this
    refine so_setD (ev_dcells rfl) ?_
    refine so_setD (ev_ixL (ev_var rfl) (ev_op (ev_dat rfl) (ev_lenL (ev_var rfl)) (rv_mod hcm)) hcell) ?_
    refine so_dset (ev_op (ev_dat rfl) ev_int rv_add) rfl dr_pat ?_
    refine so_ifD (et_and (et_test (ev_op (ev_var rfl) (ev_op ev_int ev_int (rv_pow ⟨by decide, by decide, by decide⟩)) rv_ge)) fun _ => et_test (ev_op (ev_dat rfl) (ev_lenL (ev_var rfl)) rv_le)) (fun e2 => ?_) fun e2 => so_skip ?_
    · have hbig : (10 : Int) ^ (18 : Int).toNat ≤ cell := of_decide_eq_true (Bool.and_eq_true_iff.mp e2).1
      have hpos : 0 ≤ cell := Int.le_trans (by decide) hbig
      refine so_assoc (so_dset (ev_op (ev_var rfl) (ev_var rfl) (rv_div (cdivs hm hmb))) rfl dr_pleft ?_)
      exact so_ret1D (ev_op (ev_var rfl) (ev_var rfl) (rv_mod hm)) (dw_of (by omega) (by omega) (Int.ediv_nonneg hpos (by omega)) u0 (by omega)) (fin _)
    · refine so_dset (ev_op (ev_dused rfl) ev_int rv_add) rfl dr_pused ?_
      have u2 : 0 ≤ u + 1 ∧ u + 1 ≤ 1000001 := by omega
      have q1 := mul_in (x := 7919) (y := u + 1) (B := 7919) (C := 1000001) (by decide) (Int.le_refl _) u2.1 u2.2
      have q2 := mul_in (x := 7919 * (u + 1)) (y := u + 1) (B := 7919 * 1000001) (C := 1000001) q1.1 q1.2 u2.1 u2.2
      have c0 := Int.emod_nonneg cell (show (1000000007 : Int) ≠ 0 by decide)
      have c1 := Int.emod_lt_of_pos cell (show (0 : Int) < 1000000007 by decide)
      refine so_setD (ev_op (ev_op (ev_var rfl) ev_int (rv_mod (by decide))) (ev_op (ev_op ev_int (ev_dused rfl) (rv_mul (cmul (by decide) (by decide) u2.1 (by omega)))) (ev_dused rfl) (rv_mul (cmul q1.1 (by omega) u2.1 (by omega)))) rv_add) ?_
      have le1 : (DS K a c cs (i + 1) l (u + 1)).Le (DW K a c cs (n + 1)) := dw_of (by omega) (by omega) l0 u2.1 (by omega)
      refine so_mid (M := fun ρ' => ∃ (num : Int) (x : Option Dt), 0 ≤ num ∧ num < 2 ^ 64 ∧ ρ' = [some (.raw (.ref a)), some (.int m), some (.int cell), some (.lst (cs.map Dt.int)), some (.int num), x]) le1
        (so_forT (xs := [.int (i + 1), .int (u + 1)]) (ev_tup (ea_cons (ev_dat rfl) (ea_cons (ev_dused rfl) ea_nil)) (by show 2 ≤ sizeLine; decide)) (fun _ ρ' => ∃ (num : Int) (x : Option Dt), 0 ≤ num ∧ num < 2 ^ 64 ∧ ρ' = [some (.raw (.ref a)), some (.int m), some (.int cell), some (.lst (cs.map Dt.int)), some (.int num), x])
          ⟨_, _, ?_, ?_, rfl⟩ (fun t x ρ' hx hJ => ?_) fun ρ' h => h) fun ρ' hM => ?_
      · omega
      · have e7 : (7919 * 1000001 * 1000001 : Int) = 7919015838007919 := by decide
        omega
      · obtain ⟨num, y, n0, n1, rfl⟩ := hJ
        obtain ⟨k, rfl, k0, k1⟩ : ∃ k : Int, x = .int k ∧ 0 ≤ k ∧ k ≤ 1000001 := by
          match t, hx with
          | 0, hx => exact ⟨i + 1, (by simpa using hx.symm), by omega, by omega⟩
          | 1, hx => exact ⟨u + 1, (by simpa using hx.symm), by omega, by omega⟩
          | t + 2, hx => simp at hx
        have s0 := Int.emod_nonneg ((num + 31 * k + 7) * 48271) (show (2147483647 : Int) ≠ 0 by decide)
        have s1 := Int.emod_lt_of_pos ((num + 31 * k + 7) * 48271) (show (0 : Int) < 2147483647 by decide)
        have k2 := Int.emod_nonneg k (show (1000 : Int) ≠ 0 by decide)
        have k3 := Int.emod_lt_of_pos k (show (0 : Int) < 1000 by decide)
        refine so_setD (ev_op (ev_op (ev_op (ev_op (ev_var rfl) (ev_op ev_int (ev_var rfl) (rv_mul (cmul (by decide) (by decide) k0 (by omega)))) rv_add) ev_int rv_add) ev_int (rv_mul (cmul (by omega) (by omega) (by decide) (by decide)))) ev_int (rv_mod (by decide))) ?_
        refine so_set0D (ev_op (ev_op (ev_var rfl) (ev_op ev_int (ev_op ev_int (ev_op (ev_var rfl) ev_int (rv_mod (by decide))) (rv_mul (cmul (by decide) (by decide) k2 (by omega)))) rv_add) (rv_mul (cmul s0 (by omega) (by omega) (by omega)))) ev_int (rv_mod (by decide))) (Sta.Le.refl _) ⟨_, _, Int.emod_nonneg _ (by decide), ?_, rfl⟩
        have := Int.emod_lt_of_pos ((num + 31 * k + 7) * 48271 % 2147483647 * (69621 + 2 * (k % 1000))) (show (0 : Int) < 2147483629 by decide)
        omega
      · obtain ⟨num, y, n0, n1, rfl⟩ := hM
        exact so_retD (ev_op (ev_op (ev_var rfl) ev_int (rv_div (cdivs (by decide) (by decide)))) (ev_var rfl) (rv_mod hm)) le1 (fin _)
theorem ev__law_next {S : Sta} {ρ : List (Option Dt)} {ta tm : TE} {m : Int} (h : EvA K S (DW K a c cs n) ρ (tCons ta (tCons tm tNil)) (Eq [.raw (.ref a), .int m])) (hc : cs ≠ []) (hn : n + 1 ≤ 1000000) (h0 : 0 < m) (h1 : m.natAbs < 2 ^ 8000) :
    Ev K S (DW K a c cs (n + 1)) ρ (tCall (p__law_next K) [] E0 (tCons ta (tCons tm tNil))) (fun d => ∃ r, d = .int r ∧ 0 ≤ r ∧ r < m) :=
  (ev_callD (ds := [.int m]) h rfl ⟨m, rfl, h0, h1⟩ hc hn).weak fun d ⟨m', r, e, e2, r0, r1⟩ => by cases e; exact ⟨r, e2, r0, r1⟩
end
/-! ### _law_pick -/
def pickR : List Dt → Dt → Prop := fun ds d => ∃ xs, (ds = [.lst xs] ∨ ds = [.tup xs]) ∧ d ∈ xs
abbrev p__law_pick (K : PySem.W.Frag) : Sp := spD K 1 (fun ds => ∃ xs, (ds = [.lst xs] ∨ ds = [.tup xs]) ∧ xs ≠ [] ∧ xs.length ≤ 100000) pickR 1
abbrev t__law_pick (K : PySem.W.Frag) : TS := (tRet (tOp (rIx K) (tVar 1) (tCall (p__law_next K) [] E0 (tCons (tVar 0) (tCons (tCB (rLen K) (tCons (tVar 1) tNil)) tNil)))))
section
variable {K : PySem.W.Frag} {a : Addr} {c : CT} {cs : List Int} {n : Nat} {ds : List Dt}
theorem at_in {xs : List Dt} {r : Int} (h0 : 0 ≤ r) (h1 : r < (xs.length : Nat)) : ∃ d, atI xs r = some d ∧ d ∈ xs := by
  have hlt : r.toNat < xs.length := by omega
  have e1 : (r.toNat : Int) = r := Int.toNat_of_nonneg h0
  have := atI_nat (xs := xs) (j := r.toNat) (v := xs[r.toNat]) (List.getElem?_eq_getElem hlt)
  rw [e1] at this
  exact ⟨_, this, List.getElem_mem hlt⟩
theorem so__law_pick (hc : cs ≠ []) (hn : n + 1 ≤ 1000000) (hp : ∃ xs, (ds = [.lst xs] ∨ ds = [.tup xs]) ∧ xs ≠ [] ∧ xs.length ≤ 100000) :
    So K (DW K a c cs n) (DW K a c cs (n + 1)) [] (t__law_pick K) (startD 2 (.raw (.ref a) :: ds)) { nx := fun _ => pickR ds .non, rt := pickR ds } := by
  obtain ⟨xs, h, hx, hz⟩ := hp
  have hl : 0 < xs.length := List.length_pos_iff.mpr hx
  have hb : (xs.length : Int).natAbs < 2 ^ 8000 := Nat.lt_of_le_of_lt (show (xs.length : Int).natAbs ≤ 100000 by omega) (by decide)
  rcases h with rfl | rfl
  · refine so_ret (ev_ixLP (ev_var rfl) (ev__law_next (ea_cons (ev_var rfl) (ea_cons (ev_lenL (ev_var rfl)) ea_nil)) hc hn (by omega) hb) (fun y ⟨r, e, r0, r1⟩ => ?_)) (Sta.Le.refl _) fun d p => p
    obtain ⟨d, h1, h2⟩ := at_in r0 r1
    exact ⟨r, d, e, h1, xs, .inl rfl, h2⟩
  · refine so_ret (ev_opP (ev_var rfl) (ev__law_next (ea_cons (ev_var rfl) (ea_cons (ev_lenT (ev_var rfl)) ea_nil)) hc hn (by omega) hb) (fun x y e ⟨r, e2, r0, r1⟩ => ?_)) (Sta.Le.refl _) fun d p => p
    obtain ⟨d, h1, h2⟩ := at_in r0 r1
    subst e e2
    exact fun H v u i r1 r2 Q q => rv_ixST h1 H v u i r1 r2 Q fun v' d' H' g i' r e => q v' d' H' g i' r (e ▸ ⟨xs, .inr rfl, h2⟩)
theorem ev__law_pick {S : Sta} {ρ : List (Option Dt)} {ta tm : TE} {xs : List Dt} (h : EvA K S (DW K a c cs n) ρ (tCons ta (tCons tm tNil)) (Eq [.raw (.ref a), .lst xs])) (hc : cs ≠ []) (hn : n + 1 ≤ 1000000) (h0 : xs ≠ []) (h1 : xs.length ≤ 100000) :
    Ev K S (DW K a c cs (n + 1)) ρ (tCall (p__law_pick K) [] E0 (tCons ta (tCons tm tNil))) (fun d => d ∈ xs) :=
  (ev_callD (ds := [.lst xs]) h rfl ⟨xs, .inl rfl, h0, h1⟩ hc hn).weak fun d ⟨ys, e, hd⟩ => by
    rcases e with e | e <;> cases e
    exact hd
end
/-! ### _law_size, _law_table -/
section
variable {K : PySem.W.Frag} {a : Addr} {c : CT} {cs : List Int} {n : Nat} {ds : List Dt}
theorem ev_addP {S S1 S2 : Sta} {ρ : List (Option Dt)} {ta tb : TE} {i : Int} {Φ : Dt → Prop} (ha : Ev K S S1 ρ ta (Eq (.int i))) (hb : Ev K S1 S2 ρ tb Φ) {Θ : Dt → Prop} (h : ∀ y, Φ y → ∃ r, y = .int r ∧ Θ (.int (i + r))) : Ev K S S2 ρ (tOp rAddI ta tb) Θ := ev_opP ha hb fun x y e p => by
  obtain ⟨r, rfl, q⟩ := h y p
  subst e
  exact fun H v u i' r1 r2 Q k => rv_add H v u i' r1 r2 Q fun v' d' H' g i2 r e => k v' d' H' g i2 r (e ▸ q)
end
section
variable {K : PySem.W.Frag} {a : Addr} {c : CT} {cs : List Int} {n : Nat} {ds : List Dt}
theorem ea_twoP {S S1 S2 : Sta} {ρ : List (Option Dt)} {ta tb : TE} {Φ Ψ : Dt → Prop} (ha : Ev K S S1 ρ ta Φ) (hb : Ev K S1 S2 ρ tb Ψ) : EvA K S S2 ρ (tCons ta (tCons tb tNil)) (fun l => ∃ x y, l = [x, y] ∧ Φ x ∧ Ψ y) := fun σ H i s Q q =>
  ea_consP ha (ea_consP hb ea_nil) σ H i s Q fun vs ds H' g i' r ⟨x, xs, e, hx, y, ys, e2, hy, e3⟩ => q vs ds H' g i' r ⟨x, y, by rw [e, e2, ← e3], hx, hy⟩
theorem ev_tupL {S S1 : Sta} {ρ : List (Option Dt)} {ta : TE} {Φ : List Dt → Prop} (h : Ev K S S1 ρ ta (fun d => ∃ xs, d = .lst xs ∧ Φ xs)) : Ev K S S1 ρ (tCB (rTupO K) (tCons ta tNil)) (fun d => ∃ xs, d = .tup xs ∧ Φ xs) :=
  ev_cbP (Φl := fun l => ∃ xs, l = [.lst xs] ∧ Φ xs) (fun σ H i s Q q => ea_consP h ea_nil σ H i s Q fun vs ds H' g i' r ⟨d, ds', e, ⟨xs, e2, p⟩, e3⟩ => q vs ds H' g i' r ⟨xs, by rw [e, e2, ← e3], p⟩) fun l ⟨xs, e, p⟩ => by
    subst e
    exact fun H vs i r Q q => rc_tupL H vs i r Q fun v' d H' g i' r' e => q v' d H' g i' r' ⟨xs, e.symm, p⟩
end
end Bf
namespace Bf
open PySem PySem.Spec PyProof.Rows L2
/-! ## Ratios: instances of an own class with two attributes -/
/-- the n-th statement of a class's body -/
def clsSt (s : Stmt) (n : Nat) : Stmt := match s with
  | .ClassDef _ _ _ b _ _ _ _ _ _ _ => b.getD n s
  | _ => s
def rat (C : Addr) (n d : Int) : Dt := .ins C ["_num", "_den"] [.int n, .int d]
theorem nol_rat {C : Addr} {n d : Int} : nol (rat C n d) = true := by simp [rat, nol, nolA]
section
variable {K : PySem.W.Frag} {H : Hp} {v : V} {C : Addr} {n d : Int}
theorem Rep.ratI (h : Rep K H v (rat C n d)) : ∃ a dx, v = .ref a ∧ H a = some (.ins C dx [("_num", .int n), ("_den", .int d)]) := by
  unfold rat at h
  cases h with
  | ins e r =>
    cases r with
    | cons r1 r =>
      cases r with
      | cons r2 r =>
        cases r
        obtain rfl := r1.intI
        obtain rfl := r2.intI
        exact ⟨_, _, rfl, e⟩
theorem rep_rat {a dx : Addr} (e : H a = some (.ins C dx [("_num", .int n), ("_den", .int d)])) : Rep K H (.ref a) (rat C n d) :=
  .ins (ns := ["_num", "_den"]) (vs := [.int n, .int d]) e (.cons (.int n) (.cons (.int d) .nil))
end
theorem look_den {n m : V} : ([(("_num" : Str), n), ("_den", m)] : List (Str × V)).lookup ("_den" : Str) = some m := by
  have : (("_den" : Str) == "_num") = false := by decide
  simp [List.lookup, this]
/-- what is known of the class -/
structure RatT (K : PySem.W.Frag) (mg : Str → Option Value) (C fI pN gN pD gD : Addr) : Prop where
  cl : Cls K C
  mK : Mk K C fI
  pn : PropOf K C "num" pN gN
  pd : PropOf K C "den" pD gD
  an : NoAttr K C "_num"
  ad : NoAttr K C "_den"
  gC : mg "Ratio" = some (.ref C)
  c1 : PySem.W.findIn K (.ref C) "__class__" = some (some (.builtin "object.__class__"))
  c2 : PySem.W.specialIn K (.builtin "object.__class__") "__get__" = some (some (.builtin "getset_descriptor.__get__"))
  c3 : PySem.W.takesIn K (.builtin "object.__class__") = some true
  c4 : PySem.W.mroIn K C (.type "object") = some true
  no : ∀ T ∈ ["NoneType", "bool", "int", "str", "list", "tuple", "dict"], PySem.W.kitOne K (.type T) (.ref C) = some false
  si : PySem.W.kitOne K (.ref C) (.ref C) = some true
  sT : ∀ T ∈ ["bool", "int", "str", "list", "tuple"], PySem.W.kitOne K (.ref C) (.type T) = some false
/-- any plain thing, or a ratio -/
def okRt (C : Addr) (d : Dt) : Prop := okN d = true ∨ ∃ n m, d = rat C n m
def isRatD : Dt → Bool
  | .ins _ _ _ => true
  | _ => false
section
variable {K : PySem.W.Frag} {mg : Str → Option Value} {C fI pN gN pD gD : Addr} {S S1 : Sta} {ρ : List (Option Dt)} {te : TE} {d : Dt} {n m : Int}
theorem ty_rat {H : Hp} {v : V} (T : RatT K mg C fI pN gN pD gD) (r : Rep K H v (rat C n m)) : TyX K H v (.ref C) := by
  obtain ⟨a, dx, rfl, e⟩ := r.ratI
  exact .base (.ins e T.cl T.c1 T.c2 T.c3 T.c4)
/-- isinstance(x, Ratio) -/
theorem rc_isRat (T : RatT K mg C fI pN gN pD gD) (h : okRt C d) : RvC K S (rIsi K) [d, .raw (.ref C)] (Eq (.bl (isRatD d))) := rc_at fun H vs i r Q q => by
  obtain ⟨v, u, rfl, r1, r2⟩ := r.twoI
  obtain rfl := r2.rawI
  rcases h with h | ⟨n, m, rfl⟩
  · cases d with
    | non => exact ⟨v, .ref C, _, _, _, rfl, .own C, r1.ty rfl, T.no _ (by simp), q _ (.bl _)⟩
    | bl => exact ⟨v, .ref C, _, _, _, rfl, .own C, r1.ty rfl, T.no _ (by simp), q _ (.bl _)⟩
    | int => exact ⟨v, .ref C, _, _, _, rfl, .own C, r1.ty rfl, T.no _ (by simp), q _ (.bl _)⟩
    | str => exact ⟨v, .ref C, _, _, _, rfl, .own C, r1.ty rfl, T.no _ (by simp), q _ (.bl _)⟩
    | lst => exact ⟨v, .ref C, _, _, _, rfl, .own C, r1.ty rfl, T.no _ (by simp), q _ (.bl _)⟩
    | tup => exact ⟨v, .ref C, _, _, _, rfl, .own C, r1.ty rfl, T.no _ (by simp), q _ (.bl _)⟩
    | dic => exact ⟨v, .ref C, _, _, _, rfl, .own C, r1.ty rfl, T.no _ (by simp), q _ (.bl _)⟩
    | ins => cases h
    | raw u => cases u <;> cases h
    | lat => cases h
    | err => cases h
    | dct => cases h
    | dti => cases h
    | dat => cases h
    | cel => cases h
  · exact ⟨v, .ref C, _, _, _, rfl, .own C, ty_rat T r1, T.si, q _ (.bl _)⟩
theorem ev_isRat (T : RatT K mg C fI pN gN pD gD) (h : Ev K S S1 ρ te (Eq d)) (hd : okRt C d) : Ev K S S1 ρ (tCB (rIsi K) (tCons te (tCons (tC (.ref C)) tNil))) (Eq (.bl (isRatD d))) := ev_cb (ea_cons h (ea_cons ev_raw ea_nil)) (rc_isRat T hd)
/-- isinstance(a ratio, T) -/
theorem ev_ratIs {t : String} (T : RatT K mg C fI pN gN pD gD) (h : Ev K S S1 ρ te (Eq (rat C n m))) (ht : t ∈ ["bool", "int", "str", "list", "tuple"]) : Ev K S S1 ρ (tCB (rIsi K) (tCons te (tCons (tC (.ty t)) tNil))) (Eq (.bl false)) :=
  ev_cb (ea_cons h (ea_cons ev_ty ea_nil)) (rc_at fun H vs i r Q q => by
    obtain ⟨v, u, rfl, r1, r2⟩ := r.twoI
    obtain rfl := r2.rawI
    exact ⟨v, .ty t, _, _, _, rfl, .ty t, ty_rat T r1, T.sT t ht, q _ (.bl _)⟩)
/-- x.num, x.den -/
theorem ev_num {E : XK} (h : Ev K S S1 ρ te (Eq (rat C n m))) : Ev K S S1 ρ (tProp C (getSp C "_num") [] E te) (Eq (.int n)) := fun σ H i s Q q =>
  h σ H i s _ fun v d H1 g1 i1 r1 e => by
    subst e
    obtain ⟨a, dx, rfl, ea⟩ := r1.ratI
    exact ⟨a, dx, _, rfl, ea, a, dx, _, .int n, rfl, ea, by simp [List.lookup], q _ _ H1 g1 i1 (.int n) rfl⟩
end
/-! ### Ratio(a, b) -/
/-- a right one is made -/
def spRI (C : Addr) : Sp := fun vs H Q _ => ∃ (x dx : Addr) (n m : Int), vs = [.ref x, .int n, .int m] ∧ H x = some (.ins C dx []) ∧ 0 ≤ n ∧ 1 ≤ m ∧ m.natAbs < 2 ^ 8000 ∧
  ∀ H', (∀ b o, b ≠ x → H b = some o → dob o = true → H' b = some o) → (∀ b o, b ≠ x → H b = some o → H' b = some o) → H' x = some (.ins C dx [("_num", .int (n / (Nat.gcd n.natAbs m.natAbs : Nat))), ("_den", .int (m / (Nat.gcd n.natAbs m.natAbs : Nat)))]) → Q .non H'
section
variable {X : Cx} {k : Nat} {f C : Addr} {fd : FuncData} {ps : List Str} {sp : Sp} {E : XK} {x : Str} {p pos : Pos} {e : Expr} {es : List Expr} {t : TA} {dvs : List V} {ds : List Value}
/-- C(e, ..) by an __init__ of the law's promises -/
theorem pe_makeG (M : Mk X.K C f) (F : GOk X.prog X.w X.K X.mg X.base k f fd ps sp) (hr : Room (k + 1) X.A) (hgd : X.A.guards = some []) (hm : X.mg x = some (.ref C)) (hb : Binds X.K fd ps ds) (hd : Vals dvs ds) (hx : Passes (L2.CX X.prog X.w) X E)
    (ha : PA X (e :: es) t) (hg : Gl X x := by rfl) (hdb : (x == ("__debug__" : Str)) = false := by decide) (he : starEach (e :: es) X.env = (false, eval e X.env) :: starEach es X.env := by rfl) (hpl : (backTo pos (starEach es X.env)).any (·.1) = false := by rfl) :
    PE X (.Call (.Name x p) (e :: es) [] pos) (tMake C sp dvs E t) := by
  refine ⟨fun pins s σ H Q I h => ?_⟩
  refine wpAny_Call_Name_kw (ld_glob I hg hm ?_ hdb)
  refine PySem.W.callWith_K (h₀ := X.base) I.ok.mod.kin M.kp (thn (ha.run pos pins s σ H _ I h) fun us s1 ⟨vs, H1, I1, r, q⟩ => ⟨I1.kIn, ?_⟩) he hpl
  have hq := q (s1.heap.objs.size + 1) s1.heap.objs.size (I1.hok.fresh (Nat.le_succ _)) (I1.hok.fresh (Nat.le_refl _)) (Nat.ne_of_lt (Nat.lt_succ_self _))
  have I2 := L2.Inv.made (C := C) I1
  have r2 : Vals (V.ref (s1.heap.objs.size + 1) :: (vs ++ dvs)) (Value.ref (s1.heap.objs.size + 1) :: (us ++ ds)) := .cons rfl (r.append hd)
  have hl : (Value.ref (s1.heap.objs.size + 1) :: us ++ ds).length = ps.length := by
    have e := r2.length
    rw [F.len _ _ _ _ hq] at e
    exact e.symm
  refine wpAny_call (make_map (f := f) I1.kIn M.makes M.init (beq_iff_eq.mp M.fn) (codeAny_mono (F.go _ X.stack _ _ ⟨Value.ref (s1.heap.objs.size + 1) :: us, []⟩ (Value.ref (s1.heap.objs.size + 1) :: (us ++ ds)) _ _ E (hr.make C us []) (by first | exact hgd | (simpa [Around.under] using hgd))
    (I2.env0.make C us []) (hb _ (Value.ref (s1.heap.objs.size + 1) :: us) I2.kIn hl) r2 hq) fun r s' hq' => ?_))
  cases r with
  | error e => exact hx pins σ _ _ e s' I2 hq'
  | ok fl =>
    cases fl with
    | ret u =>
      obtain ⟨v, H', I3, rv, ev, q3⟩ := I2.after hq'
      subst ev
      exact ⟨rv, ⟨V.ref (s1.heap.objs.size + 1), H', I3, rfl, q3⟩⟩
    | next => exact False.elim hq'
    | brk => exact False.elim hq'
    | cont => exact False.elim hq'
/-- a def with defaults, by its body -/
theorem okGD {P : Program} {w : World} {K : PySem.W.Frag} {mg : Str → Option Value} {base : Heap} {x qual : Str} {params : Arguments} {body : List Stmt} {scope : Scope} {dv : List V} {kws : List (Str × V)} {f : Addr} {fd : FuncData} {N ps : List Str} {k : Nat} {sp : Sp} (F : FunD K x qual params body scope dv kws f fd) (S : FnScope N ps scope) (len : ∀ vs H Q E, sp vs H Q E → vs.length = ps.length)
    (hb : ∀ (cdv : Value) (A : Around) (out : List Env) (s : Shared) (H : Hp) (vs : List V) (Q : VK) (E : XK), Room k (A.deeper (envOfC qual scope s.heap.objs.size f cdv)) → A.guards = some [] → sp vs H Q E →
      ∃ t, PSs (cxOf (L2.CX P w) P w K mg base N qual scope f cdv A out s H E) body t ∧ t { nx := fun _ H' => Q .non H', rt := Q } (start N vs) H) :
    GOk P w K mg base (k + 1) f fd ps sp := by
  obtain ⟨oc, od, dV, kV, doc, pm, an, cdv, ct, osl, rfl, lk, hcd, _, _⟩ := F.ex
  refine ⟨len, fun A out s H args us vs Q E hr hgd e0 hbi r hsp => ?_⟩
  refine StX.run_bnd lk hcd S hr e0 (G := fun xs H2 => xs = vs ∧ H2 = H) (fun A' Ex Q' h => ?_) fun s2 H2 xs ⟨ex, eH⟩ hr' => ?_
  · exact hbi _ _ _ _ (h s H vs us e0 Un.refl rfl (fun _ _ z => z) r (len _ _ _ _ hsp) ⟨rfl, rfl⟩)
  · subst ex eH
    exact hb cdv A out s2 _ _ Q E hr' hgd hsp
end
abbrev t_rat_init (K : PySem.W.Frag) : TS := (tSeq (tIfS (tNot (tAnd (tB (tCall (p_is_whole K) [] E0 (tCons (tVar 1) tNil))) (tAnd (tB (tCall (p_is_whole K) [] E0 (tCons (tVar 2) tNil))) (tAnd (tTest (tOp rGeI (tVar 1) (tC (.int 0)))) (tTest (tOp rGeI (tVar 2) (tC (.int 1)))))))) tNever tNext)
    (tSeq (tAsg (tCB rGcd (tCons (tVar 1) (tCons (tVar 2) tNil))) (gName 3))
    (tSeq (sFld K (tVar 0) (tOp rDivW (tVar 1) (tVar 3)) "_num") (sFld K (tVar 0) (tOp rDivW (tVar 2) (tVar 3)) "_den"))))
theorem run_ifF {K : PySem.W.Frag} {S S1 : Sta} {ρ : List (Option Dt)} {c : TT} {t u w : TS} {D : Ends} {σ : L2.St} {H : Hp} (h : EvT K S S1 ρ c (Eq false)) (i : S.I H) (s : Slots K H σ ρ) (k : ∀ H1, Gr H H1 → S1.I H1 → (tSeq u w) D σ H1) : (tSeq (tIfS c t u) w) D σ H := h σ H i s _ fun b H1 g1 i1 e => by
  subst e
  rw [if_neg Bool.false_ne_true]
  exact k H1 g1 i1
/-- nothing but the instance changes -/
theorem rd_rat_init {K : PySem.W.Frag} {mg : Str → Option Value} {C fI pN gN pD gD : Addr} (T : RatT K mg C fI pN gN pD gD) {vs : List V} {H : Hp} {Q : VK} {E : XK} (h : spRI C vs H Q E) : t_rat_init K { nx := fun _ H' => Q .non H', rt := Q } (start ["self", "num", "den", "shared"] vs) H := by
  obtain ⟨x, dx, n, m, rfl, hx, n0, m1, mb, q⟩ := h
  have s0 : Slots K H (start ["self", "num", "den", "shared"] [.ref x, .int n, .int m]) [some (.raw (.ref x)), some (.int n), some (.int m), none] := slots_start (N := ["self", "num", "den", "shared"]) (ds := [.raw (.ref x), .int n, .int m]) (.cons (.raw _) (.cons (.int n) (.cons (.int m) .nil)))
  have hw : ∀ (i : Nat) (j : Int), ([some (Dt.raw (.ref x)), some (.int n), some (.int m), none] : List (Option Dt))[i]? = some (some (.int j)) → EvT K (staSame H) (staSame H) [some (.raw (.ref x)), some (.int n), some (.int m), none] (tB (tCall (p_is_whole K) [] E0 (tCons (tVar i) tNil))) (Eq true) := fun i j hi =>
    (et_B (ev_callF (ds := [.int j]) (f := one1 fun d => .bl (isW d)) (ea_cons (ev_var hi) ea_nil) rfl ⟨.int j, rfl, rfl⟩)).to rfl
  have hc : EvT K (staSame H) (staSame H) [some (.raw (.ref x)), some (.int n), some (.int m), none] (tNot (tAnd (tB (tCall (p_is_whole K) [] E0 (tCons (tVar 1) tNil))) (tAnd (tB (tCall (p_is_whole K) [] E0 (tCons (tVar 2) tNil))) (tAnd (tTest (tOp rGeI (tVar 1) (tC (.int 0)))) (tTest (tOp rGeI (tVar 2) (tC (.int 1)))))))) (Eq false) := (et_not (et_andT (hw 1 n rfl) (et_andT (hw 2 m rfl) (et_andT ((et_test (ev_op (ev_var rfl) ev_int rv_ge)).to (decide_eq_true n0)) ((et_test (ev_op (ev_var rfl) ev_int rv_ge)).to (decide_eq_true m1)))))).to rfl
  refine run_ifF hc (Same.refl H) s0 fun H1 g1 i1 => ?_
  have hx1 := i1 _ _ hx
  have mp : (0 : Int) < (Nat.gcd n.natAbs m.natAbs : Nat) := by
    have : 0 < Nat.gcd n.natAbs m.natAbs := Nat.gcd_pos_of_pos_right _ (by omega)
    omega
  have gb : ((Nat.gcd n.natAbs m.natAbs : Nat) : Int).natAbs < 2 ^ 8000 := by
    rw [Int.natAbs_natCast]
    exact Nat.lt_of_le_of_lt (Nat.le_of_dvd (by omega) (Nat.gcd_dvd_right _ _)) mb
  refine ⟨_, rfl, _, rfl, n, m, rfl, ?_⟩
  refine ⟨_, rfl, _, rfl, n, _, rfl, rfl, cdivs mp gb, ?_⟩
  refine ⟨_, rfl, x, C, dx, [], rfl, hx1, T.cl, T.an, by decide, ?_⟩
  refine ⟨_, rfl, _, rfl, m, _, rfl, rfl, cdivs mp gb, ?_⟩
  refine ⟨_, rfl, x, C, dx, _, rfl, upd_same, T.cl, T.ad, by show 1 < 1000; decide, ?_⟩
  rw [upd_upd]
  refine q _ (fun b o hb ho _ => ?_) (fun b o hb ho => ?_) ?_
  · rw [upd_ne hb]; exact i1 _ _ ho
  · rw [upd_ne hb]; exact i1 _ _ ho
  · rw [upd_same]; rfl
section
variable {K : PySem.W.Frag} {S S1 : Sta} {ρ : List (Option Dt)} {tl : TA} {n m : Int} {C : Addr} {E : XK}
/-- in lowest terms -/
def ratL (C : Addr) (n m : Int) : Dt := rat C (n / (Nat.gcd n.natAbs m.natAbs : Nat)) (m / (Nat.gcd n.natAbs m.natAbs : Nat))
theorem ev_mkrat (h : EvA K S S1 ρ tl (Eq [.int n, .int m])) (h0 : 0 ≤ n) (h1 : 1 ≤ m) (hb : m.natAbs < 2 ^ 8000) : Ev K S S1 ρ (tMake C (spRI C) [] E tl) (Eq (ratL C n m)) := fun σ H i s Q q =>
  h σ H i s _ fun vs ds H1 g1 i1 r1 e => by
    subst e
    obtain ⟨v, u, rfl, ra, rb⟩ := r1.twoI
    obtain rfl := ra.intI
    obtain rfl := rb.intI
    intro x dx hx hdx ne
    refine ⟨x, dx, n, m, rfl, upd_same, h0, h1, hb, fun H' _ k e => ⟨rfl, ?_⟩⟩
    have sm : Same H1 H' := fun b o eb => by
      have hbx : b ≠ x := ne_of_none eb hx
      have hbd : b ≠ dx := ne_of_none eb hdx
      refine k b o hbx ?_
      rw [upd_ne hbx, upd_ne hbd]
      exact eb
    exact q _ _ H' (g1.trans sm.gr) (S1.st i1 sm) (rep_rat e) rfl
end
end Bf
namespace Bf
open PySem PySem.Spec PyProof.Rows L2 PySem.SeqAt
open AutoSeq1 (wpAny_loadPart')
/-! ## == of tuples that hold instances -/
theorem tuple_eqFirst (l b : Addr) (items items2 : Array Value) (n n2 : Nat) (dd dd2 : Option Addr) (sl sl2 : Array (Option Value)) :
    Meets (Builtin.«tuple.__eq__» ⟨[.ref l, .ref b], []⟩)
      (fun A R s => s.heap.get? l = some { cls := .type "tuple", dict := dd, data := .seq items n, slots := sl } ∧ s.heap.get? b = some { cls := .type "tuple", dict := dd2, data := .seq items2 n2, slots := sl2 } ∧
        (∃ (h1 : 0 < items.size) (h2 : 0 < items2.size), EqAt A.in1 s items[0] items2[0] false) ∧ R (.ok (.ret (.bool false))) s) :=
  .of_wp fun prog w A R s h => by
    obtain ⟨hp, g, d, tk, os⟩ := s; obtain ⟨hl, hb, ⟨h1, h2, he⟩, h⟩ := h
    have f2 := AutoSeq1.sub_tuple_tuple
    have hZ : 0 < (items.toList.zip items2.toList).length := by simp; omega
    wp_walk using wpAny_loadPart' hl, wpAny_loadPart' hb, wpAny_forIn_list _ (fun rest b s' => b.1 = none ∧ s' = ⟨hp, g, d, tk, os⟩ ∧ rest = items.toList.zip items2.toList) _
    case turn =>
      rintro ⟨y, x⟩ rest b s' ⟨hb', rfl, hz⟩
      have hz' : (items.toList.zip items2.toList) = (items.toList.zip items2.toList)[0] :: (items.toList.zip items2.toList).drop 1 := by
        rw [← List.drop_eq_getElem_cons hZ, List.drop_zero]
      rw [hz'] at hz
      injection hz with hyx hrest
      have hy : y = items[0] := by have := congrArg Prod.fst hyx; simpa using this
      have hx : x = items2[0] := by have := congrArg Prod.snd hyx; simpa using this
      subst hy hx
      refine wpAny_bind (he prog w _ _ ?_)
      wp_walk
      exact ⟨_, rfl, h⟩
    case fin =>
      rintro ⟨b1, b2⟩ s' ⟨hb', rfl, hz⟩
      rw [← hz] at hZ
      exact absurd hZ (by simp)
    case h =>
      exact ⟨rfl, rfl, rfl⟩
theorem dict_eq_declines_tuple (l b : Addr) (o : Obj) (items2 : Array Value) (n2 : Nat) (dd2 : Option Addr) (sl2 : Array (Option Value)) :
    Meets (Builtin.«dict.__eq__» ⟨[.ref l, .ref b], []⟩) (fun _ R s => s.heap.get? l = some o ∧ o.cls = .type "dict" ∧ s.heap.get? b = some { cls := .type "tuple", dict := dd2, data := .seq items2 n2, slots := sl2 } ∧ R (.ok (.ret .notImplemented)) s) :=
  .of_wp fun prog w A R s h => by obtain ⟨hp, g, d, tk, os⟩ := s; obtain ⟨hl, hc, hb, h⟩ := h; have f1 := F.sub_tuple_dict; wp_walk using wpAny_loadPart' hl, wpAny_loadPart' hb; exact ⟨_, rfl, h⟩
theorem tuple_eq_declines_dict (l b : Addr) (o : Obj) (items : Array Value) (n : Nat) (dd : Option Addr) (sl : Array (Option Value)) :
    Meets (Builtin.«tuple.__eq__» ⟨[.ref l, .ref b], []⟩) (fun _ R s => s.heap.get? l = some { cls := .type "tuple", dict := dd, data := .seq items n, slots := sl } ∧ s.heap.get? b = some o ∧ o.cls = .type "dict" ∧ R (.ok (.ret .notImplemented)) s) :=
  .of_wp fun prog w A R s h => by
    obtain ⟨hp, g, d, tk, os⟩ := s
    obtain ⟨hl, hb, hc, h⟩ := h
    obtain ⟨cls2, dd2, data2, sl2⟩ := o
    simp only at hc
    subst hc
    have f1 := F.sub_dict_tuple
    wp_walk using wpAny_loadPart' hl, wpAny_loadPart' hb
    exact ⟨_, rfl, h⟩
section
variable {A : Around} {s : Shared}
theorem RcAt_first {l b : Addr} {items items2 : Array Value} (hl : s.heap.IsTuple l items) (hb : s.heap.IsTuple b items2) (hu : A.units < cLine)
    (he : ∃ (h1 : 0 < items.size) (h2 : 0 < items2.size), EqAt A.in1 s items[0] items2[0] false) : RcAt A s (.ref l) (.ref b) false := fun prog w E Q h => by
  obtain ⟨⟨cls, dd, data, sl⟩, ho, hc, n, hd⟩ := id hl
  obtain ⟨⟨cls2, dd2, data2, sl2⟩, ho2, hc2, n2, hd2⟩ := id hb
  simp only at hc hd hc2 hd2
  subst hc hd hc2 hd2
  exact richCompare_meets_room (op := .Eq) ⟨_, ho, rfl⟩ ⟨_, ho2, rfl⟩ F.slot_tuple_eq F.entry_tuple_eq (F.args_tuple_eq_2 _ _) (tuple_eqFirst l b items items2 n n2 dd dd2 sl sl2)
    ⟨ho, ho2, he, show Value.bool false ≠ Value.notImplemented ∧ Q (.bool false) s from ⟨(fun x => nomatch x), h⟩⟩ hu
end
section
variable {A : Around} {s : Shared}
theorem RcAt_dict_tuple {l b : Addr} {o : Obj} {items2 : Array Value} (ho : s.heap.get? l = some o) (hc : o.cls = .type "dict") (hb : s.heap.IsTuple b items2) (hu : A.units < cLine) : RcAt A s (.ref l) (.ref b) false := fun prog w E Q h => by
  obtain ⟨⟨cls2, dd2, data2, sl2⟩, ho2, hc2, n2, hd2⟩ := id hb
  simp only at hc2 hd2
  subst hc2 hd2
  have hne : l ≠ b := fun e => by
    subst e
    rw [ho] at ho2
    cases ho2
    exact absurd hc (by simp)
  exact (rc_eq_decline_or (k := false) ⟨_, ho, hc⟩ ⟨_, ho2, rfl⟩ (by decide) F.sub_tuple_dict F.slot_dict_eq F.slot_tuple_eq_refl
    (fun _ hq => call_meets F.slot_dict_eq ⟨_, ho, hc⟩ F.entry_dict_eq (F.args_dict_eq_2 _ _) (dict_eq_declines_tuple l b o items2 n2 dd2 sl2) ⟨ho, hc, ho2, hq⟩)
    (fun _ hq => call_meets F.slot_tuple_eq_refl ⟨_, ho2, rfl⟩ F.entry_tuple_eq (F.args_tuple_eq_2 _ _) (tuple_eq_declines_dict b l o items2 n2 dd2 sl2) ⟨ho2, ho, hc, hq⟩)
    (fun _ hq => wpAny_isSame_ref_other hne ho ho2 (by rw [hc]; simp) hq) (.inr hu) h)
end
/-- how two values are seen to be equal, or not, by their first things; n deep -/
inductive EqW (K : PySem.W.Frag) (H : Hp) : Nat → V → V → Bool → Prop
  | same {n : Nat} {a : Addr} {xs : List V} : SqT K H a xs → EqW K H n (.ref a) (.ref a) true
  | nonT {n : Nat} {b : Addr} {ys : List V} : SqT K H b ys → EqW K H n .non (.ref b) false
  | intT {n : Nat} {i : Int} {b : Addr} {ys : List V} : SqT K H b ys → EqW K H n (.int i) (.ref b) false
  | strT {n : Nat} {x : Str} {b : Addr} {ys : List V} : SqT K H b ys → EqW K H n (.str x) (.ref b) false
  | tStr {n : Nat} {x : Str} {a : Addr} {xs : List V} : SqT K H a xs → EqW K H n (.ref a) (.str x) false
  | lstT {n : Nat} {a b : Addr} {xs ys : List V} : SqL K H a xs → SqT K H b ys → EqW K H n (.ref a) (.ref b) false
  | dicT {n : Nat} {a b : Addr} {ys : List V} : H a = some (.dK []) → SqT K H b ys → EqW K H n (.ref a) (.ref b) false
  | nilT {n : Nat} {a b : Addr} {y : V} {ys : List V} : SqT K H a [] → SqT K H b (y :: ys) → EqW K H n (.ref a) (.ref b) false
  | fst {n : Nat} {a b : Addr} {x y : V} {xs ys : List V} : SqT K H a (x :: xs) → SqT K H b (y :: ys) → x :: xs ≠ y :: ys → EqW K H n x y false → EqW K H (n + 1) (.ref a) (.ref b) false
theorem EqW.at_ {X : Cx} {pins : List (Addr × Obj)} {σ : L2.St} {H : Hp} {s : Shared} (I : L2.Inv X pins σ H s) : ∀ {n : Nat} {x y : V} {b : Bool}, EqW X.K H n x y b → ∀ {A : Around} {u v : Value}, A.units + n < cLine → RelV x u → RelV y v → RcAt A s u v b ∧ EqAt A s u v b
  | _, _, _, _, .same (a := a) ht, A, u, v, hu, ru, rv => by
    cases (show u = Value.ref a from ru)
    cases (show v = Value.ref a from rv)
    obtain ⟨its, r, p, _⟩ := I.tuple ht
    refine ⟨?_, EqAt.same _⟩
    have := RcAt.tuples (e := fun _ => true) p p (A := A) (s := s) (by omega) fun j h1 h2 => EqAt.same _
    have e : ((List.range (min its.toArray.size its.toArray.size)).all (fun _ => true) && its.toArray.size == its.toArray.size) = true := by simp
    rw [e] at this
    exact this
  | _, _, _, _, .nonT (b := b) ht, A, u, v, hu, ru, rv => by
    cases (show u = Value.none from ru)
    cases (show v = Value.ref b from rv)
    obtain ⟨its, r, p, _⟩ := I.tuple ht
    exact ⟨RcAt.none_tuple p (by omega), EqAt.none_tuple p (by omega)⟩
  | _, _, _, _, .intT (b := b) ht, A, u, v, hu, ru, rv => by
    obtain ⟨t, q⟩ := (show ∃ t, u = Value.int _ t from ru)
    cases q
    cases (show v = Value.ref b from rv)
    obtain ⟨its, r, p, _⟩ := I.tuple ht
    exact ⟨RcAt.int_tuple _ _ p (by omega), EqAt.int_tuple _ _ p (by omega)⟩
  | _, _, _, _, .strT (b := b) ht, A, u, v, hu, ru, rv => by
    obtain ⟨t, q⟩ := (show ∃ t, u = Value.str _ t from ru)
    cases q
    cases (show v = Value.ref b from rv)
    obtain ⟨its, r, p, _⟩ := I.tuple ht
    exact ⟨RcAt.str_tuple _ _ p (by omega), EqAt.str_tuple _ _ p (by omega)⟩
  | _, _, _, _, .tStr (a := a) ht, A, u, v, hu, ru, rv => by
    cases (show u = Value.ref a from ru)
    obtain ⟨t, q⟩ := (show ∃ t, v = Value.str _ t from rv)
    cases q
    obtain ⟨its, r, p, _⟩ := I.tuple ht
    exact ⟨RcAt.tuple_str _ _ p (by omega), EqAt.tuple_str _ _ p (by omega)⟩
  | _, _, _, _, .lstT (a := a) (b := b) hl ht, A, u, v, hu, ru, rv => by
    cases (show u = Value.ref a from ru)
    cases (show v = Value.ref b from rv)
    obtain ⟨its, r, p, _⟩ := I.tuple ht
    obtain ⟨its2, r2, p2, _⟩ := I.list hl
    exact ⟨RcAt.list_tuple p2.isList p (by omega), EqAt.list_tuple p2.isList p (by omega)⟩
  | _, _, _, _, .dicT (a := a) (b := b) hd ht, A, u, v, hu, ru, rv => by
    cases (show u = Value.ref a from ru)
    cases (show v = Value.ref b from rv)
    obtain ⟨its, r, p, _⟩ := I.tuple ht
    obtain ⟨_, _, vs, _, o, es, ep, h1, h2, _⟩ := (show ObjOk X.prog X.w H s.heap a (.dK []) from I.hok a _ hd)
    have rc := RcAt_dict_tuple (A := A) (s := s) h1 h2.1 p (by omega)
    have hne : a ≠ b := fun e => by
      subst e
      obtain ⟨o2, ho2, hc2, _⟩ := p
      rw [h1] at ho2
      cases ho2
      rw [h2.1] at hc2
      exact absurd hc2 (by simp)
    exact ⟨rc, .of_refs hne rc⟩
  | _, _, _, _, .nilT (a := a) (b := b) h1 h2, A, u, v, hu, ru, rv => by
    cases (show u = Value.ref a from ru)
    cases (show v = Value.ref b from rv)
    obtain ⟨its, r, p, _⟩ := I.tuple h1
    obtain ⟨its2, r2, p2, _⟩ := I.tuple h2
    cases r
    have hl := r2.length
    have rc := RcAt.tuples (e := fun _ => true) p p2 (A := A) (s := s) (by omega) fun j h1 h2 => absurd h1 (by simp)
    have e : ((List.range (min ([] : List Value).toArray.size its2.toArray.size)).all (fun _ => true) && ([] : List Value).toArray.size == its2.toArray.size) = false := by
      have : its2.length ≠ 0 := by rw [← hl]; simp
      simp
      intro z
      exact this (by rw [z])
    rw [e] at rc
    have hne : a ≠ b := fun z => by
      subst z
      have := I.tuple_inj h1 h2
      cases this
    exact ⟨rc, .of_refs hne rc⟩
  | _, _, _, _, .fst (a := a) (b := b) h1 h2 hd h, A, u, v, hu, ru, rv => by
    cases (show u = Value.ref a from ru)
    cases (show v = Value.ref b from rv)
    obtain ⟨its, r, p, _⟩ := I.tuple h1
    obtain ⟨its2, r2, p2, _⟩ := I.tuple h2
    cases r with
    | cons ra rr =>
      cases r2 with
      | cons rb rr2 =>
        have q := EqW.at_ I h (A := A.in1) (by rw [units_in1]; omega) ra rb
        have rc := RcAt_first (A := A) (s := s) p p2 (by omega) ⟨by simp, by simp, by simpa using q.2⟩
        have hne : a ≠ b := fun z => by
          subst z
          exact hd (I.tuple_inj h1 h2)
        exact ⟨rc, .of_refs hne rc⟩
end Bf
namespace Bf
open PySem PySem.Spec PyProof.Rows L2
open AutoSeq1 (wpAny_loadPart')
/-! ## enumerate(a tuple) -/
section
variable {prog : Program} {w : World} {A : Around} {E : Value → Shared → Prop} {s : Shared}
end
section
variable {prog : Program} {w : World} {A : Around} {E : Value → Shared → Prop} {s : Shared}
end
section
variable {K : PySem.W.Frag} {S SB : Sta} {L : List Addr} {ρ : List (Option Dt)} {P : Po} {tl : TE} {t : TS}
end
end Bf
namespace Bf
open PySem PySem.Spec PyProof.Rows L2
/-! ## Ratios' members in terms -/
structure RatG (K : PySem.W.Frag) (C gN : Addr) (hN : FuncData) (gD : Addr) (hD : FuncData) : Prop where
  n : ∀ (P : Program) (w : World) (mg : Str → Option Value) (base : Heap), FnOk P w K mg base CX0 1 gN hN ["self"] (getSp C "_num")
  d : ∀ (P : Program) (w : World) (mg : Str → Option Value) (base : Heap), FnOk P w K mg base CX0 1 gD hD ["self"] (getSp C "_den")
  bn : Binds K hN ["self"] []
  bd : Binds K hD ["self"] []
structure RatI (P : Program) (K : PySem.W.Frag) (mg : Str → Option Value) (fI : Addr) (fd : FuncData) (C : Addr) : Prop where
  i : ∀ (w : World) (base : Heap), GOk P w K mg base 2 fI fd ["self", "num", "den"] (spRI C)
  b2 : Binds K fd ["self", "num", "den"] []
  b1 : ∃ ds, Vals [V.int 1] ds ∧ Binds K fd ["self", "num", "den"] ds
section
variable {X : Cx} {C fI pN gN pD gD : Addr} {hN hD fd : FuncData} {e : Expr} {es : List Expr} {te : TE} {t : TA} {p pos : Pos}
theorem pe_num (T : RatT X.K X.mg C fI pN gN pD gD) (G : RatG X.K C gN hN gD hD) (hr : Room 2 X.A) (he : PE X e te) (hab : attributeBase e "num" X.env (eval e X.env) = eval e X.env := by rfl) : PE X (.Attribute e "num" pos) (tProp C (getSp C "_num") [] E0 te) :=
  pe_prop he T.cl T.pn (G.n _ _ _ _) hr G.bn .nil pass0 hab
theorem pe_mk2 (T : RatT X.K X.mg C fI pN gN pD gD) (I : RatI X.prog X.K X.mg fI fd C) (hr : Room 3 X.A) (hgd : X.A.guards = some []) (ha : PA X (e :: es) t) (hg : Gl X "Ratio" := by rfl)
    (he : starEach (e :: es) X.env = (false, eval e X.env) :: starEach es X.env := by rfl) (hpl : (backTo pos (starEach es X.env)).any (·.1) = false := by rfl) : PE X (.Call (.Name "Ratio" p) (e :: es) [] pos) (tMake C (spRI C) [] E0 t) :=
  pe_makeG T.mK (I.i _ _) hr hgd T.gC I.b2 .nil passL ha hg (by decide) he hpl
theorem pe_mk1 (T : RatT X.K X.mg C fI pN gN pD gD) (I : RatI X.prog X.K X.mg fI fd C) (hr : Room 3 X.A) (hgd : X.A.guards = some []) (ha : PA X (e :: es) t) (hg : Gl X "Ratio" := by rfl)
    (he : starEach (e :: es) X.env = (false, eval e X.env) :: starEach es X.env := by rfl) (hpl : (backTo pos (starEach es X.env)).any (·.1) = false := by rfl) : PE X (.Call (.Name "Ratio" p) (e :: es) [] pos) (tMake C (spRI C) [.int 1] E0 t) := by
  obtain ⟨ds, r, b⟩ := I.b1
  exact pe_makeG T.mK (I.i _ _) hr hgd T.gC b r passL ha hg (by decide) he hpl
end
section
variable {K : PySem.W.Frag} {S S1 : Sta} {ρ : List (Option Dt)} {tl : TA} {n : Int} {C : Addr} {E : XK}
/-- Ratio(n) -/
theorem ev_mkrat1 (h : EvA K S S1 ρ tl (Eq [.int n])) (h0 : 0 ≤ n) : Ev K S S1 ρ (tMake C (spRI C) [.int 1] E tl) (Eq (rat C n 1)) := fun σ H i s Q q =>
  h σ H i s _ fun vs ds H1 g1 i1 r1 e => by
    subst e
    obtain ⟨v, rfl, ra⟩ := r1.oneI
    obtain rfl := ra.intI
    intro x dx hx hdx ne
    refine ⟨x, dx, n, 1, rfl, upd_same, h0, by decide, by decide, fun H' _ k e => ⟨rfl, ?_⟩⟩
    have sm : Same H1 H' := fun b o eb => by
      have hbx : b ≠ x := ne_of_none eb hx
      have hbd : b ≠ dx := ne_of_none eb hdx
      refine k b o hbx ?_
      rw [upd_ne hbx, upd_ne hbd]
      exact eb
    have e1 : ((Nat.gcd n.natAbs (1 : Int).natAbs : Nat) : Int) = 1 := by
      show ((Nat.gcd n.natAbs 1 : Nat) : Int) = 1
      rw [Nat.gcd_one_right]
      rfl
    rw [e1, Int.ediv_one, Int.ediv_one] at e
    exact q _ _ H' (g1.trans sm.gr) (S1.st i1 sm) (rep_rat e) rfl
end
/-! ### try .. except C: without a name -/
section
variable {K : PySem.W.Frag} {S S1 SB SF : Sta} {L : List Addr} {ρ : List (Option Dt)} {P : Po} {te : TE} {w : TS} {d : Dt} {f : Str} {C : Addr} {c : Value} {tw : WX → TS} {ts : Addr → Value → Option Addr → TS} {Wout : WX}
theorem so_onlyOk (h : ∀ W, Sg K S SB SF L (tw W) ρ P) : Sg K S SB SF L (fun D σ H => tw (wOnly K c ts Wout D) D σ H) ρ P := fun D σ B H b hi s ft => h (wOnly K c ts Wout D) D σ B H b hi s ft
theorem so_onlyEr (hm : PySem.W.exmOne K (.ref C) c = some true)
    (hb : ∀ (W : WX) (D : Ends) (σ : L2.St) (H : Hp), S.I H → Slots K H σ ρ → (∀ a v H', Gr H H' → S1.I H' → H' a = some (.xd [(f, v)]) → Rep K H' v d → W (.ref C) (some a) σ H') → tw W D σ H)
    (hs : ∀ (e a : Addr), Sg K S1 SB SF L (ts e (.ref C) (some a)) ρ P) :
    Sg K S SB SF L (fun D σ H => tw (wOnly K c ts Wout D) D σ H) ρ P := fun D σ B H b hi s ft =>
  hb _ D σ H hi s fun a v H' g i' ha rv => ⟨true, hm, fun _ e he => hs e a _ _ B H' (b.up g) i' (s.mono g) (ft.mono (Gr.refl _)), fun z => nomatch z⟩
end
end Bf
namespace Bf
open PySem PySem.Spec PyProof.Rows L2
/-! ## C.m(..), m a classmethod; c(..), c a local that holds a class -/
section
variable {X : Cx} {k : Nat} {f C p g : Addr} {fd : FuncData} {ps : List Str} {sp : Sp} {E : XK} {x m : Str} {q pos apos : Pos} {e o : Expr} {es : List Expr} {t : TA} {ta : TE} {dvs : List V} {ds : List Value} {i : Nat} {mc : Value} {pl : Sem Bool}
/-- c(e, ..): the class stands in a slot -/
def tMakeL (i : Nat) (C : Addr) (sp : Sp) (dvs : List V) (E : XK) (t : TA) : TE := fun σ H Q => σ[i]? = some (some (.ref C)) ∧ tMake C sp dvs E t σ H Q
theorem pe_makeL (M : Mk X.K C f) (F : GOk X.prog X.w X.K X.mg X.base k f fd ps sp) (hr : Room (k + 1) X.A) (hgd : X.A.guards = some []) (hN : X.N[i]? = some x) (hv : Vis X.env.scope x) (hb : Binds X.K fd ps ds) (hd : Vals dvs ds) (hx : Passes (L2.CX X.prog X.w) X E)
    (ha : PA X (e :: es) t) (hdb : (x == ("__debug__" : Str)) = false := by decide) (hcd : (x == ("__classdict__" : Str)) = false := by decide) (he : starEach (e :: es) X.env = (false, eval e X.env) :: starEach es X.env := by rfl) (hpl : (backTo pos (starEach es X.env)).any (·.1) = false := by rfl) :
    PE X (.Call (.Name x q) (e :: es) [] pos) (tMakeL i C sp dvs E t) := by
  refine ⟨fun pins s0 σ H0 Q I0 h => ?_⟩
  obtain ⟨hs, h⟩ := h
  refine wpAny_Call_Name_kw (thn ((pe_var (pos := q) hN hv hdb hcd).run pins s0 σ H0 (fun v H1 => v = .ref C ∧ H1 = H0) I0 ⟨.ref C, hs, rfl, rfl⟩) fun u s ⟨v, H, I, r1, q1⟩ => ?_)
  obtain ⟨rfl, rfl⟩ := q1
  cases r1
  refine PySem.W.callWith_K (h₀ := X.base) I.ok.mod.kin M.kp (thn (ha.run pos pins s σ _ _ I h) fun us s1 ⟨vs, H1, I1, r, q⟩ => ⟨I1.kIn, ?_⟩) he hpl
  have hq := q (s1.heap.objs.size + 1) s1.heap.objs.size (I1.hok.fresh (Nat.le_succ _)) (I1.hok.fresh (Nat.le_refl _)) (Nat.ne_of_lt (Nat.lt_succ_self _))
  have I2 := L2.Inv.made (C := C) I1
  have r2 : Vals (V.ref (s1.heap.objs.size + 1) :: (vs ++ dvs)) (Value.ref (s1.heap.objs.size + 1) :: (us ++ ds)) := .cons rfl (r.append hd)
  have hl : (Value.ref (s1.heap.objs.size + 1) :: us ++ ds).length = ps.length := by
    have e := r2.length
    rw [F.len _ _ _ _ hq] at e
    exact e.symm
  refine wpAny_call (make_map (f := f) I1.kIn M.makes M.init (beq_iff_eq.mp M.fn) (codeAny_mono (F.go _ X.stack _ _ ⟨Value.ref (s1.heap.objs.size + 1) :: us, []⟩ (Value.ref (s1.heap.objs.size + 1) :: (us ++ ds)) _ _ E (hr.make C us []) (by first | exact hgd | (simpa [Around.under] using hgd))
    (I2.env0.make C us []) (hb _ (Value.ref (s1.heap.objs.size + 1) :: us) I2.kIn hl) r2 hq) fun r s' hq' => ?_))
  cases r with
  | error e => exact hx pins σ _ _ e s' I2 hq'
  | ok fl =>
    cases fl with
    | ret u =>
      obtain ⟨v, H', I3, rv, ev, q3⟩ := I2.after hq'
      subst ev
      exact ⟨rv, ⟨V.ref (s1.heap.objs.size + 1), H', I3, rfl, q3⟩⟩
    | next => exact False.elim hq'
    | brk => exact False.elim hq'
    | cont => exact False.elim hq'
end
end Bf
namespace Bf
open PySem PySem.Spec PyProof.Rows L2
/-! ## defs whose exceptions have no context; raise C(e) from None where an error is handled -/
structure GOkN (P : Program) (w : World) (K : PySem.W.Frag) (mg : Str → Option Value) (base : Heap) (k : Nat) (f : Addr) (fd : FuncData) (ps : List Str) (sp : Sp) : Prop where
  len : ∀ vs H Q E, sp vs H Q E → vs.length = ps.length
  go : ∀ (A : Around) (out : List Env) (s : Shared) (H : Hp) (args : Args) (us : List Value) (vs : List V) (Q : VK) (E : XK),
    Room k A → A.guards = some [] → Env0 P w K mg base A out s H → BindsTo s fd args (ps.zip us) → Vals vs us → sp vs H Q E →
    codeAny (model P w) A (.call (.ref f) args) (CR (L2N.CX P w) out P w H s Q E) s
section
variable {P : Program} {w : World} {K : PySem.W.Frag} {mg : Str → Option Value} {base : Heap}
theorem cxN_cx {out : List Env} {H : Hp} {s s' : Shared} {E : XK} {u : Value} (c : L2N.CX P w out H s E u s') : L2.CX P w out H s E u s' := by
  obtain ⟨a, B, H', cls, d, rfl, fl, r⟩ := c
  exact ⟨a, B, H', cls, d, rfl, L2H.flyingZ_imp (fun o z => z.zc) fl, r⟩
theorem GOkN.g {k : Nat} {f : Addr} {fd : FuncData} {ps : List Str} {sp : Sp} (G : GOkN P w K mg base k f fd ps sp) : GOk P w K mg base k f fd ps sp :=
  ⟨G.len, fun A out s H args us vs Q E r hg e b rv h => codeAny_mono (G.go A out s H args us vs Q E r hg e b rv h) fun r s' q => match r, q with
    | .error er, q => cxN_cx q
    | .ok (.ret u), q => q
    | .ok .next, q => q
    | .ok .brk, q => q
    | .ok .cont, q => q⟩
theorem okGN {x qual : Str} {st : Stmt} {f : Addr} {fd : FuncData} {N ps : List Str} {k : Nat} {sp : Sp} (F : Fun K x qual st f fd) (S : FnScope N ps (defScope st)) (len : ∀ vs H Q E, sp vs H Q E → vs.length = ps.length)
    (hb : ∀ (cdv : Value) (A : Around) (out : List Env) (s : Shared) (H : Hp) (vs : List V) (Q : VK) (E : XK), Room k (A.deeper (envOfC qual (defScope st) s.heap.objs.size f cdv)) → A.guards = some [] → sp vs H Q E →
      ∃ t, PSs (cxOf (L2N.CX P w) P w K mg base N qual (defScope st) f cdv A out s H E) (defBody st) t ∧ t { nx := fun _ H' => Q .non H', rt := Q } (start N vs) H) :
    GOkN P w K mg base (k + 1) f fd ps sp := by
  obtain ⟨oc, od, kV, doc, pm, an, cdv, ct, osl, rfl, lk, hcd⟩ := F.ex
  refine ⟨len, fun A out s H args us vs Q E hr hgd e0 hbi r hsp => ?_⟩
  refine StX.run_bnd lk hcd S hr e0 (G := fun xs H2 => xs = vs ∧ H2 = H) (fun A' Ex Q' h => ?_) fun s2 H2 xs ⟨ex, eH⟩ hr' => ?_
  · exact hbi _ _ _ _ (h s H vs us e0 Un.refl rfl (fun _ _ z => z) r (len _ _ _ _ hsp) ⟨rfl, rfl⟩)
  · subst ex eH
    exact hb cdv A out s2 _ _ Q E hr' hgd hsp
theorem okXN {x qual : Str} {st : Stmt} {g : Addr} {fd : FuncData} {N ps : List Str} {k : Nat} {R : List Dt → Out → Prop} (Fu : Fun K x qual st g fd) (Sc : FnScope N ps (defScope st))
    (hb : ∀ (cdv : Value) (A : Around) (out : List Env) (s : Shared) (H : Hp) (E : XK), Room k (A.deeper (envOfC qual (defScope st) s.heap.objs.size g cdv)) → A.guards = some [] →
      ∃ t, PSs (cxOf (L2N.CX P w) P w K mg base N qual (defScope st) g cdv A out s H E) (defBody st) t ∧ ∀ (S : Sta), S.Mu → ∀ (ds : List Dt) (o : Out), ds.length = ps.length → R ds o → (∀ C f d, o = .er C f d → XW K S C f d E) → So K S S [] t (startD N.length ds) (PO o)) :
    GOkN P w K mg base (k + 1) g fd ps (spX K ps.length R) := by
  refine okGN Fu Sc (fun vs H Q E h => ?_) fun cdv A out s H vs Q E hr hg h => ?_
  · obtain ⟨ds, o, r, hl, _⟩ := h
    exact r.len.trans hl
  · obtain ⟨ds, o, r, hl, hp, q⟩ := h
    obtain ⟨t, ht, so⟩ := hb cdv A out s H E hr hg
    have hw : ∀ C f d, o = .er C f d → XW K (staSame H) C f d E := fun C f d e a v H' i ha rv => by
      subst e
      exact q a v H' i ha rv
    refine ⟨t, ht, so (staSame H) staSame_mu ds o hl hp hw _ _ H H ⟨Gr.refl H, Same.refl H, fun _ z => nomatch z⟩ (Same.refl H) (slots_start r) ⟨fun σ ρ H' g i s' e => ?_, fun v d' H' g i r' e => ?_, fun σ ρ H' g i s' e => ?_, fun σ ρ H' g i s' e => ?_⟩⟩
    · cases o with
      | ok d => exact q _ H' i ((show d = .non from e) ▸ .non)
      | er => exact (show False from e).elim
    · cases o with
      | ok d => exact q v H' i ((show d = d' from e) ▸ r')
      | er => exact (show False from e).elim
    · cases o <;> exact (show False from e).elim
    · cases o <;> exact (show False from e).elim
end
section
variable {X : Cx} {C fI : Addr} {x f : Str}
theorem pmk5_bad {a : Expr} {ta : TA} {p pos : Pos} (T : BadCls X.prog X.K X.mg x f C fI) (hd : X.A.depth + 1 < recursionLimit) (ha : PA X [a] ta) (hg : Gl X x := by rfl) (hdb : (x == ("__debug__" : Str)) = false := by decide)
    (he : starEach (a :: []) X.env = (false, eval a X.env) :: starEach [] X.env := by rfl) (hpl : (backTo pos (starEach [] X.env)).any (·.1) = false := by rfl) :
    L2H.PMk5 X (.Call (.Name x p) [a] [] pos) (tMkB C f ta) := by
  intro pins s σ H Q I h
  refine wpAny_Call_Name_kw (ld_glob I hg T.gC ?_ hdb)
  refine PySem.W.callWith_K (h₀ := X.base) I.ok.mod.kin T.kC (thn (ha.run pos pins s σ H _ I h) fun us s1 hh => ?_) he hpl
  obtain ⟨vs, H1, I1, r1, v, rfl, q1⟩ := hh
  refine ⟨I1.kIn, ?_⟩
  obtain ⟨u, rfl, ru⟩ := r1.one
  show wpAny _ _ (call (.ref C) [u]) _ _ _
  have hlim := I1.nolimit
  obtain ⟨mb, hb1, hb2⟩ := I1.mod.blt
  have hg1 := I1.mod.glob.keeps I1.bk
  have hb3 := hb1.keeps I1.bk
  obtain ⟨hp, g, dr, tk, os⟩ := s1
  refine wpAny_call (bad_made T.T I1.kIn hlim hg1 hb3 T.ms ((hb2 _ (by decide)).trans (by first | rfl | decide +kernel)) T.top T.fn hd fun h' tk' e d M => ?_)
  show L2N.MkP X pins σ Q (.ref e) ⟨h', g, dr, tk', os⟩ ∧ L2H.Six (.ref e) ⟨h', g, dr, tk', os⟩
  obtain ⟨t1, hoe⟩ := M.obj
  obtain ⟨G', g1, g2⟩ := restrict h' fun b => decide (b ≠ e)
  have gk : ∀ b, b ≠ e → G'.get? b = h'.get? b := fun b hb => g1 b (decide_eq_true hb)
  have ge : G'.get? e = none := g2 e (by simp)
  have old : ∀ b o, hp.get? b = some o → G'.get? b = some o := fun b o q => (gk b (Nat.ne_of_lt (Nat.lt_of_lt_of_le (Heap.lt_size q) M.new))).trans (M.keep b o q)
  have ob : ObjOk X.prog X.w (upd H1 d (.xd [(f, v)])) G' d (.xd [(f, v)]) := ⟨_, M.ns.at (fun o q => (gk d M.dne).trans q), fun y => relO_one ru y⟩
  have J : Inv X pins σ (upd H1 d (.xd [(f, v)])) ⟨G', g, dr, tk', os⟩ := I1.laid (t' := tk') old M.dbig ob
  refine ⟨⟨e, _, _, ⟨G', g, dr, tk', os⟩, _, .ref C, some d, rfl, J, fun b o q => ?_, ge, hoe, ⟨rfl, rfl, fun vs hv => by cases hv; rfl⟩, rfl, rfl, ?_, rfl, I1.bare, raises_own T.exC T.tyC, q1 d (I1.hok.fresh M.dbig)⟩, fun a' oe vs ea2 hg2 hd2 => ?_⟩
  · by_cases hb : b = e
    · have q' : G'.get? b = some o := q
      rw [hb, ge] at q'
      cases q'
    · exact (gk b hb).symm.trans q
  · rw [upd_ne (Ne.symm M.dne)]
    exact I1.hok.fresh M.new
  · cases ea2
    have hg2' : h'.get? e = some oe := hg2
    rw [hoe] at hg2'
    cases hg2'
    cases hd2
    show 4 < 6
    decide
/-- raise C(e), the context None -/
theorem ps_raiseBN {a : Expr} {ta : TA} {W : WX} {p pos pos2 : Pos} (hc : X.calm = true) (T : BadCls X.prog X.K X.mg x f C fI) (hd : X.A.depth + 1 < recursionLimit) (tk : L2N.Takes X W) (ha : PA X [a] ta) (hg : Gl X x := by rfl) (hdb : (x == ("__debug__" : Str)) = false := by decide)
    (he : starEach (a :: []) X.env = (false, eval a X.env) :: starEach [] X.env := by rfl) (hpl : (backTo pos (starEach [] X.env)).any (·.1) = false := by rfl) :
    PS X (.Raise (some (.Call (.Name x p) [a] [] pos)) none pos2) (tRaiseB C f W ta) := L2N.ps_raise hc tk (pmk5_bad T hd ha hg hdb he hpl).pmk
/-- raise C(e) from None -/
theorem ps_raiseBH {a : Expr} {ta : TA} {W : WX} {p pos pos2 cpos : Pos} {j : Nat} (hc : L2H.HotC X) (T : BadCls X.prog X.K X.mg x f C fI) (hd : X.A.depth + 1 < recursionLimit) (tk : L2.Takes X W) (ha : PA X [a] ta) (hg : Gl X x := by rfl) (hdb : (x == ("__debug__" : Str)) = false := by decide)
    (he : starEach (a :: []) X.env = (false, eval a X.env) :: starEach [] X.env := by rfl) (hpl : (backTo pos (starEach [] X.env)).any (·.1) = false := by rfl) :
    PS X (.Raise (some (.Call (.Name x p) [a] [] pos)) (some (.Constant .none j cpos)) pos2) (tRaiseB C f W ta) := L2H.ps_raiseHN hc tk (pmk5_bad T hd ha hg hdb he hpl)
end
section
variable {X : Cx} {k : Nat} {f C p g : Addr} {fd : FuncData} {ps : List Str} {sp : Sp} {E : L2.St → XK} {m : Str} {q pos apos : Pos} {e o : Expr} {es : List Expr} {t : TA} {ta : TE} {mc : Value} {pl : Sem Bool}
theorem run_cmS {pins : List (Addr × Obj)} {σ : L2.St} {H : Hp} {s : Shared} {Q : VK} {us : List Value} {vs : List V} {b : Addr} (F : GOkN X.prog X.w X.K X.mg X.base k g fd ps sp) (hr : Room k X.A) (hgd : X.A.guards = some []) (hb : Binds X.K fd ps []) (hx : PassesAt (L2N.CX X.prog X.w) X σ (E σ)) (I : Inv X ((b, PySem.W.methodObj (.ref g) (.ref C)) :: pins) σ H s)
    (r : Vals vs us) (h : sp (.ref C :: vs) H Q (E σ)) : wpAny (model X.prog X.w) X.A (call (.ref b) us) (EP X pins σ Q) X.xe s := by
  have r2 : Vals (V.ref C :: vs) (Value.ref C :: us) := .cons rfl r
  have hl : (Value.ref C :: us ++ []).length = ps.length := by
    have e := r2.length
    rw [F.len _ _ _ _ h] at e
    rw [List.append_nil]
    exact e.symm
  have z : wpAny (model X.prog X.w) X.A (call (.ref b) us) (EP X ((b, PySem.W.methodObj (.ref g) (.ref C)) :: pins) σ Q) X.xe s := by
    refine wpAny_call (PySem.W.method_call (ClX.pin_at I) ?_)
    refine codeAny_mono (F.go X.A X.stack s H ⟨.ref C :: us, []⟩ (.ref C :: us) _ Q (E σ) hr hgd I.env0 (by
      have := hb s (.ref C :: us) I.kIn hl
      simpa using this) r2 h) fun r' s' hq => ?_
    match r', hq with
    | .error er, hq => exact hx _ H s er s' I hq
    | .ok (.ret u), hq => exact I.after hq
    | .ok .next, hq => exact hq.elim
    | .ok .brk, hq => exact hq.elim
    | .ok .cont, hq => exact hq.elim
  exact thn z fun _ _ y => ClX.unpinE y
/-- C.m(e, ..) in a try -/
def tCMethS (C : Addr) (sp : Sp) (E : L2.St → XK) (ta : TE) (t : TA) : TE := fun σ H Q => ta σ H fun x H1 => x = .ref C ∧ t σ H1 fun vs H2 => sp (.ref C :: vs) H2 Q (E σ)
theorem pe_cmS (he : PE X o ta) (r : ClX.CRead X.K C mc) (c : ClX.CMet X.K C mc m p g) (F : GOkN X.prog X.w X.K X.mg X.base k g fd ps sp) (hr : Room k X.A) (hgd : X.A.guards = some []) (hb : Binds X.K fd ps []) (hx : ∀ σ, PassesAt (L2N.CX X.prog X.w) X σ (E σ)) (ha : PA X (e :: es) t)
    (hst : starEach (e :: es) X.env = (false, eval e X.env) :: starEach es X.env := by rfl) (hpl : (backTo pos (starEach es X.env)).any (·.1) = false := by rfl)
    (ht : eval (.Call (.Attribute o m apos) (e :: es) [] pos) X.env = (do
      let ov ← eval o X.env
      standAt apos.atName
      let (f, first) ← holding [ov] (getMethod ov m pl)
      callWith pos f first (backTo pos (starEach (e :: es) X.env)) (backToKw pos (keywordEach [] X.env))) := by rfl) :
    PE X (.Call (.Attribute o m apos) (e :: es) [] pos) (tCMethS C sp E ta t) := by
  refine ⟨fun pins s σ H Q I h => ?_⟩
  refine PySem.W.methodCall_KW (pl := pl) (thn (he.run pins s σ H _ I h) fun u s1 ⟨x, H1, I1, rx, ex, q⟩ => ?_) ht
  subst ex
  obtain rfl : u = Value.ref C := rx
  refine ClX.getmethcm_ok I1 r c fun s2 I2 => ?_
  refine ClX.callwith_cm I2 (ClX.base_none I1 (Nat.le_refl _)) c.fi (thn (ha.run pos _ s2 σ H1 _ I2 q) fun us s3 ⟨vs, H2, I3, rv, q2⟩ => ⟨⟨ClX.pin_at I3, I3.kIn⟩, ?_⟩) hst hpl
  exact run_cmS F hr hgd hb (hx σ) I3 rv q2
end
/-! ### over data -/
section
variable {K : PySem.W.Frag} {S S1 SB SF : Sta} {L : List Addr} {ρ : List (Option Dt)} {P : Po} {tl : TA} {w : TS} {n : Nat} {R : List Dt → Out → Prop} {E : XK} {C D0 : Addr} {f : Str} {d : Dt} {ds : List Dt} {c : TT} {u : TS}
theorem ev_cmS {Es : L2.St → XK} (ha : EvA K S S1 ρ tl (Eq ds)) (hn : ds.length + 1 = n) (hp : R (.raw (.ref C) :: ds) (.ok d)) : Ev K S S1 ρ (tCMethS C (spX K n R) Es (tC (.ref C)) tl) (Eq d) := fun σ H i s Q q =>
  ⟨rfl, ha σ H i s _ fun vs ds' H1 g1 i1 r1 p1 => by
    subst p1
    exact ⟨_, .ok d, .cons (.raw _) r1, hn, hp, fun v H2 sm r => q v _ H2 (g1.trans sm.gr) (S1.st i1 sm) r rfl⟩⟩
theorem so_while1F (h : EvT K S S1 ρ c (Eq false)) (q : Sg K S1 SB SF L w ρ P) : Sg K S SB SF L (tSeq (tWhile c u) w) ρ P := fun D σ B H b i s ft =>
  ⟨fun _ σ' H' => σ' = σ ∧ H' = H, ⟨0, rfl, rfl⟩, fun m σ' H' ⟨e1, e2⟩ => by
    subst e1 e2
    refine h σ' H' i s _ fun b' H1 g1 i1 p1 => ?_
    subst p1
    rw [if_neg Bool.false_ne_true]
    exact q D σ' B H1 (b.up g1) i1 (s.mono g1) ft⟩
end
end Bf
namespace Bf
open PySem PySem.Spec PyProof.Rows L2
/-! ## a comprehension whose step may raise: what leaves its block -/
theorem note_same {x : Value} {e1 e2 : Env} (h : e1.frame = e2.frame) : noteFrame x e1 = noteFrame x e2 := by
  unfold noteFrame PySem.frameOf
  rw [h]
/-- behind the block, whose names stand at ce -/
def blkEnd (M : Model) (A : Around) (E : Value → Shared → Prop) (use : Option (Value → Sem Unit)) (Q : Value → Shared → Prop) (acc : Value) (ce : Env) : Result → Shared → Prop
  | .ok f, s' => compPost M A E use Q acc ce.locals (.ok f) s'
  | .error x, s' => ∃ m, s'.heap.Ns ce.locals m ∧ ∀ h2, Heap.SameBut ce.locals s'.heap h2 → wpAny M A (passOn "comprehension.variables-let-go" x ce : Sem Value) (fun _ _ => False) E { s' with heap := h2 }
section
variable {M : Model} {A : Around} {E : Value → Shared → Prop} {s : Shared} {env : Env}
theorem run_compr {e : Expr} {sc : Scope} {pos : Pos} {mk one : Sem Value} {g : Comprehension} {gs : List Comprehension} {cl : List (Str × Addr)} {use : Option (Value → Sem Unit)} {Q : Value → Shared → Prop}
    (c1 : clausesOf e = g :: gs) (c2 : ∀ x, foldedSetIterable g.iter env x = pure x) (c3 : closureFor sc env = pure cl) (c4 : sc.kind = .function) (c5 : ∀ x ∈ sc.names, x.2 = .local → sc.names.lookup x.1 = some .local)
    (h : wpAny M A one (fun x s1 => wpAny M A (pyIter x) (fun it s2 => wpAny M A mk (fun acc s3 => wpAny M A (newFunctionEnv sc env.globals cl [] env.qual none .none (some env)) (fun ce s4 =>
        codeAny M A (.compStart e 0 it acc { ce with scope := relabel sc env }) (blkEnd M A E use Q acc { ce with scope := relabel sc env }) s4) E s3) E s2) E s1) E s) :
    wpAny M A (comprehension e sc env pos mk false one use) Q E s := by
  unfold comprehension
  rw [c3, c1]
  refine wpAny_bind (wpAny_mono h (fun x s1 k1 => ?_) fun _ _ z => z)
  refine wpAny_bind (wpAny_standAt (wpAny_bind (wpAny_of_eq (c2 x) (wpAny_bind (wpAny_holding (wpAny_mono k1 (fun it s2 k2 => ?_) fun _ _ z => z))))))
  refine wpAny_standIf (wpAny_bind (wpAny_mono k2 (fun acc s3 k3 => ?_) fun _ _ z => z))
  refine wpAny_bind (wpAny_pure (wpAny_bind (wpAny_mono k3 (fun ce s4 k4 => ?_) fun _ _ z => z)))
  dsimp only
  generalize hvs : (sc.names.filter fun x => (x.2 == .local || x.2 == .cell) && x.1 != (".0" : Str)) = vs
  have hl : ∀ x ∈ vs, x.2 = .local → Env.kindOf { ce with scope := relabel sc env } x.1 = some .local := fun x hx e => by
    rw [← hvs] at hx
    exact lookup_relabel_local (c5 x (List.mem_filter.mp hx).1 e)
  refine wpAny_holding (wpAny_bind (wpAny_attempt (wpAny_holding (wpAny_run (codeAny_mono k4 fun r s5 k5 => ?_)))))
  match r, use, k5 with
  | .ok f, none, ⟨m, n1, q⟩ =>
    exact wpAny_bind (wpAny_holding (wpAny_comp_letGo (cenv := { ce with scope := relabel sc env }) c4 _ s5 m (fun x hx => hl x (List.mem_reverse.mp hx)) n1 fun h2 m2 _ sb => wpAny_pure (q h2 sb)))
  | .ok f, some u, k5 =>
    refine wpAny_bind (wpAny_rule (wpAny_bind (wpAny_holding (wpAny_mono (show wpAny M A (u acc) _ E s5 from k5) (fun _ s6 k6 => ?_) fun _ _ z => z))))
    obtain ⟨m, n1, q⟩ := k6
    refine wpAny_bind (wpAny_comp_letGo (cenv := { ce with scope := relabel sc env }) c4 _ s6 m (fun x hx => ?_) n1 fun h2 m2 _ sb => wpAny_pure (q h2 sb))
    rcases List.mem_append.mp hx with z | z
    · exact hl x (List.mem_reverse.mp (List.mem_of_mem_drop z))
    · exact hl x (List.mem_reverse.mp (List.mem_of_mem_take z))
  | .error x, u, ⟨m, n1, q⟩ =>
    exact wpAny_bind (wpAny_holding (wpAny_comp_letGo (cenv := { ce with scope := relabel sc env }) c4 _ s5 m (fun x hx => hl x (List.mem_reverse.mp hx)) n1 fun h2 m2 _ sb => wpAny_mono (q h2 sb) (fun _ _ f => f.elim) fun _ _ z => z))
end
theorem fun_but {h h' base base' : Heap} {C : Addr} (hs : ∀ b, b ≠ C → h'.get? b = h.get? b) (hb : ∀ b, base.get? b = none → base'.get? b = none) : ∀ {l : List Env}, C ∉ frs l → h.FunFrames base l → h'.FunFrames base' l
  | [], _, _ => trivial
  | env :: l, hc, ⟨k1, ⟨L, o, f1, f2, f3, f4⟩, k2⟩ => by
    have e : frs (env :: l) = L :: frs l := by show List.filterMap _ (env :: l) = _; rw [List.filterMap_cons, f1]; rfl
    rw [e] at hc
    refine ⟨k1, ⟨L, o, f1, hb L f2, ?_, f4⟩, fun_but hs hb (fun z => hc (List.mem_cons_of_mem _ z)) k2⟩
    rw [hs L (fun z => hc (by rw [z]; exact List.mem_cons_self))]
    exact f3
section
variable {X : Cx} {W : XK} {pins pins' : List (Addr × Obj)} {σ σ' : L2.St} {H3 H' : Hp} {s3 s' s2 : Shared} {fp : List Addr} {sc : Scope} {ce : Env} {xe' : Value → Shared → Prop} {use : Option (Value → Sem Unit)} {Qf : Value → Shared → Prop} {acc x : Value}
/-- a call's exception leaves the block and is in the air of the def -/
theorem blk_out (hfs : X.stack = X.env :: X.outer) (hfe : X.env.frame = some X.env.locals) (tk : L2.Takes X (fun cls d _ H => W cls d H)) (I3 : Inv X pins σ H3 s3) (cL : ce.locals = s3.heap.objs.size) (cF : ce.frame = X.env.frame)
    (f3 : ∀ b ∈ fp, FpOk X pins H3 b ∧ b < s3.heap.objs.size) (I' : Inv { X.blk s3 H3 sc ce fp with xe := xe' } pins' σ' H' s') (c : L2.CX X.prog X.w X.stack H' s' W x s2) :
    notedBy (model X.prog X.w) X.A ce (fun e s => blkEnd (model X.prog X.w) X.A X.xe use Qf acc ce (.error e) s) x s2 := by
  obtain ⟨a, B, Hn, cls, d, rfl, fl, hok, ub, na, os, ag, hW⟩ := c
  obtain ⟨m, hm, _⟩ := I'.loc
  obtain ⟨oC, es, ep, hoC, rest⟩ := hm
  have hoC : s'.heap.get? ce.locals = some oC := hoC
  have nHC : H' ce.locals = none := I'.free
  have hfr : X.A.frames = some (X.env :: X.outer) := by rw [I3.ok.frames, hfs]
  have nC : ce.locals ∉ frs X.stack := fun hb => by
    rcases List.mem_cons.mp (I3.stkSub _ hb) with z | z
    · have := I3.lt
      rw [← z, cL] at this
      exact absurd this (Nat.lt_irrefl _)
    · exact I3.nofs (Nat.le_of_eq cL.symm) z
  have hBC : B.get? ce.locals = some oC := ub.keep _ oC hoC nHC nC
  have hnC : Hn ce.locals = none := ub.free _ oC hoC nHC
  have fl' : HandSPX.FlyingZ B (X.env :: X.outer) a (Zc cls d) s2.heap := by rw [← hfs]; exact fl
  show wpAny _ X.A (noteFrame (.ref a) ce) _ _ s2
  rw [note_same cF]
  refine HandSPX.looks_onZ Zc.steady hfr hfe fl' fun h1 hd1 up1 => ?_
  refine ⟨m, ⟨oC, es, ep, hd1.1 _ _ hBC, rest⟩, fun h2 sb => ?_⟩
  have h2e : ∀ b, b ≠ ce.locals → h2.get? b = h1.get? b := fun b hb => sb.2 b hb
  obtain ⟨B2, b1, b2⟩ := restrict B fun b => decide (b ≠ ce.locals)
  have Bk : ∀ b, b ≠ ce.locals → B2.get? b = B.get? b := fun b hb => b1 b (decide_eq_true hb)
  have BC : B2.get? ce.locals = none := b2 _ (by simp)
  have Bn : ∀ b, B.get? b = none → B2.get? b = none := fun b hb => by
    by_cases z : b = ce.locals
    · rw [z]; exact BC
    · rw [Bk b z]; exact hb
  have neB : ∀ b, B.get? b = none → b ≠ ce.locals := fun b hb z => by rw [z, hBC] at hb; cases hb
  have hd2 : HandSPX.HeldZ B2 (X.env :: X.outer) a (Zc cls d) X.env.locals h2 := by
    obtain ⟨w1, w2, w3, oe, vs, T, oT, ts, t1, t2, t3, t4, t5, t6, t7, t8, t9⟩ := hd1
    refine ⟨fun b o e => ?_, Bn a w2, fun_but h2e Bn (by rw [← hfs]; exact nC) w3, oe, vs, T, oT, ts, by rw [h2e a (neB a w2)]; exact t1, t2, t3, t4, Bn T t5, t6, by rw [h2e T (neB T t5)]; exact t7, t8, t9⟩
    have hb : b ≠ ce.locals := fun z => by rw [z, BC] at e; cases e
    rw [h2e b hb]
    rw [Bk b hb] at e
    exact w1 b o e
  obtain ⟨_, _, _, oe, vs, T, oT, ts, t1, t2, t3, t4, _⟩ := id hd2
  unfold PySem.passOn
  refine wpAny_bind (wpAny_field t1 t3 t4 ?_)
  rw [if_neg (by simp : ¬ ((Value.ref T == Value.none) = true))]
  have fin : wpAny (model X.prog X.w) X.A (setFlight (.ref a) ce.frame) (fun _ s4 => wpAny (model X.prog X.w) X.A (throw (.ref a) : Sem Value) (fun _ _ => False) X.xe s4) X.xe { s2 with heap := h2 } := by
    rw [cF, hfe]
    refine HandSPX.setFlight_onZ (s := { s2 with heap := h2 }) hd2 fun h4 hd4 up4 => wpAny_throw (tk _ _ ?_)
    -- the state without the exception
    obtain ⟨G, g1, g2⟩ := restrict h4 fun b => (B2.get? b).isSome || decide (b ∈ frs X.stack)
    have gB : ∀ b o, B2.get? b = some o → G.get? b = some o := fun b o e => (g1 b (by simp [e])).trans (hd4.1 b o e)
    have gF : ∀ b, b ∈ frs X.stack → G.get? b = h4.get? b := fun b hb => g1 b (by simp [hb])
    have gO : ∀ b o, G.get? b = some o → h4.get? b = some o ∧ ((B2.get? b).isSome = true ∨ b ∈ frs X.stack) := fun b o e => by
      by_cases q : ((B2.get? b).isSome || decide (b ∈ frs X.stack)) = true
      · rw [g1 b q] at e
        rw [Bool.or_eq_true, decide_eq_true_eq] at q
        exact ⟨e, q⟩
      · rw [g2 b (by simpa using q)] at e
        cases e
    have old : ∀ {b : Addr} {o : Obj}, s3.heap.get? b = some o → b ≠ ce.locals := fun {b o} e z => by
      have := Heap.lt_size e
      rw [z, cL] at this
      exact absurd this (Nat.lt_irrefl _)
    have slotF : ∀ b o, s3.heap.get? b = some o → b ∈ frs X.stack → b ∉ fp → ∃ sl, G.get? b = some { o with slots := sl } := fun b o e hb hx => by
      obtain ⟨_, o0, e0, nf⟩ := I3.stack.mem hb
      rw [e] at e0
      cases e0
      obtain ⟨l1, q1⟩ := I'.base.slot b o e (I'.ok.frf b hb) hb hx
      obtain ⟨l2, q2⟩ := ub.slot b _ q1 hb
      obtain ⟨l3, q3⟩ := up1 b _ q2 nf
      have q4 : h2.get? b = _ := (h2e b (old e)).trans q3
      obtain ⟨l5, q5⟩ := up4 b _ q4 nf
      exact ⟨l5, (gF b hb).trans q5⟩
    have hok2 : HOk X.prog X.w Hn B2 := fun b u e => by
      have nit : ∀ (y : Addr) (v : HO), Hn y = some v → y ≠ ce.locals := fun y v q z => by rw [z, hnC] at q; cases q
      refine (hok b u e).stay (fun y v hc q => ?_) (fun _ q => q) fun _ _ q => q
      rw [Bk y]
      · exact q
      · rcases hc with z | z
        · rw [z]; exact nit b u e
        · exact nit y _ z
    refine ⟨a, B2, { s' with heap := G, gens := s2.gens, drawn := s2.drawn, toks := s2.toks }, pins, σ, Hn, cls, d, rfl, ?_, fun b o e hb => ?_, Heap.UpToSlots.of_keeps fun b o e => (gO b o e).1, .inr (.inr (by rw [hfs]; exact hd4)), na, os, ag, hW⟩
    · refine I3.call' (ch := fp) I'.os ⟨fun b o e n hb hx => ?_, fun b o e n hb hx => slotF b o e hb hx, fun b o e n hx => ?_, fun b o e hx => ?_, fun b xs e => ub.tups b xs (I'.base.tups b xs e), fun b o u e => ub.frzs b o u (I'.base.frzs b o u e), fun b ps e => ?_⟩ (hok2.kept gB) ag
        fun b hb => ⟨(f3 b hb).1.2.2.2.1, (f3 b hb).1.2.1, (f3 b hb).1.2.2.2.2.1, (f3 b hb).1.2.2.2.2.2⟩
      · refine gB b o ?_
        rw [Bk b (old e)]
        exact ub.keep b o (I'.base.keep b o e n hb hx) (I'.base.free b o e n hx) hb
      · obtain ⟨o', q⟩ := I'.base.there b o e hx
        exact ub.free b o' q (I'.base.free b o e n hx)
      · by_cases hb : b ∈ frs X.stack
        · obtain ⟨sl, q⟩ := slotF b o e hb hx
          exact ⟨_, q⟩
        · obtain ⟨o', q⟩ := I'.base.there b o e hx
          obtain ⟨o2, q2⟩ := ub.there b o' q hb
          exact ⟨o2, gB b o2 (by rw [Bk b (old e)]; exact q2)⟩
      · obtain ⟨m1, q1⟩ := I'.base.tbls b ps e
        obtain ⟨m2, q2⟩ := ub.tbls b _ q1
        exact ⟨m1 ++ m2, by rw [q2, Array.append_assoc]⟩
    · obtain ⟨e', z⟩ := gO b o e
      rcases z with z | z
      · obtain ⟨o', q⟩ := Option.isSome_iff_exists.mp z
        have := hd4.1 b o' q
        rw [e'] at this
        cases this
        exact q
      · exact absurd z hb
  first
    | exact wpAny_bind (wpAny_pure (wpAny_bind fin))
    | exact wpAny_bind fin
end
end Bf
namespace Bf
open PySem PySem.Spec PyProof.Rows L2
/-! ## a comprehension whose step may raise -/
/-- a call within the block let an exception out -/
def XB (X Y : Cx) (W : XK) (u : Value) (s' : Shared) : Prop := ∃ (pins : List (Addr × Obj)) (σ : L2.St) (H : Hp) (s : Shared), Inv Y pins σ H s ∧ L2.CX X.prog X.w X.stack H s W u s'
/-- the block's context -/
abbrev bCx (X : Cx) (W : XK) (s : Shared) (H : Hp) (sc : Scope) (ce : Env) (fp : List Addr) : Cx := { X.blk s H sc ce fp with xe := XB X (X.blk s H sc ce fp) W }
theorem inv_xe {Y : Cx} {xe1 xe2 : Value → Shared → Prop} {pins : List (Addr × Obj)} {σ : L2.St} {H : Hp} {s : Shared} (I : Inv { Y with xe := xe1 } pins σ H s) : Inv { Y with xe := xe2 } pins σ H s :=
  ⟨⟨I.ok.mod, I.ok.kind, I.ok.glob, I.ok.blt, I.ok.above, I.ok.inj, I.ok.has, I.ok.cab, I.ok.hd, I.ok.frames, I.ok.stk, I.ok.exf, I.ok.bs, I.ok.bsz, I.ok.noex, I.ok.exfs, I.ok.funs, I.ok.frf⟩, I.os, I.bare, I.base, I.loc, I.cell, I.free, I.freeC, I.pin, I.hok, I.len⟩
section
variable {X : Cx} {W : XK} {s : Shared} {H : Hp} {sc : Scope} {ce : Env} {fp : List Addr}
theorem passB : Passes (L2.CX X.prog X.w) (bCx X W s H sc ce fp) W := fun pins σ H' s' e s2 I c => ⟨pins, σ, H', s', inv_xe I, c⟩
end
/-- the step's parts, in the block -/
structure BlkP (X : Cx) (W : XK) (sc : Scope) (elt tg : Expr) (ifs : List Expr) (g : TG) (tt : TT) (te : TE) : Prop where
  g : ∀ (s : Shared) (H : Hp) (C : Addr) (cl : List (Str × Addr)) (fp : List Addr), PG (bCx X W s H sc (compEnvC sc cl C X.env) fp) tg g
  t : ∀ (s : Shared) (H : Hp) (C : Addr) (cl : List (Str × Addr)) (fp : List Addr), PTs (bCx X W s H sc (compEnvC sc cl C X.env) fp) ifs tt
  e : ∀ (s : Shared) (H : Hp) (C : Addr) (cl : List (Str × Addr)) (fp : List Addr), PE (bCx X W s H sc (compEnvC sc cl C X.env) fp) elt te
section
variable {X : Cx} {W : XK}
theorem lc_raise {pins : List (Addr × Obj)} {s : Shared} {σ : L2.St} {H : Hp} {Q : VK} {elt tg iter : Expr} {ifs : List Expr} {sc : Scope} {own : List (Str × Nat)} {pos pos' : Pos} {wi : TI} {g : TG} {tt : TT} {te : TE} {use : Option (Value → Sem Unit)} {Qf : Value → Shared → Prop}
    (hfs : X.stack = X.env :: X.outer) (hfe : X.env.frame = some X.env.locals) (tk : L2.Takes X (fun cls d _ H => W cls d H)) (hc : X.calm = true) (hN : X.N.Nodup) (I : Inv X pins σ H s) (hi : PI X tg iter wi) (ok : BlkOk X.N X.env.scope sc own) (bp : BlkP X W sc elt tg ifs g tt te)
    (hs : ∀ x, foldedSetIterable iter X.env x = pure x) (h : tLc wi g tt te (own.map (·.2)) σ H Q)
    (out : ∀ D C s1 m H1, Inv X pins σ H1 s1 → Q (.ref D) H1 → s1.heap.Ns C m → FpOk X pins H1 C → compPost (model X.prog X.w) X.A X.xe use Qf (.ref D) C (.ok .next) s1) :
    wpAny (model X.prog X.w) X.A (comprehension (.ListComp elt [⟨tg, iter, ifs, 0⟩] sc pos) sc X.env pos' (newList []) false (eval iter X.env) use) Qf X.xe s := by
  have hfree : ∀ y ∈ sc.names, y.2 = .free → ∃ c, X.env.cells.lookup y.1 = some c := fun y hy e => I.ok.has _ (ok.free y hy e)
  refine run_compr (use := use) rfl hs (closure_ok hfree) ok.kind (fun y hy e => (ok.uniq y hy).trans (by rw [e])) (thn (hi.run pins s σ H _ I h) fun xv s1 hx => thn hx fun itv s2 hx2 => ?_)
  obtain ⟨it, fp, tn, J, H2, e, I2, T, st2, f2, q⟩ := hx2
  subst e
  refine wpAny_newObj_type (newEnv_comp ?_) (by show 0 ≤ sizeLine; decide)
  generalize hD : s2.heap.objs.size = D
  obtain ⟨V0, ⟨m0, w0⟩, turn⟩ := q D (I2.hok.fresh (Nat.le_of_eq hD))
  -- the list that grows
  generalize hs3 : ({ s2 with heap := s2.heap.push { cls := .type "list", data := .seq ([] : List Value).toArray } } : Shared) = s3
  have e3 : s3.heap = s2.heap.push { cls := .type "list", data := .seq ([] : List Value).toArray } := by rw [← hs3]
  have I3 : Inv X pins σ (upd H2 D (.lst [])) s3 := by
    subst hs3
    subst hD
    exact I2.laid (t' := s2.toks) (fun _ _ z => Heap.get?_push_of_some _ z) (Nat.le_refl _) ⟨Nat.zero_le _, [], 0, .nil, Heap.get?_push_size _ rfl⟩
  have f3 : ∀ b ∈ fp, FpOk X pins (upd H2 D (.lst [])) b ∧ b < s3.heap.objs.size := fun b hb => by
    obtain ⟨o, eo, _⟩ := T.obj _ _ st2 b hb
    have hlt := Heap.lt_size eo
    refine ⟨⟨?_, (f2 b hb).2⟩, ?_⟩
    · rw [upd_ne (Nat.ne_of_lt (Nat.lt_of_lt_of_eq hlt hD))]
      exact (f2 b hb).1
    · rw [e3, Heap.size_push]
      exact Nat.lt_succ_of_lt hlt
  have st3 : tn 0 s3.heap := T.keep _ _ _ st2 fun b _ o z => by rw [e3]; exact Heap.get?_push_of_some _ z
  have I4 := block_start I3 ok hN f3
  generalize hcl : cellsFrom (s3.heap.objs.size + 1) sc.names (cloFrom X.env.cells sc.names []) = cl at I4
  generalize hH3 : upd H2 D (.lst []) = H3 at I3 I4 w0 f3
  have pg := bp.g s3 H3 s3.heap.objs.size cl fp
  have pt := bp.t s3 H3 s3.heap.objs.size cl fp
  have pe := bp.e s3 H3 s3.heap.objs.size cl fp
  have goal : codeAny (model X.prog X.w) X.A (.compStart (.ListComp elt [⟨tg, iter, ifs, 0⟩] sc pos) 0 (.ref it) (.ref D) (compEnvC sc cl s3.heap.objs.size X.env)) (blkEnd (model X.prog X.w) X.A X.xe use Qf (.ref D) (compEnvC sc cl s3.heap.objs.size X.env)) { s3 with heap := pushCells (s3.heap.push { cls := .type "dict", data := .dict #[] }) sc.names } := by
    have cF : (compEnvC sc cl s3.heap.objs.size X.env).frame = X.env.frame := rfl
    have cL : (compEnvC sc cl s3.heap.objs.size X.env).locals = s3.heap.objs.size := rfl
    generalize compEnvC sc cl s3.heap.objs.size X.env = ce at I4 pg pt pe cF cL ⊢
    generalize hs4 : ({ s3 with heap := pushCells (s3.heap.push { cls := .type "dict", data := .dict #[] }) sc.names } : Shared) = s4 at I4 ⊢
    have I4 : Inv (bCx X W s3 H3 sc ce fp) [] (wipe σ (own.map (·.2))) H3 s4 := inv_xe I4
    have st4 : tn 0 s4.heap := T.keep _ _ _ st3 fun b _ o z => by rw [← hs4]; exact pushCells_keeps _ _ _ _ (Heap.get?_push_of_some _ z)
    -- what flies out of the block
    have fly : ∀ u sx, XB X (X.blk s3 H3 sc ce fp) W u sx → notedBy (model X.prog X.w) X.A ce (fun e s => blkEnd (model X.prog X.w) X.A X.xe use Qf (.ref D) ce (.error e) s) u sx := fun u sx ⟨_, _, _, _, Ix, c⟩ => blk_out (xe' := fun _ _ => False) hfs hfe tk I3 cL cF f3 Ix c
    have thB : ∀ {α : Type} {t : Sem α} {R R' : α → Shared → Prop} {sx : Shared}, wpAny (model X.prog X.w) X.A t R (bCx X W s3 H3 sc ce fp).xe sx → (∀ a sy, R a sy → R' a sy) → wpAny (model X.prog X.w) X.A t R' (notedBy (model X.prog X.w) X.A ce (fun e s => blkEnd (model X.prog X.w) X.A X.xe use Qf (.ref D) ce (.error e) s)) sx := fun k1 k2 => wpAny_mono k1 k2 fly
    have stat : ∀ {σ' : L2.St} {H' : Hp} {sx : Shared}, Inv (bCx X W s3 H3 sc ce fp) [] σ' H' sx → (∀ b ∈ fp, H' b = none) → ∀ b ∈ fp, FpOk (bCx X W s3 H3 sc ce fp) [] H' b := fun {σ' H' sx} Ix hn b hb =>
      ⟨hn b hb, (Ix.ok.exf b hb).1, Ix.ok.exfs b hb, .inl hb, fun x c z => (Ix.ok.exf b hb).2 x c z, fun p hp => absurd (show p ∈ ([] : List (Addr × Obj)) ++ [] from hp) (by simp)⟩
    have loop : codeAny (model X.prog X.w) X.A (.compLoop (.ListComp elt [⟨tg, iter, ifs, 0⟩] sc pos) 0 (.ref it) (.ref D) ce) (blkEnd (model X.prog X.w) X.A X.xe use Qf (.ref D) ce) s4 := by
      refine compLoop_any (fun n sx => ∃ i Hx, Inv (bCx X W s3 H3 sc ce fp) [] (wipe σ (own.map (·.2))) Hx sx ∧ tn i sx.heap ∧ (∀ b ∈ fp, Hx b = none) ∧ V0 i n Hx) ?_ m0 ⟨0, H3, I4, st4, fun b hb => (f3 b hb).1.1, w0⟩
      rintro n s5 ⟨i, H5, I5, st5, n5, w5⟩
      rcases turn i n H5 w5 with ⟨stop, qq⟩ | ⟨go, Nx, hNx, step⟩
      · refine thnF (T.done (bCx X W s3 H3 sc ce fp) rfl rfl rfl hc i [] s5 _ H5 (fun _ _ => False) I5 (stat I5 n5) st5 stop) fun r s6 ⟨hr, I6⟩ => ?_
        subst hr
        have I7 : Inv X pins σ H5 s6 := I3.call' (ch := fp) I6.os I6.base I6.hok I6.bare fun b hb => ⟨(f3 b hb).1.2.2.2.1, (f3 b hb).1.2.1, (f3 b hb).1.2.2.2.2.1, (f3 b hb).1.2.2.2.2.2⟩
        obtain ⟨m, hn, _⟩ := I6.loc
        have hn : s6.heap.Ns ce.locals m := hn
        have nC : H5 ce.locals = none := I6.free
        rw [cL] at nC
        have := out D s3.heap.objs.size s6 m H5 I7 qq (by rw [← cL]; exact hn) (I3.fpOk (Nat.le_refl _) nC)
        show compPost (model X.prog X.w) X.A X.xe use Qf (.ref D) ce.locals (.ok .next) s6
        rw [cL]
        exact this
      · refine thnF (T.item (bCx X W s3 H3 sc ce fp) rfl rfl rfl hc i [] s5 _ H5 (fun _ _ => False) I5 (stat I5 n5) st5 go) fun r s6 ⟨u, hr, h6⟩ => ?_
        subst hr
        refine thnF h6 fun _ s7 ⟨x, H7, I7, r7, y7, st7, n7⟩ => ?_
        have I7' := I7.pinned (stat I7 n7) (T.obj _ _ st7)
        refine thB (pg.run _ s7 _ H7 x u _ I7' r7 (step x H7 y7)) fun _ s8 ⟨σ8, H8, I8, hw8, q8⟩ => ?_
        refine thB (pt.run _ s8 σ8 H8 _ I8 q8) fun b s9 ⟨H9, I9, q9⟩ => ?_
        have fin : ∀ {sx : Shared} {Hx : Hp}, Inv (bCx X W s3 H3 sc ce fp) ([] ++ pinsAt fp s7.heap) σ8 Hx sx → Nx Hx → ∃ m, m < n ∧ ∃ i Hx, Inv (bCx X W s3 H3 sc ce fp) [] (wipe σ (own.map (·.2))) Hx sx ∧ tn i sx.heap ∧ (∀ b ∈ fp, Hx b = none) ∧ V0 i m Hx := fun {sx Hx} Ix nx => by
          obtain ⟨m', hm, w'⟩ := hNx Hx nx
          have at7 : ∀ b ∈ fp, ∀ o, s7.heap.get? b = some o → sx.heap.get? b = some o ∧ Hx b = none := fun b hb o eo => by
            have z := Ix.pin (b, o) (List.mem_append_right _ (List.mem_append_right _ (mem_pinsAt hb eo)))
            exact ⟨z.1, z.2.1⟩
          refine ⟨m', hm, i + 1, Hx, (Ix.unpinned (pins := [])).weak (by rw [← hw8, wipe_length]) (fun j v ev => ?_), T.keep _ _ _ st7 fun b hb o eo => (at7 b hb o eo).1, fun b hb => ?_, w'⟩
          · rw [← hw8] at ev
            exact (wipe_some ev).1
          · obtain ⟨o, eo, _⟩ := T.obj _ _ st7 b hb
            exact (at7 b hb o eo).2
        cases b with
        | false =>
          simp only [Bool.false_eq_true, if_false] at q9 ⊢
          exact fin I9 q9
        | true =>
          simp only [if_true] at q9 ⊢
          refine thB (pe.run _ s9 σ8 H9 _ I9 q9) fun z s10 ⟨yv, H10, I10, r10, acc, hD10, hz10, nx⟩ => ?_
          exact app_ok (X := bCx X W s3 H3 sc ce fp) I10 hD10 hz10 r10 fun s11 I11 => fin I11 nx
    exact codeAny_compStart_list loop (T.self X.A 0 _ _ _ st4 loop)
  exact goal
/-- y = [e for x in xs], e may raise -/
theorem ps_lcX {i : Nat} {y : Str} {py : Pos} {elt tg iter : Expr} {ifs : List Expr} {sc : Scope} {own : List (Str × Nat)} {pos spos : Pos} {wi : TI} {g : TG} {tt : TT} {te : TE} (hfs : X.stack = X.env :: X.outer) (hfe : X.env.frame = some X.env.locals) (tk : L2.Takes X (fun cls d _ H => W cls d H)) (hc : X.calm = true) (hN : X.N.Nodup)
    (hy : X.N[i]? = some y) (hyl : X.env.scope.names.lookup y = some .local) (hsw : swapsWith (.ListComp elt [⟨tg, iter, ifs, 0⟩] sc pos) (some (.Name y py)) spos.line X.env = pure true)
    (hi : PI X tg iter wi) (ok : BlkOk X.N X.env.scope sc own) (bp : BlkP X W sc elt tg ifs g tt te) (hs : ∀ x, foldedSetIterable iter X.env x = pure x := by intro _; rfl) :
    PS X (.Assign [.Name y py] (.ListComp elt [⟨tg, iter, ifs, 0⟩] sc pos) spos) (tAsg (tLc wi g tt te (own.map (·.2))) (gName i)) := by
  refine ⟨fun pins s σ H D I h => ?_⟩
  rw [exec_Assign_Name_used _ _ _ _ hsw]
  refine wpAny_bind (wpAny_standAt (wpAny_bind ?_))
  show wpAny _ X.A (do let _ ← comprehension (.ListComp elt [⟨tg, iter, ifs, 0⟩] sc pos) sc X.env (firstIterPos [⟨tg, iter, ifs, 0⟩] pos) (newList []) false (eval iter X.env) (some (assign (.Name y py) X.env))) _ _ s
  have h : tLc wi g tt te (own.map (·.2)) σ H (fun x H1 => gName i x σ H1 D.nx) := h
  refine wpAny_bind (thn (lc_raise (Qf := fun _ s1 => SP X pins D .next s1) hfs hfe tk hc hN I hi ok bp hs h fun L C s1 m H1 I1 q hn f => ?_) fun _ s1 k => wpAny_pure (wpAny_pure k))
  show wpAny _ _ (assign (.Name y py) X.env (.ref L)) _ _ _
  refine wpAny_assign_Name (store_ok2 (v := V.ref L) I1 hN hy (.inl hyl) rfl (fun s2 I2 ⟨a, sb, ha⟩ => ?_) (.inr hyl))
  obtain ⟨k0, k1, k2, k3, k4, k5⟩ := f
  have neC : C ≠ a := fun z => by
    rcases ha with w | w
    · exact k1 (z.trans w)
    · exact k4 y a w z.symm
  exact ⟨m, hn.sameBut sb neC, fun h3 sb3 => ⟨_, H1, I2.turned (t' := s2.toks) (fun b o hb eo => (sb3.2 b hb).trans eo) k0 k1 k3 k4 k5, q⟩⟩
end
end Bf
namespace Bf
open PySem PySem.Spec PyProof.Rows L2
/-! ## x op y by an own method: both of the same class -/
end Bf
namespace Bf
open PySem PySem.Spec PyProof.Rows L2
/-! ## x != y by the text's own ==, through object.__ne__ -/
section
variable {M : Model} {prog : Program} {w : World} {A : Around} {E : Value → Shared → Prop} {s : Shared} {K : PySem.W.Frag} {x C L f : Addr} {h₀ : Heap} {m : Str → Option Value} {ox : Obj} {od : Option Obj} {b tb : Value}
theorem ifBound_slot {T : String} {name : Str} {id : String} {args : List Value} {Q : Option Value → Shared → Prop} (S : Slot T name id) (X : K.In s.heap) (I : PySem.W.InstAt s.heap x ox C od) (hs : PySem.W.findIn K (.ref C) name = some (some (.builtin id)))
    (h : wpAny M A (call (.builtin id) (.ref x :: args)) (fun v => Q (some v)) E s) : wpAny M A (callSpecialIfBound? (.ref x) name args) Q E s := by
  simp only [callSpecialIfBound?, bindSpecialIfBound?]
  refine wpAny_holding (wpAny_bind (wpAny_bind (wpAny_bind (I.type.here ((PySem.W.looks_findIn X hs).here ?_)))))
  refine wpAny_bind (wpAny_askSetting (wpAny_ite ?_))
  have fin : wpAny M A (call (.builtin id) ([.ref x] ++ args) >>= fun v => pure (some v)) Q E s := wpAny_bind (wpAny_mono h (fun v s' h' => wpAny_pure h') fun _ _ h' => h')
  split
  · exact wpAny_bind (wpAny_of_eq (S.bind _) (wpAny_pure (by exact fin)))
  · exact wpAny_tryCatch (wpAny_bind (wpAny_of_eq (S.bind _) (wpAny_pure (by exact fin))))
theorem objNe_own (hu : A.units < cLine) (X : K.In s.heap) (I : PySem.W.InstAt s.heap x ox C od) (hs : PySem.W.findIn K (.ref C) "__eq__" = some (some (.ref f))) (hf : PySem.W.isFn K (.ref f) = true) {Q : Fin → Shared → Prop}
    (h : wpAny (model prog w) A (call (.ref f) [.ref x, b]) (fun v s' => ∃ k, v = .bool k ∧ Q (.done (.ret (.bool (!k)))) s') E s) :
    wpAny (model prog w) A (Builtin.«object.__ne__» ⟨[.ref x, b], []⟩) Q E s := by
  unfold Builtin.«object.__ne__»
  repeat (first
    | with_reducible refine wpAny_cRoomFor hu ?_
    | (refine wpAny_bind (m := callSpecialIfBound? (.ref x) (Str.ofString "__eq__") [b])
        (PySem.W.ifBound_K X I hs hf (wpAny_mono h (fun r s' hr => by
          obtain ⟨k, rfl, hq⟩ := hr
          repeat (first | exact hq | exact wpAny_pure hq | exact wpAny_truthy_bool hq | (refine wpAny_bind (m := truthy (.bool _)) (wpAny_truthy_bool ?_)) | wp_step)) fun _ _ e => e)))
    | wp_step)
theorem cmpNe_K {Q : Value → Shared → Prop} (hu : A.units + 1 < cLine) (F : Fr h₀ L s.heap m) (X₀ : K.In h₀) (I : PySem.W.InstAt s.heap x ox C od) (hb : PySem.W.Looks (model prog w) s.heap (typeOf b) (.ref C)) (hm : PySem.W.mroIn K C (.type "object") = some true)
    (hn : PySem.W.findIn K (.ref C) "__ne__" = some (some (.builtin "object.__ne__"))) (hs : PySem.W.findIn K (.ref C) "__eq__" = some (some (.ref f))) (hf : PySem.W.isFn K (.ref f) = true)
    (h : wpAny (model prog w) A.in1 (call (.ref f) [.ref x, b]) (fun v s' => ∃ k, v = .bool k ∧ Q (.bool (!k)) s') E s) : wpAny (model prog w) A (richCompare .NotEq (.ref x) b) Q E s := by
  have X := X₀.keeps F.keep
  have one : wpAny (model prog w) A (tryCompare (.ref x) (cmpInfo .NotEq).2.1 b) (fun r s' => ∃ k, r = some (.bool k) ∧ Q (.bool k) s') E s := by
    unfold tryCompare
    refine wpAny_bind (ifBound_slot PySem.F.cmp_object.ne X I hn (wpAny_call (codeAny_call_builtin PySem.F.cmp_object.ne.plain PySem.F.cmpEntry_ne (PySem.W.check_slot PySem.F.cmpKind_ne PySem.F.cmpSplit_ne (I.type.andThen (PySem.W.looks_mroIn X hm)) (PySem.F.cmpArgs_ne _ _)
      (objNe_own (A := A.in1) (by rw [units_in1]; exact hu) X I hs hf (wpAny_mono h (fun v s' hv => ?_) fun _ _ e => e))))))
    obtain ⟨k, rfl, hq⟩ := hv
    exact ⟨k, rfl, wpAny_pure ⟨_, rfl, hq⟩⟩
  unfold richCompare
  simp only [oneThing_ref]
  refine wpAny_holding (wpAny_bind (wpAny_cRoomFor (Nat.lt_of_succ_lt hu) ?_))
  refine wpAny_bind (I.type.here (wpAny_bind (hb.here ?_)))
  rw [show (Value.ref C != Value.ref C) = false from by simp]
  simp only [Bool.false_eq_true, if_false]
  refine wpAny_bind (wpAny_pure ?_)
  simp only [Bool.false_eq_true, if_false]
  refine wpAny_bind (wpAny_mono one (fun r s' z => ?_) fun _ _ e => e)
  obtain ⟨k, rfl, hq⟩ := z
  exact wpAny_pure hq
end
def rOwnN (C : Addr) (sp : Sp) : R2 := fun x y H Q => ∃ a b dx dy fs gs, x = .ref a ∧ y = .ref b ∧ H a = some (.ins C dx fs) ∧ H b = some (.ins C dy gs) ∧ sp [x, y] H (fun v H' => ∃ k, v = .bl k ∧ Q (.bl (!k)) H') E0
theorem op_ownN {X : Cx} {C f : Addr} {fd : FuncData} {ps : List Str} {sp : Sp} {n : Nat} (F : GOk X.prog X.w X.K X.mg X.base n f fd ps sp) (hm : PySem.W.mroIn X.K C (.type "object") = some true) (hn : PySem.W.findIn X.K (.ref C) "__ne__" = some (some (.builtin "object.__ne__")))
    (hs : PySem.W.findIn X.K (.ref C) "__eq__" = some (some (.ref f))) (hf : PySem.W.isFn X.K (.ref f) = true)
    (hb : Binds X.K fd ps []) (hr : Room (n + 1) X.A) (hg : X.A.guards = some []) (hx : Passes (L2.CX X.prog X.w) X E0 := passL) : OpR X (compareOp .NotEq) (rOwnN C sp) := by
  intro pins s σ H x y v u Q I rx ry h
  obtain ⟨a, b, dx, dy, fs, gs, rfl, rfl, ha, hb', hsp⟩ := h
  cases rx
  cases ry
  obtain ⟨mA, J, _⟩ := ins_get I.hok ha
  obtain ⟨mB, J', _⟩ := ins_get I.hok hb'
  obtain ⟨od, J, _⟩ := J.look
  obtain ⟨od', J', _⟩ := J'.look
  obtain ⟨m, hF⟩ := I.fr
  show wpAny (model X.prog X.w) X.A (richCompare .NotEq (.ref a) (.ref b)) _ _ _
  refine cmpNe_K (by have := hr.units; omega) hF I.ok.mod.kin J J'.type hm hn hs hf ?_
  have hl := F.len _ _ _ _ hsp
  have r2 : Vals [V.ref a, V.ref b] [Value.ref a, Value.ref b] := .cons rfl (.cons rfl .nil)
  have e0 : Env0 X.prog X.w X.K X.mg X.base X.A.in1 X.stack s H := by
    have e := I.env0
    exact ⟨e.frames, e.mod, e.bs, e.bsz, e.funs, e.frf, e.hok, e.bare⟩
  refine wpAny_call (codeAny_mono (F.go X.A.in1 X.stack s H ⟨[.ref a, .ref b], []⟩ [.ref a, .ref b] [.ref a, .ref b] _ E0 hr.in1 hg e0 (by
    have := hb s [.ref a, .ref b] I.kIn (by simpa using hl)
    simpa using this) r2 hsp) fun r s' hq => ?_)
  cases r with
  | error e => exact hx pins σ H s e s' I hq
  | ok fl =>
    cases fl with
    | ret w =>
      obtain ⟨z, H', I', rz, k, ez, q⟩ := I.after hq
      subst ez
      cases rz
      exact ⟨k, rfl, .bl (!k), H', I', rfl, q⟩
    | next => exact False.elim hq
    | brk => exact False.elim hq
    | cont => exact False.elim hq
end Bf
namespace Bf
open PySem PySem.Spec PyProof.Rows L2 PySem.SeqAt
open AutoSeq1 (wpAny_loadPart')
/-! ## == and != of tuples that hold ratios: equal ones are seen to be equal -/
section
variable {prog : Program} {w : World} {A : Around} {R : Result → Shared → Prop}
/-- tuple.__ne__ of tuples with as many items, one by one equal; each look may change the heap -/
theorem tuple_neG (l b : Addr) (items items2 : Array Value) (n n2 : Nat) (dd dd2 : Option Addr) (sl sl2 : Array (Option Value)) (hsz : items.size = items2.size) (I : Nat → Shared → Prop)
    (turn : ∀ i (h1 : i < items.size) (h2 : i < items2.size) s, I i s → wpAny (model prog w) A.in1 (eqBool items[i] items2[i]) (fun r s' => r = true ∧ I (i + 1) s') (fun e s' => R (.error e) s') s)
    (fin : ∀ s, I items.size s → R (.ok (.ret (.bool false))) s) {s : Shared} (hl1 : s.heap.get? l = some { cls := .type "tuple", dict := dd, data := .seq items n, slots := sl }) (hb1 : s.heap.get? b = some { cls := .type "tuple", dict := dd2, data := .seq items2 n2, slots := sl2 }) (h : I 0 s) :
    wpAny (model prog w) A.in1 (Builtin.«tuple.__ne__» ⟨[.ref l, .ref b], []⟩) (GQ.FinOf prog w A R) (fun e s' => R (.error e) s') s := by
  have f2 := AutoSeq1.sub_tuple_tuple
  have hZ : (items.toList.zip items2.toList).length = items.size := by simp [hsz]
  have h0 := h
  obtain ⟨hp, g, d, tk, os⟩ := s
  wp_walk using wpAny_loadPart' hl1, wpAny_loadPart' hb1, wpAny_forIn_list _ (fun rest b s' => b.1 = none ∧ ∃ i, rest = (items.toList.zip items2.toList).drop i ∧ i ≤ items.size ∧ I i s') _
  case turn =>
    rintro ⟨y, x⟩ rest b s' ⟨hb', i, hz, hi, hI⟩
    have hlt : i < (items.toList.zip items2.toList).length := Nat.lt_of_not_le fun h' => by rw [List.drop_of_length_le h'] at hz; cases hz
    have h1 : i < items.size := hZ ▸ hlt
    have h2 : i < items2.size := hsz ▸ h1
    rw [List.drop_eq_getElem_cons hlt] at hz
    injection hz with hyx hrest
    have hy : y = items[i] := by have := congrArg Prod.fst hyx; simpa using this
    have hx : x = items2[i] := by have := congrArg Prod.snd hyx; simpa using this
    subst hy hx
    refine wpAny_bind (wpAny_mono (turn i h1 h2 s' hI) (fun r s2 q2 => ?_) fun _ _ x => x)
    obtain ⟨hr, q2⟩ := q2
    subst hr
    wp_walk
    exact ⟨rfl, i + 1, hrest, h1, q2⟩
  case fin =>
    rintro ⟨b1, b2⟩ s' ⟨hb', i, hz, hi, hI⟩
    simp only at hb'
    subst hb'
    have hge : items.size ≤ i := Nat.le_of_not_lt fun h' => by rw [List.drop_eq_getElem_cons (hZ ▸ h')] at hz; cases hz
    have hR : R (.ok (.ret (.bool false))) s' := fin s' ((Nat.le_antisymm hge hi) ▸ hI)
    wp_walk
    simpa [Builtin.Tuple.tupleCompareSizes, hsz] using hR
  case h =>
    exact ⟨rfl, 0, rfl, Nat.zero_le _, h0⟩
end
section
variable {prog : Program} {w : World} {A : Around} {E : Value → Shared → Prop} {s : Shared}
theorem rcNe_tupG {l b : Addr} {items items2 : Array Value} {Q : Value → Shared → Prop} (hsz : items.size = items2.size) (hu : A.units < cLine) (I : Nat → Shared → Prop)
    (hl : s.heap.IsTuple l items) (hb : s.heap.IsTuple b items2)
    (turn : ∀ i (h1 : i < items.size) (h2 : i < items2.size) s, I i s → wpAny (model prog w) A.in1 (eqBool items[i] items2[i]) (fun r s' => r = true ∧ I (i + 1) s') E s)
    (fin : ∀ s, I items.size s → Q (.bool false) s) (h : I 0 s) : wpAny (model prog w) A (richCompare .NotEq (.ref l) (.ref b)) Q E s := by
  obtain ⟨⟨cls, dd, data, sl⟩, ho, hc, n, hd⟩ := id hl
  obtain ⟨⟨cls2, dd2, data2, sl2⟩, ho2, hc2, n2, hd2⟩ := id hb
  simp only at hc hd hc2 hd2
  subst hc hd hc2 hd2
  refine wpAny_richCompare_same_room (op := .NotEq) ⟨_, ho, rfl⟩ ⟨_, ho2, rfl⟩ F.slot_tuple_ne (GQ.call_here F.slot_tuple_ne ⟨_, ho, rfl⟩ F.entry_tuple_ne (F.args_tuple_ne_2 _ _) ?_) hu
  exact tuple_neG (R := wants (fun v s' => v ≠ .notImplemented ∧ Q v s') E) l b items items2 n n2 dd dd2 sl sl2 hsz I turn (fun s' q => ⟨(fun x => nomatch x), fin s' q⟩) ho ho2 h
end
/-- somewhere below a body without guards, with room -/
structure SubG (X : Cx) (n : Nat) (A : Around) : Prop where
  room : Room n A
  fr : A.frames = X.A.frames
  gd : A.guards = some []
theorem SubG.in1 {X : Cx} {n : Nat} {A : Around} (s : SubG X (n + 1) A) : SubG X n A.in1 := ⟨s.room.in1, s.fr, s.gd⟩
theorem SubG.mono {X : Cx} {n m : Nat} {A : Around} (s : SubG X n A) (h : m ≤ n) : SubG X m A := ⟨s.room.mono h, s.fr, s.gd⟩
theorem SubG.sub {X : Cx} {n : Nat} {A : Around} (s : SubG X n A) : Sub X n A := ⟨s.room, s.fr⟩
/-- == inside a builtin gives True for what D says, and only makes objects -/
def EqP (X : Cx) (n : Nat) (D : Eqv) : Prop :=
  ∀ (A : Around) (pins : List (Addr × Obj)) (s : Shared) (σ : L2.St) (H : Hp) (x y : V) (u v : Value), SubG X n A → L2.Inv X pins σ H s → RelV x u → RelV y v → D x y H →
    wpAny (model X.prog X.w) A (eqBool u v) (fun r s' => r = true ∧ ∃ H', L2.Inv X pins σ H' s' ∧ Ext H H') X.xe s
def RcP (X : Cx) (n : Nat) (D : Eqv) : Prop :=
  ∀ (A : Around) (pins : List (Addr × Obj)) (s : Shared) (σ : L2.St) (H : Hp) (x y : V) (u v : Value), SubG X n A → L2.Inv X pins σ H s → RelV x u → RelV y v → D x y H →
    wpAny (model X.prog X.w) A (richCompare .Eq u v) (fun r s' => r = .bool true ∧ ∃ H', L2.Inv X pins σ H' s' ∧ Ext H H') X.xe s
section
variable {X : Cx} {n m : Nat} {D D' : Eqv}
theorem EqP.mono (h : EqP X n D) (hn : n ≤ m) : EqP X m D := fun A pins s σ H x y u v sb => h A pins s σ H x y u v (sb.mono hn)
theorem _root_.L2.EqG.p (h : EqG X n D) : EqP X n D := fun A pins s σ H x y u v sb => h A pins s σ H x y u v sb.sub
theorem EqP.or (h : EqP X n D) (h' : EqP X n D') : EqP X n (fun x y H => D x y H ∨ D' x y H) := fun A pins s σ H x y u v sb I rx ry d => by
  rcases d with d | d
  · exact h A pins s σ H x y u v sb I rx ry d
  · exact h' A pins s σ H x y u v sb I rx ry d
theorem EqP.imp (h : EqP X n D) (hd : ∀ x y H, D' x y H → D x y H) : EqP X n D' := fun A pins s σ H x y u v sb I rx ry d => h A pins s σ H x y u v sb I rx ry (hd x y H d)
theorem turnP (hD : Mon D) (h : EqP X n D) {A : Around} (sb : SubG X (n + 1) A) {pins : List (Addr × Obj)} {σ : L2.St} {H : Hp} {xs ys : List V} {its its2 : List Value} (p : Prs D xs ys H) (r : Vals xs its) (r2 : Vals ys its2)
    (i : Nat) (h1 : i < its.toArray.size) (h2 : i < its2.toArray.size) (s' : Shared) (l : LoopI X pins σ H s') :
    wpAny (model X.prog X.w) A.in1 (eqBool its.toArray[i] its2.toArray[i]) (fun r s2 => r = true ∧ LoopI X pins σ H s2) X.xe s' := by
  obtain ⟨H1, I1, e1⟩ := l
  have g1 : its[i]? = some its.toArray[i] := by
    have h1' : i < its.length := by simpa using h1
    rw [List.getElem?_eq_getElem h1'] <;> simp
  have g2 : its2[i]? = some its2.toArray[i] := by
    have h2' : i < its2.length := by simpa using h2
    rw [List.getElem?_eq_getElem h2'] <;> simp
  have k1 : i < xs.length := by rw [r.length]; simpa using h1
  have k2 : i < ys.length := by rw [r2.length]; simpa using h2
  obtain ⟨u, hu, ru⟩ := r.get (List.getElem?_eq_getElem k1)
  obtain ⟨v, hv, rv⟩ := r2.get (List.getElem?_eq_getElem k2)
  rw [g1] at hu
  rw [g2] at hv
  rw [Option.some.inj hu, Option.some.inj hv]
  refine wpAny_mono (h A.in1 pins s' σ H1 _ _ u v sb.in1 I1 ru rv (hD _ _ _ _ e1 (p.2 i _ _ (List.getElem?_eq_getElem k1) (List.getElem?_eq_getElem k2)))) (fun r s2 q => ?_) fun _ _ x => x
  obtain ⟨hr, H2, I2, e2⟩ := q
  exact ⟨hr, H2, I2, e1.trans e2⟩
theorem rcP_tup (hD : Mon D) (h : EqP X n D) : RcP X (n + 1) (DTup X.K D) := by
  intro A pins s σ H x y u v sb I rx ry d
  obtain ⟨a, b, xs, ys, rfl, rfl, ha, hb, p⟩ := d
  cases rx
  cases ry
  obtain ⟨its, r, e, z⟩ := I.tuple ha
  obtain ⟨its2, r2, e2, z2⟩ := I.tuple hb
  have hsz : its.toArray.size = its2.toArray.size := by rw [List.size_toArray, List.size_toArray, ← r.length, ← r2.length]; exact p.1
  exact GQ.rc_tupG hsz sb.room.units0 (fun _ s' => LoopI X pins σ H s') e e2 (fun i h1 h2 s' q => turnP hD h sb p r r2 i h1 h2 s' q) (fun s' q => ⟨rfl, q⟩) ⟨H, I, Ext.rfl'⟩
theorem neP_tup (hD : Mon D) (h : EqP X n D) {A : Around} {pins : List (Addr × Obj)} {s : Shared} {σ : L2.St} {H : Hp} {x y : V} {u v : Value} (sb : SubG X (n + 1) A) (I : L2.Inv X pins σ H s) (rx : RelV x u) (ry : RelV y v) (d : DTup X.K D x y H) :
    wpAny (model X.prog X.w) A (richCompare .NotEq u v) (fun r s' => r = .bool false ∧ ∃ H', L2.Inv X pins σ H' s' ∧ Ext H H') X.xe s := by
  obtain ⟨a, b, xs, ys, rfl, rfl, ha, hb, p⟩ := d
  cases rx
  cases ry
  obtain ⟨its, r, e, z⟩ := I.tuple ha
  obtain ⟨its2, r2, e2, z2⟩ := I.tuple hb
  have hsz : its.toArray.size = its2.toArray.size := by rw [List.size_toArray, List.size_toArray, ← r.length, ← r2.length]; exact p.1
  exact rcNe_tupG hsz sb.room.units0 (fun _ s' => LoopI X pins σ H s') e e2 (fun i h1 h2 s' q => turnP hD h sb p r r2 i h1 h2 s' q) (fun s' q => ⟨rfl, q⟩) ⟨H, I, Ext.rfl'⟩
theorem RcP.eqP (h : RcP X n D) (hr : ∀ x y H, D x y H → ∃ a b, x = .ref a ∧ y = .ref b) : EqP X n D := by
  intro A pins s σ H x y u v sb I rx ry d
  obtain ⟨a, b, rfl, rfl⟩ := hr _ _ _ d
  cases rx
  cases ry
  by_cases hab : a = b
  · subst hab
    exact SeqAt.EqAt.same (A := A) (s := s) (.ref a) X.prog X.w X.xe _ ⟨rfl, H, I, Ext.rfl'⟩
  · refine GQ.eqBool_refG hab (wpAny_mono (h A pins s σ H (.ref a) (.ref b) _ _ sb I rfl rfl d) (fun r s' q => ?_) fun _ _ x => x)
    obtain ⟨hr', q⟩ := q
    exact ⟨true, hr', rfl, q⟩
theorem eqP_tup (hD : Mon D) (h : EqP X n D) : EqP X (n + 1) (DTup X.K D) := (rcP_tup hD h).eqP fun _ _ _ d => let ⟨a, b, _, _, hx, hy, _⟩ := d; ⟨a, b, hx, hy⟩
end
/-- what Ratio's == says -/
def r_req (C : Addr) (ds : List Dt) (a : Dt) : Prop := ∃ n m i j, ds = [rat C n m, rat C i j] ∧ a = .bl (decide (n = i) && decide (m = j))
abbrev p_req (K : PySem.W.Frag) (C : Addr) : Sp := spR K 2 (r_req C)
/-- what the class is known for by its == -/
structure RatE (P : Program) (w : World) (K : PySem.W.Frag) (mg : Str → Option Value) (base : Heap) (C q : Addr) (qd : FuncData) : Prop where
  g : GOk P w K mg base 2 q qd ["self", "other"] (p_req K C)
  s : PySem.W.findIn K (.ref C) "__eq__" = some (some (.ref q))
  n : PySem.W.findIn K (.ref C) "__ne__" = some (some (.builtin "object.__ne__"))
  f : PySem.W.isFn K (.ref q) = true
  m : PySem.W.mroIn K C (.type "object") = some true
  b : Binds K qd ["self", "other"] []
section
variable {X : Cx} {C q : Addr} {qd : FuncData}
/-- two ratios with the same parts -/
def DRat (K : PySem.W.Frag) (C : Addr) : Eqv := fun x y H => ∃ n m, Rep K H x (rat C n m) ∧ Rep K H y (rat C n m)
theorem rcP_rat (T : RatE X.prog X.w X.K X.mg X.base C q qd) : RcP X 2 (DRat X.K C) := by
  intro A pins s σ H x y u v sb I rx ry d
  obtain ⟨n, m, r1, r2⟩ := d
  obtain ⟨a, dx, rfl, ha⟩ := r1.ratI
  obtain ⟨b, dy, rfl, hb'⟩ := r2.ratI
  cases rx
  cases ry
  obtain ⟨mA, J, _⟩ := ins_get I.hok ha
  obtain ⟨mB, J', _⟩ := ins_get I.hok hb'
  obtain ⟨od, J, _⟩ := J.look
  obtain ⟨od', J', _⟩ := J'.look
  obtain ⟨mm, hF⟩ := I.fr
  refine PySem.W.cmp_K (op := .Eq) (tb := .ref C) sb.room.units0 hF I.ok.mod.kin J J'.type (by simp [PySem.W.notFirst]) T.s T.f ?_
  have hsp : p_req X.K C [.ref a, .ref b] H (fun v H' => v = .bl true ∧ Ext H H') E0 := ⟨[rat C n m, rat C n m], .bl true, .cons r1 (.cons r2 .nil), rfl, ⟨n, m, n, m, rfl, by simp⟩, fun v H' sm rv => ⟨rv.blI, sm⟩⟩
  have e0 : Env0 X.prog X.w X.K X.mg X.base A X.stack s H := by
    have e := I.env0
    exact ⟨by rw [sb.fr]; exact e.frames, e.mod, e.bs, e.bsz, e.funs, e.frf, e.hok, e.bare⟩
  have rv2 : Vals [V.ref a, V.ref b] [Value.ref a, Value.ref b] := .cons rfl (.cons rfl .nil)
  refine wpAny_call (codeAny_mono (T.g.go A X.stack s H ⟨[.ref a, .ref b], []⟩ [.ref a, .ref b] [.ref a, .ref b] _ E0 sb.room sb.gd e0 (by
    have := T.b s [.ref a, .ref b] I.kIn rfl
    simpa using this) rv2 hsp) fun r s' hq => ?_)
  cases r with
  | error e => exact (passL : Passes (L2.CX X.prog X.w) X E0) pins σ H s e s' I hq
  | ok fl =>
    cases fl with
    | ret w =>
      obtain ⟨z, H', I', rz, ez, ex⟩ := I.after hq
      subst ez
      cases rz
      exact ⟨rfl, H', I', ex⟩
    | next => exact False.elim hq
    | brk => exact False.elim hq
    | cont => exact False.elim hq
theorem eqP_rat (T : RatE X.prog X.w X.K X.mg X.base C q qd) : EqP X 2 (DRat X.K C) := (rcP_rat T).eqP fun x y H d => by
  obtain ⟨n, m, r1, r2⟩ := d
  obtain ⟨a, dx, rfl, ha⟩ := r1.ratI
  obtain ⟨b, dy, rfl, hb'⟩ := r2.ratI
  exact ⟨a, b, rfl, rfl⟩
/-- None, bools, ints, texts, ratios, and tuples of these, so deep -/
def eqK (C : Addr) : Nat → Dt → Prop
  | 0, d => d = .non ∨ (∃ b, d = .bl b) ∨ (∃ i, d = .int i) ∨ (∃ x, d = .str x) ∨ ∃ a b, d = rat C a b
  | n + 1, d => (d = .non ∨ (∃ b, d = .bl b) ∨ (∃ i, d = .int i) ∨ (∃ x, d = .str x) ∨ ∃ a b, d = rat C a b) ∨ ∃ xs, d = .tup xs ∧ ∀ x ∈ xs, eqK C n x
def DRep (K : PySem.W.Frag) (C : Addr) (n : Nat) : Eqv := fun x y H => ∃ d, Rep K H x d ∧ Rep K H y d ∧ eqK C n d
theorem ext_gr {H H' : Hp} (e : Ext H H') : Gr H H' := fun a o h _ => e a o h
theorem mon_rep {K : PySem.W.Frag} {n : Nat} : Mon (DRep K C n) := fun x y H H' e d => by
  obtain ⟨d, r1, r2, k⟩ := d
  exact ⟨d, r1.mono (ext_gr e), r2.mono (ext_gr e), k⟩
theorem prs_rep {K : PySem.W.Frag} {n : Nat} {H : Hp} : ∀ {xs ys : List V} {ds : List Dt}, RepA K H xs ds → RepA K H ys ds → (∀ d ∈ ds, eqK C n d) → Prs (DRep K C n) xs ys H
  | _, _, _, .nil, .nil, _ => .nil
  | _, _, _, .cons r1 h1, .cons r2 h2, hk => .cons ⟨_, r1, r2, hk _ List.mem_cons_self⟩ (prs_rep h1 h2 fun d hd => hk d (List.mem_cons_of_mem _ hd))
theorem rep_base {K : PySem.W.Frag} {x y : V} {H : Hp} {d : Dt} (r1 : Rep K H x d) (r2 : Rep K H y d) (h : d = .non ∨ (∃ b, d = .bl b) ∨ (∃ i, d = .int i) ∨ (∃ x, d = .str x) ∨ ∃ a b, d = rat C a b) : DFlat x y H ∨ DRat K C x y H := by
  rcases h with rfl | ⟨b, rfl⟩ | ⟨i, rfl⟩ | ⟨t, rfl⟩ | ⟨a, b, rfl⟩
  · cases r1
    cases r2
    exact .inl ⟨rfl, rfl, rfl⟩
  · obtain rfl := r1.blI
    obtain rfl := r2.blI
    exact .inl ⟨rfl, rfl, by cases b <;> rfl⟩
  · obtain rfl := r1.intI
    obtain rfl := r2.intI
    exact .inl ⟨rfl, rfl, by simp [eqV]⟩
  · obtain rfl := r1.strI
    obtain rfl := r2.strI
    exact .inl ⟨rfl, rfl, by simp [eqV]⟩
  · exact .inr ⟨a, b, r1, r2⟩
theorem eqP_rep (T : RatE X.prog X.w X.K X.mg X.base C q qd) : ∀ n, EqP X (n + 2) (DRep X.K C n)
  | 0 => ((eqG_flat.p.mono (Nat.zero_le 2)).or (eqP_rat T)).imp fun x y H d => by
    obtain ⟨d, r1, r2, k⟩ := d
    exact rep_base r1 r2 k
  | n + 1 => (((eqG_flat.p.mono (Nat.zero_le (n + 1 + 2))).or ((eqP_rat T).mono (by omega))).or (eqP_tup mon_rep (eqP_rep T n))).imp fun x y H d => by
    obtain ⟨d, r1, r2, k⟩ := d
    rcases k with k | ⟨xs, rfl, k⟩
    · exact .inl (rep_base r1 r2 k)
    · obtain ⟨a, us, rfl, ha, ra⟩ := r1.tupI
      obtain ⟨b, vs, rfl, hb, rb⟩ := r2.tupI
      exact .inr ⟨a, b, us, vs, rfl, rfl, ha, hb, prs_rep ra rb k⟩
/-- x != y: Nones, ratios, or tuples of the same things -/
def rNeQ (K : PySem.W.Frag) (C : Addr) : R2 := fun x y H Q => (DTup K (DRep K C 4) x y H ∧ ∀ H', Same H H' → Q (.bl false) H') ∨ rNeD K x y H Q ∨ rOwnN C (p_req K C) x y H Q
theorem op_neQ (T : RatE X.prog X.w X.K X.mg X.base C q qd) (hr : Room 7 X.A) (hg : X.A.guards = some []) : OpR X (compareOp .NotEq) (rNeQ X.K C) := by
  intro pins s σ H x y v u Q I rx ry h
  rcases h with ⟨d, q⟩ | h | h
  · show wpAny (model X.prog X.w) X.A (richCompare .NotEq v u) (EP X pins σ Q) X.xe s
    refine wpAny_mono (neP_tup mon_rep (eqP_rep T 4) ⟨hr, rfl, hg⟩ I rx ry d) (fun r s' z => ?_) fun _ _ x => x
    obtain ⟨hr', H', I', e⟩ := z
    subst hr'
    exact ⟨.bl false, H', I', rfl, q H' e⟩
  · exact op_neD hr.units pins s σ H x y v u Q I rx ry h
  · exact op_ownN T.g T.m T.n T.s T.f T.b (hr.mono (by decide)) hg passL pins s σ H x y v u Q I rx ry h
end
section
variable {K : PySem.W.Frag} {S : Sta} {C : Addr} {d : Dt} {n m i j : Int}
theorem rv_neTup {xs : List Dt} (h : ∀ x ∈ xs, eqK C 4 x) : Rv2 K S (rNeQ K C) (.tup xs) (.tup xs) (Eq (.bl false)) := fun H v u hi r1 r2 Q q => by
  obtain ⟨a, us, rfl, ha, ra⟩ := r1.tupI
  obtain ⟨b, vs, rfl, hb, rb⟩ := r2.tupI
  exact .inl ⟨⟨a, b, us, vs, rfl, rfl, ha, hb, prs_rep ra rb h⟩, fun H' sm => q _ _ H' sm.gr (S.st hi sm) (.bl _) rfl⟩
end
end Bf
namespace Bf
open PySem PySem.Spec PyProof.Rows L2 PySem.SeqAt
open AutoSeq1 (wpAny_loadPart')
open MeetsSeq MeetsSeq2 MeetsSeq3 SeqRoads2
/-! ## == and != of lists that hold ratios: equal ones are seen to be equal -/
section
variable {prog : Program} {w : World} {A : Around} {R : Result → Shared → Prop} {E : Value → Shared → Prop} {s : Shared}
/-- both lists are read anew at each turn -/
def ListJ (prog : Program) (w : World) (A : Around) (E : Value → Shared → Prop) (l b : Addr) (N : Nat) (I : Nat → Shared → Prop) : Prop :=
  ∀ i s, I i s → ∃ (xs ys : Array Value) (n n2 : Nat) (dd dd2 : Option Addr) (sl sl2 : Array (Option Value)), s.heap.get? l = some { cls := .type "list", dict := dd, data := .seq xs n, slots := sl } ∧ s.heap.get? b = some { cls := .type "list", dict := dd2, data := .seq ys n2, slots := sl2 } ∧ xs.size = N ∧ ys.size = N ∧
    ∀ (h1 : i < xs.size) (h2 : i < ys.size), wpAny (model prog w) A.in1 (eqBool xs[i] ys[i]) (fun r s' => r = true ∧ I (i + 1) s') E s
theorem list_turns {code : Int} {res : Bool} (hc : (code = 2 ∧ res = true) ∨ (code = 3 ∧ res = false)) (l b : Addr) (N : Nat) (I : Nat → Shared → Prop) (hl : ListJ prog w A (fun e s' => R (.error e) s') l b N I) (fin : ∀ s, I N s → R (.ok (.ret (.bool res))) s) :
    ∀ k i : Nat, N - i = k → i ≤ N → ∀ s, I i s → wpAny (model prog w) A.in1 (Builtin.«list.__eq__.loop» ⟨[.ref l, .ref b, rawInt i, rawInt code], []⟩) (GQ.FinOf prog w A R) (fun e s' => R (.error e) s') s
  | 0, i, hk, hi, s, h => by
    obtain ⟨xs, ys, n, n2, dd, dd2, sl, sl2, hx, hy, z1, z2, _⟩ := hl _ _ h
    have hR : R (.ok (.ret (.bool res))) s := fin s ((show i = N by omega) ▸ h)
    have g1 : xs[((i : Nat) : Int).toNat]? = none := by simp; omega
    have g2 : ys[((i : Nat) : Int).toNat]? = none := by simp; omega
    obtain ⟨hp, g, d, tk, os⟩ := s
    rcases hc with ⟨rfl, rfl⟩ | ⟨rfl, rfl⟩
    · wp_walk using wpAny_loadPart' hx, wpAny_loadPart' hy
      rw [g1, g2]
      wp_walk using wpAny_loadPart' hx, wpAny_loadPart' hy
      show R (.ok (.ret (.bool (xs.size == ys.size)))) _
      rw [z1, z2]
      simpa using hR
    · wp_walk using wpAny_loadPart' hx, wpAny_loadPart' hy
      rw [g1, g2]
      wp_walk using wpAny_loadPart' hx, wpAny_loadPart' hy
      show R (.ok (.ret (.bool (xs.size != ys.size)))) _
      rw [z1, z2]
      simpa using hR
  | k + 1, i, hk, hi, s, h => by
    obtain ⟨xs, ys, n, n2, dd, dd2, sl, sl2, hx, hy, z1, z2, turn⟩ := hl _ _ h
    have lt1 : i < xs.size := by omega
    have lt2 : i < ys.size := by omega
    have ht := turn lt1 lt2
    have g1 : xs[((i : Nat) : Int).toNat]? = some xs[i] := by simp [lt1]
    have g2 : ys[((i : Nat) : Int).toNat]? = some ys[i] := by simp [lt2]
    have ec : ((i : Int) + 1) = ((i + 1 : Nat) : Int) := by omega
    have again := fun s2 (q : I (i + 1) s2) => list_turns hc l b N I hl fin k (i + 1) (by omega) (by omega) s2 q
    obtain ⟨hp, g, d, tk, os⟩ := s
    rcases hc with ⟨rfl, rfl⟩ | ⟨rfl, rfl⟩ <;>
    · wp_walk using wpAny_loadPart' hx, wpAny_loadPart' hy
      rw [g1, g2]
      refine wpAny_bind (wpAny_mono ht (fun r s2 q => ?_) fun _ _ x => x)
      obtain ⟨rfl, q⟩ := q
      have ha := again s2 q
      obtain ⟨hp2, gg2, d2, tk2, os2⟩ := s2
      wp_walk
      rw [ec]
      exact ⟨plainId_quiet plain_eq_loop _, codeAny_builtin entry_eq_loop (by
        rw [Around.under_plainId plain_eq_loop _]
        exact ha)⟩
theorem list_both {op : CmpOp} {res : Bool} (hop : (op = .Eq ∧ res = true) ∨ (op = .NotEq ∧ res = false)) {l b : Addr} {N : Nat} {Q : Value → Shared → Prop} (hu : A.units < cLine) (I : Nat → Shared → Prop) (hl : ListJ prog w A E l b N I)
    (fin : ∀ s, I N s → Q (.bool res) s) (h : I 0 s) : wpAny (model prog w) A (richCompare op (.ref l) (.ref b)) Q E s := by
  obtain ⟨xs, ys, n, n2, dd, dd2, sl, sl2, hx, hy, z1, z2, _⟩ := hl _ _ h
  have hne : ¬ (xs.size != ys.size) = true := by simp [z1, z2]
  have f3 := AutoSeq1.sub_list_list
  rcases hop with ⟨rfl, rfl⟩ | ⟨rfl, rfl⟩
  · have loop := list_turns (A := A) (R := wants (fun v s' => v ≠ .notImplemented ∧ Q v s') E) (.inl ⟨rfl, rfl⟩) l b N I hl (fun s' q => ⟨(fun x => nomatch x), fin s' q⟩) _ 0 rfl (Nat.zero_le _) s h
    refine wpAny_richCompare_same_room (op := .Eq) ⟨_, hx, rfl⟩ ⟨_, hy, rfl⟩ F.slot_list_eq (GQ.call_here F.slot_list_eq ⟨_, hx, rfl⟩ F.entry_list_eq (F.args_list_eq_2 _ _) ?_) hu
    obtain ⟨hp, g, d, tk, os⟩ := s
    wp_walk using wpAny_loadPart' hx, wpAny_loadPart' hy
    exact ⟨plainId_quiet plain_eq_loop _, codeAny_builtin entry_eq_loop (by
      rw [Around.under_plainId plain_eq_loop _]
      exact loop)⟩
  · have loop := list_turns (A := A) (R := wants (fun v s' => v ≠ .notImplemented ∧ Q v s') E) (.inr ⟨rfl, rfl⟩) l b N I hl (fun s' q => ⟨(fun x => nomatch x), fin s' q⟩) _ 0 rfl (Nat.zero_le _) s h
    refine wpAny_richCompare_same_room (op := .NotEq) ⟨_, hx, rfl⟩ ⟨_, hy, rfl⟩ F.slot_list_ne (GQ.call_here F.slot_list_ne ⟨_, hx, rfl⟩ F.entry_list_ne (F.args_list_ne_2 _ _) ?_) hu
    obtain ⟨hp, g, d, tk, os⟩ := s
    wp_walk using wpAny_loadPart' hx, wpAny_loadPart' hy
    exact ⟨plainId_quiet plain_eq_loop _, codeAny_builtin entry_eq_loop (by
      rw [Around.under_plainId plain_eq_loop _]
      exact loop)⟩
end
def DLst (K : PySem.W.Frag) (D : Eqv) : Eqv := fun x y H => ∃ a b xs ys, x = .ref a ∧ y = .ref b ∧ SqL K H a xs ∧ SqL K H b ys ∧ Prs D xs ys H
section
variable {X : Cx} {n : Nat} {D : Eqv}
theorem cmp_lst {op : CmpOp} {res : Bool} (hop : (op = .Eq ∧ res = true) ∨ (op = .NotEq ∧ res = false)) (hD : Mon D) (h : EqP X n D) {A : Around} {pins : List (Addr × Obj)} {s : Shared} {σ : L2.St} {H : Hp} {x y : V} {u v : Value} (sb : SubG X (n + 1) A) (I : L2.Inv X pins σ H s) (rx : RelV x u) (ry : RelV y v) (d : DLst X.K D x y H) :
    wpAny (model X.prog X.w) A (richCompare op u v) (fun r s' => r = .bool res ∧ ∃ H', L2.Inv X pins σ H' s' ∧ Ext H H') X.xe s := by
  obtain ⟨a, b, xs, ys, rfl, rfl, ha, hb, p⟩ := d
  cases rx
  cases ry
  refine list_both hop (N := xs.length) sb.room.units0 (fun _ s' => LoopI X pins σ H s') (fun i s' q => ?_) (fun s' q => ⟨rfl, q⟩) ⟨H, I, Ext.rfl'⟩
  obtain ⟨H1, I1, e1⟩ := id q
  obtain ⟨its, r, t1, _⟩ := I1.list (ha.ext e1)
  obtain ⟨its2, r2, t2, _⟩ := I1.list (hb.ext e1)
  obtain ⟨⟨cls, dd, data, sl⟩, ho, hc, k, hd⟩ := t1.isList
  obtain ⟨⟨cls2, dd2, data2, sl2⟩, ho2, hc2, k2, hd2⟩ := t2.isList
  simp only at hc hd hc2 hd2
  subst hc hd hc2 hd2
  exact ⟨its.toArray, its2.toArray, k, k2, dd, dd2, sl, sl2, ho, ho2, by rw [List.size_toArray, ← r.length], by rw [List.size_toArray, ← r2.length, ← p.1], fun h1 h2 => turnP hD h sb p r r2 i h1 h2 s' q⟩
theorem eqP_lst (hD : Mon D) (h : EqP X n D) : EqP X (n + 1) (DLst X.K D) := RcP.eqP (fun A pins s σ H x y u v sb I rx ry d => cmp_lst (.inl ⟨rfl, rfl⟩) hD h sb I rx ry d) fun _ _ _ d => let ⟨a, b, _, _, hx, hy, _⟩ := d; ⟨a, b, hx, hy⟩
end
/-- .. and lists of these -/
def eqL (C : Addr) : Nat → Dt → Prop
  | 0, d => eqK C 0 d
  | n + 1, d => eqK C 0 d ∨ (∃ xs, d = .tup xs ∧ ∀ x ∈ xs, eqL C n x) ∨ ∃ xs, d = .lst xs ∧ ∀ x ∈ xs, eqL C n x
def DRepL (K : PySem.W.Frag) (C : Addr) (n : Nat) : Eqv := fun x y H => ∃ d, Rep K H x d ∧ Rep K H y d ∧ eqL C n d
section
variable {X : Cx} {C q : Addr} {qd : FuncData}
theorem mon_repL {K : PySem.W.Frag} {n : Nat} : Mon (DRepL K C n) := fun x y H H' e d => by
  obtain ⟨d, r1, r2, k⟩ := d
  exact ⟨d, r1.mono (ext_gr e), r2.mono (ext_gr e), k⟩
theorem prs_repL {K : PySem.W.Frag} {n : Nat} {H : Hp} : ∀ {xs ys : List V} {ds : List Dt}, RepA K H xs ds → RepA K H ys ds → (∀ d ∈ ds, eqL C n d) → Prs (DRepL K C n) xs ys H
  | _, _, _, .nil, .nil, _ => .nil
  | _, _, _, .cons r1 h1, .cons r2 h2, hk => .cons ⟨_, r1, r2, hk _ List.mem_cons_self⟩ (prs_repL h1 h2 fun d hd => hk d (List.mem_cons_of_mem _ hd))
theorem eqP_repL (T : RatE X.prog X.w X.K X.mg X.base C q qd) : ∀ n, EqP X (n + 2) (DRepL X.K C n)
  | 0 => (eqP_rep T 0).imp fun x y H d => d
  | n + 1 => ((((eqP_rep T 0).mono (by omega)).or (eqP_tup mon_repL (eqP_repL T n))).or (eqP_lst mon_repL (eqP_repL T n))).imp fun x y H d => by
    obtain ⟨d, r1, r2, k⟩ := d
    rcases k with k | ⟨xs, rfl, k⟩ | ⟨xs, rfl, k⟩
    · exact .inl (.inl ⟨d, r1, r2, k⟩)
    · obtain ⟨a, us, rfl, ha, ra⟩ := r1.tupI
      obtain ⟨b, vs, rfl, hb, rb⟩ := r2.tupI
      exact .inl (.inr ⟨a, b, us, vs, rfl, rfl, ha, hb, prs_repL ra rb k⟩)
    · obtain ⟨a, us, rfl, ha, ra⟩ := r1.lstI
      obtain ⟨b, vs, rfl, hb, rb⟩ := r2.lstI
      exact .inr ⟨a, b, us, vs, rfl, rfl, ha, hb, prs_repL ra rb k⟩
end
end Bf
namespace Bf
open PySem PySem.Spec PyProof.Rows L2
/-! ## str(x) by an own __str__ -/
def rStrO (C : Addr) (sp : Sp) : List V → Hp → VK → Prop := fun xs H Q => ∃ a dx fs, xs = [.ref a] ∧ H a = some (.ins C dx fs) ∧ sp [.ref a] H (fun v H' => ∃ y, v = .str y ∧ Q v H') E0
theorem call_strO {X : Cx} {C f : Addr} {fd : FuncData} {ps : List Str} {sp : Sp} {n : Nat} (F : GOk X.prog X.w X.K X.mg X.base n f fd ps sp) (hs : PySem.W.findIn X.K (.ref C) "__str__" = some (some (.ref f))) (hf : PySem.W.isFn X.K (.ref f) = true)
    (hb : Binds X.K fd ps []) (hr : Room (n + 2) X.A) (hg : X.A.guards = some []) (hx : Passes (L2.CX X.prog X.w) X E0 := passL) : CallR X (.type "str") (rStrO C sp) := by
  intro pins s σ H xs us Q I rs h
  obtain ⟨a, dx, fs, rfl, ha, hsp⟩ := h
  cases rs with
  | cons r1 rs =>
    cases rs
    cases r1
    obtain ⟨mA, J, _⟩ := ins_get I.hok ha
    obtain ⟨od, J, _⟩ := J.look
    refine PySem.W.kso_call (K := X.K) (by have := hr.units; show X.A.units + 1 + 1 < _; omega) I.kIn J hs hf ?_
    have hl := F.len _ _ _ _ hsp
    have e0 : Env0 X.prog X.w X.K X.mg X.base X.A.in1.in1 X.stack s H := I.env0.in1.in1
    refine wpAny_call (codeAny_mono (F.go X.A.in1.in1 X.stack s H ⟨[.ref a], []⟩ [.ref a] [.ref a] _ E0 hr.in1.in1 hg e0 (by
      have := hb s [.ref a] I.kIn (by simpa using hl)
      simpa using this) (.cons rfl .nil) hsp) fun r s' hq => ?_)
    cases r with
    | error e => exact hx pins σ H s e s' I hq
    | ok fl =>
      cases fl with
      | ret w =>
        obtain ⟨z, H', I', rz, ⟨y, ez, q⟩⟩ := I.after hq
        subst ez
        obtain ⟨t, rfl⟩ := rz
        exact ⟨.str y, H', I', ⟨t, rfl⟩, q⟩
      | next => exact False.elim hq
      | brk => exact False.elim hq
      | cont => exact False.elim hq
end Bf
namespace Bf
open PySem PySem.Spec PyProof.Rows L2
/-! ## numerals in texts -/
abbrev sg (x : Str) : List Nat := x.cps.toList
theorem sg_len (x : Str) : (sg x).length = x.length := Array.length_toList
theorem sg_ext {x y : Str} (h : sg x = sg y) : x = y := Str.ext' (Array.toList_inj.mp h)
def isDg (c : Nat) : Bool := decide (48 ≤ c) && decide (c ≤ 57)
/-- one to k digits without needless zeros -/
def numW (k : Nat) (x : Str) : Bool := decide (1 ≤ (sg x).length) && decide ((sg x).length ≤ k) && (sg x).all isDg && (decide ((sg x).length = 1) || !decide ((sg x).head? = some 48))
def valW (x : Str) : Nat := NumText.digitsVal (sg x)
theorem dig_ascii : ∀ c, c < 128 → Unicode.isDigit c = isDg c := by
  intro c h
  have k : ∀ n : _root_.Fin 128, Unicode.isDigit n.val = isDg n.val := by decide +kernel
  exact k ⟨c, h⟩
theorem asc_dig (x : Str) : (Txt.isascii x && Txt.isdigit x) = (decide (1 ≤ (sg x).length) && (sg x).all isDg) := by
  have e1 : Txt.isascii x = (sg x).all fun c => decide (c < 128) := by
    show x.cps.all (· < 128) = _
    rw [← Array.all_toList]
  have e2 : Txt.isdigit x = (decide (0 < (sg x).length) && (sg x).all Unicode.isDigit) := by
    show (decide (x.length > 0) && x.cps.all Unicode.isDigit) = _
    rw [← Array.all_toList, sg_len]
  rw [e1, e2]
  by_cases h : (sg x).all (fun c => decide (c < 128)) = true
  · rw [h, Bool.true_and]
    congr 1
    rw [Bool.eq_iff_iff, List.all_eq_true, List.all_eq_true]
    have h' := List.all_eq_true.mp h
    constructor
    · intro z c hc
      rw [← dig_ascii c (of_decide_eq_true (h' c hc))]
      exact z c hc
    · intro z c hc
      rw [dig_ascii c (of_decide_eq_true (h' c hc))]
      exact z c hc
  · rw [Bool.eq_false_iff.mpr h, Bool.false_and]
    symm
    rw [Bool.and_eq_false_iff]
    right
    rw [Bool.eq_false_iff]
    intro z
    refine h (List.all_eq_true.mpr fun c hc => decide_eq_true ?_)
    have := List.all_eq_true.mp z c hc
    unfold isDg at this
    rw [Bool.and_eq_true, decide_eq_true_eq, decide_eq_true_eq] at this
    omega
theorem sg_zero : sg ("0" : Str) = [48] := by decide
theorem stw_zero (x : Str) : Txt.startswith x "0" = decide ((sg x).head? = some 48) := by
  have hl : (sg x).length = x.length := sg_len x
  show (decide (0 + ("0" : Str).length ≤ x.length) && Builtin.Str.subAt x "0" 0) = _
  rw [← hl, PySem.StrLaws.subAt_eq]
  show (decide (0 + 1 ≤ (sg x).length) && (((sg x).drop 0).take 1 == [48])) = _
  rw [List.drop_zero]
  cases sg x with
  | nil => decide
  | cons c r =>
    rw [decide_eq_true (by simp : 0 + 1 ≤ (c :: r).length), Bool.true_and]
    show ([c] == [48]) = _
    by_cases hc : c = 48
    · subst hc; rfl
    · rw [decide_eq_false (by simpa using hc)]
      exact beq_eq_false_iff_ne.mpr fun z => hc (List.cons.inj z).1
theorem eq_zero (x : Str) : decide (x = ("0" : Str)) = (decide ((sg x).length = 1) && decide ((sg x).head? = some 48)) := by
  rw [Bool.eq_iff_iff, Bool.and_eq_true, decide_eq_true_eq, decide_eq_true_eq, decide_eq_true_eq]
  constructor
  · rintro rfl; decide
  · rintro ⟨h1, h2⟩
    refine sg_ext ?_
    rw [sg_zero]
    match h : sg x, h1, h2 with
    | [c], _, h2 => simp at h2; rw [h2]
/-- as the program looks -/
theorem numeral_eq (x : Str) (k : Nat) : ((Txt.isascii x && Txt.isdigit x) && !decide (k < (sg x).length) && (decide (x = ("0" : Str)) || !Txt.startswith x "0")) = numW k x := by
  rw [asc_dig, stw_zero, eq_zero]
  unfold numW
  have e : (!decide (k < (sg x).length)) = decide ((sg x).length ≤ k) := by
    rw [Bool.eq_iff_iff]; simp
  rw [e]
  cases decide (1 ≤ (sg x).length) <;> cases (sg x).all isDg <;> cases decide ((sg x).length ≤ k) <;> cases decide ((sg x).length = 1) <;> cases decide ((sg x).head? = some 48) <;> rfl
/-- what int says -/
theorem num_int {k : Nat} {x : Str} (h : numW k x = true) (hk : k ≤ 640) : intText? x = some (valW x : Int) ∧ x.length ≤ 640 := by
  unfold numW at h
  simp only [Bool.and_eq_true, decide_eq_true_eq] at h
  obtain ⟨⟨⟨h1, h2⟩, h3⟩, _⟩ := h
  have hl : (sg x).length = x.length := sg_len x
  have hd : NumText.AllDigits (sg x) := by
    intro c hc
    have := List.all_eq_true.mp h3 c hc
    unfold isDg at this
    rw [Bool.and_eq_true, decide_eq_true_eq, decide_eq_true_eq] at this
    exact this
  exact ⟨intText_digits hd (fun e => by rw [show sg x = [] from e] at h1; simp at h1) (by omega), by omega⟩
theorem val_lt {x : Str} : ∀ (l : List Nat) (a : Nat), l.all isDg = true → l.foldl (fun acc c => acc * 10 + (c - 48)) a < (a + 1) * 10 ^ l.length
  | [], a, _ => by simp
  | c :: l, a, h => by
    rw [List.all_cons, Bool.and_eq_true] at h
    have hc := h.1
    unfold isDg at hc
    rw [Bool.and_eq_true, decide_eq_true_eq, decide_eq_true_eq] at hc
    have := val_lt (x := x) l (a * 10 + (c - 48)) h.2
    rw [List.foldl_cons, List.length_cons, Nat.pow_succ]
    refine Nat.lt_of_lt_of_le this ?_
    have h1 : (a * 10 + (c - 48) + 1) ≤ (a + 1) * 10 := by omega
    have h2 := Nat.mul_le_mul_right (10 ^ l.length) h1
    have e : (a + 1) * 10 * 10 ^ l.length = (a + 1) * (10 ^ l.length * 10) := by ac_rfl
    omega
theorem num_lt {k : Nat} {x : Str} (h : numW k x = true) : valW x < 10 ^ k := by
  unfold numW at h
  simp only [Bool.and_eq_true, decide_eq_true_eq] at h
  obtain ⟨⟨⟨h1, h2⟩, h3⟩, _⟩ := h
  have := val_lt (x := x) (sg x) 0 h3
  have e : (0 + 1) * 10 ^ (sg x).length = 10 ^ (sg x).length := by omega
  rw [e] at this
  exact Nat.lt_of_lt_of_le this (Nat.pow_le_pow_right (by decide) h2)
/-- the text of a number -/
def numT (n : Nat) : Str := Str.ofString (toString ((n : Nat) : Int))
theorem sg_num (n : Nat) : sg (numT n) = TL.numL n := TL.tl_num n
theorem numL_head : ∀ n : Nat, 1 ≤ n → (TL.numL n).head? ≠ some 48 := by
  intro n
  induction n using Nat.strongRecOn with
  | ind n ih =>
    intro h
    rcases Nat.lt_or_ge n 10 with z | z
    · rw [TL.numL_lt z]
      simp
      omega
    · rw [TL.numL_step z]
      have := ih (n / 10) (by omega) (by omega)
      have hne := TL.numL_ne (n / 10)
      cases e : TL.numL (n / 10) with
      | nil => exact absurd e hne
      | cons c r => rw [e] at this; simpa using this
theorem num_txt {n k : Nat} (hk : 0 < k) (h : n < 10 ^ k) : numW k (numT n) = true ∧ valW (numT n) = n := by
  unfold numW valW
  rw [sg_num]
  have h1 := TL.numL_ne n
  have h2 := TL.numL_len hk h
  have h3 := TL.numL_digits n
  refine ⟨?_, TL.numL_val n⟩
  rw [Bool.and_eq_true, Bool.and_eq_true, Bool.and_eq_true]
  refine ⟨⟨⟨decide_eq_true ?_, decide_eq_true h2⟩, List.all_eq_true.mpr fun c hc => ?_⟩, ?_⟩
  · have := List.length_pos_iff.mpr h1; omega
  · have := h3 c hc
    unfold isDg
    rw [decide_eq_true this.1, decide_eq_true this.2]; rfl
  · rcases Nat.eq_zero_or_pos n with z | z
    · subst z
      rw [show TL.numL 0 = [48] from TL.numL_lt (by decide)]
      rfl
    · rw [decide_eq_false (numL_head n z)]
      simp
end Bf
namespace Bf
open PySem PySem.Spec PyProof.Rows L2 PySem.SeqAt
/-! ## a list == [], isinstance(x, (T, U, ..)) -/
section
variable {K : PySem.W.Frag} {S S1 S2 : Sta} {ρ : List (Option Dt)} {te tl : TE} {xs : List Dt} {d : Dt}
end
end Bf
namespace Bf
open PySem PySem.Spec PyProof.Rows L2
/-! ## texts, over data -/
abbrev rAsc : V → List V → Hp → VK → Prop := fun x xs H Q => ∃ a, x = .str a ∧ xs = [] ∧ True ∧ Q (.bl (Txt.isascii a)) H
abbrev rDig : V → List V → Hp → VK → Prop := fun x xs H Q => ∃ a, x = .str a ∧ xs = [] ∧ True ∧ Q (.bl (Txt.isdigit a)) H
abbrev rStw : V → List V → Hp → VK → Prop := fun x xs H Q => ∃ a b, x = .str a ∧ xs = [.str b] ∧ Q (.bl (Txt.startswith a b)) H
abbrev rSplit : V → List V → Hp → VK → Prop := fun x xs H Q => ∃ a b, x = .str a ∧ xs = [.str b] ∧ (b.length == 0) = false ∧ a.length + 2 ≤ sizeLine ∧ rNewStrs (Txt.split a b) H Q
abbrev rPart : V → List V → Hp → VK → Prop := fun x xs H Q => ∃ a b, x = .str a ∧ xs = [.str b] ∧ (b.length == 0) = false ∧ a.length ≤ sizeLine ∧
    ∀ p, H p = none → Q (.ref p) (upd H p (.tup [.str (Txt.partition a b).1, .str (Txt.partition a b).2.1, .str (Txt.partition a b).2.2]))
abbrev rJoin (K : PySem.W.Frag) : V → List V → Hp → VK → Prop := fun x xs H Q => ∃ a p, ∃ ys : List Str, x = .str a ∧ xs = [.ref p] ∧ (SqL K H p (ys.map V.str) ∨ SqT K H p (ys.map V.str)) ∧
    (ys.map (·.length)).sum + ys.length * a.length ≤ 16777216 ∧ Q (.str (Txt.join a ys)) H
/-- str(a text or an int) -/
def rStrX : List V → Hp → VK → Prop := fun xs H Q => (∃ i : Int, xs = [.int i] ∧ i.natAbs.log2 < 1920 ∧ Q (.str (toString i)) H) ∨ ∃ a, xs = [.str a] ∧ Q (.str a) H
abbrev rIntS : List V → Hp → VK → Prop := fun xs H Q => ∃ a n, xs = [.str a] ∧ PySem.intText? a = some n ∧ a.length ≤ 640 ∧ Q (.int n) H
abbrev rNotInSg : R2 := fun x y H Q => ∃ (c : Nat) (z : Str), x = .str ⟨#[c]⟩ ∧ y = .str z ∧ Q (.bl (!decide (c ∈ z.cps.toList))) H
/-- a text n times, n at least 1 -/
def rMulS : R2 := fun x y H Q => ∃ (a : Str) (n : Int), x = .str a ∧ y = .int n ∧ (1 ≤ n ∧ n ≤ 1000) ∧ (1 ≤ a.length ∧ a.length ≤ 1000) ∧ Q (.str ⟨(List.replicate n.toNat a.cps).foldl (· ++ ·) #[]⟩) H
section
variable {X : Cx}
theorem call_strX : CallR X (.type "str") rStrX := by
  intro pins s σ H xs us Q I rs h
  rcases h with h | h
  · exact call_str_int pins s σ H xs us Q I rs h
  · exact SkE.call_str_str pins s σ H xs us Q I rs h
theorem rep_size (c : Array Nat) : ∀ (k : Nat) (acc : Array Nat), (List.foldl (· ++ ·) acc (List.replicate k c)).size = acc.size + k * c.size
  | 0, acc => by simp
  | k + 1, acc => by
    rw [List.replicate_succ, List.foldl_cons, rep_size c k, Array.size_append, Nat.succ_mul]
    omega
theorem op_mulS : OpR X (binaryOp .Mult) rMulS := by
  intro pins s σ H x y v u Q I rx ry h
  obtain ⟨a, n, rfl, rfl, ⟨h1, h2⟩, ⟨h3, h4⟩, q⟩ := h
  obtain ⟨t, rfl⟩ := rx
  obtain ⟨t', rfl⟩ := ry
  have e1 : (decide (n < -(2 ^ 63 : Int)) || decide (n ≥ 2 ^ 63)) = false := by
    rw [decide_eq_false (by omega), decide_eq_false (by omega)]; rfl
  by_cases hn1 : n = 1
  · subst hn1
    have e2 : (((1 : Int) == 1) || a.length == 0) = true := rfl
    refine PySem.P.mul_str e1 (fun _ z => by rw [e2] at z; cases z) (fun _ z => by rw [e2] at z; cases z) ?_
    rw [if_neg (by omega), if_pos e2]
    have e : (⟨(List.replicate (1 : Int).toNat a.cps).foldl (· ++ ·) #[]⟩ : Str) = a := by
      show (⟨#[] ++ a.cps⟩ : Str) = a
      rw [Array.empty_append]
    rw [e] at q
    exact ⟨.str _, H, I, ⟨_, rfl⟩, q⟩
  have e2 : (n == 1 || a.length == 0) = false := by
    rw [beq_eq_false_iff_ne.mpr (by omega), beq_eq_false_iff_ne.mpr (by omega)]; rfl
  have hl : a.length * n.toNat ≤ 1000000 := by
    have : n.toNat ≤ 1000 := by omega
    exact Nat.le_trans (Nat.mul_le_mul h4 this) (by decide)
  refine PySem.P.mul_str e1 (fun _ _ => ?_) (fun _ _ => ?_) ?_
  · have : (1000 : Int) ≤ (2 ^ 63 - 1) / n := by
      apply (Int.le_ediv_iff_mul_le (by omega)).mpr
      have := Int.mul_le_mul_of_nonneg_left h2 (show (0 : Int) ≤ 1000 by decide)
      omega
    omega
  · exact PyProof.Rows.short24 (by omega)
  · rw [if_neg (by omega), if_neg (by rw [e2]; decide)]
    refine ⟨?_, ?_⟩
    · show (List.foldl (· ++ ·) #[] (List.replicate n.toNat a.cps)).size ≤ sizeLine
      rw [rep_size]
      have e : a.cps.size = a.length := rfl
      rw [e, Nat.mul_comm, Array.size_empty, Nat.zero_add]
      exact Nat.le_trans hl (by decide)
    · exact ⟨.str _, H, I.tok _, ⟨_, rfl⟩, q⟩
end
def mulT (a : Str) (n : Nat) : Str := ⟨(List.replicate n a.cps).foldl (· ++ ·) #[]⟩
def oneS (c : Nat) : Str := ⟨#[c]⟩
section
variable {K : PySem.W.Frag} {S S1 S2 S3 : Sta} {ρ : List (Option Dt)} {te ta tb tl : TE} {tt : TT} {a b : Str} {n : Int} {xs : List Dt} {j j2 : Nat} {vs : List Nat}
theorem strs_V {H : Hp} : ∀ {vs : List V} {ys : List Str}, RepA K H vs (ys.map Dt.str) → vs = ys.map V.str
  | _, [], r => by cases r; rfl
  | _, y :: ys, r => by
    cases r with
    | cons r1 r2 =>
      rw [r1.strI, strs_V r2]
      rfl
theorem rep_strs {H : Hp} : ∀ ys : List Str, RepA K H (ys.map V.str) (ys.map Dt.str)
  | [] => .nil
  | y :: ys => .cons (.str y) (rep_strs ys)
theorem ev_m0 {r : V → List V → Hp → VK → Prop} {d : Dt} (h : Ev K S S1 ρ te (Eq (.str a))) (hr : ∀ H (Q : VK), (∀ v, Rep K H v d → Q v H) → r (.str a) [] H Q) : Ev K S S1 ρ (tM0 r te) (Eq d) := fun σ H i s Q q =>
  h σ H i s _ fun v d' H1 g1 i1 r1 e => by
    subst e
    obtain rfl := r1.strI
    exact ⟨⟨a, rfl⟩, hr H1 Q fun v r2 => q v _ H1 g1 i1 r2 rfl⟩
theorem ev_asc (h : Ev K S S1 ρ te (Eq (.str a))) : Ev K S S1 ρ (tM0 rAsc te) (Eq (.bl (Txt.isascii a))) := ev_m0 h fun H Q q => ⟨a, rfl, rfl, trivial, q _ (.bl _)⟩
theorem ev_dig (h : Ev K S S1 ρ te (Eq (.str a))) : Ev K S S1 ρ (tM0 rDig te) (Eq (.bl (Txt.isdigit a))) := ev_m0 h fun H Q q => ⟨a, rfl, rfl, trivial, q _ (.bl _)⟩
theorem ev_m1 {r : V → List V → Hp → VK → Prop} {y d : Dt} (h : Ev K S S1 ρ te (Eq (.str a))) (h2 : Ev K S1 S2 ρ tb (Eq y)) (hr : ∀ H v (Q : VK), S2.I H → Rep K H v y → (∀ v' H', Gr H H' → S2.I H' → Rep K H' v' d → Q v' H') → r (.str a) [v] H Q) : Ev K S S2 ρ (tM1 r te tb) (Eq d) := fun σ H i s Q q =>
  h σ H i s _ fun v d' H1 g1 i1 r1 e => by
    subst e
    obtain rfl := r1.strI
    exact ⟨⟨a, rfl⟩, h2 σ H1 i1 (s.mono g1) _ fun u d2 H2 g2 i2 r2 e2 => by
      subst e2
      exact hr H2 u Q i2 r2 fun v' H' g3 i3 r3 => q v' _ H' ((g1.trans g2).trans g3) i3 r3 rfl⟩
theorem ev_stw (h : Ev K S S1 ρ te (Eq (.str a))) (h2 : Ev K S1 S2 ρ tb (Eq (.str b))) : Ev K S S2 ρ (tM1 rStw te tb) (Eq (.bl (Txt.startswith a b))) := ev_m1 h h2 fun H v Q i r q => by
  obtain rfl := r.strI
  exact ⟨a, b, rfl, rfl, q _ H (Gr.refl H) i (.bl _)⟩
theorem ev_join {ys : List Str} (h : Ev K S S1 ρ te (Eq (.str a))) (h2 : Ev K S1 S2 ρ tb (Eq (.lst (ys.map Dt.str)))) (hz : (ys.map (·.length)).sum + ys.length * a.length ≤ 16777216) : Ev K S S2 ρ (tM1 (rJoin K) te tb) (Eq (.str (Txt.join a ys))) := ev_m1 h h2 fun H v Q i r q => by
  obtain ⟨p, vs, rfl, hp, ra⟩ := r.lstI
  obtain rfl := strs_V ra
  exact ⟨a, p, ys, rfl, rfl, .inl hp, hz, q _ H (Gr.refl H) i (.str _)⟩
theorem ev_part (h : Ev K S S1 ρ te (Eq (.str a))) (h2 : Ev K S1 S2 ρ tb (Eq (.str b))) (hb : (b.length == 0) = false) (hz : a.length ≤ sizeLine) : Ev K S S2 ρ (tM1 rPart te tb) (Eq (.tup [.str (Txt.partition a b).1, .str (Txt.partition a b).2.1, .str (Txt.partition a b).2.2])) := ev_m1 h h2 fun H v Q i r q => by
  obtain rfl := r.strI
  refine ⟨a, b, rfl, rfl, hb, hz, fun p hp => ?_⟩
  have sm := same_new (o := .tup [.str (Txt.partition a b).1, .str (Txt.partition a b).2.1, .str (Txt.partition a b).2.2]) hp
  exact q _ _ sm.gr (S2.st i sm) (.tup (SqT.of upd_same) (.cons (.str _) (.cons (.str _) (.cons (.str _) .nil))))
/-- x.split(sep), a new list -/
theorem en_split (h : Ev K S S1 ρ te (Eq (.str a))) (h2 : Ev K S1 S2 ρ tb (Eq (.str b))) (hb : (b.length == 0) = false) (hz : a.length + 2 ≤ sizeLine) : EvN K S S2 ρ (tM1 rSplit te tb) ((Txt.split a b).map Dt.str) := fun σ H i s Q q =>
  h σ H i s _ fun v d' H1 g1 i1 r1 e => by
    subst e
    obtain rfl := r1.strI
    exact ⟨⟨a, rfl⟩, h2 σ H1 i1 (s.mono g1) _ fun u d2 H2 g2 i2 r2 e2 => by
      subst e2
      obtain rfl := r2.strI
      exact ⟨a, b, rfl, rfl, hb, hz, fun p hp => q p _ H2 _ (g1.trans g2) i2 hp (same_new hp).gr (S2.st i2 (same_new hp)) upd_same (rep_strs _)⟩⟩
theorem rc_strXI (hn : n.natAbs.log2 < 1920) : RvC K S rStrX [.int n] (Eq (.str (toString n))) := rc_at fun H vs i r Q q => by
  obtain ⟨v, rfl, r1⟩ := r.oneI
  obtain rfl := r1.intI
  exact .inl ⟨n, rfl, hn, q _ (.str _)⟩
theorem rc_intS (h : intText? a = some n) (hl : a.length ≤ 640) : RvC K S rIntS [.str a] (Eq (.int n)) := rc_at fun H vs i r Q q => by
  obtain ⟨v, rfl, r1⟩ := r.oneI
  obtain rfl := r1.strI
  exact ⟨a, n, rfl, h, hl, q _ (.int _)⟩
theorem rv_notInSg {c : Nat} {z : Str} : Rv2 K S rNotInSg (.str (oneS c)) (.str z) (Eq (.bl (!decide (c ∈ sg z)))) := rv_at fun H v u _ r1 r2 Q q => by
  obtain rfl := r1.strI
  obtain rfl := r2.strI
  exact ⟨c, z, rfl, rfl, q _ (.bl _)⟩
theorem rv_mulS {k : Nat} (h : 1 ≤ k ∧ k ≤ 1000) (ha : 1 ≤ a.length ∧ a.length ≤ 1000) : Rv2 K S rMulS (.str a) (.int k) (Eq (.str (mulT a k))) := rv_at fun H v u _ r1 r2 Q q => by
  obtain rfl := r1.strI
  obtain rfl := r2.intI
  refine ⟨a, k, rfl, rfl, by omega, ha, ?_⟩
  rw [Int.toNat_natCast]
  exact q _ (.str _)
theorem ev_slS {tlo thi : TO} {lo hi : Option Int} (ha : Ev K S S1 ρ te (Eq (.str a))) (hl : EvO K S1 S2 ρ tlo (Eq lo)) (hh : EvO K S2 S3 ρ thi (Eq hi)) (hz : a.length ≤ sizeLine) : Ev K S S3 ρ (tSl rSlS te tlo thi) (Eq (.str (cutS a lo hi))) := fun σ H i s Q q =>
  ha σ H i s _ fun v d' H1 g1 i1 r1 p1 => hl σ H1 i1 (s.mono g1) _ fun l H2 g2 i2 p2 => hh σ H2 i2 (s.mono (g1.trans g2)) _ fun u H3 g3 i3 p3 => by
    subst p1 p2 p3
    obtain rfl := r1.strI
    exact ⟨a, rfl, hz, q _ _ H3 ((g1.trans g2).trans g3) i3 (.str _) rfl⟩
theorem rv_ixS {i : Int} {c : Nat} (hz : a.length ≤ sizeLine) (h : atI (sg a) i = some c) : Rv2 K S (rIx K) (.str a) (.int i) (Eq (.str (oneS c))) := rv_at fun H v u _ r1 r2 Q q => by
  obtain rfl := r1.strI
  obtain rfl := r2.intI
  exact .inr (.inr ⟨a, i, c, rfl, rfl, hz, h, q _ (.str _)⟩)
/-- [x for x in a text if ..] -/
theorem ev_lcStr {p : Nat → Bool} (hmu : S.Mu) (h : Ev K S S ρ tl (Eq (.str a))) (hj : j ∈ vs) (hjl : j < ρ.length) (hz : (sg a).length ≤ 100000) (ht : ∀ c ∈ sg a, EvT K S S ((wipeD ρ vs).set j (some (.str (oneS c)))) tt (Eq (p c))) :
    Ev K S S ρ (tLc (iStr tl) (gName j) tt (tVar j) vs) (Eq (.lst (((sg a).filter p).map fun c => .str (oneS c)))) := fun σ H i s Q q =>
  h σ H i s _ fun v d H1 g1 i1 r1 p1 => by
    subst p1
    obtain rfl := r1.strI
    refine ⟨a, rfl, fun D hD => lc_it (walk_str (z := a)) (fun n H' => Gr H1 H' ∧ S.I H' ∧ ∃ acc, H' D = some (.lst acc) ∧ RepA K H' acc ((((sg a).take n).filter p).map fun c => .str (oneS c))) ⟨(same_new hD).gr, S.st i1 (same_new hD), [], upd_same, .nil⟩
      (fun n H' _ q' => trivial) (fun n x H' H2 hn q' y => ?_) fun H' q' => ?_⟩
    · obtain ⟨rfl, c, hc, rfl⟩ := y
      obtain ⟨g2, i2, acc, ha, rac⟩ := q'
      have hc' : (sg a)[n]? = some c := by rw [← hc]; simp
      have hmem : c ∈ sg a := List.mem_of_getElem? hc'
      have htake : (sg a).take (n + 1) = (sg a).take n ++ [c] := by rw [List.take_add_one, hc']; rfl
      have hnol : nolA ((((sg a).take n).filter p).map fun c => Dt.str (oneS c)) = true := nolA_all.mpr fun y hy => by
        obtain ⟨z, _, rfl⟩ := List.mem_map.mp hy
        rfl
      refine lc_turns (g := σ) (Z := fun _ _ => True) (i := n) (acc := acc) (ds := (((sg a).take n).filter p).map fun c => .str (oneS c)) (dx := .str (oneS c)) (p := p c) (Φ := Eq (.str (oneS c))) (S := S) (S1 := S) (fun g e i => hmu i1 g hD e i) (Sta.Le.refl S) hD hj (s.mono g1) g2 i2 ha rac hnol (.str _) ?_ (ht c hmem) (fun e => (ev_var (d := .str (oneS c)) (List.getElem?_set_self (by rw [wipeD_lenT]; exact hjl))).weak fun d e2 => ⟨e2, e2 ▸ rfl⟩) (fun e H2 acc' d e1 _ g3 i3 h3 r3 => ?_) fun e H2 g3 i3 h3 r3 => ?_
      · rw [List.length_map]
        refine Nat.lt_of_le_of_lt (List.length_filter_le _ _) ?_
        refine Nat.lt_of_le_of_lt (List.length_take_le _ _) (Nat.lt_of_lt_of_le hn ?_)
        have : a.cps.size = (sg a).length := by simp
        rw [this]
        exact Nat.le_trans hz (by decide)
      · subst e1
        refine ⟨g3, i3, acc', h3, ?_⟩
        rw [htake, List.filter_append, List.map_append]
        simpa [List.filter_cons, e] using r3
      · refine ⟨g3, i3, acc, h3, ?_⟩
        rw [htake, List.filter_append, List.map_append]
        simpa [List.filter_cons, e] using r3
    · obtain ⟨g2, i2, acc, ha, rac⟩ := q'
      rw [List.take_of_length_le (by simp)] at rac
      exact q _ _ H' (g1.trans g2) i2 (.lst (SqL.of ha) rac) rfl
where
  wipeD_lenT : ∀ {vs : List Nat} {ρ : List (Option Dt)}, (wipeD ρ vs).length = ρ.length := fun {vs} => by
    induction vs with
    | nil => intro ρ; rfl
    | cons v vs ih =>
      intro ρ
      show ((wipeD ρ vs).set v none).length = _
      rw [List.length_set, ih]
/-- [te for k, x in enumerate(a list) if ..] -/
theorem ev_lcEn {f : Nat → Dt → Dt} {p : Nat → Dt → Bool} (hmu : S.Mu) (h : Ev K S S ρ tl (Eq (.lst xs))) (hj : j ∈ vs) (hj2 : j2 ∈ vs) (hz : xs.length ≤ 100000) (ht : ∀ i x, xs[i]? = some x → EvT K S S (((wipeD ρ vs).set j (some (.int (i : Nat)))).set j2 (some x)) tt (Eq (p i x)))
    (he : ∀ i x, xs[i]? = some x → p i x = true → Ev K S S (((wipeD ρ vs).set j (some (.int (i : Nat)))).set j2 (some x)) te (Eq (f i x))) (hf : ∀ i x, xs[i]? = some x → nol (f i x) = true) :
    Ev K S S ρ (tLc (iEnum K (tCons tl tNil)) (gTup K 2 (gCons (gName j) (gCons (gName j2) gNil))) tt te vs) (Eq (.lst ((xs.zipIdx.filter fun y => p y.2 y.1).map fun y => f y.2 y.1))) := fun σ H i s Q q =>
  h σ H i s _ fun v d H1 g1 i1 r1 p1 => by
    subst p1
    obtain ⟨a, us, rfl, hT, ra⟩ := r1.lstI
    have hlen : us.length = xs.length := ra.len
    refine ⟨a, us, rfl, hT, fun D hD => lc_it walk_enum (fun n H' => Gr H1 H' ∧ S.I H' ∧ ∃ acc, H' D = some (.lst acc) ∧ RepA K H' acc (((xs.zipIdx.take n).filter fun y => p y.2 y.1).map fun y => f y.2 y.1)) ⟨(same_new hD).gr, S.st i1 (same_new hD), [], upd_same, .nil⟩
      (fun n H' _ q' => q'.1.sqL hT) (fun n x H' H2 hn q' y => ?_) fun H' q' => ?_⟩
    · obtain ⟨T, x1, x2, rfl, hTn, rfl, e1, e2⟩ := y
      cases e1
      obtain ⟨g2, i2, acc, ha, rac⟩ := q'
      obtain ⟨d, hd', rd⟩ := ra.ta e2
      have sn := same_new (o := .tup [.int (n : Nat), x2]) hTn
      have g3 := g2.trans sn.gr
      have hTD : T ≠ D := fun z => by rw [z] at hTn; rw [hTn] at ha; cases ha
      have ha' : upd H' T (.tup [.int (n : Nat), x2]) D = some (.lst acc) := by rw [upd_ne (Ne.symm hTD)]; exact ha
      have hzi : xs.zipIdx[n]? = some (d, n) := by rw [List.getElem?_zipIdx, hd']; simp
      have htake : xs.zipIdx.take (n + 1) = xs.zipIdx.take n ++ [(d, n)] := by rw [List.take_add_one, hzi]; rfl
      have hnol : nolA (((xs.zipIdx.take n).filter fun y => p y.2 y.1).map fun y => f y.2 y.1) = true := nolA_all.mpr fun y hy => by
        obtain ⟨z, hz', rfl⟩ := List.mem_map.mp hy
        have hm := List.mem_of_mem_take (List.mem_filter.mp hz').1
        obtain ⟨k, hk, ek⟩ := List.getElem_of_mem hm
        have e3 : xs.zipIdx[k]? = some z := by rw [← ek]; exact List.getElem?_eq_getElem _
        rw [List.getElem?_zipIdx] at e3
        cases e4 : xs[k]? with
        | none => rw [e4] at e3; cases e3
        | some w =>
          rw [e4] at e3
          cases e3
          rw [Nat.zero_add]
          exact hf k w e4
      have hnl : n < xs.length := (List.getElem?_eq_some_iff.mp hd').1
      have s2 := ((((s.mono g1).mono g3).wipe vs).set (.int ((n : Nat) : Int)) j).set (rd.mono g3) j2
      refine ⟨T, [.int (n : Nat), x2], rfl, SqT.of upd_same, rfl, .int (n : Nat), [x2], rfl, x2, [], rfl, rfl, by rw [wipe_in _ j2 vs _ hj2, wipe_in _ j vs _ hj, wipe_twice], ?_⟩
      refine ht n d hd' _ _ (S.st i2 sn) s2 _ fun b H3 g4 i4 e4 => ?_
      subst e4
      have ha3 : H3 D = some (.lst acc) := g4 _ _ ha' rfl
      have g14 := g3.trans g4
      have hlt : acc.length < sizeLine := by
        rw [rac.len, List.length_map]
        refine Nat.lt_of_le_of_lt (List.length_filter_le _ _) ?_
        exact Nat.lt_of_le_of_lt (List.length_take_le _ _) (Nat.lt_of_lt_of_le hnl (Nat.le_trans hz (by decide)))
      cases hp : p n d with
      | false =>
        rw [if_neg Bool.false_ne_true]
        refine ⟨g14, i4, acc, ha3, ?_⟩
        rw [htake, List.filter_append, List.filter_cons_of_neg (by rw [hp]; decide), List.filter_nil, List.append_nil]
        exact rac.mono (sn.gr.trans g4)
      | true =>
        rw [if_pos rfl]
        refine he n d hd' hp _ _ i4 (s2.mono g4) _ fun y dy H4 g5 i5 r5 e5 => ?_
        subst e5
        have ha5 : H4 D = some (.lst acc) := g5 _ _ ha3 rfl
        have g15 := g14.trans g5
        refine ⟨acc, ha5, hlt, gr_off g15 hD, hmu i1 g15 hD ha5 i5, acc ++ [y], upd_same, ?_⟩
        rw [htake, List.filter_append, List.filter_cons_of_pos (by exact hp), List.map_append]
        exact ((rac.mono ((sn.gr.trans g4).trans g5)).off ha5 hnol).app (.cons (r5.off ha5 (hf n d hd')) .nil)
    · obtain ⟨g2, i2, acc, ha, rac⟩ := q'
      rw [hlen, List.take_of_length_le (by rw [List.length_zipIdx]; exact Nat.le_refl _)] at rac
      exact q _ _ H' (g1.trans g2) i2 (.lst (SqL.of ha) rac) rfl
end
end Bf
namespace Bf
open PySem PySem.Spec PyProof.Rows L2
/-! ## Reading a table's words: by their shape, and as the law reads them -/
abbrev sl : Str := "/"
abbrev Fnd := List (List Int)
end Bf
namespace Bf
open PySem PySem.Spec PyProof.Rows L2
/-! ## Frames and places -/
structure Site where
  k : Int
  rest : List Int
  o : Str
def Site.d (s : Site) : Dt := .tup [.int s.k, tI s.rest, .str s.o]
def fhS (bit : Int) : Str := if bit = 1 then "pulse" else "gap"
def ohS (h : Str) : Str := if h = "pulse" then "gap" else "pulse"
def Tab.beg : Tab → Site
  | .ha u _ => ⟨0, [u], "gap"⟩
  | .pa h .. => ⟨0, h, ""⟩
/-- what a bit of halves leaves: the durations, the half under way -/
def haP (u bit : Int) (o : Str) : List Int × Str := if fhS bit = o then ([2 * u], ohS o) else ([u, u], o)
def haS (u bit : Int) (o : Str) (last : Bool) : List Int × Str := if last && decide ((haP u bit o).2 = "pulse") then ((haP u bit o).1 ++ [u], "gap") else haP u bit o
def Tab.sett : Tab → Site → Int → Site
  | .ha u b, s, bit => ⟨s.k + 1, (haS u bit s.o (decide (s.k + 1 = b))).1, (haS u bit s.o (decide (s.k + 1 = b))).2⟩
  | .pa _ z1 z2 o1 o2 st b, s, bit => ⟨s.k + 1, (if bit = 1 then [o1, o2] else [z1, z2]) ++ (if decide (s.k + 1 = b) = true then [st] else []), ""⟩
/-- what a step tells -/
def stD (x : Dt) (s : Site) : Dt := .tup [x, .int (s.rest.headD 0), (Site.mk s.k s.rest.tail s.o).d]
def Tab.steps (T : Tab) (s : Site) : List Dt :=
  if decide (s.k = T.b) && decide (s.rest = []) then [] else if s.rest ≠ [] then [stD .non s] else [stD (.int 0) (T.sett s 0), stD (.int 1) (T.sett s 1)]
/-- the durations from a place on, with these bits to come -/
def Tab.ahead (T : Tab) : Site → List Int → List Int
  | s, [] => s.rest
  | s, bit :: ws => s.rest ++ T.ahead ⟨(T.sett s bit).k, (T.sett s bit).rest, (T.sett s bit).o⟩ ws
/-- the frame -/
def Tab.frame (T : Tab) (w : List Int) : List Int := T.ahead T.beg w
/-! ### pairs -/
/-! ### halves -/
/-- durations of halves: one under way since cur -/
def runs (u : Int) : Str → Int → List Str → List Int
  | _, cur, [] => [cur]
  | prev, cur, l :: ls => if l = prev then runs u l (cur + u) ls else cur :: runs u l u ls
def hvs (w : List Int) : List Str := w.flatMap fun bit => [fhS bit, ohS (fhS bit)]
end Bf
namespace Bf
open PySem PySem.Spec PyProof.Rows L2
/-! ## frames.py over data -/
theorem nolA_strs (ns : List Str) : nolA (ns.map Dt.str) = true := nolA_all.mpr fun x hx => by
  obtain ⟨n, _, rfl⟩ := List.mem_map.mp hx
  rfl
section
variable {K : PySem.W.Frag} {S : Sta} {ds : List Dt} {d : Dt}
section
variable {S1 : Sta} {ρ : List (Option Dt)} {ta tb tc td : TE}
end
/-! ### the frame of pairs -/
end
end Bf
namespace Bf
open PySem PySem.Spec PyProof.Rows L2
/-! ## _law_begin, _law_words -/
/-- .. with tables of code objects -/
def spBT (K : PySem.W.Frag) : Sp := fun vs H Q _ => ∃ s ns T, vs = [.ref s] ∧ SqL K H s (ns.map V.int) ∧ ns.length ≤ 63 ∧ LamX.Tabs T H ∧ ∀ (p : Addr) (c : Addr) H', Gr H H' → (DS K p ⟨c, T⟩ (ns ++ [0]) 0 0 0).I H' → Q (.ref p) H'
abbrev t__law_begin (K : PySem.W.Frag) : TS := (tRet (tDisp [((tC (.str "cells")), (tOp (rCatS K) (tVar 0) (tLst (tCons (tC (.int 0)) tNil)))), ((tC (.str "at")), (tC (.int 0))), ((tC (.str "left")), (tC (.int 0))), ((tC (.str "used")), (tC (.int 0)))]))
theorem rd__law_beginT {K : PySem.W.Frag} {D : Ends} {σ : L2.St} {H : Hp} {s : Addr} {ns : List Int} (hs : σ[0]? = some (some (.ref s))) (h : SqL K H s (ns.map V.int)) (hl : ns.length ≤ 63)
    {T : List (Addr × Str)} (hT : LamX.Tabs T H) (q : ∀ (p c : Addr) H', Gr H H' → (DS K p ⟨c, T⟩ (ns ++ [0]) 0 0 0).I H' → D.rt (.ref p) H') : t__law_begin K D σ H := by
  intro p hp
  have s1 := same_new (o := .dK []) hp
  refine ⟨.ref s, hs, (by show 1 ≤ sizeLine; decide), fun t ht => ?_⟩
  have s2 := same_new (o := .lst [.int 0]) ht
  refine ⟨s, t, ns.map V.int, [.int 0], rfl, rfl, s2.seq (s1.seq h), SqL.of upd_same, (by rw [List.length_map]; exact Nat.le_trans (show ns.length + 1 ≤ 64 by omega) (by decide)), fun c hc => ?_⟩
  have s3 := same_new (o := .lst (ns.map V.int ++ [.int 0])) hc
  have hp3 := s3 _ _ (s2 _ _ (upd_same (H := H) (a := p) (o := .dK [])))
  refine ⟨hp3, [((.inr "cells" : Key), V.ref c), (.inr "at", .int 0), (.inr "left", .int 0), (.inr "used", .int 0)], rfl, (by show 4 ≤ 15; decide), ?_⟩
  rw [dr_merge]
  have hcp : c ≠ p := fun e => by
    rw [e] at hc
    rw [s2 _ _ (upd_same (H := H) (a := p) (o := .dK []))] at hc
    cases hc
  have hk : ∀ b o, H b = some o → upd (upd (upd (upd H p (.dK [])) t (.lst [.int 0])) c (.lst (ns.map V.int ++ [.int 0]))) p (.dK (drK c 0 0 0)) b = some o := fun b o e => by
    rw [upd_ne (ne_of_none e hp)]
    exact s3 _ _ (s2 _ _ (s1 _ _ e))
  exact q p c _ (fun b o e d => hk b o e) ⟨upd_same, SqL.of (by
    rw [upd_ne hcp, upd_same, List.map_append]
    rfl), hT.ext hk⟩
section
variable {K : PySem.W.Frag} {S : Sta} {ds : List Dt}
end
/-! ### all words of up to eight bits may be compared and shown -/
/-! ### the word in the middle of which something else is put -/
end Bf
namespace Bf
open PySem PySem.Spec PyProof.Rows L2
/-! ## The parts of a frame: what each bit adds -/
def Tab.oOk : Tab → Str → Prop
  | .ha _ _, o => o = "pulse" ∨ o = "gap"
  | .pa .., o => o = ""
def Tab.part : Tab → Str → Int → Bool → List Int
  | .ha u _, o, bit, l => (haS u bit o l).1
  | .pa _ z1 z2 o1 o2 st _, _, bit, l => (if bit = 1 then [o1, o2] else [z1, z2]) ++ (if l = true then [st] else [])
theorem sett_rest (T : Tab) (s : Site) (bit : Int) : (T.sett s bit).rest = T.part s.o bit (decide (s.k + 1 = T.b)) := by cases T <;> rfl
theorem part_len {T : Tab} {o : Str} {bit : Int} {l : Bool} : 1 ≤ (T.part o bit l).length ∧ (T.part o bit l).length ≤ 3 := by
  cases T with
  | ha u b =>
    simp only [Tab.part, haS, haP]
    repeat' split
    all_goals exact ⟨by simp, by simp⟩
  | pa h z1 z2 o1 o2 st b =>
    simp only [Tab.part]
    repeat' split
    all_goals exact ⟨by simp, by simp⟩
section
variable {K : PySem.W.Frag} {S : Sta} {ds : List Dt} {d : Dt}
section
variable {S1 : Sta} {ρ : List (Option Dt)} {ta tb tc td : TE} {T : Tab} {o : Str} {bit : Int} {l : Bool}
end
section
variable {S1 : Sta} {ρ : List (Option Dt)} {ta tb tc td : TE} {T : Tab} {o : Str} {bit : Int} {l : Bool}
end
/-! ### enumerate of a tuple while lists change -/
section
variable {SB : Sta} {L : List Addr} {ρ : List (Option Dt)} {P : Po} {tl : TE} {t : TS}
end
end
end Bf
namespace Bf
open PySem PySem.Spec PySem.W PySem.Calls PyProof.Rows PySem.HandSPX Builtin Builtin.ObjectAttr
/-! ## Own errors over any base, made by place or by keyword -/
/-- a built-in base of own errors -/
structure BaseOf (B newId initId : String) (bmB : List Value) (rf : List Value → Bool) : Prop where
  F : ExcBaseFacts B newId initId bmB
  X : KxsFacts B initId
  con : ∀ (Y : String) (l : List Value), rf l = true → l.contains (.type Y) = bmB.contains (.type Y)
  ne : ∀ l : List Value, rf l = true → l.isEmpty = false
  pass : ∀ (me : Value) (l : List Value), rf l = true → refuseLoop me "__setattr__" l = pure ()
  ref : ∀ (c : Addr) (l : List Value), rf (.ref c :: l) = rf l
  obj : bmB.contains (.type "object") = true
structure ErrTxt (B newId initId : String) (rf : List Value → Bool) (prog : Program) (K : Frag) (f : Str) (C fI : Addr) : Prop where
  cls : ∃ nm q N bs bm sn sub ab col dd k0 k1 k2 k3 k5, K.lookup C = some (excClassObj nm q C N bs bm true sn sub ab col dd k0 k1 k2 k3 k5 newId) ∧ rf bm = true
  sa : findIn K (.ref C) "__setattr__" = some (some (.builtin "object.__setattr__"))
  noN : findIn K (.ref C) f = some none
  iC : findIn K (.ref C) "__init__" = some (some (.ref fI))
  tC : typeIn K (.ref fI) = some (.type "function")
  sup : ks_superIn K C C "__init__" = some (some (.builtin initId))
  sub : subIn K (.ref C) (.type B) = some true
  self : mroIn K C (.ref C) = some true
  st : nsIn K cStatics "thirdparty.any" = some none
  fn : ∃ (oc ccl cl : Value) (od cdd cld : Option Addr) (doc pm ct : Value) (an : Option Addr) (osl ccs csl : Array (Option Value)) (qual t : Str) (p1 p2 : Pos) (q : Nat → Pos) (cc cda : Addr) (vs : Array Value) (file : Str) (tf : Tok),
    K.lookup fI = some ⟨oc, od, .func (fnX "__init__" qual (xA f p1 p2) (xB f t q) (xS f) [("__class__", cc)] .none .none doc pm an (.ref cda) ct), osl⟩ ∧ codeIn K (.ref cda) qual = true ∧ K.lookup cc = some ⟨cl, cld, .cell (some (.ref C)), csl⟩ ∧
    K.lookup cda = some ⟨ccl, cdd, .fields vs, ccs⟩ ∧ vs[2]? = some (.str file tf) ∧ ((prog.main.file : Str) == file) = true ∧ xCall t q ∧
    ∀ (s : Shared) (a b : Value), (BindsTo s (fnX "__init__" qual (xA f p1 p2) (xB f t q) (xS f) [("__class__", cc)] .none .none doc pm an (.ref cda) ct) ⟨[a, b], []⟩ [(("self" : Str), a), (f, b)] ∧ BindsTo s (fnX "__init__" qual (xA f p1 p2) (xB f t q) (xS f) [("__class__", cc)] .none .none doc pm an (.ref cda) ct) ⟨[a], [(f, b)]⟩ [(("self" : Str), a), (f, b)])
section
variable {B newId initId : String} {bmB : List Value} {rf : List Value → Bool} {prog : Program} {w : World} {A : Around} {R : Result → Shared → Prop} {h0 : Heap} {gn : Array GenState} {dw : Drawn} {tk0 : Nat} {o0 : OsState}
end
section
variable {B newId initId : String} {bmB : List Value} {rf : List Value → Bool} {prog : Program} {w : World} {A : Around} {E : Value → Shared → Prop} {R : Result → Shared → Prop} {s : Shared} {K : Frag} {mg mb : Str → Option Value} {C fI : Addr} {f : Str}
end
section
variable {M : Model} {A : Around} {E : Value → Shared → Prop} {h : Heap} {gn : Array GenState} {dw : Drawn} {tk0 : Nat} {o0 : OsState} {nm qn : Str} {C N : Addr} {bs bm bmB : List Value} {hd : Bool} {sn : List Str} {sb : List Value} {ab : Bool} {col : Option Bool} {dd : Option Addr} {k0 k1 k2 k3 k5 : Option Value} {B newId initId : String} {ps : List Value} {kws : List (Str × Value)}
end
section
variable {prog : Program} {w : World} {A : Around} {E : Value → Shared → Prop} {R : Result → Shared → Prop} {h : Heap} {gn : Array GenState} {dw : Drawn} {tk0 : Nat} {o0 : OsState} {nm qn : Str} {C N fI : Addr} {bs bm bmB : List Value} {hd : Bool} {sn : List Str} {sb : List Value} {ab : Bool} {col : Option Bool} {dd : Option Addr} {k0 k1 k2 k3 k5 : Option Value} {B newId initId : String} {ps : List Value} {kws : List (Str × Value)}
end
section
variable {B newId initId : String} {bmB : List Value} {rf : List Value → Bool} {prog : Program} {w : World} {A : Around} {R : Result → Shared → Prop} {s : Shared} {K : Frag} {mg mb : Str → Option Value} {C fI : Addr} {f : Str}
end
end Bf
namespace Bf
open PySem PySem.Spec PyProof.Rows L2
/-! ## try .. except C as n, and except (C, D, ..) as n: the error that was caught is kept as a value -/
theorem errO_ok {P : Program} {w : World} {H : Hp} {h : Heap} {a : Addr} {cls : Value} {d : Option Addr} {oe : Obj} (e : h.get? a = some oe) (z : Zc cls d oe) (hv : ∃ vs, oe.data = .fields vs) : ObjOk P w H h a (ErrO cls d a) :=
  ⟨⟨oe, e, z, hv⟩, ⟨oe, e⟩, fun _ _ ⟨o, x1, x2, x3⟩ k => ⟨o, k o x1, x2, x3⟩⟩
section
variable {X : Cx} {pins pn' : List (Addr × Obj)} {σ : L2.St} {H : Hp} {s : Shared}
/-- the suite's error is tracked from now on -/
theorem inv_unsuiteK {a : Addr} {oe : Obj} {cls : Value} {d : Option Addr} (I : Inv (X.suite a ((a, oe) :: (X.pn ++ pins))) pn' σ H s) (ok : X.Ok) (z : Zc cls d oe) (hv : ∃ vs, oe.data = .fields vs) (n0 : X.s_0.heap.get? a = none) (np : ∀ p ∈ X.pn ++ pins, p.1 ≠ a) :
    Inv X pins σ (upd H a (ErrO cls d a)) s := by
  obtain ⟨ha, na, nL, nF, nC⟩ := I.pin (a, oe) (List.mem_append_left _ List.mem_cons_self)
  have ne0 : ∀ b o, X.s_0.heap.get? b = some o → b ≠ a := fun b o e q => by rw [q, n0] at e; cases e
  have nn : ∀ {b : Addr} {o : HO}, H b = some o → b ≠ a := fun e => ne_of_none e na
  refine ⟨ok, I.os, I.bare, ⟨I.base.keep, I.base.slot, fun b o e n q => ?_, I.base.there, fun b xs e => ?_, fun b o u e => ?_, fun b ps e => ?_⟩, I.loc, I.cell, ?_, fun x c e => ?_, fun p hp => ?_, fun b u e => ?_, I.len⟩
  · rw [upd_ne (ne0 b o e)]
    exact I.base.free b o e n q
  · have q := I.base.tups b xs e
    rw [upd_ne (nn q)]
    exact q
  · have q := I.base.frzs b o u e
    rw [upd_ne (nn q)]
    exact q
  · obtain ⟨m, q⟩ := I.base.tbls b ps e
    exact ⟨m, by rw [upd_ne (nn q)]; exact q⟩
  · rw [upd_ne (Ne.symm nL)]
    exact I.free
  · have hca : c ≠ a := fun q => by
      obtain ⟨v, o, ho, hd⟩ := I.cell x c e
      rw [q, ha] at ho
      cases ho
      exact nC v hd
    rw [upd_ne hca]
    exact I.freeC x c e
  · obtain ⟨e1, e2, e3⟩ := I.pin p (List.mem_append_left _ (List.mem_cons_of_mem _ hp))
    exact ⟨e1, by rw [upd_ne (np p hp)]; exact e2, e3⟩
  · by_cases hb : b = a
    · subst hb
      rw [upd_same] at e
      cases e
      exact errO_ok ha z hv
    · rw [upd_ne hb] at e
      exact (I.hok b u e).stay (fun _ _ _ q => q) (fun c q => by rw [upd_ne (nn q)]; exact q) fun c xs q => by rw [upd_ne (nn q)]; exact q
end
/-! ### what the clause names -/
section
variable {M : Model} {K : PySem.W.Frag}
theorem exm_tupN {cs : List Value} {cls : Value} {tp e : Addr} {b : Bool} {h : Heap} (X : K.In h) (LT : PySem.W.Looks M h (typeOf (.ref e)) cls) (hp : h.get? tp = some { cls := .type "tuple", data := .seq cs.toArray }) (hx : PySem.W.exmAny K cls cs = some b) :
    PySem.W.Looks M h (excMatches (.ref e) (.ref tp)) b := by
  intro A Q E s k₀ q
  obtain ⟨hh, g, d, tk, os⟩ := s
  have k : ∀ b o, h.get? b = some o → hh.get? b = some o := k₀
  have LT0 : PySem.W.Looks M h (isInstance (.ref tp) (.type "tuple")) true := ((PySem.W.Looks.ld hp).andThen .now).andThen (PySem.W.Looks.of_pure isSubtype_tuple_tuple)
  have one : ∀ (f : Value → PUnit → Sem (ForInStep PUnit)), (∀ c A E (Q : ForInStep PUnit → Shared → Prop), PySem.W.Looks M h (isExcClass c) true → Q (.yield PUnit.unit) ⟨hh, g, d, tk, os⟩ → wpAny M A (f c PUnit.unit) Q E ⟨hh, g, d, tk, os⟩) →
      ∀ (l : List Value) (b : Bool), PySem.W.exmAny K cls l = some b → ∀ {Q : PUnit → Shared → Prop} {E : Value → Shared → Prop} {A : Around}, Q PUnit.unit ⟨hh, g, d, tk, os⟩ → wpAny M A (forIn l PUnit.unit f) Q E ⟨hh, g, d, tk, os⟩ := by
    intro f hf l
    induction l with
    | nil =>
      intro b hb Q E A q
      rw [List.forIn_nil]
      exact wpAny_pure q
    | cons c r ih =>
      intro b hb Q E A q
      obtain ⟨b1, d1, x1, y1, z1⟩ := PySem.W.exmAny_cons hb
      rw [List.forIn_cons]
      exact wpAny_bind (hf c A E _ (PySem.W.exm_cls (M := M) X x1).1 (ih d1 y1 q))
  have two : ∀ (f : Value → Option Bool × Unit → Sem (ForInStep (Option Bool × Unit))), (∀ c v A E (Q : ForInStep (Option Bool × Unit) → Shared → Prop), PySem.W.Looks M h (isSubtype cls c) v → Q (if v = true then .done (some true, ()) else .yield (none, ())) ⟨hh, g, d, tk, os⟩ → wpAny M A (f c (none, ())) Q E ⟨hh, g, d, tk, os⟩) →
      ∀ (l : List Value) (b : Bool), PySem.W.exmAny K cls l = some b → ∀ {A : Around} {E : Value → Shared → Prop} {Q : Option Bool × Unit → Shared → Prop}, (∀ o, o = (if b = true then some true else none) → Q (o, ()) ⟨hh, g, d, tk, os⟩) → wpAny M A (forIn l (none, ()) f) Q E ⟨hh, g, d, tk, os⟩ := by
    intro f hf l
    induction l with
    | nil =>
      intro b hb A E Q q
      cases (show some false = some b from hb)
      rw [List.forIn_nil]
      exact wpAny_pure (q none rfl)
    | cons c r ih =>
      intro b hb A E Q q
      obtain ⟨b1, d1, x1, y1, z1⟩ := PySem.W.exmAny_cons hb
      rw [List.forIn_cons]
      refine wpAny_bind (hf c b1 A E _ (PySem.W.exm_cls (M := M) X x1).2 ?_)
      subst z1
      cases b1 with
      | true => exact wpAny_pure (q _ rfl)
      | false => exact ih d1 y1 q
  have LT0' := LT0.keeps k
  have LTk := LT.keeps k
  unfold excMatches
  refine wpAny_bind (LT0'.at ?_)
  dsimp only
  rw [if_pos rfl]
  have hp' := k _ _ hp
  first
    | refine wpAny_bind (wpAny_seqItems hp' rfl ?_)
    | refine wpAny_bind (wpAny_bind (wpAny_seqItems hp' rfl (wpAny_pure ?_)))
  dsimp only [Option.getD_some, Option.getD]
  refine wpAny_bind (wpAny_pure (wpAny_bind (one _ (fun c A E Q hl q => ?_) cs b hx ?_)))
  · refine wpAny_bind ((hl.keeps k).here ?_)
    simp only [Bool.not_true, Bool.false_eq_true, if_false]
    exact wpAny_pure q
  · refine wpAny_bind (LTk.here (wpAny_bind (two _ (fun c v A E Q hl q => ?_) cs b hx fun o ho => ?_)))
    · refine wpAny_bind ((hl.keeps k).here ?_)
      cases v with
      | true => exact wpAny_pure q
      | false => exact wpAny_pure q
    · subst ho
      cases b with
      | true => exact wpAny_pure q
      | false => exact wpAny_pure q
end
/-- the clause's expression names what m knows -/
def CatchT (X : Cx) (t : Expr) (m : Value → Option Bool) : Prop := ∀ (a : Addr) (oe : Obj) (pn : List (Addr × Obj)) (σ : L2.St) (H : Hp) (s : Shared) (cls : Value) (d : Option Addr) (b : Bool) (Q : Bool → Shared → Prop) (E : Value → Shared → Prop),
  Inv (X.suite a ((a, oe) :: pn)) [] σ H s → Zc cls d oe → m cls = some b → (∀ h', (∀ q o, s.heap.get? q = some o → h'.get? q = some o) → Q b { s with heap := h' }) →
  wpAny (model X.prog X.w) (X.A.mark (some (.ref a))) (eval t X.env) (fun c s1 => wpAny (model X.prog X.w) (X.A.mark (some (.ref a))) (excMatches (.ref a) c) Q E s1) E s
section
variable {X : Cx}
theorem lk_cls {a : Addr} {oe : Obj} {pn : List (Addr × Obj)} {σ : L2.St} {H : Hp} {s : Shared} {cls : Value} {d : Option Addr} (I : Inv (X.suite a ((a, oe) :: pn)) [] σ H s) (z : Zc cls d oe) : PySem.W.Looks (model X.prog X.w) s.heap (typeOf (.ref a)) cls :=
  fun A Q E s' k q => wpAny_typeOf_ref (k _ _ (I.pin (a, oe) (List.mem_append_left _ List.mem_cons_self)).1) (by rw [z.1]; exact q)
theorem names_ev {a : Addr} {oe : Obj} {pn : List (Addr × Obj)} {σ : L2.St} {H : Hp} {s : Shared} {E : Value → Shared → Prop} {pos : Pos} (I : Inv (X.suite a ((a, oe) :: pn)) [] σ H s) : ∀ (ns : List (Str × Value × Pos)), (∀ p ∈ ns, Gl X p.1 ∧ X.mg p.1 = some p.2.1 ∧ (p.1 == ("__debug__" : Str)) = false) →
    ∀ {Q : List Value → Shared → Prop}, Q (ns.map (·.2.1)) s → wpAny (model X.prog X.w) (X.A.mark (some (.ref a))) (spliced (backTo pos (starEach (ns.map fun p => Expr.Name p.1 p.2.2) X.env))) Q E s
  | [], _, Q, q => wpAny_items_nil q
  | (x, c, p) :: r, hn, Q, q => by
    obtain ⟨h1, h2, h3⟩ := hn (x, c, p) List.mem_cons_self
    exact wpAny_items_cons (ld_glob (X := X.suite a ((a, oe) :: pn)) I h1 h2 (names_ev I r (fun p hp => hn p (List.mem_cons_of_mem _ hp)) q) h3)
theorem catch_tup {ns : List (Str × Value × Pos)} {ts : List Expr} {k : Nat} {pos : Pos} (hts : ts = ns.map fun p => Expr.Name p.1 p.2.2) (hl : ns.length ≤ sizeLine) (hn : ∀ p ∈ ns, Gl X p.1 ∧ X.mg p.1 = some p.2.1 ∧ (p.1 == ("__debug__" : Str)) = false) :
    CatchT X (.Tuple ts k pos) fun cls => PySem.W.exmAny X.K cls (ns.map (·.2.1)) := by
  intro a oe pn σ H s cls d b Q E I z hb q
  subst hts
  refine wpAny_Tuple (names_ev I ns hn ⟨by rw [List.length_map]; exact hl, ?_⟩)
  have up : ∀ q o, s.heap.get? q = some o → (s.heap.push { cls := .type "tuple", data := .seq (ns.map (·.2.1)).toArray }).get? q = some o := fun _ _ e => Heap.get?_push_of_some _ e
  exact (exm_tupN (I.kIn.keeps up) ((lk_cls I z).keeps up) (Heap.get?_push_size s.heap rfl) hb).here (q _ up)
end
/-! ### the rule -/
def endsK (D : Ends) (i : Nat) (a : Addr) (cls : Value) (d : Option Addr) : Ends :=
  { nx := fun σ' H' => H' a = none → D.nx (σ'.set i none) (upd H' a (ErrO cls d a)), rt := D.rt, bk := fun σ' H' => D.bk (σ'.set i none) H', ct := fun σ' H' => D.ct (σ'.set i none) H' }
/-- what «except t as n» wishes of an error of the body; the error is kept behind it -/
def wKp (m : Value → Option Bool) (i : Nat) (ts : Addr → Value → Option Addr → TS) (Wout : WX) (D : Ends) : WX := fun cls d σ H =>
  ∃ b, m cls = some b ∧ (b = true → ∀ a, H a = none → ts a cls d (endsK D i a cls d) (σ.set i (some (.ref a))) H) ∧ (b = false → Wout cls d σ H)
theorem fly_keeps {B : Heap} {l : List Env} {e : Addr} {Z : Obj → Prop} {h h' : Heap} (R : HandSPX.FlyingZ B l e Z h) (k : ∀ b o, h.get? b = some o → h'.get? b = some o) : HandSPX.FlyingZ B l e Z h' := by
  obtain ⟨x1, x2, x3, oe, us, T, oT, tt, y1, y2, y3, y4, y5, y6, y7, y8⟩ := R
  exact ⟨fun b o q => k b o (x1 b o q), x2, x3.of_keeps fun b o q _ => ⟨o, k b o q, rfl⟩, oe, us, T, oT, tt, k _ _ y1, y2, y3, y4, y5, y6, k _ _ y7, y8⟩
section
variable {X : Cx} {n : Str} {t : Expr} {m : Value → Option Bool} {i : Nat} {body suite : List Stmt} {b₀ : Stmt} {pos pos' : Pos} {tb : WX → TS} {ts : Addr → Value → Option Addr → TS} {Wout : WX}
theorem ps_try_kp (hs : X.stack = X.env :: X.outer) (hf : X.env.frame = some X.env.locals) (hex : X.ex = []) (hN : X.N.Nodup) (hi : X.N[i]? = some n) (hln : X.env.kindOf n = some .local) (hc : CatchT X t m) (tk : Takes X Wout)
    (hb : ∀ (W : WX) (pn : List (Addr × Obj)) (xe : Value → Shared → Prop), Takes (X.tr pn xe) W → PassesOwn (model X.prog X.w) X.A X.env xe → PSs (X.tr pn xe) body (tb W))
    (hsu : ∀ (a : Addr) (oe : Obj) (cls : Value) (d : Option Addr) (pn : List (Addr × Obj)), Zc cls d oe → (∃ vs, oe.data = .fields vs) → PSs (X.suite a ((a, oe) :: pn)) (b₀ :: suite) (ts a cls d)) :
    PS X (.Try body [.ExceptHandler (some t) (some n) (b₀ :: suite) pos'] [] [] pos) (fun D σ H => tb (wKp m i ts Wout D) D σ H) := by
  refine ⟨fun pins s σ H D I h => ?_⟩
  have kk := I.ok
  have frm : X.A.frames = some (X.env :: X.outer) := by rw [kk.frames, hs]
  have lcl : Loc X.env.scope n := .inl hln
  have run := (hb (wKp m i ts Wout D) (X.pn ++ pins) (fun e u => wpAny (model X.prog X.w) X.A (noteFrame e X.env) (fun _ u => wpAny (model X.prog X.w) X.A (setFlight e none) (fun _ u =>
    wpAny (model X.prog X.w) X.A (handleBy e X.env [.ExceptHandler (some t) (some n) (b₀ :: suite) pos']) (SP X pins D) X.xe u) X.xe u) X.xe u) (fun u s' xx => ?_) PassesOwn.looking).run [] s σ H D (I.toTry _) h
  · refine wpAny_Try_except (wpAny_mono run (fun fl s1 q => ?_) fun _ _ q => q)
    cases fl with
    | next => obtain ⟨σ', H', J, q⟩ := q; exact wpAny_execs_nil ⟨_, _, J.ofTry kk, q⟩
    | ret u => obtain ⟨v, σ', H', J, r, q⟩ := q; exact ⟨_, _, _, J.ofTry kk, r, q⟩
    | brk => obtain ⟨σ', H', J, q⟩ := q; exact ⟨_, _, J.ofTry kk, q⟩
    | cont => obtain ⟨σ', H', J, q⟩ := q; exact ⟨_, _, J.ofTry kk, q⟩
  · obtain ⟨a, B, sI, pns, σ', H', cls, d, rfl, J0, nb, up, sky, na, os, ag, b, hmt, yes, no⟩ := xx
    have J : Inv X pins σ' H' sI := J0.ofTry kk
    have sky1 : Sky B (X.env :: X.outer) a (Zc cls d) X.env.locals s'.heap := hs ▸ sky
    show wpAny (model X.prog X.w) X.A (noteFrame (.ref a) X.env) _ _ _
    refine Sky.land Zc.steady frm hf sky1 fun g fly upg => ?_
    have Jg : Inv X pins σ' H' { s' with heap := g } := J.landed nb fly.1 (up.trans upg) os ag
    obtain ⟨og, vg, hog, zog, dog⟩ := fly.there
    have nfr : a ∉ frs (X.env :: X.outer) := fun hm => by
      obtain ⟨_, o2, e2, hnf⟩ := fly.2.2.1.mem hm
      rw [hog] at e2
      cases e2
      exact hnf _ dog
    have nL : a ≠ X.env.locals := fun q => nfr (List.mem_filterMap.mpr ⟨_, List.mem_cons_self, by rw [hf, q]⟩)
    have nF : a ∉ X.fs := fun q => by
      obtain ⟨v, hv, e⟩ := List.mem_filterMap.mp q
      exact nfr (List.mem_filterMap.mpr ⟨v, List.mem_cons_of_mem _ hv, e⟩)
    have notB : ∀ o, sI.heap.get? a ≠ some o := fun o q => by
      have := nb a o q (by rw [hs]; exact nfr)
      rw [fly.2.1] at this
      cases this
    have n0 : X.s_0.heap.get? a = none := by
      cases e : X.s_0.heap.get? a with
      | none => rfl
      | some o =>
        obtain ⟨o2, q⟩ := J.base.there a o e (by rw [hex]; exact fun z => nomatch z)
        exact absurd q (notB o2)
    have np : ∀ p ∈ X.pn ++ pins, p.1 ≠ a := fun p hp q => notB p.2 (q ▸ (J.pin p hp).1)
    have Sg := Jg.suite hog dog na nL nF
    refine wpAny_handleBy_cons (codeAny_handlers_test ?_) (by intro q; cases q)
    refine hc a og (X.pn ++ pins) _ _ _ cls d b _ _ Sg zog hmt fun g2 kp => ?_
    have fly2 := fly_keeps fly kp
    have upk : g.UpToSlots g2 := Heap.UpToSlots.of_keeps kp
    cases b with
    | false =>
      show wpAny _ X.A (handleBy (.ref a) X.env []) _ _ _
      refine wpAny_handleBy_nil ?_
      obtain ⟨_, _, _, o5, v5, T, oT, t5, w1, _, w2, w3, _⟩ := id fly2
      unfold PySem.passOn
      refine wpAny_bind (wpAny_field w1 w2 w3 ?_)
      rw [if_neg (show ¬ ((Value.ref T == Value.none) = true) from by simp)]
      have out : wpAny (model X.prog X.w) X.A (setFlight (.ref a) X.env.frame) (fun _ u => wpAny (model X.prog X.w) X.A (throw (.ref a) : Sem Flow) (SP X pins D) X.xe u) X.xe { s' with heap := g2 } := by
        rw [hf]
        refine HandSPX.setFlight_upZ fly2 fun g4 held up4 => wpAny_throw (tk _ _ ⟨a, B, sI, pins, σ', H', cls, d, rfl, J, nb, ((up.trans upg).trans upk).trans up4, .inr (.inr (hs ▸ held)), na, os, ag, no rfl⟩)
      first
        | exact wpAny_bind (wpAny_pure (wpAny_bind out))
        | exact wpAny_bind out
    | true =>
      refine codeAny_handlers_suite_as (HandSPX.lands_againZ fly2 fun g4 fly4 up4 => ?_)
      have J4 : Inv X pins σ' H' { s' with heap := g4 } := J.landed nb fly4.1 (((up.trans upg).trans upk).trans up4) os ag
      obtain ⟨o4, v4, ho4, zo4, do4⟩ := fly4.there
      have S4 := J4.suite ho4 do4 na nL nF
      refine store_ok (X := X.suite a ((a, o4) :: (X.pn ++ pins))) (v := .ref a) S4 hN hi lcl rfl (fun s5 S5 => ?_) (.inr hln)
      refine wpAny_mono ((hsu a o4 cls d (X.pn ++ pins) zo4 ⟨_, do4⟩).run [] s5 _ H' _ S5 (yes rfl a na)) (fun fl s6 q => ?_) (fun _ _ q => q.elim)
      have fin : ∀ {σ6 : L2.St} {H6 : Hp} {R : Shared → Prop}, Inv (X.suite a ((a, o4) :: (X.pn ++ pins))) [] σ6 H6 s6 → (∀ s7, Inv X pins (σ6.set i none) H6 s7 → R s7) →
          wpAny (model X.prog X.w) X.A (do bindName X.env n .none; unbindBehindTheSuite X.env n pos') (fun _ s7 => R s7) X.xe s6 := fun S6 q => gone_ok (S6.unsuite kk) hN hi hln q
      cases fl with
      | next =>
        obtain ⟨σ6, H6, S6, q⟩ := q
        have S7 := inv_unsuiteK S6 kk zo4 ⟨_, do4⟩ n0 np
        exact gone_ok S7 hN hi hln fun s7 J7 => ⟨_, _, J7, q (S6.pin (a, o4) (List.mem_append_left _ List.mem_cons_self)).2.1⟩
      | brk => obtain ⟨σ6, H6, S6, q⟩ := q; exact fin S6 fun s7 J7 => ⟨_, _, J7, q⟩
      | cont => obtain ⟨σ6, H6, S6, q⟩ := q; exact fin S6 fun s7 J7 => ⟨_, _, J7, q⟩
      | ret u => obtain ⟨v, σ6, H6, S6, r, q⟩ := q; exact fin S6 fun s7 J7 => ⟨_, _, _, J7, r, q⟩
end
/-! ### what is read of it -/
structure KeepC (K : PySem.W.Frag) (f : Str) (C : Addr) : Prop where
  ga : PySem.W.findIn K (.ref C) "__getattribute__" = some (some (.builtin "BaseException.__getattribute__"))
  gg : PySem.W.findIn K (.ref C) "__getattr__" = some none
  ex : PySem.W.subIn K (.ref C) (.type "BaseException") = some true
  hd : PySem.W.hasDictIn K C = true
  no : PySem.W.findIn K (.ref C) f = some none
theorem BadCls.keepC {prog : Program} {K : PySem.W.Frag} {mg : Str → Option Value} {x f : Str} {C fI : Addr} (T : BadCls prog K mg x f C fI) : KeepC K f C := ⟨T.ga, T.gg, T.exC, T.hdC, T.T.noN⟩
/-- y.f, y an error that was kept -/
def tKFld (Cs : List Addr) (f : Str) (te : TE) : TE := fun σ H Q => te σ H fun y H1 => ∃ (a C dd : Addr) (v : V), y = .ref a ∧ C ∈ Cs ∧ H1 a = some (ErrO (.ref C) (some dd) a) ∧ H1 dd = some (.xd [(f, v)]) ∧ Q v H1
theorem pe_kfld {X : Cx} {Cs : List Addr} {f : Str} {e : Expr} {te : TE} {pos : Pos} (T : ∀ C ∈ Cs, KeepC X.K f C) (he : PE X e te) (hb : attributeBase e f X.env (eval e X.env) = eval e X.env := by rfl) : PE X (.Attribute e f pos) (tKFld Cs f te) := by
  refine ⟨fun pins s σ H Q I h => attr_of hb (thn (he.run pins s σ H _ I h) fun u s1 hq => ?_)⟩
  obtain ⟨y, H1, I1, rx, a, C, dd, v, rfl, hC, hA, hD, q⟩ := hq
  obtain rfl : u = Value.ref a := rx
  have T := T C hC
  obtain ⟨⟨oe, ha, hz, vs, hv⟩, _, _⟩ := show ObjOk X.prog X.w H1 s1.heap a (ErrO (.ref C) (some dd) a) from I1.hok a _ hA
  obtain ⟨mA, hns, hr⟩ := show ObjOk X.prog X.w H1 s1.heap dd (.xd [(f, v)]) from I1.hok dd _ hD
  obtain ⟨od, ho, hl⟩ := lookIn_ns hns
  have l : List.lookup f [(f, v)] = some v := by simp [List.lookup]
  obtain ⟨w, hw, rw⟩ := RelO.some_of (v := v) (o := mA f) (l ▸ hr f)
  have J : PySem.W.InstAt s1.heap a oe C (some od) := ⟨ha, hz.1, by unfold PySem.W.notCls; rw [hv] <;> rfl, by rw [hz.2]; exact ho⟩
  exact HandSPX.exc_get I1.kIn J T.ga T.gg T.ex (PySem.W.findObj_own T.hd T.no rfl (by rw [hl, hw])) (handed_of rw) ⟨v, H1, I1.tok _, rw, q⟩
end Bf
namespace Bf
open PySem PySem.Spec PyProof.Rows L2
/-! ## try .. except as e: x = e, over data -/
section
variable {K : PySem.W.Frag} {S S1 SB SF : Sta} {L : List Addr} {ρ : List (Option Dt)} {P : Po} {te : TE} {d : Dt} {f : Str} {C : Addr} {m : Value → Option Bool} {i j : Nat} {tw : WX → TS} {ts : Addr → Value → Option Addr → TS} {Wout : WX}
/-- the body ends by itself -/
theorem so_keepOk (h : ∀ W, Sg K S SB SF L (tw W) ρ P) : Sg K S SB SF L (fun D σ H => tw (wKp m i ts Wout D) D σ H) ρ P := fun D σ B H b hi s ft => h (wKp m i ts Wout D) D σ B H b hi s ft
/-- the body raises, with the slots as they were; the error goes to slot j -/
theorem so_keepEr (hm : m (.ref C) = some true) (hij : i ≠ j) (hil : i < ρ.length)
    (hb : ∀ (W : WX) (D : Ends) (σ : L2.St) (H : Hp), S.I H → Slots K H σ ρ → (∀ a v H', Gr H H' → S1.I H' → H' a = some (.xd [(f, v)]) → Rep K H' v d → W (.ref C) (some a) σ H') → tw W D σ H)
    (l : S1.Le SF) (q : P.nx ((ρ.set j (some (.err C f d))).set i none)) :
    Sg K S SB SF L (fun D σ H => tw (wKp m i (fun a cls d => tAsg (tVar i) (gName j)) Wout D) D σ H) ρ P := fun D σ B H b hi s ft =>
  hb _ D σ H hi s fun a v H' g i' ha rv => ⟨true, hm, fun _ e he => by
    have hl : i < σ.length := by rw [s.len]; exact hil
    refine ⟨.ref e, List.getElem?_set_self hl, fun hn => ?_⟩
    have sm := same_new (o := ErrO (.ref C) (some a) e) hn
    have s1 := ((s.mono g).mono sm.gr).set (v := .ref e) (d := .raw (.ref e)) (.raw _) i
    have s2 := (s1.set (v := .ref e) (d := .err C f d) (.err upd_same (sm _ _ ha) (rv.mono sm.gr)) j).none_ i
    have ee : ((ρ.set i (some (.raw (.ref e)))).set j (some (.err C f d))).set i none = (ρ.set j (some (.err C f d))).set i none := by
      rw [List.set_comm _ _ hij, List.set_set]
    rw [ee] at s2
    exact ft.nx _ _ _ ((b.gr.trans g).trans sm.gr) (l _ (S1.st i' sm)) s2 q, fun z => nomatch z⟩
/-- y.f -/
theorem ev_kfld {Cs : List Addr} (h : Ev K S S1 ρ te (Eq (.err C f d))) (hC : C ∈ Cs) : Ev K S S1 ρ (tKFld Cs f te) (Eq d) := fun σ H i s Q q =>
  h σ H i s _ fun v d' H1 g1 i1 r1 e => by
    subst e
    cases r1 with
    | err h1 h2 r => exact ⟨_, _, _, _, rfl, hC, h1, h2, q _ _ H1 g1 i1 r rfl⟩
end
end Bf
namespace Bf
open PySem PySem.Spec PyProof.Rows L2
/-! ## isinstance of an error that was kept -/
structure IsiC (K : PySem.W.Frag) (C : Addr) : Prop where
  cl : (PySem.W.clsIn K C).isSome = true
  ga : PySem.W.findIn K (.ref C) "__getattribute__" = some (some (.builtin "BaseException.__getattribute__"))
  gg : PySem.W.findIn K (.ref C) "__getattr__" = some none
  ex : PySem.W.subIn K (.ref C) (.type "BaseException") = some true
  ca : PySem.W.findIn K (.ref C) "__class__" = some (some (.builtin "object.__class__"))
  cg : PySem.W.specialIn K (.builtin "object.__class__") "__get__" = some (some (.builtin "getset_descriptor.__get__"))
  ct : PySem.W.takesIn K (.builtin "object.__class__") = some true
  ob : PySem.W.mroIn K C (.type "object") = some true
def rIsiE (K : PySem.W.Frag) (Cs : List Addr) : List V → Hp → VK → Prop := fun xs H Q => ∃ (a C C' dd : Addr) (f : Str) (v : V) (b : Bool), xs = [.ref a, .ref C'] ∧ C ∈ Cs ∧ H a = some (ErrO (.ref C) (some dd) a) ∧ H dd = some (.xd [(f, v)]) ∧ PySem.W.kitOne K (.ref C) (.ref C') = some b ∧ Q (.bl b) H
theorem call_isiE {X : Cx} {Cs : List Addr} (T : ∀ C ∈ Cs, IsiC X.K C) : CallR X (.builtin "isinstance") (rIsiE X.K Cs) := by
  intro pins s σ H xs us Q I r h
  obtain ⟨a, C, C', dd, f, v, b, rfl, hC, hA, hD, hk, q⟩ := h
  obtain ⟨u1, u2, rfl, r1, r2⟩ := vals2 r
  obtain rfl : u1 = Value.ref a := r1
  obtain rfl : u2 = Value.ref C' := r2
  have T := T C hC
  obtain ⟨⟨oe, ha, hz, vs, hv⟩, _, _⟩ := show ObjOk X.prog X.w H s.heap a (ErrO (.ref C) (some dd) a) from I.hok a _ hA
  obtain ⟨mA, hns, _⟩ := show ObjOk X.prog X.w H s.heap dd (.xd [(f, v)]) from I.hok dd _ hD
  obtain ⟨od, ho, _⟩ := lookIn_ns hns
  have J : PySem.W.InstAt s.heap a oe C (some od) := ⟨ha, hz.1, by unfold PySem.W.notCls; rw [hv] <;> rfl, by rw [hz.2]; exact ho⟩
  exact PySem.W.kia_one (PySem.W.kitx_exc (ox := oe) (od := some od) T.cl T.ga T.gg T.ex T.ca T.cg T.ct T.ob) I.kIn J hk (fun z => nomatch z) fun tk => ⟨.bl b, H, I.tok tk, rfl, q⟩
section
variable {K : PySem.W.Frag} {S S1 : Sta} {ρ : List (Option Dt)} {te : TE} {d : Dt} {C C' : Addr} {f : Str} {b : Bool}
theorem ev_isiE {Cs : List Addr} (h : Ev K S S1 ρ te (Eq (.err C f d))) (hC : C ∈ Cs) (hk : PySem.W.kitOne K (.ref C) (.ref C') = some b) : Ev K S S1 ρ (tCB (rIsiE K Cs) (tCons te (tCons (tC (.ref C')) tNil))) (Eq (.bl b)) := fun σ H i s Q q =>
  h σ H i s _ fun v d' H1 g1 i1 r1 e => by
    subst e
    cases r1 with
    | err h1 h2 r => exact ⟨_, _, _, _, _, _, _, rfl, hC, h1, h2, hk, q _ _ H1 g1 i1 (.bl b) rfl⟩
end
end Bf
namespace Bf
open PySem PySem.Spec PyProof.Rows L2
/-! ## A lambda handed to a def that calls it: what it lets out goes by the slots as they stand -/
abbrev lamQ (X : Cx) : Str := X.env.qual ++ "<lambda>"
abbrev lamO (X : Cx) (params : Arguments) (body : Expr) (scope : Scope) (pm : Value) (c' : Addr) (ctv : Value) : Obj := PySem.W.kla_obj "<lambda>" (lamQ X) params body scope (cloFrom X.env.cells scope.names []) pm c' ctv
/-- a call of the lambda at f, its code at c' -/
def tAct (i : Nat) (f c' : Addr) (q : Str) (tl : XK → Hp → VK → Prop) (E : L2.St → XK) : TE := fun σ H Q => σ[i]? = some (some (.ref f)) ∧ H c' = some (LamX.CodeO c' q) ∧ tl (E σ) H Q
section
variable {P : Program} {w : World} {K : PySem.W.Frag} {mg : Str → Option Value} {base : Heap}
/-- a def's body at s -/
abbrev dfCx (P : Program) (w : World) (K : PySem.W.Frag) (mg : Str → Option Value) (base : Heap) (Ng : List Str) (x : Str) (sg : Scope) (g : Addr) (cdg : Value) (A : Around) (out : List Env) (s : Shared) (H : Hp) : Cx :=
  cxOf (L2.CX P w) P w K mg base Ng x sg g cdg A out s H E0
end
section
variable {X : Cx} {pins pn : List (Addr × Obj)} {σ : L2.St} {H : Hp} {s : Shared}
theorem pe_actS {Ng : List Str} {qg : Str} {sg : Scope} {g f c' : Addr} {cdg pm ctv : Value} {params : Arguments} {body : Expr} {scope : Scope} {k i : Nat} {a : Str} {xe : Value → Shared → Prop} {E : L2.St → XK} {tb : XK → TE} {p1 p2 : Pos}
    (I : Inv X pins σ H s) (L : LamX.LamS X.env.scope scope) (of : s.heap.get? f = some (lamO X params body scope pm c' ctv)) (nf : H f = none) (fr : f ∉ frs X.stack)
    (bind : bindArgs (PySem.W.kla_fn "<lambda>" (lamQ X) params body scope (cloFrom X.env.cells scope.names []) pm (.ref c') ctv) ⟨[], []⟩ = pure [])
    (hE : ∀ σ, PassesAt (L2.CX X.prog X.w) ((dfCx X.prog X.w X.K X.mg X.base Ng qg sg g cdg X.A X.stack s H).tr pn xe) σ (E σ)) (hr : Room (k + 1) (X.A.deeper (envOfC qg sg s.heap.objs.size g cdg))) (hgd : X.A.guards = some [])
    (hbody : ∀ (A : Around) (out : List Env) (s : Shared) (H : Hp) (E : XK), Room k (A.deeper (LamX.lamEnv X scope s.heap.objs.size f c')) → A.guards = some [] → PE (LamX.lamCx X A out s H E scope f c') body (tb E))
    (hN : Ng[i]? = some a) (hv : Vis sg a) (hd : (a == ("__debug__" : Str)) = false) (hcd : (a == ("__classdict__" : Str)) = false) :
    PE ((dfCx X.prog X.w X.K X.mg X.base Ng qg sg g cdg X.A X.stack s H).tr pn xe) (.Call (.Name a p1) [] [] p2) (tAct i f c' (lamQ X) (fun E H' Q => tb E σ H' Q) E) := by
  refine ⟨fun pz sz σz Hz Q Iz h => ?_⟩
  obtain ⟨h1, h2, h3⟩ := h
  refine wpAny_Call_Name_kw (thn ((pe_var (pos := p1) (i := i) hN hv hd hcd).run pz sz σz Hz (fun v H1 => v = .ref f ∧ H1 = Hz) Iz ⟨.ref f, h1, rfl, rfl⟩) fun u s1 z => ?_)
  obtain ⟨v, H1, I1, r1, rfl, rfl⟩ := z
  obtain rfl : u = Value.ref f := r1
  have at1 : s1.heap.get? f = some (lamO X params body scope pm c' ctv) := I1.base.keep f _ of nf fr fun z => nomatch (show f ∈ ([] : List Addr) from z)
  have keepU : Un (frs X.stack) [] H H1 s.heap s1.heap := I1.base
  obtain ⟨⟨oc, us, t, c1, c2, c3⟩, _, _⟩ := I1.hok c' _ h2
  let Az : Around := X.A.deeper (envOfC qg sg s.heap.objs.size g cdg)
  let oz : List Env := envOfC qg sg s.heap.objs.size g cdg :: X.stack
  have run : codeAny (model X.prog X.w) Az (.call (.ref f) ⟨[], []⟩) (CR (L2.CX X.prog X.w) oz X.prog X.w H1 s1 Q (E σz)) s1 := by
    refine PySem.W.kla_callFunE hr.depth at1 rfl L.co L.gen rfl ⟨c', oc, us, t, rfl, c1, c2, c3⟩ ?_
    rw [bind]
    refine wpAny_pure (wpAny_newFunctionEnv (fun y hy => (L.own y hy).2) (fun y hy => nomatch hy) (fun h1 hns sb => ⟨I1.nolimit.fresh _ sb, ?_⟩) L.kind)
    have kept : ∀ b o, s1.heap.get? b = some o → h1.get? b = some o := fun b o e => sb.extBut b o (Nat.ne_of_lt (Heap.lt_size e)) (Heap.get?_push_of_some _ e)
    have J : Inv (LamX.lamCx X Az oz s1 H1 (E σz) scope f c') [] σ H1 { s1 with heap := h1, toks := s1.toks + ([] : List (Str × Value)).length } := LamX.lam_start2 I L I1.env0 hr.hd keepU hns kept
    have run2 := (hbody Az oz s1 H1 (E σz) (hr.deeper _) hgd).run [] _ _ H1 Q J h3
    refine PySem.W.kla_codeExpr (wpAny_mono run2 (fun v s' z => ?_) fun e s' z => z)
    obtain ⟨w', H', J', rv, q⟩ := z
    exact ⟨w', H', J'.os, J'.bare, J'.base, J'.hok, rv, q⟩
  refine PySem.W.callWith_F0 ⟨_, _, _, _, at1⟩ (wpAny_call (codeAny_mono run fun r s' hq => ?_))
  match r, hq with
  | .error e, hq => exact hE σz pz H1 s1 e s' I1 hq
  | .ok (.ret u), hq => exact I1.after hq
  | .ok .next, hq => exact hq.elim
  | .ok .brk, hq => exact hq.elim
  | .ok .cont, hq => exact hq.elim
end
/-- a def that calls what it got, a: what it makes (TT) of the call's reading -/
def Gives (P : Program) (w : World) (K : PySem.W.Frag) (mg : Str → Option Value) (base : Heap) (k : Nat) (Ng : List Str) (x a : Str) (sg : Scope) (g : Addr) (cdg : Value) (bg : List Stmt) (TT : (XK → Hp → VK → Prop) → Hp → VK → Prop) : Prop :=
  ∀ (A : Around) (out : List Env) (s : Shared) (H : Hp) (Q : VK) (f c' : Addr) (q : Str) (tl : XK → Hp → VK → Prop), Room k (A.deeper (envOfC x sg s.heap.objs.size g cdg)) → A.guards = some [] →
    (∀ (pn : List (Addr × Obj)) (xe : Value → Shared → Prop) (E : L2.St → XK) (p1 p2 : Pos), (∀ σ, PassesAt (L2.CX P w) ((dfCx P w K mg base Ng x sg g cdg A out s H).tr pn xe) σ (E σ)) → PE ((dfCx P w K mg base Ng x sg g cdg A out s H).tr pn xe) (.Call (.Name a p1) [] [] p2) (tAct 0 f c' q tl E)) →
    H c' = some (LamX.CodeO c' q) → TT tl H Q → ∃ t, PSs (dfCx P w K mg base Ng x sg g cdg A out s H) bg t ∧ t { nx := fun _ H' => Q .non H', rt := Q } (L2.start Ng [.ref f]) H
/-- x(lambda: body) -/
theorem pe_lamS {X : Cx} {T : List (Addr × Str)} {TT : (XK → Hp → VK → Prop) → Hp → VK → Prop} {x a : Str} {g c P : Addr} {k : Nat} {pg : Arguments} {bg : List Stmt} {sg : Scope} {dV kV doc pm cdv ct oc : Value} {an od : Option Addr} {osl : Array (Option Value)} {Ng : List Str}
    {params : Arguments} {body : Expr} {scope : Scope} {t : XK → TE} {p lpos pos : Pos} (hm : X.mg x = some (.ref g)) (hk : PySem.W.keepIn X.K (.ref g) = true)
    (lk : X.K.lookup g = some ⟨oc, od, .func (PySem.W.fnOf x x pg bg sg dV kV doc pm an cdv ct), osl⟩) (hcg : PySem.W.codeIn X.K cdv x = true) (hb : BPos (PySem.W.fnOf x x pg bg sg dV kV doc pm an cdv ct) [a]) (Sg : FnScope Ng [a] sg) (hNg : Ng[0]? = some a) (hva : Vis sg a)
    (hG : Gives X.prog X.w X.K X.mg X.base (k + 1) Ng x a sg g cdv bg TT) (TB : LamX.TabB X.base X.mg c P) (hcode : X.env.code = .ref c) (hmT : (P, lamQ X) ∈ T) (hu : ∀ p ∈ T, p.1 = P → p.2 = lamQ X) (hr : Room (k + 2) X.A) (hgd : X.A.guards = some [])
    (hbind : ∀ (q : Str) (cl : List (Str × Addr)) (pm cv ctv : Value), bindArgs (PySem.W.kla_fn "<lambda>" q params body scope cl pm cv ctv) ⟨[], []⟩ = pure [])
    (hbody : ∀ (f c' : Addr) (A : Around) (out : List Env) (s : Shared) (H : Hp) (E : XK), Room k (A.deeper (LamX.lamEnv X scope s.heap.objs.size f c')) → A.guards = some [] → PE (LamX.lamCx X A out s H E scope f c') body (t E))
    (L : LamX.LamS X.env.scope scope := by exact LamX.lamS_by (by rfl)) (hdef : defaultsOf params X.env = ([], []) := by rfl) (hg : Gl X x := by rfl) (hdb : (x == ("__debug__" : Str)) = false := by decide) (hd : (a == ("__debug__" : Str)) = false := by decide) (hcd : (a == ("__classdict__" : Str)) = false := by decide) :
    PE X (.Call (.Name x p) [.Lambda params body scope lpos] [] pos) (LamX.tLam T TT t) := by
  refine ⟨fun pins s σ H Q I h => wpAny_Call_Name_kw (ld_glob I hg hm ?_ hdb)⟩
  obtain ⟨h0, h⟩ := h
  refine PySem.W.callWith_K (h₀ := X.base) I.ok.mod.kin hk ?_ (by rfl) (by rfl)
  show wpAny _ _ (spliced ((false, eval (.Lambda params body scope lpos) X.env) :: backTo pos (starEach [] X.env))) _ _ s
  refine Calls.spliced_cons (LamX.lam_make2 I TB hcode hmT hu h0 hdef (L.has I.ok) fun f c' pm' ctv H1 s' I1 e1 t1 a1 a2 a3 a4 => Calls.spliced_nil ⟨I1.kIn, ?_⟩)
  have run : codeAny (model X.prog X.w) X.A (.call (.ref g) ⟨[.ref f], []⟩) (CR (L2.CX X.prog X.w) X.stack X.prog X.w H1 s' Q E0) s' := by
    refine LamX.run_ofS (N := Ng) (ps := [a]) (us := [.ref f]) (vs := [.ref f]) lk hcg Sg hr I1.env0 (hb s' [.ref f] rfl) (.cons rfl .nil) rfl fun hr2 => ?_
    exact hG X.A X.stack s' H1 Q f c' (lamQ X) (fun E H' Q' => t E σ H' Q') hr2 hgd (fun pn xe E p1 p2 hE => pe_actS (i := 0) I1 L a1 a2 a3 (hbind _ _ _ _ _) hE hr2 hgd (hbody f c') hNg hva hd hcd) a4 (h H1 e1 t1)
  refine wpAny_call (codeAny_mono run fun r s2 hq => ?_)
  match r, hq with
  | .error e, hq =>
    obtain ⟨_, _, _, _, _, _, _, _, _, _, _, _, z⟩ := hq
    exact z.elim
  | .ok (.ret u), hq => exact I1.after hq
  | .ok .next, hq => exact hq.elim
  | .ok .brk, hq => exact hq.elim
  | .ok .cont, hq => exact hq.elim
theorem pe_lamF {X : Cx} {T : List (Addr × Str)} {TT : (XK → Hp → VK → Prop) → Hp → VK → Prop} {x a : Str} {g c P : Addr} {k : Nat} {st : Stmt} {fd : FuncData} {Ng : List Str} {params : Arguments} {body : Expr} {scope : Scope} {t : XK → TE} {p lpos pos : Pos}
    (Fu : Fun X.K x x st g fd) (hb : BPos fd [a]) (Sg : FnScope Ng [a] (defScope st)) (hNg : Ng[0]? = some a) (hva : Vis (defScope st) a) (hm : X.mg x = some (.ref g))
    (hG : ∀ cdv, Gives X.prog X.w X.K X.mg X.base (k + 1) Ng x a (defScope st) g cdv (defBody st) TT) (TB : LamX.TabB X.base X.mg c P) (hcode : X.env.code = .ref c) (hmT : (P, lamQ X) ∈ T) (hu : ∀ p ∈ T, p.1 = P → p.2 = lamQ X) (hr : Room (k + 2) X.A) (hgd : X.A.guards = some [])
    (hbind : ∀ (q : Str) (cl : List (Str × Addr)) (pm cv ctv : Value), bindArgs (PySem.W.kla_fn "<lambda>" q params body scope cl pm cv ctv) ⟨[], []⟩ = pure [])
    (hbody : ∀ (f c' : Addr) (A : Around) (out : List Env) (s : Shared) (H : Hp) (E : XK), Room k (A.deeper (LamX.lamEnv X scope s.heap.objs.size f c')) → A.guards = some [] → PE (LamX.lamCx X A out s H E scope f c') body (t E))
    (L : LamX.LamS X.env.scope scope := by exact LamX.lamS_by (by rfl)) (hdef : defaultsOf params X.env = ([], []) := by rfl) (hg : Gl X x := by rfl) (hdb : (x == ("__debug__" : Str)) = false := by decide) (hd : (a == ("__debug__" : Str)) = false := by decide) (hcd : (a == ("__classdict__" : Str)) = false := by decide) :
    PE X (.Call (.Name x p) [.Lambda params body scope lpos] [] pos) (LamX.tLam T TT t) := by
  obtain ⟨oc, od, kV, doc, pm, an, cdv, ct, osl, rfl, lk, hcd2⟩ := Fu.ex
  exact pe_lamS hm Fu.kp lk hcd2 hb Sg hNg hva (hG cdv) TB hcode hmT hu hr hgd hbind hbody L hdef hg hdb hd hcd
/-- a def whose code object is told -/
structure FunC (K : PySem.W.Frag) (x qual : Str) (st : Stmt) (f : Addr) (fd : FuncData) (cdv : Value) : Prop where
  ex : ∃ (oc : Value) (od : Option Addr) (kV doc pm : Value) (an : Option Addr) (ct : Value) (osl : Array (Option Value)),
    fd = PySem.W.fnOf x qual (defArgs st) (defBody st) (defScope st) .none kV doc pm an cdv ct ∧ K.lookup f = some ⟨oc, od, .func fd, osl⟩ ∧ PySem.W.codeIn K cdv qual = true
theorem okGC {P : Program} {w : World} {K : PySem.W.Frag} {mg : Str → Option Value} {base : Heap} {x qual : Str} {st : Stmt} {f : Addr} {fd : FuncData} {cdv : Value} {N ps : List Str} {k : Nat} {sp : Sp} (F : FunC K x qual st f fd cdv) (S : FnScope N ps (defScope st)) (len : ∀ vs H Q E, sp vs H Q E → vs.length = ps.length)
    (hb : ∀ (A : Around) (out : List Env) (s : Shared) (H : Hp) (vs : List V) (Q : VK) (E : XK), Room k (A.deeper (envOfC qual (defScope st) s.heap.objs.size f cdv)) → A.guards = some [] → sp vs H Q E →
      ∃ t, PSs (cxOf (L2.CX P w) P w K mg base N qual (defScope st) f cdv A out s H E) (defBody st) t ∧ t { nx := fun _ H' => Q .non H', rt := Q } (start N vs) H) :
    GOk P w K mg base (k + 1) f fd ps sp := by
  obtain ⟨oc, od, kV, doc, pm, an, ct, osl, rfl, lk, hcd⟩ := F.ex
  refine ⟨len, fun A out s H args us vs Q E hr hgd e0 hbi r hsp => ?_⟩
  refine StX.run_bnd lk hcd S hr e0 (G := fun xs H2 => xs = vs ∧ H2 = H) (fun A' Ex Q' h => ?_) fun s2 H2 xs ⟨ex, eH⟩ hr' => ?_
  · exact hbi _ _ _ _ (h s H vs us e0 Un.refl rfl (fun _ _ z => z) r (len _ _ _ _ hsp) ⟨rfl, rfl⟩)
  · subst ex eH
    exact hb A out s2 _ _ Q E hr' hgd hsp
/-! ### over data -/
/-- what a lambda comes to, from H on -/
def LamO (K : PySem.W.Frag) (H : Hp) (tl : XK → Hp → VK → Prop) : Out → Prop
  | .ok d => ∀ (E : XK) (H1 : Hp) (Q : VK), Same H H1 → (∀ v H2, Same H1 H2 → Rep K H2 v d → Q v H2) → tl E H1 Q
  | .er C f d => ∀ (E : XK) (H1 : Hp) (Q : VK), Same H H1 → (∀ a v H2, Same H1 H2 → H2 a = some (.xd [(f, v)]) → Rep K H2 v d → E (.ref C) (some a) H2) → tl E H1 Q
/-- what the def tells of it -/
def TTs (K : PySem.W.Frag) (R : Out → Dt → Prop) : (XK → Hp → VK → Prop) → Hp → VK → Prop := fun tl H Q => ∃ o d, LamO K H tl o ∧ R o d ∧ ∀ v H', Same H H' → Rep K H' v d → Q v H'
/-- a state that the making of lambdas leaves -/
structure TabS (S : Sta) (T : List (Addr × Str)) : Prop where
  has : ∀ H, S.I H → LamX.Tabs T H
  on : ∀ H H1, S.I H → LamX.ExtN H H1 → LamX.Tabs T H1 → S.I H1
theorem extN_gr {H H1 : Hp} (e : LamX.ExtN H H1) : Gr H H1 := fun b o h d => e b o h fun ps z => by
  rw [z] at d
  cases d
theorem dw_tab {K : PySem.W.Frag} {a : Addr} {c : CT} {cs : List Int} {n : Nat} : TabS (DW K a c cs n) c.tb := by
  refine ⟨fun H h => ?_, fun H H1 h e t => ?_⟩
  · obtain ⟨i, l, u, h, _⟩ := h
    exact h.2.2
  · obtain ⟨i, l, u, h, r⟩ := h
    exact ⟨i, l, u, ⟨e _ _ h.1 (fun _ z => nomatch z), (extN_gr e).sqL h.2.1, t⟩, r⟩
section
variable {K : PySem.W.Frag} {S : Sta} {ρ : List (Option Dt)} {T : List (Addr × Str)} {R : Out → Dt → Prop} {t : XK → TE} {d x : Dt} {C : Addr} {f : Str}
/-- S, and all that was at H -/
def staA (S : Sta) (H : Hp) : Sta := ⟨fun H' => S.I H' ∧ Same H H', fun h s => ⟨S.st h.1 s, h.2.trans s⟩⟩
theorem staA_le {H : Hp} : (staA S H).Le S := fun _ h => h.1
theorem ev_lamOk (hT : TabS S T) (h : ∀ (S' : Sta) E, S'.Le S → Ev K S' S' ρ (t E) (Eq d)) (hR : R (.ok d) x) : Ev K S S ρ (LamX.tLam T (TTs K R) t) (Eq x) := fun σ H i s Q q =>
  ⟨hT.has H i, fun H1 e1 t1 => ⟨.ok d, x, fun E H2 Q1 s2 q1 => h (staA S H2) E staA_le σ H2 ⟨S.st (hT.on H H1 i e1 t1) s2, Same.refl H2⟩ ((s.mono (extN_gr e1)).mono s2.gr) Q1 fun v d' H3 g3 i3 r3 e3 => q1 v H3 i3.2 (e3 ▸ r3), hR, fun v H2 s2 r => q v x H2 ((extN_gr e1).trans s2.gr) (S.st (hT.on H H1 i e1 t1) s2) r rfl⟩⟩
theorem ev_lamEr (hT : TabS S T) (h : ∀ (S' : Sta) E, S'.Le S → XW K S' C f d E → EvR K S' ρ (t E)) (hR : R (.er C f d) x) : Ev K S S ρ (LamX.tLam T (TTs K R) t) (Eq x) := fun σ H i s Q q =>
  ⟨hT.has H i, fun H1 e1 t1 => ⟨.er C f d, x, fun E H2 Q1 s2 q1 => h (staA S H2) E staA_le (fun a v H3 i3 ha rv => q1 a v H3 i3.2 ha rv) σ H2 ⟨S.st (hT.on H H1 i e1 t1) s2, Same.refl H2⟩ ((s.mono (extN_gr e1)).mono s2.gr) Q1, hR, fun v H2 s2 r => q v x H2 ((extN_gr e1).trans s2.gr) (S.st (hT.on H H1 i e1 t1) s2) r rfl⟩⟩
variable {S1 : Sta} {i : Nat} {a c' : Addr} {q : Str} {tl : XK → Hp → VK → Prop} {H0 : Hp}
/-- the call within the def -/
theorem ev_act {E : L2.St → XK} (hi : ρ[i]? = some (some (.raw (.ref a)))) (hc : H0 c' = some (LamX.CodeO c' q)) (h : LamO K H0 tl (.ok d)) : Ev K (staSame H0) (staSame H0) ρ (tAct i a c' q tl E) (Eq d) := fun σ H hs s Q q1 => by
  obtain ⟨v, hv, rv⟩ := s.val i _ hi
  obtain rfl := rv.rawI
  exact ⟨hv, hs _ _ hc, h (E σ) H Q hs fun v H2 s2 r => q1 v d H2 s2.gr ((staSame H0).st hs s2) r rfl⟩
theorem pr_act {W : WX} {D : Ends} {σ : L2.St} {H : Hp} {j : Nat} (hi : ρ[i]? = some (some (.raw (.ref a)))) (hc : H0 c' = some (LamX.CodeO c' q)) (h : LamO K H0 tl (.er C f d)) (hs : (staSame H0).I H) (s : Slots K H σ ρ)
    (hW : ∀ a v H', Gr H H' → (staSame H0).I H' → H' a = some (.xd [(f, v)]) → Rep K H' v d → W (.ref C) (some a) σ H') : tAsg (tAct i a c' q tl (WE W)) (gName j) D σ H := by
  obtain ⟨v, hv, rv⟩ := s.val i _ hi
  obtain rfl := rv.rawI
  exact ⟨hv, hs _ _ hc, h (WE W σ) H _ hs fun a v H2 s2 e r => hW a v H2 s2.gr ((staSame H0).st hs s2) e r⟩
end
end Bf
namespace Bf
open PySem PySem.Spec PyProof.Rows L2
/-! ## receivers.py -/
section
variable {K : PySem.W.Frag} {mg : Str → Option Value} {C fI pN gN pD gD CB : Addr} {S : Sta} {ds : List Dt} {d : Dt} {o : Out} {E : XK}
end
/-! ### promises that hand back the thing itself -/
section
variable {K : PySem.W.Frag} {S S1 SB SF : Sta} {L : List Addr} {ρ : List (Option Dt)} {d : Dt} {R : Dt → Out → Prop} {E : XK} {C : Addr} {f : Str} {j : Nat} {xs : List Dt}
end
/-! ### need_receiver -/
section
variable {K : PySem.W.Frag} {mg : Str → Option Value} {C fI pN gN pD gD CR : Addr} {S : Sta} {d : Dt} {o : Out} {E : XK} {v : V}
theorem so_raise0B {S1 SB SF : Sta} {L : List Addr} {ρ : List (Option Dt)} {P : Po} {te : TE} {f : Str} (h : Ev K S S1 ρ te (Eq d)) (hw : XW K S1 C f d E) : Sg K S SB SF L (tRaiseB C f (fun cls d _ H => E cls d H) (tCons te tNil)) ρ P := so_raiseB h hw
end
end Bf
namespace Bf
open PySem PySem.Spec PyProof.Rows L2 PySem.SeqAt
/-! ## Things that are handed on as they are: a slot's value by itself, with what it is known to be -/
section
variable {K : PySem.W.Frag} {S S0 S1 S2 SB SF : Sta} {L : List Addr} {ρ : List (Option Dt)} {P : Po} {te ta tb : TE} {w t : TS} {tl : TA} {d x : Dt} {j n : Nat} {ds xs : List Dt} {vs : List V} {R : List V → List Dt → Out → Prop} {E : XK} {C : Addr} {f : Str} {v : V}
/-! ### tuples of the same things -/
end
end Bf
namespace Bf
open PySem PySem.Spec PyProof.Rows L2
/-! ## keywords in any order -/
end Bf
namespace Bf
open PySem PySem.Spec PyProof.Rows L2
/-! ## Ratio's methods -/
/-- a method of two parts, as the text has it -/
structure RatM (K : PySem.W.Frag) (C : Addr) (x qual : Str) (st : Stmt) (f : Addr) (fd : FuncData) : Prop where
  fn : Fun K x qual st f fd
  s : PySem.W.findIn K (.ref C) x = some (some (.ref f))
  f : PySem.W.isFn K (.ref f) = true
  b : Binds K fd ["self", "other"] []
abbrev t_req (K : PySem.W.Frag) (C : Addr) : TS := (tRet (tAndV (tCB (rIsi K) (tCons (tVar 1) (tCons (tC (.ref C)) tNil))) (tAndV (tOp rEq (L2.tFld K (tVar 0) "_num") (L2.tFld K (tVar 1) "_num")) (tOp rEq (L2.tFld K (tVar 0) "_den") (L2.tFld K (tVar 1) "_den")))))
section
variable {K : PySem.W.Frag} {mg : Str → Option Value} {C fI pN gN pD gD : Addr} {S S1 S2 : Sta} {ρ : List (Option Dt)} {te ta tb : TE} {ds : List Dt} {d : Dt} {n m i j : Int}
theorem ev_fn (T : RatT K mg C fI pN gN pD gD) (h : Ev K S S1 ρ te (Eq (rat C n m))) : Ev K S S1 ρ (L2.tFld K te "_num") (Eq (.int n)) := fun σ H i s Q q =>
  h σ H i s _ fun v d H1 g1 i1 r1 e => by
    subst e
    obtain ⟨a, dx, rfl, ea⟩ := r1.ratI
    exact ⟨a, C, dx, _, .int n, rfl, ea, T.cl, T.an, by simp [List.lookup], q _ _ H1 g1 i1 (.int n) rfl⟩
theorem ev_fd (T : RatT K mg C fI pN gN pD gD) (h : Ev K S S1 ρ te (Eq (rat C n m))) : Ev K S S1 ρ (L2.tFld K te "_den") (Eq (.int m)) := fun σ H i s Q q =>
  h σ H i s _ fun v d H1 g1 i1 r1 e => by
    subst e
    obtain ⟨a, dx, rfl, ea⟩ := r1.ratI
    exact ⟨a, C, dx, _, .int m, rfl, ea, T.cl, T.ad, by rw [look_den], q _ _ H1 g1 i1 (.int m) rfl⟩
theorem so_req (T : RatT K mg C fI pN gN pD gD) (hp : r_req C ds d) : So K S S [] (t_req K C) (startD 2 ds) (Pu d) := by
  obtain ⟨n, m, i, j, rfl, rfl⟩ := hp
  have h1 : Ev K S S [some (rat C n m), some (rat C i j)] (tCB (rIsi K) (tCons (tVar 1) (tCons (tC (.ref C)) tNil))) (Eq (.bl true)) := ev_isRat T (ev_var rfl) (.inr ⟨i, j, rfl⟩)
  have h2 : Ev K S S [some (rat C n m), some (rat C i j)] (tOp rEq (L2.tFld K (tVar 0) "_num") (L2.tFld K (tVar 1) "_num")) (Eq (.bl (decide (n = i)))) := ev_op (ev_fn T (ev_var rfl)) (ev_fn T (ev_var rfl)) rv_eqI
  have h3 : Ev K S S [some (rat C n m), some (rat C i j)] (tOp rEq (L2.tFld K (tVar 0) "_den") (L2.tFld K (tVar 1) "_den")) (Eq (.bl (decide (m = j)))) := ev_op (ev_fd T (ev_var rfl)) (ev_fd T (ev_var rfl)) rv_eqI
  by_cases e : n = i
  · exact so_retD (ev_andT h1 (ev_andT (h2.to (by rw [decide_eq_true e])) h3)) (Sta.Le.refl S) (by rw [decide_eq_true e, Bool.true_and])
  · exact so_retD (ev_andT h1 (ev_andF (h2.to (by rw [decide_eq_false e])))) (Sta.Le.refl S) (by rw [decide_eq_false e, Bool.false_and])
end
/-! ### for x, y in zip(a tuple, a tuple) -/
section
variable {K : PySem.W.Frag} {S S1 S2 SB SF : Sta} {L : List Addr} {ρ : List (Option Dt)} {P : Po} {t : TS} {ta : TA}
end
end Bf
namespace Bf
open PySem PySem.Spec PyProof.Rows L2
/-! ## Dicts with tuples as keys -/
section
variable {X : Cx} {pins : List (Addr × Obj)} {σ : L2.St} {H : Hp} {s : Shared}
/-! ### d.get(k) -/
/-! ### len(d) -/
end
end Bf
namespace Bf
open PySem PySem.Spec PyProof.Rows L2
/-! ## dict(a list of pairs), the keys tuples -/
inductive PrsA (K : PySem.W.Frag) (H : Hp) : List Addr → List Addr → List V → Prop
  | nil : PrsA K H [] [] []
  | cons {p a : Addr} {v : V} {ps as : List Addr} {vs : List V} : SqT K H p [.ref a, v] → PrsA K H ps as vs → PrsA K H (p :: ps) (a :: as) (v :: vs)
theorem PrsA.len {K : PySem.W.Frag} {H : Hp} : ∀ {ps as : List Addr} {vs : List V}, PrsA K H ps as vs → as.length = ps.length ∧ vs.length = ps.length
  | _, _, _, .nil => ⟨rfl, rfl⟩
  | _, _, _, .cons _ r => ⟨by rw [List.length_cons, List.length_cons, r.len.1], by rw [List.length_cons, List.length_cons, r.len.2]⟩
section
variable {X : Cx} {pins : List (Addr × Obj)} {σ : L2.St} {H : Hp} {s : Shared}
theorem PrsA.here (I : L2.Inv X pins σ H s) : ∀ {ps as : List Addr} {vs : List V}, PrsA X.K H ps as vs → ∃ us, Vals vs us ∧ ∀ (j : Nat) (a : Addr) (u : Value), as[j]? = some a → us[j]? = some u → ∃ p, ps[j]? = some p ∧ IsTup s.heap p #[.ref a, u]
  | _, _, _, .nil => ⟨[], .nil, fun j a u e => by simp at e⟩
  | _, _, _, .cons (p := p) (a := a) (v := v) h r => by
    obtain ⟨us, rv, q⟩ := r.here I
    obtain ⟨its, ri, ht, _⟩ := I.tuple h
    obtain ⟨x, y, ei, rx, ry⟩ := vals2 ri
    subst ei
    obtain rfl : x = Value.ref a := rx
    refine ⟨y :: us, .cons ry rv, fun j a' u' e1 e2 => ?_⟩
    cases j with
    | zero =>
      obtain rfl : a = a' := by simpa using e1
      obtain rfl : y = u' := by simpa using e2
      exact ⟨p, rfl, ht⟩
    | succ j => exact q j a' u' (by simpa using e1) (by simpa using e2)
end
/-! ### over data -/
section
variable {K : PySem.W.Frag} {S S1 S2 : Sta} {ρ : List (Option Dt)} {td ty te : TE} {ks xs : List Dt} {q : Dt}
end
end Bf
namespace Bf
open PySem PySem.Spec PyProof.Rows L2
section
variable {K : PySem.W.Frag} {S : Sta} {ds : List Dt} {d : Dt}
/-! ### the frame of halves -/
end
end Bf
namespace Bf
open PySem PySem.Spec PyProof.Rows L2
section
variable {K : PySem.W.Frag} {S : Sta} {ds xs : List Dt} {d : Dt}
/-! ### settled -/
section
variable {S1 S2 S3 S4 : Sta} {ρ : List (Option Dt)} {ta tb tc td : TE}
end
/-! ### a step -/
/-! ### begin_of, is_end, steps_of, frame_of -/
section
variable {S1 S2 : Sta} {ρ : List (Option Dt)} {ta tb tc : TE}
end
theorem sett_ne (T : Tab) (s : Site) (bit : Int) : (T.sett s bit).rest ≠ [] := by
  cases T with
  | ha u b =>
    simp only [Tab.sett, haS, haP]
    repeat' split
    all_goals simp
  | pa h z1 z2 o1 o2 st b =>
    simp only [Tab.sett]
    split <;> simp
end
end Bf
namespace Bf
open PySem PySem.Spec PyProof.Rows L2
/-! ## The law's frames: two lists, one made anew, one changed -/
section
variable {K : PySem.W.Frag} {S S1 S2 SB SF : Sta} {L : List Addr} {ρ : List (Option Dt)} {P : Po} {ta tb te : TE} {w t : TS} {xs ys : List Dt} {p q : Addr} {j : Nat}
theorem en_catL (ha : Ev K S S1 ρ ta (Eq (.lst xs))) (hb : Ev K S1 S2 ρ tb (Eq (.lst ys))) (hz : xs.length + ys.length ≤ sizeLine) : EvN K S S2 ρ (tOp (rCatS K) ta tb) (xs ++ ys) := fun σ H i s Q q =>
  ha σ H i s _ fun v d H1 g1 i1 r1 e1 => by
    subst e1
    exact hb σ H1 i1 (s.mono g1) _ fun u d2 H2 g2 i2 r2 e2 => by
      subst e2
      obtain ⟨a, vs, rfl, h1, ra⟩ := (r1.mono g2).lstI
      obtain ⟨b, us, rfl, h2, rb⟩ := r2.lstI
      exact ⟨a, b, vs, us, rfl, rfl, h1, h2, by rw [ra.len, rb.len]; exact hz, fun p hp => q p _ H2 _ (g1.trans g2) i2 hp (same_new hp).gr (S2.st i2 (same_new hp)) upd_same ((ra.app rb).mono (same_new hp).gr)⟩
end
end Bf
namespace Bf
open PySem PySem.Spec PyProof.Rows L2
/-! ## _law_frame -/
section
variable {K : PySem.W.Frag} {S : Sta} {ds : List Dt} {d : Dt}
end
end Bf
namespace Bf
open PySem PySem.Spec PyProof.Rows L2
/-! ## Fact 1: different words have different frames -/
end Bf
namespace Bf
open PySem PySem.Spec PyProof.Rows L2
/-! ## The law of tables: what is said, what is due -/
section
variable {K : PySem.W.Frag} {S : Sta} {ds : List Dt} {d : Dt} {C : Addr}
end
end Bf
namespace Bf
open PySem PySem.Spec PyProof.Rows L2
/-! ## a tuple backwards; a tuple many times -/
section
variable {prog : Program} {w : World} {A : Around} {E : Value → Shared → Prop} {s : Shared}
end
theorem RepA.rev {K : PySem.W.Frag} {H : Hp} : ∀ {vs : List V} {ds : List Dt}, RepA K H vs ds → RepA K H vs.reverse ds.reverse
  | _, _, .nil => .nil
  | _, _, .cons h r => by
    rw [List.reverse_cons, List.reverse_cons]
    exact r.rev.app (.cons h .nil)
theorem RepA.rep {K : PySem.W.Frag} {H : Hp} {vs : List V} {ds : List Dt} (r : RepA K H vs ds) : ∀ n : Nat, RepA K H (List.replicate n vs).flatten (List.replicate n ds).flatten
  | 0 => .nil
  | n + 1 => by
    rw [List.replicate_succ, List.replicate_succ, List.flatten_cons, List.flatten_cons]
    exact r.app (r.rep n)
section
variable {K : PySem.W.Frag} {S S1 : Sta} {ρ : List (Option Dt)} {te : TE} {xs : List Dt}
end
end Bf
namespace Bf
open PySem PySem.Spec PyProof.Rows L2
/-! ## The law of frames: frame_of that refuses, word_of -/
section
variable {K : PySem.W.Frag} {S S1 S2 : Sta} {ρ : List (Option Dt)} {ds : List Dt} {d : Dt} {o : Out} {C : Addr} {E : XK} {ta tb te tl : TE} {T : Tab}
/-! ### word_of -/
end
end Bf
namespace Bf
open PySem PySem.Spec PyProof.Rows L2
/-! ## right receivers, sendings -/
section
variable {C CR : Addr} {p : Tab × Int × Int} {rc : List (Tab × Int × Int)}
end
section
variable {K : PySem.W.Frag} {mg : Str → Option Value} {C fI pN gN pD gD CR : Addr} {S : Sta} {ds : List Dt} {d : Dt}
end
end Bf
namespace Bf
open PySem PySem.Spec PyProof.Rows L2
section
variable {K : PySem.W.Frag} {S : Sta} {ds : List Dt} {d : Dt}
/-! ### the law's own looks -/
/-- no list, no tuple, no dict: may be compared -/
def scal : Dt → Bool
  | .non => true
  | .bl _ => true
  | .int _ => true
  | .str x => x.cps.all (· < 0x110000)
  | _ => false
theorem scal_okN {x : Dt} (h : scal x = true) : okN x = true := by cases x <;> simp [scal] at h <;> rfl
end
end Bf
namespace Bf
open PySem PySem.Spec PyProof.Rows L2
/-! ## in, not in over data -/
section
variable {K : PySem.W.Frag} {S : Sta} {ds : List Dt} {d : Dt}
/-! ### what is due -/
/-- parts as they are drawn: scalars, or tuples and lists of scalars -/
def parT (d : Dt) : Prop := okN d = true ∧ ∀ xs, d = .tup xs → xs.length ≤ 1000 ∧ ∀ x ∈ xs, scal x = true
end
end Bf
namespace Bf
open PySem PySem.Spec PyProof.Rows L2
/-- values as they are drawn -/
def valT (d : Dt) : Prop := okN d = true ∧ ∀ xs, d = .tup xs → xs.length ≤ 1000 ∧ ∀ x ∈ xs, parT x ∧ ∀ s : Str, x = .str s → scal x = true
section
variable {K : PySem.W.Frag} {S : Sta} {ds : List Dt} {d : Dt}
end
end Bf
namespace Bf
open PySem PySem.Spec PyProof.Rows L2
/-! ## tables with a part otherwise -/
/-- a part as it is drawn -/
def ptD (n : Nat) (d : Dt) : Prop := scal d = true ∨ ∃ xs, (d = .tup xs ∨ d = .lst xs) ∧ xs.length ≤ n ∧ ∀ x ∈ xs, scal x = true
/-- a value as it is drawn -/
def vlD (n : Nat) (d : Dt) : Prop := scal d = true ∨ d = .dic ∨ ∃ xs, (d = .tup xs ∨ d = .lst xs) ∧ xs.length ≤ 7 ∧ ∀ x ∈ xs, ptD n x
theorem ptD.mono {n m : Nat} {d : Dt} (h : ptD n d) (l : n ≤ m) : ptD m d := by
  rcases h with h | ⟨xs, e, hl, hs⟩
  · exact .inl h
  · exact .inr ⟨xs, e, by omega, hs⟩
theorem scal_pl {d : Dt} (h : scal d = true) : pl d = true := by cases d <;> simp [scal] at h <;> rfl
theorem ptD.okN {n : Nat} {d : Dt} (h : ptD n d) : okN d = true := by
  rcases h with h | ⟨xs, rfl | rfl, _, _⟩
  · exact scal_okN h
  · rfl
  · rfl
theorem ptD.pl {n : Nat} {d : Dt} (h : ptD n d) : pl d = true := by
  rcases h with h | ⟨xs, rfl | rfl, _, hs⟩
  · exact scal_pl h
  · unfold Bf.pl; exact plA_all.mpr fun x hx => scal_pl (hs x hx)
  · unfold Bf.pl; exact plA_all.mpr fun x hx => scal_pl (hs x hx)
theorem ptD.plS {n : Nat} {d : Dt} (h : ptD n d) (hn : n ≤ 100000) : plS d = true := by
  have hp := h.pl
  rcases h with h | ⟨xs, rfl | rfl, hl, hs⟩
  · cases d <;> simp [scal] at h <;> simp [Bf.plS, hp]
  · simp only [Bf.plS, hp, Bool.true_and, decide_eq_true_eq]; omega
  · simp [Bf.plS, hp]
theorem ptD.parT {n : Nat} {d : Dt} (h : ptD n d) (hn : n ≤ 1000) : parT d := ⟨h.okN, fun xs e => by
  subst e
  rcases h with h | ⟨ys, e | e, hl, hs⟩
  · simp [scal] at h
  · cases e; exact ⟨by omega, hs⟩
  · cases e⟩
theorem vlD.pl {n : Nat} {d : Dt} (h : vlD n d) : pl d = true := by
  rcases h with h | rfl | ⟨xs, rfl | rfl, _, hs⟩
  · exact scal_pl h
  · rfl
  · unfold Bf.pl; exact plA_all.mpr fun x hx => (hs x hx).pl
  · unfold Bf.pl; exact plA_all.mpr fun x hx => (hs x hx).pl
theorem vlD.plD {n : Nat} {d : Dt} (h : vlD n d) (hn : n ≤ 1000) : plD d := ⟨h.pl, fun xs e => by
  subst e
  rcases h with h | h | ⟨ys, e | e, hl, hs⟩
  · simp [scal] at h
  · cases h
  · cases e
    exact List.all_eq_true.mpr fun x hx => (hs x hx).plS (by omega)
  · cases e⟩
theorem vlD.valT {n : Nat} {d : Dt} (h : vlD n d) (hn : n ≤ 1000) : valT d := ⟨pl_okN h.pl, fun xs e => by
  subst e
  rcases h with h | h | ⟨ys, e | e, hl, hs⟩
  · simp [scal] at h
  · cases h
  · cases e
    refine ⟨by omega, fun x hx => ⟨(hs x hx).parT hn, fun s e => ?_⟩⟩
    subst e
    rcases hs _ hx with h | ⟨zs, e | e, _⟩
    · exact h
    · cases e
    · cases e
  · cases e⟩
/-! ### a value of which nothing is wrong is a right table -/
end Bf
namespace Bf
open PySem PySem.Spec PyProof.Rows L2
/-! ## _law_spoiled -/
section
variable {K : PySem.W.Frag} {S S1 S2 : Sta} {ρ : List (Option Dt)} {t u : TT}
end
section
variable {K : PySem.W.Frag} {a : Addr} {c : CT} {cs : List Int} {n : Nat} {ds : List Dt}
end
end Bf
namespace Bf
open PySem PySem.Spec PyProof.Rows L2
/-! ## tables like others, receivers -/
section
variable {K : PySem.W.Frag} {a : Addr} {c : CT} {cs : List Int} {n : Nat} {ds : List Dt}
end
end Bf
namespace Bf
open PySem PySem.Spec PyProof.Rows L2
/-! ## The law of frames: what is said, a bent frame -/
section
variable {K : PySem.W.Frag} {S S1 S2 : Sta} {ρ : List (Option Dt)} {ds : List Dt} {d : Dt} {C : Addr} {ta tb te tl : TE} {tt : TT} {T : Tab} {vs : List Nat} {j : Nat} {xs : List Dt}
/-! ### [x for x in a tuple if tt]: how many -/
end
/-! ### str(n) -/
end Bf
namespace Bf
open PySem PySem.Spec PyProof.Rows L2
/-! ## a tuple times some number -/
/-! ## frames are small -/
/-! ## a frame with one thing otherwise -/
section
variable {K : PySem.W.Frag} {a : Addr} {c : CT} {cs : List Int} {n : Nat} {ds : List Dt}
end
end Bf
namespace Bf
open PySem PySem.Spec PyProof.Rows L2
/-! ## Bursts: how far off a frame -/
abbrev Fq : Type := Int × Int
def ratP (C : Addr) (p : Fq) : Dt := rat C p.1 p.2
def bD (C : Addr) (bs : List Fq) : Dt := .tup (bs.map (ratP C))
def okP (p : Fq) : Prop := 0 < p.1 ∧ p.1 < 2 ^ 56 ∧ 1 ≤ p.2 ∧ p.2 < 2 ^ 56
def okQ (p : Fq) : Prop := 0 ≤ p.1 ∧ p.1 < 2 ^ 90 ∧ 1 ≤ p.2 ∧ p.2 < 2 ^ 90
def okS (s : Int) : Prop := 1 ≤ s ∧ s ≤ 2000000
/-- the difference, divided by the duration -/
def offP (p : Fq) (s : Int) : Fq := (if p.1 - s * p.2 < 0 then -(p.1 - s * p.2) else p.1 - s * p.2, s * p.2)
def canP (p : Fq) : Fq := (p.1 / (Nat.gcd p.1.natAbs p.2.natAbs : Nat), p.2 / (Nat.gcd p.1.natAbs p.2.natAbs : Nat))
def lessP (a b : Fq) : Bool := decide (a.1 * b.2 < b.1 * a.2)
def farL (l : List (Fq × Int)) : Fq := l.foldl (fun f q => if lessP f (offP q.1 q.2) = true then offP q.1 q.2 else f) (0, 1)
/-- a fraction is its lowest terms, multiplied by a number above 0 -/
theorem can_mul {p : Fq} (h : okQ p) : ∃ g : Int, 0 < g ∧ p.1 = g * (canP p).1 ∧ p.2 = g * (canP p).2 := by
  obtain ⟨h1, h2, h3, h4⟩ := h
  refine ⟨(Nat.gcd p.1.natAbs p.2.natAbs : Nat), ?_, ?_, ?_⟩
  · have : 0 < Nat.gcd p.1.natAbs p.2.natAbs := Nat.gcd_pos_of_pos_right _ (by omega)
    omega
  · exact (Int.mul_ediv_cancel' (Int.ofNat_dvd_left.mpr (Nat.gcd_dvd_left _ _))).symm
  · exact (Int.mul_ediv_cancel' (Int.ofNat_dvd_left.mpr (Nat.gcd_dvd_right _ _))).symm
theorem okQ_can {p : Fq} (h : okQ p) : okQ (canP p) := by
  obtain ⟨g, g0, e1, e2⟩ := can_mul h
  obtain ⟨h1, h2, h3, h4⟩ := h
  have a : 0 ≤ (canP p).1 := Int.ediv_nonneg h1 (Int.natCast_nonneg _)
  have b : 0 ≤ (canP p).2 := Int.ediv_nonneg (by omega) (Int.natCast_nonneg _)
  have c1 : (canP p).1 ≤ p.1 := by
    have := Int.mul_le_mul_of_nonneg_right (show 1 ≤ g by omega) a
    rw [e1]; omega
  have c2 : (canP p).2 ≤ p.2 := by
    have := Int.mul_le_mul_of_nonneg_right (show 1 ≤ g by omega) b
    rw [e2]; omega
  have b1 : (canP p).2 ≠ 0 := fun e => by rw [e, Int.mul_zero] at e2; omega
  exact ⟨a, by omega, by omega, by omega⟩
theorem cmulQ {x y : Int} (h1 : 0 ≤ x) (h2 : x < 2 ^ 90) (h3 : 0 ≤ y) (h4 : y < 2 ^ 90) : CMulW x y := cmul h1 (by omega) h3 (by omega)
/-! ### off_by, greatest_off -/
section
variable {K : PySem.W.Frag} {mg : Str → Option Value} {C fI pN gN pD gD : Addr} {S S1 S2 : Sta} {ρ : List (Option Dt)} {te ta tb : TE} {ds : List Dt} {d : Dt}
end
end Bf
namespace Bf
open PySem PySem.Spec PyProof.Rows L2
/-! ## Frames have oddly many durations, each above 0 -/
end Bf
namespace Bf
open PySem PySem.Spec PyProof.Rows L2
section
variable {K : PySem.W.Frag} {S : Sta} {ds xs : List Dt} {d : Dt}
/-! ## the law's own frames and places -/
/-! ### _law_steps -/
end
end Bf
namespace Bf
open PySem PySem.Spec PyProof.Rows L2
/-! ## The law of frames -/
/-! ### what is known -/
end Bf
namespace Bf
open PySem PySem.Spec PyProof.Rows L2
section
variable {K : PySem.W.Frag} {a C : Addr} {c : CT} {cs : List Int}
theorem ev_callXW {S S1 : Sta} {ρ : List (Option Dt)} {t : TA} {ds es : List Dt} {d : Dt} {n m : Nat} {gV : List V → List V} {R : List Dt → Out → Prop} {E : XK} (ha : EvA K S S1 ρ t (Eq es)) (hm : es.length = m) (hg : ∀ H vs, RepA K H vs es → RepA K H (gV vs) ds) (hn : ds.length = n) (hp : R ds (.ok d)) :
    Ev K S S1 ρ (tCallW (spX K n R) m gV E t) (Eq d) := fun σ H i s Q q =>
  ha σ H i s _ fun vs ds' H1 g1 i1 r1 p1 => by
    subst p1
    exact ⟨r1.len.trans hm, ds, .ok d, hg _ _ r1, hn, hp, fun v H2 sm r => q v _ H2 (g1.trans sm.gr) (S1.st i1 sm) r rfl⟩
end
end Bf
namespace Bf
open PySem PySem.Spec PyProof.Rows L2
/-! ## need_burst, nearest, and the law's own -/
abbrev t_is_above_zero (K : PySem.W.Frag) (C : Addr) : TS := (tRet (tAndV (tCB (rIsi K) (tCons (tVar 0) (tCons (tC (.ref C)) tNil))) (tOp rGtI (tProp C (getSp C "_num") [] E0 (tVar 0)) (tC (.int 0)))))
/-- the nearest word so far -/
def nearS (T : Tab) (bs : List Fq) (best : Option (Fq × List Int)) (w : List Int) : Option (Fq × List Int) :=
  if (T.frame w).length = bs.length then (match best with
    | none => some (farL (bs.zip (T.frame w)), w)
    | some b => if lessP (farL (bs.zip (T.frame w))) b.1 = true then some (farL (bs.zip (T.frame w)), w) else some b) else best
def nearL (T : Tab) (bs : List Fq) (ws : List (List Int)) : Option (Fq × List Int) := ws.foldl (nearS T bs) none
section
variable {K : PySem.W.Frag} {mg : Str → Option Value} {C CW fI pN gN pD gD : Addr} {S S1 S2 : Sta} {ρ : List (Option Dt)} {te ta tb : TE} {ds : List Dt} {d : Dt}
end
end Bf
namespace Bf
open PySem PySem.Spec PyProof.Rows L2
/-! ## drawn receivers -/
section
variable {K : PySem.W.Frag} {S S1 : Sta} {ρ : List (Option Dt)} {tl : TA} {C : Addr} {E : XK} {Φ : Int → Int → Prop}
end
section
variable {K : PySem.W.Frag} {a : Addr} {c : CT} {cs : List Int} {n : Nat} {ds : List Dt} {C : Addr}
end
end Bf
namespace Bf
open PySem PySem.Spec PyProof.Rows L2
/-! ## What a receiver reads -/
theorem less_canL {a b : Fq} (ha : okQ a) : lessP (canP a) b = lessP a b := by
  obtain ⟨g, g0, e1, e2⟩ := can_mul ha
  unfold lessP
  apply decide_eq_decide.mpr
  generalize hx : canP a = x at e1 e2 ⊢
  rw [e1, e2]
  have h1 : g * x.1 * b.2 = g * (x.1 * b.2) := Int.mul_assoc _ _ _
  have h2 : b.1 * (g * x.2) = g * (b.1 * x.2) := by rw [← Int.mul_assoc, Int.mul_comm b.1 g, Int.mul_assoc]
  rw [h1, h2]
  exact ⟨fun h => Int.mul_lt_mul_of_pos_left h g0, fun h => Int.lt_of_mul_lt_mul_left h (Int.le_of_lt g0)⟩
theorem less_canR {a b : Fq} (hb : okQ b) : lessP a (canP b) = lessP a b := by
  obtain ⟨h, h0, f1, f2⟩ := can_mul hb
  unfold lessP
  generalize canP b = b' at f1 f2 ⊢
  have l1 : a.1 * b.2 = h * (a.1 * b'.2) := by rw [f2]; ac_rfl
  have l2 : b.1 * a.2 = h * (b'.1 * a.2) := by rw [f1]; ac_rfl
  rw [l1, l2]
  have : (a.1 * b'.2 < b'.1 * a.2) ↔ (h * (a.1 * b'.2) < h * (b'.1 * a.2)) :=
    ⟨fun z => Int.mul_lt_mul_of_pos_left z h0, fun z => Int.lt_of_mul_lt_mul_left z (Int.le_of_lt h0)⟩
  simp only [decide_eq_decide]
  exact this
theorem less_trans {a b c : Fq} (ha : okQ a) (hb : okQ b) (hc : okQ c) (h1 : lessP a b = true) (h2 : lessP c b = false) : lessP a c = true := by
  have e1 : a.1 * b.2 < b.1 * a.2 := of_decide_eq_true h1
  have e2 : ¬ (c.1 * b.2 < b.1 * c.2) := of_decide_eq_false h2
  have pa := ha.2.2.1
  have pb := hb.2.2.1
  have pc := hc.2.2.1
  have x1 : a.1 * b.2 * c.2 < b.1 * a.2 * c.2 := Int.mul_lt_mul_of_pos_right e1 (by omega)
  have x2 : b.1 * c.2 * a.2 ≤ c.1 * b.2 * a.2 := Int.mul_le_mul_of_nonneg_right (by omega) (by omega)
  have y1 : a.1 * b.2 * c.2 = a.1 * c.2 * b.2 := by ac_rfl
  have y2 : b.1 * a.2 * c.2 = b.1 * c.2 * a.2 := by ac_rfl
  have y3 : c.1 * b.2 * a.2 = c.1 * a.2 * b.2 := by ac_rfl
  exact decide_eq_true (Int.lt_of_mul_lt_mul_right (show a.1 * c.2 * b.2 < c.1 * a.2 * b.2 by omega) (by omega))
/-! ### fits, and the law's own -/
section
variable {K : PySem.W.Frag} {mg : Str → Option Value} {C fI pN gN pD gD : Addr} {S S1 S2 SB : Sta} {L : List Addr} {ρ : List (Option Dt)} {P : Po} {te ta tb tl : TE} {t : TS} {ds : List Dt} {d : Dt}
end
end Bf
namespace Bf
open PySem PySem.Spec PyProof.Rows L2
/-! ## drawn receivers, with what their tolerances are at most -/
section
variable {K : PySem.W.Frag} {a : Addr} {c : CT} {cs : List Int} {n : Nat} {ds : List Dt} {C : Addr}
end
end Bf
namespace Bf
open PySem PySem.Spec PyProof.Rows L2
/-! ## words_of, where need_table may refuse -/
section
variable {K : PySem.W.Frag} {S : Sta} {ds : List Dt} {CB C : Addr}
end
/-! ## need_burst of what is none -/
def isAZ : Dt → Bool
  | .ins _ _ [.int n, .int _] => decide (0 < n)
  | _ => false
def isBu : Dt → Bool
  | .tup xs => decide (xs.length ≤ 63) && decide (xs.length % 2 = 1) && xs.all isAZ
  | _ => false
/-- as bursts are drawn, and other things -/
def bvR (C : Addr) (d : Dt) : Prop := okRt C d ∧ ∀ xs, d = .tup xs → xs.length ≤ 100000 ∧ ∀ x ∈ xs, okRt C x
def r_iazG (C : Addr) (ds : List Dt) (d : Dt) : Prop := ∃ x, okRt C x ∧ ds = [x] ∧ d = .bl (isAZ x)
abbrev p_is_above_zeroG (K : PySem.W.Frag) (C : Addr) : Sp := spR K 1 (r_iazG C)
def r_ibuG (C : Addr) (ds : List Dt) (d : Dt) : Prop := ∃ x, bvR C x ∧ ds = [x] ∧ d = .bl (isBu x)
abbrev p_is_burstG (K : PySem.W.Frag) (C : Addr) : Sp := spR K 1 (r_ibuG C)
abbrev t_is_burstG (K : PySem.W.Frag) (C : Addr) : TS := (tSeq (tIfS (tOr (tNot (tB (tCB (rIsi K) (tCons (tVar 0) (tCons (tC (.ty "tuple")) tNil))))) (tOr (tTest (tOp rGtI (tCB (rLen K) (tCons (tVar 0) tNil)) (tC (.int 63)))) (tTest (tOp rEq (tOp rModI (tCB (rLen K) (tCons (tVar 0) tNil)) (tC (.int 2))) (tC (.int 0)))))) (tRet (tC (.bl false))) tNext)
    (tRet (tCB (rAll K) (tCons (tLc (iTup K (tVar 0)) (gName 1) tYes (tCall (p_is_above_zeroG K C) [] E0 (tCons (tVar 1) tNil)) [1]) tNil))))
def r_nbuX (CB C : Addr) (ds : List Dt) (o : Out) : Prop := ∃ x, bvR C x ∧ ds = [x] ∧ o = if isBu x = true then .ok x else .er CB "given" x
abbrev p_need_burstX (K : PySem.W.Frag) (CB C : Addr) : Sp := spX K 1 (r_nbuX CB C)
abbrev t_need_burstX (K : PySem.W.Frag) (CB C : Addr) (E : XK) : TS := (tSeq (tIfS (tNot (tB (tCall (p_is_burstG K C) [] E0 (tCons (tVar 0) tNil)))) (tRaiseB CB "given" (fun cls d _ H => E cls d H) (tCons (tVar 0) tNil)) tNext)
    (tRet (tVar 0)))
section
variable {K : PySem.W.Frag} {mg : Str → Option Value} {C CB fI pN gN pD gD : Addr} {S : Sta} {ds : List Dt} {d : Dt} {o : Out} {E : XK}
theorem so_is_above_zeroG (T : RatT K mg C fI pN gN pD gD) (hp : r_iazG C ds d) : So K S S [] (t_is_above_zero K C) (startD 1 ds) (Pu d) := by
  obtain ⟨x, hx, rfl, rfl⟩ := hp
  have h1 : Ev K S S [some x] (tCB (rIsi K) (tCons (tVar 0) (tCons (tC (.ref C)) tNil))) (Eq (.bl (isRatD x))) := ev_isRat T (ev_var rfl) hx
  rcases hx with hx | ⟨n, m, rfl⟩
  · have e1 : isRatD x = false := by cases x <;> first | rfl | (simp [okN, tyN] at hx)
    have e2 : isAZ x = false := by cases x <;> first | rfl | (simp [okN, tyN] at hx)
    rw [e1] at h1
    rw [e2]
    exact so_retD (ev_andF h1) (Sta.Le.refl S) rfl
  · exact so_retD (ev_andT (h1.to rfl) (ev_op (ev_num (ev_var rfl)) ev_int rv_gt)) (Sta.Le.refl S) rfl
theorem so_is_burstG (T : RatT K mg C fI pN gN pD gD) (hmu : S.Mu) (hp : r_ibuG C ds d) : So K S S [] (t_is_burstG K C) (startD 2 ds) (Pu d) := by
  obtain ⟨x, ⟨hx, hxx⟩, rfl, rfl⟩ := hp
  by_cases ht : ∃ xs, x = .tup xs
  · obtain ⟨xs, rfl⟩ := ht
    obtain ⟨hl, hxs⟩ := hxx xs rfl
    refine so_if (Φb := Eq (decide ((63 : Int) < xs.length) || decide ((xs.length : Int) % 2 = 0))) (et_orF (et_notT (et_B ((ev_isTup (ev_var rfl) rfl).to rfl))) (et_or (et_test (ev_op (ev_lenT (ev_var rfl)) ev_int rv_gt)) fun _ => et_test (ev_op (ev_op (ev_lenT (ev_var rfl)) ev_int (rv_mod (by decide))) ev_int rv_eqI))) (fun e => ?_) fun e => so_skip ?_
    · refine so_ret1D ev_bl (Sta.Le.refl S) ?_
      have : (decide (xs.length ≤ 63) && decide (xs.length % 2 = 1)) = false := by
        simp only [Bool.or_eq_true, decide_eq_true_eq] at e
        by_cases h1 : xs.length ≤ 63
        · rw [decide_eq_true h1, Bool.true_and]
          exact decide_eq_false (by omega)
        · rw [decide_eq_false h1, Bool.false_and]
      simp only [isBu, this, Bool.false_and]
    · have : (decide (xs.length ≤ 63) && decide (xs.length % 2 = 1)) = true := by
        simp only [Bool.or_eq_false_iff, decide_eq_false_iff_not] at e
        rw [decide_eq_true (by omega), decide_eq_true (by omega)]
        rfl
      refine so_retD (ev_allT (p := isAZ) hmu (ev_var rfl) (by decide) hl fun y hy => ev_callR (R := r_iazG C) (ea_cons (ev_var rfl) ea_nil) rfl ⟨y, hxs y hy, rfl, rfl⟩) (Sta.Le.refl S) ?_
      simp only [isBu, this, Bool.true_and]
  · have e2 : isBu x = false := by
      cases x <;> first | rfl | exact absurd ⟨_, rfl⟩ ht
    rw [e2]
    rcases hx with hx | ⟨n, m, rfl⟩
    · have e1 : isTupD x = false := by
        cases x <;> first | rfl | exact absurd ⟨_, rfl⟩ ht
      exact so_ifT (et_orT (et_notF (et_B ((ev_isTup (ev_var rfl) hx).to (by rw [e1]))))) (so_ret1D ev_bl (Sta.Le.refl S) rfl)
    · exact so_ifT (et_orT (et_notF (et_B (ev_ratIs T (ev_var rfl) (by simp))))) (so_ret1D ev_bl (Sta.Le.refl S) rfl)
theorem so_need_burstX (hp : r_nbuX CB C ds o) (hw : ∀ C' f d, o = .er C' f d → XW K S C' f d E) : So K S S [] (t_need_burstX K CB C E) (startD 1 ds) (PO o) := by
  obtain ⟨x, hx, rfl, rfl⟩ := hp
  have h1 : Ev K S S [some x] (tCall (p_is_burstG K C) [] E0 (tCons (tVar 0) tNil)) (Eq (.bl (isBu x))) := ev_callR (R := r_ibuG C) (ea_cons (ev_var rfl) ea_nil) rfl ⟨x, hx, rfl, rfl⟩
  cases e : isBu x with
  | true => 
    rw [e] at h1
    rw [if_pos rfl]
    exact so_ifF (et_notT (et_B h1)) (so_skip (so_retD (ev_var rfl) (Sta.Le.refl S) rfl))
  | false =>
    rw [e] at h1 hw
    rw [if_neg Bool.false_ne_true]
    exact so_ifT (et_notF (et_B h1)) (so_raise1B (ev_var rfl) (hw CB "given" x (if_neg Bool.false_ne_true)))
end
end Bf
namespace Bf
open PySem PySem.Spec PyProof.Rows L2
/-! ### for x, y in zip(a tuple, a tuple), to the shorter one's end -/
section
variable {K : PySem.W.Frag} {S S1 S2 SB SF : Sta} {L : List Addr} {ρ : List (Option Dt)} {P : Po} {t : TS} {ta : TA}
end
end Bf
namespace Bf
open PySem PySem.Spec PyProof.Rows L2
/-! ## The law of bursts: need_burst, need_ratio, is_within -/
theorem exmAny_cons_of {K : PySem.W.Frag} {cls c : Value} {r : List Value} {b d : Bool} (h1 : PySem.W.exmOne K cls c = some b) (h2 : PySem.W.exmAny K cls r = some d) : PySem.W.exmAny K cls (c :: r) = some (b || d) := by
  unfold PySem.W.exmAny
  rw [h1, h2]
section
variable {K : PySem.W.Frag} {mg : Str → Option Value} {C CB CR fI pN gN pD gD : Addr} {S S1 : Sta} {ds : List Dt} {d : Dt} {o : Out} {E : XK} {vs : List V} {ρ : List (Option Dt)}
/-! ### what is said -/
/-- what is known of the two classes -/
structure Two (K : PySem.W.Frag) (CB CR : Addr) : Prop where
  bb : PySem.W.kitOne K (.ref CB) (.ref CB) = some true
  rb : PySem.W.kitOne K (.ref CR) (.ref CB) = some false
  xb : PySem.W.exmAny K (.ref CB) [.ref CB, .ref CR] = some true
  xr : PySem.W.exmAny K (.ref CR) [.ref CB, .ref CR] = some true
end
end Bf
namespace Bf
open PySem PySem.Spec PyProof.Rows L2
/-! ## The need of two durations -/
/-- a tolerance below 1 -/
def okT (t : Fq) : Prop := 0 ≤ t.1 ∧ t.1 < t.2 ∧ t.2 ≤ 1000
/-- the greatest of three numbers, above and below a line -/
def needP (f p : Int) (t : Fq) : Fq := (if 0 < p * (t.2 - t.1) - f * t.2 then p * (t.2 - t.1) - f * t.2 else if 0 < f * t.2 - p * (t.2 + t.1) then f * t.2 - p * (t.2 + t.1) else 0, f * t.2)
/-- the number nearest to one duration of those allowed -/
def nearA (f p : Int) (t : Fq) : Fq := if f * t.2 < p * (t.2 - t.1) then canP (p * (t.2 - t.1), t.2) else if p * (t.2 + t.1) < f * t.2 then canP (p * (t.2 + t.1), t.2) else (f, 1)
/-! ### nearest_allowed, need_between, and the law's own -/
section
variable {K : PySem.W.Frag} {C : Addr} {S : Sta} {ds : List Dt} {d : Dt}
end
end Bf
namespace Bf
open PySem PySem.Spec PyProof.Rows L2 PySem.SeqAt
/-! ## xs != ys, lists of tuples of the very same things -/
end Bf
namespace Bf
open PySem PySem.Spec PyProof.Rows L2
section
variable {K : PySem.W.Frag} {mg : Str → Option Value} {C CB CR fI pN gN pD gD : Addr} {S S1 : Sta} {ds : List Dt} {d : Dt} {o : Out} {E : XK} {vs : List V} {ρ : List (Option Dt)}
/-! ### what is said -/
end
/-! ## The law of needs -/
section
variable {K : PySem.W.Frag} {mg : Str → Option Value} {C CN CR fI pN gN pD gD : Addr} {S S1 : Sta} {ds : List Dt} {d : Dt} {o : Out} {E : XK} {vs : List V} {ρ : List (Option Dt)}
end
end Bf
namespace Bf
open PySem PySem.Spec PyProof.Rows L2
/-! ## list.count and list.index of flat things; isinstance of a kept error, of a tuple of classes -/
theorem count_eqU {x : V} : ∀ {xs : List V} {us : List Value}, Vals xs us → xs.all flatV = true → us.countP (eqU x) = xs.countP fun y => eqV y x
  | _, _, .nil, _ => rfl
  | _, _, .cons r t, f => by
    rw [List.all_cons, Bool.and_eq_true] at f
    rw [List.countP_cons, List.countP_cons, eqU_of r f.1, count_eqU t f.2]
def rCntF (K : PySem.W.Frag) : V → List V → Hp → VK → Prop := fun x xs H Q => ∃ (p : Addr) (ys : List V) (y : V), x = .ref p ∧ xs = [y] ∧ SqL K H p ys ∧ flatV y = true ∧ ys.all flatV = true ∧ Q (.int ((ys.countP fun z => eqV z y : Nat) : Int)) H
theorem mt_countF {X : Cx} : MtR X "list.count" (rCntF X.K) := by
  intro pins s σ H x xs v us Q I rx rxs h
  obtain ⟨p, ys, y, rfl, rfl, hs, fy, fys, q⟩ := h
  cases rx
  cases rxs with
  | cons ry rt =>
    rename_i uy ut
    cases rt
    obtain ⟨its, rv, ⟨⟨cls, dd, data, sl⟩, n, ho, hc, hdn, hd⟩, hlen⟩ := I.list hs
    simp only at hc hd
    subst hc hd
    refine call_meets PySem.F.slot_list_count ⟨_, ho, rfl⟩ PySem.F.entry_list_count (PySem.F.args_list_count_2 _ _)
      (SeqAt.list_countAt p its.toArray n dd sl uy (eqU y)) ⟨ho, fun u' hu' => mem_eqAt ry fy rv fys u' (by simpa using hu'), ?_⟩
    have ec : its.toArray.toList.countP (eqU y) = ys.countP (fun z => eqV z y) := count_eqU rv fys
    refine ⟨.int ((ys.countP fun z => eqV z y : Nat) : Int), H, I.tok _, ⟨s.toks, ?_⟩, q⟩
    show Value.int ((its.toArray.toList.countP (eqU y) : Nat) : Int) s.toks = Value.int ((ys.countP fun z => eqV z y : Nat) : Int) s.toks
    rw [ec]
theorem flat_bls : ∀ bs : List Bool, (bs.map V.bl).all flatV = true
  | [] => rfl
  | _ :: l => flat_bls l
section
variable {K : PySem.W.Frag} {S S1 : Sta} {ρ : List (Option Dt)} {te : TE} {d : Dt} {p : Addr} {bs : List Bool}
theorem ev_countB (h : Ev K S S1 ρ te (Eq (.lat p (bs.map Dt.bl)))) : Ev K S S1 ρ (tBM K "list" (rCntF K) te (tCons (tC (.bl true)) tNil)) (Eq (.int ((bs.map V.bl).countP fun z => eqV z (.bl true) : Nat))) := fun σ H i s Q q =>
  h σ H i s _ fun v d' H1 g1 i1 r1 e => by
    subst e
    obtain ⟨rfl, vs, hp, ra⟩ := r1.latI
    obtain rfl := ra.bls
    exact ⟨.inl ⟨rfl, _, SqL.of hp⟩, _, _, _, rfl, rfl, SqL.of hp, rfl, flat_bls bs, q _ _ H1 g1 i1 (.int _) rfl⟩
theorem ev_indexB {j : Nat} (h : Ev K S S1 ρ te (Eq (.lat p (bs.map Dt.bl)))) (hj : bs[j]? = some true) (hn : ∀ m, m < j → bs[m]? = some false) : Ev K S S1 ρ (tBM K "list" (rIndex K) te (tCons (tC (.bl true)) tNil)) (Eq (.int (j : Nat))) := fun σ H i s Q q =>
  h σ H i s _ fun v d' H1 g1 i1 r1 e => by
    subst e
    obtain ⟨rfl, vs, hp, ra⟩ := r1.latI
    obtain rfl := ra.bls
    refine ⟨.inl ⟨rfl, _, SqL.of hp⟩, _, _, _, j, .bl true, rfl, rfl, SqL.of hp, rfl, flat_bls bs, by rw [List.getElem?_map, hj] <;> rfl, rfl, fun m z' hm hz => ?_, q _ _ H1 g1 i1 (.int _) rfl⟩
    rw [List.getElem?_map, hn m hm] at hz
    cases hz
    rfl
end
/-- isinstance(e, (C, D)), e a kept error -/
def rIsiTE (K : PySem.W.Frag) (Cs : List Addr) : List V → Hp → VK → Prop := fun xs H Q => ∃ (a C tp dd : Addr) (Ds : List Addr) (f : Str) (v : V) (b : Bool), xs = [.ref a, .ref tp] ∧ C ∈ Cs ∧ H a = some (ErrO (.ref C) (some dd) a) ∧ H dd = some (.xd [(f, v)]) ∧ H tp = some (.tup (Ds.map V.ref)) ∧ PySem.W.kitAny K (.ref C) (Ds.map Value.ref) = some b ∧ Q (.bl b) H
theorem vals_refs : ∀ {Ds : List Addr} {us : List Value}, Vals (Ds.map V.ref) us → us = Ds.map Value.ref
  | [], _, .nil => rfl
  | D :: Ds, _, .cons r t => by
    obtain rfl := vals_refs t
    exact congrArg (· :: _) (show _ = Value.ref D from r)
theorem call_isiTE {X : Cx} {Cs : List Addr} (T : ∀ C ∈ Cs, IsiC X.K C) : CallR X (.builtin "isinstance") (rIsiTE X.K Cs) := by
  intro pins s σ H xs us Q I r h
  obtain ⟨a, C, tp, dd, Ds, f, v, b, rfl, hC, hA, hD, hT, hk, q⟩ := h
  obtain ⟨u1, u2, rfl, r1, r2⟩ := vals2 r
  obtain rfl : u1 = Value.ref a := r1
  obtain rfl : u2 = Value.ref tp := r2
  have T := T C hC
  obtain ⟨⟨oe, ha, hz, vs, hv⟩, _, _⟩ := show ObjOk X.prog X.w H s.heap a (ErrO (.ref C) (some dd) a) from I.hok a _ hA
  obtain ⟨mA, hns, _⟩ := show ObjOk X.prog X.w H s.heap dd (.xd [(f, v)]) from I.hok dd _ hD
  obtain ⟨od, ho, _⟩ := lookIn_ns hns
  have J : PySem.W.InstAt s.heap a oe C (some od) := ⟨ha, hz.1, by unfold PySem.W.notCls; rw [hv] <;> rfl, by rw [hz.2]; exact ho⟩
  obtain ⟨_, its, rv, o, h1, h2, n, h3⟩ := (show ObjOk X.prog X.w H s.heap tp (.tup (Ds.map V.ref)) from I.hok tp _ hT)
  have e3 := vals_refs rv
  subst e3
  obtain ⟨oc, od', dt, sl⟩ := o
  simp only at h2 h3
  subst h2 h3
  exact PySem.W.kia_tup (PySem.W.kitx_exc (ox := oe) (od := some od) T.cl T.ga T.gg T.ex T.ca T.cg T.ct T.ob) I.kIn J h1 hk (fun z => nomatch z) fun tk => ⟨.bl b, H, I.tok tk, rfl, q⟩
section
variable {K : PySem.W.Frag} {S S1 : Sta} {ρ : List (Option Dt)} {te : TE} {d : Dt} {C D1 D2 : Addr} {f : Str} {b : Bool}
theorem ev_isiTE {Cs : List Addr} (h : Ev K S S1 ρ te (Eq (.err C f d))) (hC : C ∈ Cs) (hk : PySem.W.kitAny K (.ref C) [.ref D1, .ref D2] = some b) : Ev K S S1 ρ (tCB (rIsiTE K Cs) (tCons te (tCons (tTup (tCons (tC (.ref D1)) (tCons (tC (.ref D2)) tNil))) tNil))) (Eq (.bl b)) := fun σ H i s Q q =>
  h σ H i s _ fun v d' H1 g1 i1 r1 e => by
    subst e
    refine ⟨by show 2 ≤ sizeLine; decide, fun p hp => ?_⟩
    have sm := same_new (o := .tup [V.ref D1, V.ref D2]) hp
    have r2 := r1.mono sm.gr
    cases r2 with
    | err h1 h2 r => exact ⟨_, _, _, _, [D1, D2], _, _, _, rfl, hC, h1, h2, upd_same, hk, q _ _ _ (g1.trans sm.gr) (S1.st i1 sm) (.bl _) rfl⟩
end
end Bf
namespace Bf
open PySem PySem.Spec PyProof.Rows L2
/-! ## Loops over a tuple in which draws are made and a list grows -/
section
variable {K : PySem.W.Frag} {S S1 SB SF : Sta} {L : List Addr} {ρ : List (Option Dt)} {P : Po} {te : TE} {w t : TS} {H : Hp} {σ : L2.St}
end
/-! ### _law_moved -/
section
variable {K : PySem.W.Frag} {a : Addr} {c : CT} {cs : List Int} {n : Nat} {ds : List Dt} {C : Addr}
end
end Bf
namespace Bf
open PySem PySem.Spec PyProof.Rows L2
/-! ## The law of bursts -/
section
variable {K : PySem.W.Frag} {a : Addr} {c : CT} {cs : List Int} {n : Nat} {ds : List Dt} {C : Addr}
theorem ea_c {S : Sta} {ρ : List (Option Dt)} {te : TE} {tr : TA} {d : Dt} {ds : List Dt} (h : Ev K S S ρ te (Eq d)) (hr : EvA K S S ρ tr (Eq ds)) : EvA K S S ρ (tCons te tr) (Eq (d :: ds)) := ea_cons h hr
end
end Bf
namespace Bf
open PySem PySem.Spec PyProof.Rows L2
/-! ## Drawn bursts; the law of nearest -/
section
variable {K : PySem.W.Frag} {S S1 S2 SB SF : Sta} {L : List Addr} {ρ : List (Option Dt)} {P : Po} {te ta tb tl : TE} {t : TS} {Φ : Dt → Prop} {a : Addr} {c : CT} {cs : List Int} {n : Nat} {C : Addr}
theorem ev_callDP {t : TA} {Ψ : List Dt → Prop} {k cost : Nat} {pre : List Dt → Prop} {Θ : List Dt → Dt → Prop} {E : XK} (ha : EvA K S (DW K a c cs n) ρ t (fun l => ∃ ds, l = .raw (.ref a) :: ds ∧ Ψ ds)) (hn : ∀ ds, Ψ ds → ds.length = k ∧ pre ds) (hc : cs ≠ []) (hb : n + cost ≤ 1000000) :
    Ev K S (DW K a c cs (n + cost)) ρ (tCall (spD K k pre Θ cost) [] E t) (fun d => ∃ ds, Ψ ds ∧ Θ ds d) := fun σ H i s Q q =>
  ha σ H i s _ fun vs ds' H1 g1 i1 r1 p1 => by
    obtain ⟨ds, rfl, p⟩ := p1
    obtain ⟨hl, hp⟩ := hn ds p
    rw [List.append_nil]
    cases r1 with
    | cons r0 r1 =>
      obtain rfl := r0.rawI
      exact ⟨a, c, cs, n, ds, _, rfl, r1, hl, hp, hc, hb, i1, fun v d H' g i' r p' => q v d H' (g1.trans g) i' r ⟨ds, p, p'⟩⟩
theorem ev_mkratQ {E : XK} {Φl : List Dt → Prop} {tl : TA} (h : EvA K S S1 ρ tl Φl) (hp : ∀ ds, Φl ds → ∃ n m : Int, ds = [.int n, .int m] ∧ 0 ≤ n ∧ 1 ≤ m ∧ m ≤ 2 ^ 100 ∧ Φ (ratL C n m)) : Ev K S S1 ρ (tMake C (spRI C) [] E tl) Φ := fun σ H i s Q q =>
  h σ H i s _ fun vs ds H1 g1 i1 r1 e => by
    obtain ⟨n, m, rfl, h0, h1, hb, hphi⟩ := hp ds e
    obtain ⟨v, u, rfl, ra, rb⟩ := r1.twoI
    obtain rfl := ra.intI
    obtain rfl := rb.intI
    intro x dx hx hdx ne
    refine ⟨x, dx, n, m, rfl, upd_same, h0, h1, Nat.lt_of_le_of_lt (show m.natAbs ≤ 2 ^ 100 by omega) (by decide), fun H' _ k e => ⟨rfl, ?_⟩⟩
    have sm : Same H1 H' := fun b o eb => by
      have hbx : b ≠ x := ne_of_none eb hx
      have hbd : b ≠ dx := ne_of_none eb hdx
      refine k b o hbx ?_
      rw [upd_ne hbx, upd_ne hbd]
      exact eb
    exact q _ _ H' (g1.trans sm.gr) (S1.st i1 sm) (rep_rat e) hphi
/-- for x in a tuple that is known only so far -/
theorem so_forTP {j : Nat} {Φl : List Dt → Prop} (h : Ev K S S1 ρ tl (fun d => ∃ xs, d = .tup xs ∧ Φl xs)) (J : Nat → List (Option Dt) → Prop) (h0 : J 0 ρ)
    (hs : ∀ xs, Φl xs → ∀ i x ρ', xs[i]? = some x → J i ρ' → So K S1 S1 [] t (ρ'.set j (some x)) { P with nx := J (i + 1), ct := J (i + 1), bk := P.nx }) (hd : ∀ n ρ', J n ρ' → P.nx ρ') : Sg K S SB S1 L (tFor (iTup K tl) (gName j) t) ρ P := fun D σ B H b i s f0 =>
  have f := f0.mono b.gr
  h σ H i s _ fun v d H1 g1 i1 r1 p1 => by
    obtain ⟨xs, rfl, hx⟩ := p1
    obtain ⟨a, vs, rfl, ht, ra⟩ := r1.tupI
    refine ⟨a, rfl, ⟨vs, ht⟩, for_tup (K := K) (a := a) (xs := vs) (fun n σ' H' => Gr H1 H' ∧ S1.I H' ∧ ∃ ρ', Slots K H' σ' ρ' ∧ J n ρ') ⟨Gr.refl H1, i1, ρ, s.mono g1, h0⟩ (fun n σ' H' _ p => p.1.sqT ht) (fun n x σ' H' hx' p => ?_) fun σ' H' p => ?_⟩
    · obtain ⟨g2, i2, ρ', s2, jn⟩ := p
      obtain ⟨d, hd', rd⟩ := ra.ta hx'
      refine hs xs hx n d ρ' hd' jn _ _ H' H' ⟨Gr.refl H', i2, fun _ z => nomatch z⟩ i2 (s2.set (rd.mono g2) j) ⟨fun σ3 ρ3 H3 g3 i3 s3 q => ⟨g2.trans g3, i3, ρ3, s3, q⟩, fun v3 d3 H3 g3 => f.rt v3 d3 H3 ((g1.trans g2).trans g3), fun σ3 ρ3 H3 g3 i3 s3 q => f.nx σ3 ρ3 H3 ((g1.trans g2).trans g3) i3 s3 q, fun σ3 ρ3 H3 g3 i3 s3 q => ⟨g2.trans g3, i3, ρ3, s3, q⟩⟩
    · obtain ⟨g2, i2, ρ', s2, jn⟩ := p
      exact f.nx σ' ρ' H' (g1.trans g2) i2 s2 (hd _ ρ' jn)
end
section
variable {K : PySem.W.Frag} {a : Addr} {c : CT} {cs : List Int} {n : Nat} {ds : List Dt} {C : Addr}
end
end Bf
namespace Bf
open PySem PySem.Spec PyProof.Rows L2
/-! ## reads -/
section
variable {K : PySem.W.Frag} {S SB : Sta} {L : List Addr} {ρ : List (Option Dt)} {P : Po} {tl : TE} {t : TS}
end
section
variable {K : PySem.W.Frag} {mg : Str → Option Value} {C CB CR CW : Addr} {S : Sta} {ds : List Dt} {d : Dt} {o : Out} {E : XK}
end
end Bf
namespace Bf
open PySem PySem.Spec PyProof.Rows L2
/-! ## The law of reading: drawn bursts, what is refused -/
section
variable {K : PySem.W.Frag} {a : Addr} {c : CT} {cs : List Int} {n : Nat} {ds : List Dt} {d : Dt} {C CB : Addr}
end
end Bf
namespace Bf
open PySem PySem.Spec PyProof.Rows L2
/-! ## The end, where the law's def makes lambdas: the script, and the tables of code objects, empty -/
section
variable {P : Program} {w : World} {K : PySem.W.Frag} {mg mb : Str → Option Value} {k : Nat} {fa a : Addr} {fd : FuncData} {x : Str} {sp : Sp} {s₁ : Shared} {vs : List Value} {ns : List Int} {cs : List (Addr × Addr)}
abbrev tabsOf (cs : List (Addr × Addr)) : List Addr := cs.map (·.2)
def OnlyT (cs : List (Addr × Addr)) (H : Hp) : Prop := ∀ b, H b = none ∨ b ∈ tabsOf cs ∨ ∃ o xs, H b = some (.frz o (.lst xs))
abbrev tabO : Obj := { cls := .none, data := .fields #[] }
theorem law_fromT {H : Hp} (KX : K.In s₁.heap) (hns : s₁.heap.Ns mainGlobals mg) (hb : s₁.heap.Ns builtinsNs mb) (hbb : ∀ y : Str, y ≠ "__name__" → mb y = bootBuiltins y) (hlim : s₁.heap.NoLimit) (hg : s₁.gens = #[])
    (hT : ∀ p ∈ cs, s₁.heap.get? p.2 = some tabO) (nT : ∀ p ∈ cs, K.lookup p.2 = none) (hC : ∀ p ∈ cs, PySem.W.CodeHd s₁.heap p.1 p.2)
    (hbm : ∃ (bm : Addr) (ob : Obj), mg "__builtins__" = some (.ref bm) ∧ bm ≠ builtinsNs ∧ s₁.heap.get? bm = some ob ∧ ob.cls = .type "module" ∧ ob.dict = some builtinsNs ∧ ob.data = .plain)
    (ha : s₁.heap.get? a = some { cls := .type "list", data := .seq vs.toArray }) (hr : Room k callerA) (F : ∀ base : Heap, K.In base → base.Ns mainGlobals mg → (∀ p ∈ cs, LamX.TabB base mg p.1 p.2) → GOk P w K mg base k fa fd [x] sp) (hbind : ∀ (s : Shared) (u : Value), BindsTo s fd ⟨[u], []⟩ [(x, u)])
    (hsp : sp [.ref a] H (fun v _ => v = .bl true) fun _ _ _ => False) (hH : ∀ p ∈ cs, H p.2 = some (.tbl #[])) (hO : OnlyT cs H) (hok : HOk P w H s₁.heap) (hA : ∀ b, H b ≠ none → b = a ∨ b ∈ tabsOf cs) (hK : H a ≠ none → K.lookup a = none) :
    codeAny (model P w) callerA (.call (.ref fa) ⟨[.ref a], []⟩) (fun r s' => r = .ok (.ret (.bool true)) ∧ OldK s₁.heap s'.heap ∧ s'.os = s₁.os ∧ AllBare s'.gens) s₁ := by
  have tab_at : ∀ {b}, b ∈ tabsOf cs → s₁.heap.get? b = some tabO := fun {b} z => by
    obtain ⟨p, hp, rfl⟩ := List.mem_map.mp z
    exact hT p hp
  have below : ∀ {b : Addr} {o : Obj}, s₁.heap.get? b = some o → H b = none → (hidT s₁.heap H).get? b = some o := fun e z => hidT_get e z
  -- what is neither a list nor an empty table is not tracked
  have other : ∀ {b : Addr} {o : Obj}, s₁.heap.get? b = some o → (∀ us n, o.data ≠ .seq us n) → o.data ≠ .fields #[] → H b = none := fun {b o} e n1 n2 => by
    cases q : H b with
    | none => rfl
    | some y =>
      rcases hA b (by rw [q]; exact Option.some_ne_none y) with z | z
      · subst z
        rw [ha] at e
        cases e
        exact absurd rfl (n1 _ _)
      · rw [tab_at z] at e
        cases e
        exact absurd rfl n2
  have free : ∀ {b : Addr} {o : Obj} {es : Array DictEntry} {ep : Nat}, s₁.heap.get? b = some o → o.data = .dict es ep → H b = none := fun e d => other e (fun us n z => by rw [d] at z; cases z) fun z => by rw [d] at z; cases z
  have lift : ∀ {b : Addr} {m : Str → Option Value}, s₁.heap.Ns b m → (hidT s₁.heap H).Ns b m := fun {b m} z => by
    obtain ⟨o, es, ep, e, d, r⟩ := z
    exact ⟨o, es, ep, below e (free e d), d, r⟩
  have inK : K.In (hidT s₁.heap H) := fun b o e => below (KX b o e) (by
    cases q : H b with
    | none => rfl
    | some y =>
      rcases hA b (by rw [q]; exact Option.some_ne_none y) with z | z
      · subst z
        rw [hK (by rw [q]; exact Option.some_ne_none y)] at e
        cases e
      · obtain ⟨p, hp, rfl⟩ := List.mem_map.mp z
        rw [nT p hp] at e
        cases e)
  have notG : ∀ {b : Addr} {o : Obj}, s₁.heap.get? b = some o → (∀ es ep, o.data ≠ .dict es ep) → b ≠ mainGlobals := fun {b o} e n z => by
    obtain ⟨o2, es, ep, e2, d, _⟩ := id hns
    rw [z, e2] at e
    cases e
    exact n _ _ d
  have TB : ∀ p ∈ cs, LamX.TabB (hidT s₁.heap H) mg p.1 p.2 := fun p hp => by
    refine ⟨?_, ?_, fun z => notG (hT p hp) (fun _ _ y => nomatch y) z.symm⟩
    · obtain ⟨o, us, file, tf, flags, tg, inF, text, tt, e1, r1, r2, r3, r⟩ := hC p hp
      have n2 : o.data ≠ .fields #[] := fun z => by
        rw [r2] at z
        cases z
        simp at r3
      exact ⟨o, us, file, tf, flags, tg, inF, text, tt, below e1 (other e1 (fun _ _ z => by rw [r2] at z; cases z) n2), r1, r2, r3, r⟩
    · obtain ⟨bm, ob, b1, b2, b3, b4, b5, b6⟩ := hbm
      have nP : bm ≠ p.2 := fun q => by
        rw [q, hT p hp] at b3
        cases b3
        cases b6
      exact ⟨bm, ob, b1, b2, notG b3 (fun _ _ z => by rw [b6] at z; cases z), nP, below b3 (other b3 (fun _ _ z => by rw [b6] at z; cases z) fun z => by rw [b6] at z; cases z), b4, b5, b6⟩
  obtain ⟨mc, l1, l2⟩ := hlim
  have e0 : Env0 P w K mg (hidT s₁.heap H) callerA [] s₁ H :=
    ⟨rfl, ⟨inK, lift hns, ⟨mb, lift hb, hbb⟩, ⟨mc, lift l1, l2⟩⟩, fun b o e => of_hidT e, Nat.le_of_eq (hidT_size _ _), trivial, fun b z => absurd (show b ∈ ([] : List Addr) from z) (by simp), hok, .of_eq hg⟩
  have run := (F _ inK (lift hns) TB).go callerA [] s₁ H ⟨[.ref a], []⟩ [.ref a] [.ref a] _ _ hr rfl e0 (hbind s₁ (.ref a)) (.cons rfl .nil) hsp
  refine codeAny_mono run fun r s' h => ?_
  match r, h with
  | .error e, h =>
    obtain ⟨_, _, _, _, _, _, _, _, _, _, _, _, z⟩ := h
    exact z.elim
  | .ok .next, h => exact h.elim
  | .ok .brk, h => exact h.elim
  | .ok .cont, h => exact h.elim
  | .ok (.ret u), h =>
    obtain ⟨v, H', os, bare, un, hok', rv, q⟩ := h
    obtain rfl : v = V.bl true := q
    obtain rfl : u = Value.bool true := rv
    have same : ∀ {b : Addr} {o : Obj}, b ∉ tabsOf cs → s₁.heap.get? b = some o → s'.heap.get? b = some o := fun {b o} nb e => by
      rcases hO b with z | z | ⟨ob, ys, z⟩
      · exact un.keep b o e z (fun y => absurd (show b ∈ ([] : List Addr) from y) (by simp)) (by simp)
      · exact absurd z nb
      · obtain ⟨e1, _⟩ := hok b _ z
        obtain ⟨e2, _⟩ := hok' b _ (un.frzs b ob _ z)
        rw [e] at e1
        cases e1
        exact e2
    have more : ∀ p ∈ cs, ∃ ps : Array Value, s'.heap.get? p.2 = some { cls := .none, data := .fields ps } := fun p hp => by
      obtain ⟨ps, z⟩ := un.tbls p.2 #[] (hH p hp)
      exact ⟨_, hok' p.2 _ z⟩
    refine ⟨rfl, ⟨fun b o e => ?_, fun b o e => ?_⟩, os, bare⟩
    · by_cases nb : b ∈ tabsOf cs
      · obtain ⟨p, hp, rfl⟩ := List.mem_map.mp nb
        obtain ⟨ps, z⟩ := more p hp
        rw [hT p hp] at e
        cases e
        exact .inr (.inl ⟨((hC p hp).tab (hT p hp)).isCodeTable, rfl, #[], ps, rfl, by rw [Array.empty_append]; exact z⟩)
      · exact .inl (same nb e)
    · by_cases nb : b ∈ tabsOf cs
      · obtain ⟨p, hp, rfl⟩ := List.mem_map.mp nb
        obtain ⟨ps, z⟩ := more p hp
        exact ⟨_, z⟩
      · exact ⟨o, same nb e⟩
theorem law_callGT (KX : K.In s₁.heap) (hns : s₁.heap.Ns mainGlobals mg) (hb : s₁.heap.Ns builtinsNs mb) (hbb : ∀ y : Str, y ≠ "__name__" → mb y = bootBuiltins y) (hlim : s₁.heap.NoLimit) (hg : s₁.gens = #[])
    (hT : ∀ p ∈ cs, s₁.heap.get? p.2 = some tabO) (nT : ∀ p ∈ cs, K.lookup p.2 = none) (hC : ∀ p ∈ cs, PySem.W.CodeHd s₁.heap p.1 p.2)
    (hbm : ∃ (bm : Addr) (ob : Obj), mg "__builtins__" = some (.ref bm) ∧ bm ≠ builtinsNs ∧ s₁.heap.get? bm = some ob ∧ ob.cls = .type "module" ∧ ob.dict = some builtinsNs ∧ ob.data = .plain)
    (ha : s₁.heap.get? a = some { cls := .type "list", data := .seq vs.toArray }) (hi : IntsAre vs ns) (hl : ns.length ≤ sizeLine) (hr : Room k callerA) (F : ∀ base : Heap, K.In base → base.Ns mainGlobals mg → (∀ p ∈ cs, LamX.TabB base mg p.1 p.2) → GOk P w K mg base k fa fd [x] sp)
    (hbind : ∀ (s : Shared) (u : Value), BindsTo s fd ⟨[u], []⟩ [(x, u)]) (hsp : ∀ H : Hp, (∀ p ∈ cs, H p.2 = some (.tbl #[])) → SqL K H a (ns.map V.int) → sp [.ref a] H (fun v _ => v = .bl true) fun _ _ _ => False) :
    codeAny (model P w) callerA (.call (.ref fa) ⟨[.ref a], []⟩) (fun r s' => r = .ok (.ret (.bool true)) ∧ OldK s₁.heap s'.heap ∧ s'.os = s₁.os ∧ AllBare s'.gens) s₁ := by
  have rv := vals_ints hi
  have lv := hi.length
  have tab_at : ∀ {b}, b ∈ tabsOf cs → s₁.heap.get? b = some tabO := fun {b} z => by
    obtain ⟨p, hp, rfl⟩ := List.mem_map.mp z
    exact hT p hp
  have na : a ∉ tabsOf cs := fun z => by
    have y := tab_at z
    rw [ha] at y
    exact nomatch (show Data.seq vs.toArray _ = Data.fields #[] from congrArg Obj.data (Option.some.inj y))
  have isT : ∀ p ∈ cs, p.2 ∈ tabsOf cs := fun p hp => List.mem_map.mpr ⟨p, hp, rfl⟩
  cases hk : K.lookup a with
  | some o =>
    have e := KX a o hk
    rw [ha] at e
    cases e
    let H : Hp := fun b => if b ∈ tabsOf cs then some (.tbl #[]) else none
    have t1 : ∀ {b}, b ∈ tabsOf cs → H b = some (.tbl #[]) := fun h => if_pos h
    have t2 : ∀ {b}, b ∉ tabsOf cs → H b = none := fun h => if_neg h
    refine law_fromT (H := H) KX hns hb hbb hlim hg hT nT hC hbm ha hr F hbind (hsp H (fun p hp => t1 (isT p hp)) (.inr ⟨_, vs.toArray, _, hk, rfl, rfl, rfl, by rw [List.size_toArray, lv]; exact hl, by simpa using rv⟩)) (fun p hp => t1 (isT p hp)) (fun b => ?_) (fun b u z => ?_) (fun b z => ?_) fun z => absurd (t2 na) z
    · by_cases h : b ∈ tabsOf cs
      · exact .inr (.inl h)
      · exact .inl (t2 h)
    · by_cases h : b ∈ tabsOf cs
      · rw [t1 h] at z
        cases z
        exact tab_at h
      · rw [t2 h] at z
        cases z
    · by_cases h : b ∈ tabsOf cs
      · exact .inr h
      · exact absurd (t2 h) z
  | none =>
    let H : Hp := fun b => if b = a then some (.frz { cls := .type "list", data := .seq vs.toArray } (.lst (ns.map V.int))) else if b ∈ tabsOf cs then some (.tbl #[]) else none
    have t0 : H a = some (.frz { cls := .type "list", data := .seq vs.toArray } (.lst (ns.map V.int))) := if_pos rfl
    have t1 : ∀ {b}, b ∈ tabsOf cs → H b = some (.tbl #[]) := fun {b} h => (if_neg (fun z : b = a => na (z ▸ h))).trans (if_pos h)
    have t2 : ∀ {b}, b ≠ a → b ∉ tabsOf cs → H b = none := fun h0 h => (if_neg h0).trans (if_neg h)
    refine law_fromT (H := H) KX hns hb hbb hlim hg hT nT hC hbm ha hr F hbind (hsp H (fun p hp => t1 (isT p hp)) (.inl (.inr ⟨_, t0⟩))) (fun p hp => t1 (isT p hp)) (fun b => ?_) (fun b u z => ?_) (fun b z => ?_) fun _ => hk
    · by_cases h0 : b = a
      · subst h0
        exact .inr (.inr ⟨_, _, t0⟩)
      · by_cases h : b ∈ tabsOf cs
        · exact .inr (.inl h)
        · exact .inl (t2 h0 h)
    · by_cases h0 : b = a
      · subst h0
        rw [t0] at z
        cases z
        exact ⟨ha, by rw [List.length_map]; exact hl, vs, _, rv, ha⟩
      · by_cases h : b ∈ tabsOf cs
        · rw [t1 h] at z
          cases z
          exact tab_at h
        · rw [t2 h0 h] at z
          cases z
    · by_cases h0 : b = a
      · exact .inl h0
      · by_cases h : b ∈ tabsOf cs
        · exact .inr h
        · exact absurd (t2 h0 h) z
end
/-- what k_head leaves, from the law's promise -/
theorem walk_gT {l : PySem.W.OpenLaw} {n k : Nat} {q : Program} {loose : List Str} {XP : (Str → Option Value) → Heap → Prop} {YP : World → Heap → Prop} {d : DefRec} {K : Params → PySem.W.Frag} {sp : List (Addr × Addr) → PySem.W.Frag → Sp} {x : Str}
    (hn : l.most = some n) (hn2 : n ≤ sizeLine) (hdf : d.params.defaults = []) (hr : Room k callerA) (hY : ∀ (w : World) (h : Heap), YP w h → (K w.params).In h)
    (F : ∀ (w : World) (mg : Str → Option Value) (fa : Addr) (h : Heap), YP w h → (K w.params).In h → h.Ns mainGlobals mg → mg d.name = some (.ref fa) →
      ∃ (fd : FuncData) (cs : List (Addr × Addr)), (∀ p ∈ cs, h.get? p.2 = some tabO) ∧ (∀ p ∈ cs, (K w.params).lookup p.2 = none) ∧ (∀ p ∈ cs, PySem.W.CodeHd h p.1 p.2) ∧ (∀ (s : Shared) (u : Value), BindsTo s fd ⟨[u], []⟩ [(x, u)]) ∧
        ∀ base : Heap, (K w.params).In base → base.Ns mainGlobals mg → (∀ p ∈ cs, LamX.TabB base mg p.1 p.2) → GOk l.prog w (K w.params) mg base k fa fd [x] (sp cs (K w.params)))
    (hsp : ∀ (cs : List (Addr × Addr)) (K : PySem.W.Frag) (H : Hp) (a : Addr) (ns : List Int), ns.length ≤ n → (∀ p ∈ cs, H p.2 = some (.tbl #[])) → SqL K H a (ns.map V.int) → sp cs K [.ref a] H (fun v _ => v = .bl true) fun _ _ _ => False) :
    PySem.W.WalkO q loose XP YP l.row.toRowW d [] (fun f vs => PySem.call f vs) := by
  refine Att.attach_call hn hdf fun w s₀ s₁ mg mb fa o pm cd doc a vs ns G Y ho hd hcd hmg hobj hints hlen hg => ?_
  have KX := hY w _ Y
  obtain ⟨fd, cs, hT, nT, hC, hb, hF⟩ := F w mg fa _ Y KX G.T.g hmg
  exact law_callGT KX G.T.g G.T.b G.T.builtins G.T.nolimit hg hT nT hC G.T.bmain hobj hints (Nat.le_trans hlen hn2) hr hF hb fun H hH hS => hsp cs _ H a ns hlen hH hS
/-- the law's promise, the tables empty to begin with -/
def spLawT (cs : List (Addr × Addr)) (K : PySem.W.Frag) : Sp := fun vs H Q _ => ∃ (s : Addr) (ns : List Int), vs = [.ref s] ∧ SqL K H s (ns.map V.int) ∧ ns.length ≤ 63 ∧ (∀ p ∈ cs, H p.2 = some (.tbl #[])) ∧ ∀ H', Q (.bl true) H'
theorem tabs_nil {cs : List (Addr × Addr)} {H : Hp} {q : Addr × Addr → Str} (h : ∀ p ∈ cs, H p.2 = some (.tbl #[])) : LamX.Tabs (cs.map fun p => (p.2, q p)) H := fun p hp => by
  obtain ⟨p', hp', rfl⟩ := List.mem_map.mp hp
  exact LamX.TabS.nil (h p' hp')
end Bf
namespace Bf
open PySem PySem.Spec PyProof.Rows L2
section
variable {K : PySem.W.Frag} {S SB SF : Sta} {L : List Addr} {ρ : List (Option Dt)} {P : Po} {tl : TE} {t : TS}
end
section
variable {K : PySem.W.Frag} {S S1 SB SF : Sta} {L : List Addr} {ρ : List (Option Dt)} {P : Po} {te : TE} {w : TS} {xs : List Dt}
end
section
variable {K : PySem.W.Frag} {a : Addr} {c : CT} {cs : List Int} {CB CR C : Addr}
end
end Bf
namespace Bf
open PySem PySem.Spec PyProof.Rows L2
/-! ## Styles, moments, rows -/
section
variable {K : PySem.W.Frag} {S S1 : Sta} {ds : List Dt} {ρ : List (Option Dt)} {o : Out} {E : XK} {CN CS CR : Addr}
/-! ### those that refuse -/
end
end Bf
namespace Bf
open PySem PySem.Spec PyProof.Rows L2
theorem so_re {K : PySem.W.Frag} {S SB SF : Sta} {L : List Addr} {ρ ρ' : List (Option Dt)} {P : Po} {w : TS} (e : ρ = ρ') (h : Sg K S SB SF L w ρ' P) : Sg K S SB SF L w ρ P := e ▸ h
section
variable {K : PySem.W.Frag} {a : Addr} {c : CT} {cs : List Int} {CN CR C : Addr}
end
end Bf
namespace Bf
open PySem PySem.Spec PyProof.Rows L2
/-! ## A list that grows once, right where it is made -/
section
variable {K : PySem.W.Frag} {S SB SF : Sta} {L : List Addr} {ρ : List (Option Dt)} {P : Po} {te : TE} {ta : TA} {w : TS} {d : Dt} {xs : List Dt} {j : Nat}
theorem so_newApp (hmu : S.Mu) (hj : j < ρ.length) (ha : EvA K S S ρ ta (Eq xs)) (hz : xs.length < 100000) (hx : nolA xs = true) (he : ∀ p, Ev K S S (ρ.set j (some (.lat p xs))) te (Eq d)) (hd : nol d = true) (q : ∀ p, Sg K S SB SF L w (ρ.set j (some (.lat p (xs ++ [d])))) P) :
    Sg K S SB SF L (tSeq (tAsg (tLst ta) (gName j)) (tSeq (tDrop (tBM K "list" rAppend (tVar j) (tCons te tNil))) w)) ρ P := fun D σ B H b i s f => by
  refine ha σ H i s _ fun vs ds H1 g1 i1 r1 e => ?_
  subst e
  have hl := r1.len
  have hsz : (100000 : Nat) ≤ sizeLine := by decide
  refine ⟨by omega, fun p hp => ?_⟩
  have sm : Same H1 (upd H1 p (.lst vs)) := same_new hp
  have s2 := ((s.mono g1).mono sm.gr).set (v := .ref p) (.lat upd_same (r1.mono sm.gr)) j
  have hjs : (σ.set j (some (V.ref p)))[j]? = some (some (V.ref p)) := List.getElem?_set_self (by rw [s.len]; exact hj)
  refine ⟨.ref p, hjs, .inl ⟨rfl, _, SqL.of upd_same⟩, ?_⟩
  refine he p _ _ (S.st i1 sm) s2 _ fun u d' H3 g3 i3 r3 e => ?_
  subst e
  have hp3 : H3 p = some (.lst vs) := g3 _ _ upd_same rfl
  refine ⟨p, vs, u, rfl, rfl, hp3, by omega, ?_⟩
  have ne : ∀ a o, H1 a = some o → a ≠ p := fun a o e z => by rw [z, hp] at e; cases e
  have g14 : Gr H1 (upd H3 p (.lst (vs ++ [u]))) := fun a o e dd => by
    rw [upd_ne (ne a o e)]
    exact g3 _ _ (by rw [upd_ne (ne a o e)]; exact e) dd
  have s4 := ((s.mono g1).mono g14).set (v := .ref p) (.lat upd_same ((r1.mono g14).app (.cons (r3.off hp3 hd) .nil))) j
  exact q p D _ B _ (b.up (g1.trans g14)) (hmu i1 (sm.gr.trans g3) hp hp3 i3) s4 f
end
/-! ### an error is told of by its kind and by what it was given -/
structure Ten where
  ratio : Addr
  table : Addr
  word : Addr
  burst : Addr
  receiver : Addr
  number : Addr
  paper : Addr
  style : Addr
  row : Addr
  text : Addr
def Ten.l (t : Ten) : List Addr := [t.ratio, t.table, t.word, t.burst, t.receiver, t.number, t.paper, t.style, t.row, t.text]
/-- C is the one at i, and no other -/
structure IsTen (K : PySem.W.Frag) (t : Ten) (C : Addr) (i : Nat) : Prop where
  at_ : t.l[i]? = some C
  is_ : ∀ j D, j < 9 → t.l[j]? = some D → PySem.W.kitOne K (.ref C) (.ref D) = some (decide (j = i))
  ex : PySem.W.exmAny K (.ref C) (t.l.map Value.ref) = some true
section
variable {K : PySem.W.Frag} {S S1 : Sta} {ds : List Dt} {ρ : List (Option Dt)} {o : Out} {E : XK} {CN CS CR : Addr} {a : Dt} {t : Ten}
end
/-! ### what is said -/
section
variable {K : PySem.W.Frag} {S S1 : Sta} {ds : List Dt} {ρ : List (Option Dt)} {o : Out} {E : XK} {d : Dt} {t : Ten}
end
end Bf
namespace Bf
open PySem PySem.Spec PyProof.Rows L2
mutual
theorem gd_pl : ∀ (n : Nat) (d : Dt), gd n d = true → pl d = true
  | _, .non, _ => rfl
  | _, .bl _, _ => rfl
  | _, .int _, _ => rfl
  | _, .str _, _ => rfl
  | n + 1, .lst xs, h => by
    simp only [gd, Bool.and_eq_true] at h
    unfold pl
    exact gdA_pl n xs h.1
  | n + 1, .tup xs, h => by
    simp only [gd, Bool.and_eq_true] at h
    unfold pl
    exact gdA_pl n xs h.1
  | 0, .lst xs, h => by simp [gd] at h
  | 0, .tup xs, h => by simp [gd] at h
  | n, .dic, h => by simp [gd] at h
  | n, .ins _ _ _, h => by simp [gd] at h
  | n, .raw _, h => by simp [gd] at h
  | n, .lat _ _, h => by simp [gd] at h
  | n, .err _ _ _, h => by simp [gd] at h
  | n, .dct _ _, h => by simp [gd] at h
  | n, .dti _ _ _, h => by simp [gd] at h
  | n, .dat _ _ _ _, h => by simp [gd] at h
  | n, .cel _ _, h => by simp [gd] at h
theorem gdA_pl : ∀ (n : Nat) (xs : List Dt), gdA n xs = true → plA xs = true
  | _, [], _ => rfl
  | n, x :: xs, h => by
    simp only [gdA, Bool.and_eq_true] at h
    unfold plA
    rw [gd_pl n x h.1, gdA_pl n xs h.2]
    rfl
end
section
variable {K : PySem.W.Frag} {S S1 : Sta} {ds : List Dt} {ρ : List (Option Dt)} {d : Dt}
end
end Bf
namespace Bf
open PySem PySem.Spec PyProof.Rows L2
/-! ### what is due of a row -/
section
variable {K : PySem.W.Frag} {S S1 : Sta} {ds : List Dt} {ρ : List (Option Dt)} {d : Dt}
end
/-! ### repr, where an empty dict may stand -/
end Bf
namespace Bf
open PySem PySem.Spec PyProof.Rows L2
/-! ## The draws -/
section
variable {K : PySem.W.Frag} {S S1 SB SF : Sta} {L : List Addr} {ρ : List (Option Dt)} {P : Po} {t w : TS} {ta : TA}
end
section
variable {K : PySem.W.Frag} {a : Addr} {c : CT} {cs : List Int} {n : Nat} {ds : List Dt}
end
/-! ### a style -/
/-! ### an odd row -/
section
variable {K : PySem.W.Frag} {a : Addr} {c : CT} {cs : List Int} {n : Nat} {ds : List Dt}
end
end Bf
namespace Bf
open PySem PySem.Spec PyProof.Rows L2
/-! ## One moment on -/
inductive Sy where
  | short
  | toggle
  | same (k : Int)
def Sy.d : Sy → Dt
  | .short => .tup [.str "short"]
  | .toggle => .tup [.str "toggle"]
  | .same k => .tup [.str "same", .int k]
def Sy.n : Sy → Str
  | .short => "short"
  | .toggle => "toggle"
  | .same _ => "same"
def Sy.ok : Sy → Prop
  | .same k => 0 ≤ k ∧ k ≤ 9
  | _ => True
inductive Mo where
  | rest
  | press (b : Int) (h : Bool)
  | hold (h : Bool)
def Mo.d : Mo → Dt
  | .rest => .tup [.str "rest"]
  | .press b h => .tup [.str "press", .int b, .bl h]
  | .hold h => .tup [.str "hold", .bl h]
def Mo.n : Mo → Str
  | .rest => "rest"
  | .press _ _ => "press"
  | .hold _ => "hold"
/-- a frame is heard -/
def Mo.hd : Mo → Bool
  | .press _ h => h
  | .hold h => h
  | .rest => false
structure La where
  b : Int
  m : Int
  age : Int
  th : Bool
def La.d (l : La) : Dt := .tup [.int l.b, .int l.m, .int l.age, .bl l.th]
def laD : Option La → Dt
  | none => .non
  | some l => l.d
def boD : Option Int → Dt
  | none => .non
  | some b => .int b
structure St1 where
  bo : Option Int
  mr : Int
  la : Option La
def St1.d (s : St1) : Dt := .tup [boD s.bo, .int s.mr, laD s.la]
section
variable {K : PySem.W.Frag} {S S1 S2 : Sta} {ds : List Dt} {ρ : List (Option Dt)} {d : Dt} {te : TE}
end
end Bf
namespace Bf
open PySem PySem.Spec PyProof.Rows L2
/-! ## The law of styles and rows -/
section
variable {K : PySem.W.Frag} {S S1 : Sta} {ρ : List (Option Dt)} {tl : TA} {n m : Nat} {ds es : List Dt} {R : List Dt → Out → Prop} {E : XK} {d x : Dt} {o : Out} {T : List (Addr × Str)} {RR : Out → Dt → Prop}
/-- what is said of a call -/
theorem ev_lamX (hT : TabS S T) (ha : ∀ S' : Sta, EvA K S' S' ρ tl (Eq ds)) (hn : ds.length = n) (hp : R ds o) (hR : RR o x) : Ev K S S ρ (LamX.tLam T (TTs K RR) (fun E => tCall (spX K n R) [] E tl)) (Eq x) := by
  cases o with
  | ok d => exact ev_lamOk hT (fun S' E le => ev_callX (ha S') hn hp) hR
  | er C f d => exact ev_lamEr hT (fun S' E le hw => er_callX (ha S') hn hp hw) hR
end
section
variable {K : PySem.W.Frag} {a : Addr} {c : CT} {cs : List Int} {t : Ten}
end
end Bf
namespace Bf
open PySem PySem.Spec PyProof.Rows L2
/-! ## A row of moments -/
section
variable {K : PySem.W.Frag} {S : Sta} {ds : List Dt} {o : Out} {E : XK} {CS CN CR p : Addr}
end
end Bf
namespace Bf
open PySem PySem.Spec PyProof.Rows L2
/-! ## Lists: three new ones, one made anew among loose ones, a list times a number -/
section
variable {K : PySem.W.Frag} {S S1 S2 SB SF : Sta} {L : List Addr} {ρ : List (Option Dt)} {P : Po} {te tb : TE} {ta : TA} {w : TS} {xs : List Dt} {d : Dt}
/-- [..] * n -/
theorem RepA.repN {H : Hp} {vs : List V} {ds : List Dt} (r : RepA K H vs ds) : ∀ n : Nat, RepA K H (List.replicate n vs).flatten (List.replicate n ds).flatten
  | 0 => .nil
  | n + 1 => by
    rw [List.replicate_succ, List.replicate_succ, List.flatten_cons, List.flatten_cons]
    exact r.app (r.repN n)
theorem ev_repL {n : Nat} (ha : EvA K S S1 ρ ta (Eq xs)) (hz : xs.length ≤ 1000) (hb : Ev K S1 S2 ρ tb (Eq (.int n))) (hn : n ≤ 1000) : Ev K S S2 ρ (tOp rRep (tLst ta) tb) (Eq (.lst (List.replicate n xs).flatten)) := fun σ H i s Q q =>
  ha σ H i s _ fun vs ds H1 g1 i1 r1 e => by
    subst e
    have hl := r1.len
    have hsz : (1000000 : Nat) ≤ sizeLine := by decide
    refine ⟨by omega, fun p hp => ?_⟩
    have sm : Same H1 (upd H1 p (.lst vs)) := same_new hp
    refine hb σ _ (S1.st i1 sm) ((s.mono g1).mono sm.gr) _ fun u d' H2 g2 i2 r2 e => ?_
    subst e
    obtain rfl := r2.intI
    have hp2 : H2 p = some (.lst vs) := g2 _ _ upd_same rfl
    have hm : vs.length * n ≤ 1000 * 1000 := Nat.mul_le_mul (by omega) hn
    refine ⟨p, n, vs, rfl, rfl, hp2, by omega, by omega, by rw [Int.toNat_natCast]; omega, fun p' hp' => ?_⟩
    have sm2 := same_new (o := .lst (List.replicate (n : Int).toNat vs).flatten) hp'
    rw [Int.toNat_natCast] at *
    exact q _ _ _ ((g1.trans sm.gr).trans (g2.trans sm2.gr)) (S2.st i2 sm2) (.lst (SqL.of upd_same) (((r1.mono sm.gr).mono (g2.trans sm2.gr)).repN n)) rfl
end
end Bf
namespace Bf
open PySem PySem.Spec PyProof.Rows L2
/-! ## Errors as values: made by place or by keyword -/
section
variable {P : Program} {w : World} {fs ex : List Addr} {H : Hp} {h h' : Heap} {a b : Addr} {o u : HO}
end
/-- what is known of the class at C, an own error over any base -/
structure ErrCls (B newId initId : String) (bmB : List Value) (rf : List Value → Bool) (prog : Program) (K : PySem.W.Frag) (mg : Str → Option Value) (x f : Str) (C fI : Addr) : Prop where
  O : BaseOf B newId initId bmB rf
  T : ErrTxt B newId initId rf prog K f C fI
  gC : mg x = some (.ref C)
  kC : PySem.W.keepIn K (.ref C) = true
  ms : mg "super" = none
  top : (prog.main.scope.names.lookup ("super" : Str)).isSome = false
  fn : f ≠ "self" ∧ f ≠ "super" ∧ f ≠ "__class__" ∧ f ≠ "__debug__"
section
variable {X : Cx} {B newId initId : String} {bmB : List Value} {rf : List Value → Bool} {C fI : Addr} {x f : Str}
end
/-! ### isinstance of an error, any class -/
inductive RelC : V → Value → Prop
  | own (C : Addr) : RelC (.ref C) (.ref C)
  | ty (n : String) : RelC (.ty n) (.type n)
section
variable {K : PySem.W.Frag} {S S1 : Sta} {ρ : List (Option Dt)} {te : TE} {ta : TA} {d : Dt} {C : Addr} {f : Str} {b : Bool} {y : V} {y' : Value}
end
/-! ### new lists that are not sys.modules -/
section
variable {K : PySem.W.Frag} {S S1 S2 : Sta} {ρ : List (Option Dt)} {te tb : TE} {ta : TA} {xs ys : List Dt}
end
/-! ### repr of a list that holds empty dicts -/
section
variable {K : PySem.W.Frag} {S : Sta} {d : Dt}
end
end Bf
namespace Bf
open PySem PySem.Spec PyProof.Rows L2
/-! ## The law of made errors -/
/-- the classes by their numbers, the two families -/
structure E11 where
  c0 : Addr
  c1 : Addr
  c2 : Addr
  c3 : Addr
  c4 : Addr
  c5 : Addr
  c6 : Addr
  c7 : Addr
  c8 : Addr
  c9 : Addr
  c10 : Addr
  fr : Addr
  st : Addr
abbrev E11.cs (t : E11) : List Addr := [t.c0, t.c1, t.c2, t.c3, t.c4, t.c5, t.c6, t.c7, t.c8, t.c9, t.c10]
def E11.c (t : E11) : Nat → Addr
  | 0 => t.c0 | 1 => t.c1 | 2 => t.c2 | 3 => t.c3 | 4 => t.c4 | 5 => t.c5 | 6 => t.c6 | 7 => t.c7 | 8 => t.c8 | 9 => t.c9 | _ => t.c10
structure IsE (K : PySem.W.Frag) (t : E11) : Prop where
  own : ∀ k, k < 11 → ∀ j, j < 11 → PySem.W.kitOne K (.ref (t.c k)) (.ref (t.c j)) = some (decide (k = j))
  fr : ∀ k, k < 11 → PySem.W.kitOne K (.ref (t.c k)) (.ref t.fr) = some (decide (k < 10))
  ve : ∀ k, k < 11 → PySem.W.kitOne K (.ref (t.c k)) (.type "ValueError") = some (decide (k < 10))
  st : ∀ k, k < 11 → PySem.W.kitOne K (.ref (t.c k)) (.ref t.st) = some (decide (k = 10))
  re : ∀ k, k < 11 → PySem.W.kitOne K (.ref (t.c k)) (.type "RuntimeError") = some (decide (k = 10))
/-! ### rules -/
section
variable {K : PySem.W.Frag} {S S1 SB : Sta} {L : List Addr} {ρ : List (Option Dt)} {P : Po} {te tl : TE} {ta : TA} {t : TS} {vs : List Nat} {j j1 j2 : Nat} {xs : List Dt}
end
/-! ### the law's defs -/
section
variable {K : PySem.W.Frag} {S S1 : Sta} {ρ : List (Option Dt)} {ds : List Dt} {d : Dt} {t : E11}
end
end Bf
namespace Bf
open PySem PySem.Spec PyProof.Rows L2
/-! ## A list that stays, known by its place; len of a text; the words of a text -/
section
variable {K : PySem.W.Frag} {S S1 SB SF : Sta} {L : List Addr} {ρ : List (Option Dt)} {P : Po} {te : TE} {t : TS} {d : Dt} {q : Addr} {vs : List V} {j : Nat} {xs : List Dt} {a : Str} {E : XK} {C : Addr} {f : Str}
theorem XW.le {S' : Sta} (h : XW K S C f d E) (l : S'.Le S) : XW K S' C f d E := fun a v H' i => h a v H' (l _ i)
theorem rc_lenS (hz : a.length ≤ sizeLine) : RvC K S rLenS [.str a] (Eq (.int (a.length : Nat))) := rc_at fun H vs i r Q q => by
  obtain ⟨v, rfl, r1⟩ := r.oneI
  obtain rfl := r1.strI
  exact ⟨a, rfl, hz, q _ (.int _)⟩
end
/-! ### the words of a text -/
def wdsOf (a : Str) : List Str := Txt.split a " "
theorem spl_sum (s : Nat) : ∀ (l acc : List Nat), ((TL.spl [s] 0 acc l).map List.length).sum + (TL.spl [s] 0 acc l).length = acc.length + l.length + 1
  | [], acc => by simp [TL.spl]
  | c :: r, acc => by
    by_cases e : c = s
    · subst e
      rw [TL.spl_hit (by simp [TL.pre])]
      have := spl_sum c r []
      simp only [List.map_cons, List.sum_cons, List.length_cons, List.length_nil, Nat.sub_self] at this ⊢
      omega
    · rw [TL.spl_miss (TL.pre_of_head _ _ e)]
      have := spl_sum s r (acc ++ [c])
      simp only [List.length_append, List.length_cons, List.length_nil] at this ⊢
      omega
theorem wds_eq (a : Str) : (wdsOf a).map sg = TL.spl [32] 0 [] (sg a) := TL.split_spl a " " (by decide) (TL.kind_ok (by decide +kernel))
theorem wds_sum (a : Str) : ((wdsOf a).map (·.length)).sum + (wdsOf a).length = a.length + 1 := by
  have h := spl_sum 32 (sg a) []
  rw [← wds_eq, List.map_map, List.length_map, sg_len] at h
  have e : (List.length ∘ sg) = fun x : Str => x.length := funext fun x => sg_len x
  rw [e] at h
  simpa using h
theorem sum_mem {l : List Nat} {n : Nat} (h : n ∈ l) : n ≤ l.sum := by
  induction l with
  | nil => cases h
  | cons x l ih =>
    rw [List.sum_cons]
    rcases List.mem_cons.mp h with rfl | h
    · omega
    · have := ih h
      omega
theorem wds_ne (a : Str) : wdsOf a ≠ [] := fun e => by
  have := wds_sum a
  rw [e] at this
  simp at this
theorem wds_each {a : Str} {w : Str} (h : w ∈ wdsOf a) : w.length ≤ a.length := by
  have h1 := wds_sum a
  have h2 : w.length ≤ ((wdsOf a).map (·.length)).sum := sum_mem (List.mem_map.mpr ⟨w, h, rfl⟩)
  have h3 : 1 ≤ (wdsOf a).length := List.length_pos_iff.mpr (wds_ne a)
  omega
/-- words that are few and short -/
def wdOk (ws : List Str) : Prop := ws.length ≤ 1000 ∧ ∀ w ∈ ws, w.length ≤ 1000
theorem wdOk.tail {w : Str} {ws : List Str} (h : wdOk (w :: ws)) : wdOk ws := ⟨by have := h.1; rw [List.length_cons] at this; omega, fun v hv => h.2 v (List.mem_cons_of_mem _ hv)⟩
abbrev dS (ws : List Str) : Dt := .lst (ws.map Dt.str)
theorem dS_at {ws : List Str} {i : Nat} {x : Dt} (h : (ws.map Dt.str)[i]? = some x) : ∃ w, ws[i]? = some w ∧ x = .str w := by
  rw [List.getElem?_map] at h
  obtain ⟨w, hw, e⟩ := Option.map_eq_some_iff.mp h
  exact ⟨w, hw, e.symm⟩
end Bf
namespace Bf
open PySem PySem.Spec PyProof.Rows L2
/-! ## _law_moved: how far each item is off -/
def nearW (r : Fq) (bs : List Fq) (fs : List Int) : Prop := ∀ q ∈ bs.zip fs, lessP (4 * r.1, 3 * r.2) (offP q.1 q.2) = false
theorem nearW.snoc {r b : Fq} {bs : List Fq} {fs : List Int} {s : Int} (h : nearW r bs fs) (hl : bs.length = fs.length) (hb : lessP (4 * r.1, 3 * r.2) (offP b s) = false) : nearW r (bs ++ [b]) (fs ++ [s]) := fun q hq => by
  rw [List.zip_append hl] at hq
  rcases List.mem_append.mp hq with hq | hq
  · exact h q hq
  · have : q = (b, s) := by simpa using hq
    rw [this]
    exact hb
section
variable {K : PySem.W.Frag} {a : Addr} {c : CT} {cs : List Int} {n : Nat} {ds : List Dt} {C : Addr}
end
end Bf
namespace Bf
open PySem PySem.Spec PyProof.Rows L2
/-! ## Defs with lists and dicts of their own: F is the heap without what may change -/
/-- what may change -/
def mutk : HO → Bool
  | .lst _ => true
  | .dK _ => true
  | .dT _ => true
  | .ext _ => true
  | _ => false
/-- F within H, since Fb within Hb -/
structure Vw (Hb Fb F H : Hp) : Prop where
  bF : Same Fb F
  bH : Same Hb H
  fH : Same F H
  off : ∀ a o, Hb a = some o → F a = Fb a
  mu : ∀ a o, H a = some o → F a = none → mutk o = true
/-- all that is new belongs to F, but for p -/
def grow (F H H' : Hp) (p : Option Addr) : Hp := fun a => if p = some a then none else match H a with
  | none => H' a
  | some _ => F a
section
variable {K : PySem.W.Frag} {Hb Fb F F' H H' : Hp} {p : Addr} {o : HO} {v : V} {d : Dt} {vs : List V} {ds : List Dt}
theorem grow_old {a : Addr} {q : Option Addr} (hq : q ≠ some a) (h : H a = some o) : grow F H H' q a = F a := by
  unfold grow
  rw [if_neg hq, h]
theorem grow_new {a : Addr} {q : Option Addr} (hq : q ≠ some a) (h : H a = none) : grow F H H' q a = H' a := by
  unfold grow
  rw [if_neg hq, h]
theorem Vw.grow {q : Option Addr} (V : Vw Hb Fb F H) (s : Same H H') (hq : ∀ a, q = some a → H a = none ∧ ∃ u, H' a = some u ∧ mutk u = true) : Vw Hb Fb (grow F H H' q) H' := by
  have hq1 : ∀ {a u}, H a = some u → q ≠ some a := fun {a u} e z => by
    have := (hq a z).1
    rw [e] at this
    cases this
  refine ⟨fun a u e => ?_, fun a u e => s _ _ (V.bH a u e), fun a u e => ?_, fun a u e => ?_, fun a u e1 e2 => ?_⟩
  · have h1 := V.bF a u e
    have h2 := V.fH a u h1
    rw [grow_old (hq1 h2) h2]
    exact h1
  · by_cases hz : q = some a
    · unfold Bf.grow at e
      rw [if_pos hz] at e
      cases e
    · cases h : H a with
      | none => rw [grow_new hz h] at e; exact e
      | some w => rw [grow_old hz h] at e; exact s _ _ (V.fH a u e)
  · have h2 := V.bH a u e
    rw [grow_old (hq1 h2) h2]
    exact V.off a u e
  · by_cases hz : q = some a
    · obtain ⟨_, u', e', m⟩ := hq a hz
      rw [e1] at e'
      cases e'
      exact m
    · cases h : H a with
      | none => rw [grow_new hz h, e1] at e2; cases e2
      | some w =>
        rw [grow_old hz h] at e2
        have := s _ _ h
        rw [e1] at this
        cases this
        exact V.mu a u h e2
/-- the object at p is another one -/
theorem Vw.put (V : Vw Hb Fb F H) (h1 : Hb p = none) (h2 : F p = none) (m : mutk o = true) : Vw Hb Fb F (upd H p o) :=
  ⟨V.bF, fun a u e => by rw [upd_ne (ne_of_none e h1)]; exact V.bH a u e, fun a u e => by rw [upd_ne (ne_of_none e h2)]; exact V.fH a u e, V.off, fun a u e1 e2 => by
    by_cases h : a = p
    · subst h
      rw [upd_same] at e1
      cases e1
      exact m
    · rw [upd_ne h] at e1
      exact V.mu a u e1 e2⟩
/-- p does not change any more -/
theorem Vw.frz (V : Vw Hb Fb F H) (h1 : Hb p = none) (h2 : F p = none) (h : H p = some o) : Vw Hb Fb (upd F p o) H :=
  ⟨fun a u e => by rw [upd_ne (ne_of_none (V.bF a u e) h2)]; exact V.bF a u e, V.bH, fun a u e => by
    by_cases z : a = p
    · subst z
      rw [upd_same] at e
      cases e
      exact h
    · rw [upd_ne z] at e
      exact V.fH a u e, fun a u e => by rw [upd_ne (ne_of_none e h1)]; exact V.off a u e, fun a u e1 e2 => by
    by_cases z : a = p
    · subst z
      rw [upd_same] at e2
      cases e2
    · rw [upd_ne z] at e2
      exact V.mu a u e1 e2⟩
theorem same_frz (h2 : F p = none) : Same F (upd F p o) := fun a u e => by
  rw [upd_ne (ne_of_none e h2)]
  exact e
mutual
/-- data that hold nothing that may change -/
def fixd : Dt → Bool
  | .non => true
  | .bl _ => true
  | .int _ => true
  | .str _ => true
  | .raw _ => true
  | .tup xs => fixdA xs
  | .ins _ _ xs => fixdA xs
  | _ => false
def fixdA : List Dt → Bool
  | [] => true
  | x :: xs => fixd x && fixdA xs
end
mutual
theorem Rep.toF (h : ∀ a u, H a = some u → mutk u = false → F a = some u) : ∀ {v : V} {d : Dt}, fixd d = true → Rep K H v d → Rep K F v d
  | _, _, _, .non => .non
  | _, _, _, .bl b => .bl b
  | _, _, _, .int i => .int i
  | _, _, _, .str x => .str x
  | _, _, _, .raw v => .raw v
  | _, _, f, .tup q r => .tup (by
      rcases q with (q | ⟨o, q⟩) | q
      · exact .inl (.inl (h _ _ q rfl))
      · exact .inl (.inr ⟨o, h _ _ q rfl⟩)
      · exact .inr q) (r.toF h (by simpa only [fixd] using f))
  | _, _, f, .ins q r => .ins (h _ _ q rfl) (r.toF h (by simpa only [fixd] using f))
  | _, _, f, .lst _ _ => by simp [fixd] at f
  | _, _, f, .lat _ _ => by simp [fixd] at f
  | _, _, f, .dic _ => by simp [fixd] at f
  | _, _, f, .err _ _ _ => by simp [fixd] at f
  | _, _, f, .dct _ _ _ => by simp [fixd] at f
  | _, _, f, .dti _ _ _ => by simp [fixd] at f
  | _, _, f, .dat _ _ _ _ => by simp [fixd] at f
  | _, _, f, .cel _ _ => by simp [fixd] at f
theorem RepA.toF (h : ∀ a u, H a = some u → mutk u = false → F a = some u) : ∀ {vs : List V} {ds : List Dt}, fixdA ds = true → RepA K H vs ds → RepA K F vs ds
  | _, _, _, .nil => .nil
  | _, _, f, .cons q r => by
    simp only [fixdA, Bool.and_eq_true] at f
    exact .cons (q.toF h f.1) (r.toF h f.2)
end
theorem Vw.toF (V : Vw Hb Fb F H) : ∀ a u, H a = some u → mutk u = false → F a = some u := fun a u e m => by
  cases hf : F a with
  | none =>
    have := V.mu a u e hf
    rw [m] at this
    cases this
  | some x =>
    have := V.fH _ _ hf
    rw [e] at this
    exact this.symm
/-- the durations that are read by steps -/
def dursD (l1 : List Dt) : List Int := l1.flatMap fun d => match d with
  | .dat _ _ _ xs => xs.flatMap fun y => match y with
    | .lst ss => ss.flatMap fun s => match s with
      | .tup (_ :: .int i :: _) => [i]
      | _ => []
    | _ => []
  | _ => []
def askD (l : Nat) (f p : Int) : Dt := .tup [.int l, .int f, .int p]
/-- a dict of needs that were asked for: each is right -/
def ownOk (l1 l2 ks xs : List Dt) : Prop := (ks.map nk).Nodup ∧ ks.length = xs.length ∧ ∀ (i : Nat) k x, ks[i]? = some k → xs[i]? = some x → ∃ (l : Nat) (f p : Int) (C : Addr) (t : Fq), k = askD l f p ∧ l < 4 ∧ f ∈ dursD l1 ∧ p ∈ dursD l1 ∧ l2[l]? = some (rat C t.1 t.2) ∧ x = rat C (canP (needP f p t)).1 (canP (needP f p t)).2
/-- what a slot holds: data of F, or a list or a dict that may change -/
inductive Mrep (K : PySem.W.Frag) (Hb F H : Hp) : V → Dt → Prop
  | fix {v : V} {d : Dt} : Rep K F v d → Mrep K Hb F H v d
  | lat {p : Addr} {vs : List V} {ds : List Dt} : Hb p = none → F p = none → H p = some (.lst vs) → RepA K F vs ds → Mrep K Hb F H (.ref p) (.lat p ds)
  | dti {p : Addr} {vs : List V} {ks : List Int} {ds : List Dt} : Hb p = none → F p = none → H p = some (.dK (iK ks vs)) → ks.length = ds.length → RepA K F vs ds → Mrep K Hb F H (.ref p) (.dti p ks ds)
  | dat {p : Addr} {w : World} {as : List Addr} {vs : List V} {ks ds : List Dt} : Hb p = none → F p = none → H p = some (DatO w ks as vs p) → ks.length = ds.length → RepA K F (as.map V.ref) ks → RepA K F vs ds → Mrep K Hb F H (.ref p) (.dat p w ks ds)
  /-- an instance whose last part is a dict that may change, and holds what is right -/
  | own {a C dx p : Addr} {w : World} {n1 n2 n3 : Str} {v1 v2 : V} {l1 l2 : List Dt} {as : List Addr} {vs : List V} {ks ds : List Dt} : F a = some (.ins C dx [(n1, v1), (n2, v2), (n3, .ref p)]) → Rep K F v1 (.lst l1) → Rep K F v2 (.lst l2) →
      Hb p = none → F p = none → H p = some (DatO w ks as vs p) → RepA K F (as.map V.ref) ks → RepA K F vs ds → ownOk l1 l2 ks ds → Mrep K Hb F H (.ref a) (.ins C [n1, n2, n3] [.lst l1, .lst l2, .cel p w])
theorem Mrep.rep (V : Vw Hb Fb F H) (m : Mrep K Hb F H v d) : Rep K H v d := by
  have g : Gr F H := V.fH.gr
  cases m with
  | fix r => exact r.mono g
  | lat _ _ h r => exact .lat h (r.mono g)
  | dti _ _ h l r => exact .dti h l (r.mono g)
  | dat _ _ h l r1 r2 => exact .dat h l (r1.mono g) (r2.mono g)
  | own ha q1 q2 _ _ h r1 r2 _ => exact .ins (ns := [_, _, _]) (vs := [_, _, _]) (V.fH _ _ ha) (.cons (q1.mono g) (.cons (q2.mono g) (.cons (.cel h rfl) .nil)))
theorem Mrep.up (m : Mrep K Hb F H v d) (s : Same F F') (t : Same H H') (hn : ∀ a u, H a = some u → F a = none → F' a = none) : Mrep K Hb F' H' v d := by
  have g : Gr F F' := s.gr
  cases m with
  | fix r => exact .fix (r.mono g)
  | lat z n h r => exact .lat z (hn _ _ h n) (t _ _ h) (r.mono g)
  | dti z n h l r => exact .dti z (hn _ _ h n) (t _ _ h) l (r.mono g)
  | dat z n h l r1 r2 => exact .dat z (hn _ _ h n) (t _ _ h) l (r1.mono g) (r2.mono g)
  | own ha q1 q2 z n h r1 r2 k => exact .own (s _ _ ha) (q1.mono g) (q2.mono g) z (hn _ _ h n) (t _ _ h) (r1.mono g) (r2.mono g) k
/-- not the one at p -/
def offm (p : Addr) : Dt → Prop
  | .lat q _ => q ≠ p
  | .dti q _ _ => q ≠ p
  | .dat q _ _ _ => q ≠ p
  | .ins _ _ [_, _, .cel q _] => q ≠ p
  | _ => True
theorem Mrep.put (m : Mrep K Hb F H v d) (h : offm p d) (hp : F p = none) : Mrep K Hb F (upd H p o) v d := by
  cases m with
  | fix r => exact .fix r
  | lat z n h' r => exact .lat z n (by rw [upd_ne h]; exact h') r
  | dti z n h' l r => exact .dti z n (by rw [upd_ne h]; exact h') l r
  | dat z n h' l r1 r2 => exact .dat z n (by rw [upd_ne h]; exact h') l r1 r2
  | own ha q1 q2 z n h' r1 r2 k => exact .own ha q1 q2 z n (by rw [upd_ne h]; exact h') r1 r2 k
theorem Mrep.frz (m : Mrep K Hb F H v d) (hp : F p = none) (h : H p = some o) : Mrep K Hb (upd F p o) H v d := by
  have s : Same F (upd F p o) := same_frz hp
  have g := s.gr
  cases m with
  | fix r => exact .fix (r.mono g)
  | lat zz n h' r =>
    rename_i q ws xs
    by_cases z : q = p
    · subst z
      rw [h] at h'
      cases h'
      exact .fix (.lat upd_same (r.mono g))
    · exact .lat zz (by rw [upd_ne z]; exact n) h' (r.mono g)
  | dti zz n h' l r =>
    rename_i q ws ks xs
    by_cases z : q = p
    · subst z
      rw [h] at h'
      cases h'
      exact .fix (.dti upd_same l (r.mono g))
    · exact .dti zz (by rw [upd_ne z]; exact n) h' l (r.mono g)
  | dat zz n h' l r1 r2 =>
    rename_i q ww as ws ks xs
    by_cases z : q = p
    · subst z
      rw [h] at h'
      cases h'
      exact .fix (.dat upd_same l (r1.mono g) (r2.mono g))
    · exact .dat zz (by rw [upd_ne z]; exact n) h' l (r1.mono g) (r2.mono g)
  | own ha q1 q2 zz n h' r1 r2 k =>
    rename_i a0 C0 dx0 q ww m1 m2 m3 v1 v2 l1 l2 as ws ks xs
    by_cases z : q = p
    · subst z
      rw [h] at h'
      cases h'
      exact .fix (.ins (ns := [_, _, _]) (vs := [_, _, _]) (s _ _ ha) (.cons (q1.mono g) (.cons (q2.mono g) (.cons (.cel upd_same rfl) .nil))))
    · exact .own (s _ _ ha) (q1.mono g) (q2.mono g) zz (by rw [upd_ne z]; exact n) h' (r1.mono g) (r2.mono g) k
end
structure Mls (K : PySem.W.Frag) (Hb F H : Hp) (σ : L2.St) (ρ : List (Option Dt)) : Prop where
  len : σ.length = ρ.length
  val : ∀ (i : Nat) (d : Dt), ρ[i]? = some (some d) → ∃ v, σ[i]? = some (some v) ∧ Mrep K Hb F H v d
section
variable {K : PySem.W.Frag} {Hb Fb F F' H H' : Hp} {p : Addr} {o : HO} {v : V} {d : Dt} {σ : L2.St} {ρ : List (Option Dt)}
theorem Mls.slots (m : Mls K Hb F H σ ρ) (V : Vw Hb Fb F H) : Slots K H σ ρ := ⟨m.len, fun i d e => let ⟨v, h, r⟩ := m.val i d e; ⟨v, h, r.rep V⟩⟩
theorem Mls.up (m : Mls K Hb F H σ ρ) (s : Same F F') (t : Same H H') (hn : ∀ a u, H a = some u → F a = none → F' a = none) : Mls K Hb F' H' σ ρ := ⟨m.len, fun i d e => let ⟨v, h, r⟩ := m.val i d e; ⟨v, h, r.up s t hn⟩⟩
theorem Mls.frz (m : Mls K Hb F H σ ρ) (hp : F p = none) (h : H p = some o) : Mls K Hb (upd F p o) H σ ρ := ⟨m.len, fun i d e => let ⟨v, h', r⟩ := m.val i d e; ⟨v, h', r.frz hp h⟩⟩
theorem Mls.set (m : Mls K Hb F H σ ρ) (r : Mrep K Hb F H v d) (j : Nat) : Mls K Hb F H (σ.set j (some v)) (ρ.set j (some d)) := by
  refine ⟨by rw [List.length_set, List.length_set, m.len], fun i e h => ?_⟩
  by_cases hj : j = i
  · subst hj
    by_cases hl : j < ρ.length
    · rw [List.getElem?_set_self hl] at h
      cases h
      exact ⟨v, List.getElem?_set_self (by rw [m.len]; exact hl), r⟩
    · rw [List.getElem?_eq_none (by rw [List.length_set]; omega)] at h
      cases h
  · rw [List.getElem?_set_ne hj] at h
    obtain ⟨u, hu, q⟩ := m.val i e h
    exact ⟨u, by rw [List.getElem?_set_ne hj]; exact hu, q⟩
/-- the other slots are off p -/
def Offm (p : Addr) (ρ : List (Option Dt)) (j : Nat) : Prop := ∀ (i : Nat) (d : Dt), i ≠ j → ρ[i]? = some (some d) → offm p d
def offmL (p : Addr) (j : Nat) : Nat → List (Option Dt) → Prop
  | _, [] => True
  | n, o :: r => (n ≠ j → ∀ d, o = some d → offm p d) ∧ offmL p j (n + 1) r
theorem offm_of {j : Nat} : ∀ {ρ : List (Option Dt)} {n : Nat}, offmL p j n ρ → ∀ (i : Nat) (d : Dt), i + n ≠ j → ρ[i]? = some (some d) → offm p d
  | [], _, _, i, d, _, e => by simp at e
  | o :: r, n, h, 0, d, hi, e => h.1 (by omega) d (by simpa using e)
  | o :: r, n, h, i + 1, d, hi, e => offm_of h.2 i d (by omega) (by simpa using e)
theorem Offm.mk {j : Nat} (h : offmL p j 0 ρ) : Offm p ρ j := fun i d hi e => offm_of h i d (by omega) e
/-- the object at p, in slot j, is another one -/
theorem Mls.put {j : Nat} {d' : Dt} (m : Mls K Hb F H σ ρ) (hn : Offm p ρ j) (hp : F p = none) (hs : σ[j]? = some (some v)) (r : Mrep K Hb F (upd H p o) v d') : Mls K Hb F (upd H p o) σ (ρ.set j (some d')) := by
  refine ⟨by rw [List.length_set]; exact m.len, fun i e h => ?_⟩
  by_cases hj : j = i
  · subst hj
    by_cases hl : j < ρ.length
    · rw [List.getElem?_set_self hl] at h
      cases h
      exact ⟨v, hs, r⟩
    · rw [List.getElem?_eq_none (by rw [List.length_set]; omega)] at h
      cases h
  · rw [List.getElem?_set_ne hj] at h
    obtain ⟨u, hu, q⟩ := m.val i e h
    exact ⟨u, hu, q.put (hn i e (Ne.symm hj) h) hp⟩
end
end Bf
namespace Bf
open PySem PySem.Spec PyProof.Rows L2
/-! ## Statements of defs with lists and dicts of their own -/
/-- what may still be changed -/
def Lo (Hb F H : Hp) (L : List Addr) : Prop := ∀ p ∈ L, Hb p = none ∧ F p = none ∧ ∃ o, H p = some o
structure Pm where
  nx : List (Option Dt) → List Addr → Prop := fun _ _ => False
  rt : Dt → Prop := fun _ => False
  bk : List (Option Dt) → List Addr → Prop := fun _ _ => False
  ct : List (Option Dt) → List Addr → Prop := fun _ _ => False
  /-- what the slots hold where the def returns -/
  rl : List (Option Dt) → List Addr → Prop := fun _ _ => True
structure Fx (K : PySem.W.Frag) (Hb Fb : Hp) (P : Pm) (D : Ends) (F0 : Hp) : Prop where
  nx : ∀ (σ : L2.St) ρ L F H, Same F0 F → Vw Hb Fb F H → Lo Hb F H L → Mls K Hb F H σ ρ → P.nx ρ L → D.nx σ H
  rt : ∀ v d F H, Same F0 F → Vw Hb Fb F H → Rep K F v d → P.rt d → (∃ (σ : L2.St) (ρ : List (Option Dt)) (L : List Addr), Lo Hb F H L ∧ Mls K Hb F H σ ρ ∧ P.rl ρ L) → D.rt v H
  bk : ∀ (σ : L2.St) ρ L F H, Same F0 F → Vw Hb Fb F H → Lo Hb F H L → Mls K Hb F H σ ρ → P.bk ρ L → D.bk σ H
  ct : ∀ (σ : L2.St) ρ L F H, Same F0 F → Vw Hb Fb F H → Lo Hb F H L → Mls K Hb F H σ ρ → P.ct ρ L → D.ct σ H
def Sm (K : PySem.W.Frag) (Hb Fb : Hp) (L : List Addr) (ts : TS) (ρ : List (Option Dt)) (P : Pm) : Prop := ∀ (D : Ends) (σ : L2.St) (F H : Hp), Vw Hb Fb F H → Lo Hb F H L → Mls K Hb F H σ ρ → Fx K Hb Fb P D F → ts D σ H
/-- an expression that comes to data that stay -/
def Ef (K : PySem.W.Frag) (Hb Fb : Hp) (L : List Addr) (ρ : List (Option Dt)) (te : TE) (Φ : Dt → Prop) : Prop := ∀ (σ : L2.St) (F H : Hp), Vw Hb Fb F H → Lo Hb F H L → Mls K Hb F H σ ρ → ∀ Q : VK,
  (∀ v d F' H', Same F F' → Vw Hb Fb F' H' → Lo Hb F' H' L → Mls K Hb F' H' σ ρ → Rep K F' v d → Φ d → Q v H') → te σ H Q
section
variable {K : PySem.W.Frag} {Hb Fb F F' H H' : Hp} {L L' : List Addr} {p : Addr} {o : HO} {v : V} {d x : Dt} {σ : L2.St} {ρ : List (Option Dt)} {P : Pm} {te tl : TE} {ta : TA} {tt c : TT} {t u w : TS} {D : Ends} {Φ Ψ : Dt → Prop} {j : Nat} {xs ys ds : List Dt}
theorem Fx.up (f : Fx K Hb Fb P D F) (s : Same F F') : Fx K Hb Fb P D F' :=
  ⟨fun σ ρ L G H t => f.nx σ ρ L G H (s.trans t), fun v d G H t => f.rt v d G H (s.trans t), fun σ ρ L G H t => f.bk σ ρ L G H (s.trans t), fun σ ρ L G H t => f.ct σ ρ L G H (s.trans t)⟩
theorem Lo.sub (h : Lo Hb F H L) (s : ∀ p ∈ L', p ∈ L) : Lo Hb F H L' := fun p q => h p (s p q)
/-! expressions -/
theorem Ef.weak (h : Ef K Hb Fb L ρ te Φ) (w : ∀ d, Φ d → Ψ d) : Ef K Hb Fb L ρ te Ψ := fun σ F H V l m Q q => h σ F H V l m Q fun v d F' H' s V' l' m' r p => q v d F' H' s V' l' m' r (w d p)
end
end Bf
namespace Bf
open PySem PySem.Spec PyProof.Rows L2
section
variable {K : PySem.W.Frag} {Hb Fb F F' H H' : Hp} {L L' : List Addr} {p : Addr} {o : HO} {v : V} {d x : Dt} {σ : L2.St} {ρ : List (Option Dt)} {P : Pm} {te tl tk : TE} {ta : TA} {tt c : TT} {t u w : TS} {D : Ends} {Φ Ψ : Dt → Prop} {j : Nat} {xs ys ds : List Dt} {ks : List Int}
/-! statements -/
theorem SqT.same {a : Addr} {vs : List V} (s : Same F H) (h : SqT K F a vs) : SqT K H a vs := s.gr.sqT h
theorem SqL.same {a : Addr} {vs : List V} (s : Same F H) (h : SqL K F a vs) : SqL K H a vs := s.gr.sqL h
/-! loops -/
end
end Bf
namespace Bf
open PySem PySem.Spec PyProof.Rows L2
/-! ## Dicts with ints as keys, that grow -/
def setI {α : Type} : List Int → List α → Int → α → List α
  | k :: ks, x :: xs, i, y => if k = i then y :: xs else x :: setI ks xs i y
  | _, xs, _, y => xs ++ [y]
section
variable {K : PySem.W.Frag} {Hb Fb F F' H H' : Hp} {L L' : List Addr} {p : Addr} {o : HO} {v : V} {d x : Dt} {σ : L2.St} {ρ : List (Option Dt)} {P : Pm} {te tl tk td ty : TE} {ta : TA} {tt c : TT} {t u w : TS} {D : Ends} {Φ Ψ : Dt → Prop} {j : Nat} {xs ys ds : List Dt} {ks : List Int} {S S1 S2 : Sta} {i : Int}
/-! ### promises -/
end
end Bf
namespace Bf
open PySem PySem.Spec PyProof.Rows L2
end Bf
namespace Bf
open PySem PySem.Spec PyProof.Rows L2
/-! ## Dicts that grow, their keys tuples (of tuples) -/
/-- fit for parts of keys, to a depth -/
def kyB : Nat → Dt → Bool
  | _, .non => true
  | _, .bl _ => true
  | _, .int _ => true
  | _, .str _ => true
  | n + 1, .tup xs => xs.all (kyB n)
  | _, _ => false
def kyT : Dt → Bool
  | .tup xs => xs.all (kyB 5)
  | _ => false
section
variable {X : Cx} {pins : List (Addr × Obj)} {σ : L2.St} {H : Hp} {s : Shared}
/-! look-ups -/
/-! a new entry -/
/-! {} -/
/-! list(d) -/
/-! {k: v} -/
end
end Bf
namespace Bf
open PySem PySem.Spec PyProof.Rows L2
/-! ## growing dicts with tuples as keys, over data -/
section
variable {K : PySem.W.Frag} {Hb Fb F F' H H' : Hp} {L L' : List Addr} {p : Addr} {o : HO} {v : V} {d x q : Dt} {σ : L2.St} {ρ : List (Option Dt)} {P : Pm} {te tl tk td ty tv : TE} {ta : TA} {tt c : TT} {t u : TS} {D : Ends} {Φ Ψ : Dt → Prop} {j : Nat} {xs ys ds ks : List Dt} {S S1 S2 : Sta} {w : World} {tw : TS}
end
/-! ### keys by a code of their own -/
section
variable {κ α : Type} [DecidableEq κ]
structure Enc (enc : κ → Dt) : Prop where
  inj : ∀ a b, nk (enc a) = nk (enc b) → a = b
  ky : ∀ a, kyT (enc a) = true
def lkG : List κ → List α → κ → Option α
  | k :: ks, x :: xs, q => if k = q then some x else lkG ks xs q
  | _, _, _ => none
def keyG (ks : List κ) (q : κ) : List κ := if q ∈ ks then ks else ks ++ [q]
def setG : List κ → List α → κ → α → List α
  | k :: ks, x :: xs, q, y => if k = q then y :: xs else x :: setG ks xs q y
  | _, xs, _, y => xs ++ [y]
variable {enc : κ → Dt} {f : α → Dt}
theorem keyG_nodup {ks : List κ} {i : κ} (h : ks.Nodup) : (keyG ks i).Nodup := by
  unfold keyG
  split
  · exact h
  · rename_i m
    refine List.nodup_append.mpr ⟨h, by simp, fun a ha b hb => ?_⟩
    rw [List.mem_singleton.mp hb]
    exact fun z => m (z ▸ ha)
theorem mem_keyG {ks : List κ} {i j : κ} : j ∈ keyG ks i ↔ j ∈ ks ∨ j = i := by
  unfold keyG
  by_cases m : i ∈ ks
  · rw [if_pos m]
    exact ⟨.inl, fun h => h.elim id fun e => e ▸ m⟩
  · rw [if_neg m]
    simp
theorem setG_len {q : κ} {y : α} : ∀ {ks : List κ} {xs : List α}, ks.length = xs.length → (keyG ks q).length = (setG ks xs q y).length
  | [], [], _ => by simp [keyG, setG]
  | [], _ :: _, h => by simp at h
  | _ :: _, [], h => by simp at h
  | k :: ks, x :: xs, h => by
    have ih := setG_len (q := q) (y := y) (ks := ks) (xs := xs) (by simpa using h)
    unfold keyG at ih ⊢
    by_cases e : k = q
    · subst e
      simp only [setG, if_true, List.mem_cons, true_or]
      simpa using h
    · simp only [setG, if_neg e, List.length_cons, ← ih]
      have e' : ¬ q = k := fun z => e z.symm
      simp only [List.mem_cons, e', false_or]
      split <;> simp
theorem lkG_set {q j : κ} {y : α} : ∀ {ks : List κ} {xs : List α}, ks.length = xs.length → lkG (keyG ks q) (setG ks xs q y) j = if j = q then some y else lkG ks xs j
  | [], [], _ => by
    simp only [keyG, List.not_mem_nil, if_false, List.nil_append, setG, lkG]
    by_cases e : q = j
    · simp [e]
    · have : ¬ j = q := fun z => e z.symm
      simp [e, this]
  | [], _ :: _, h => by simp at h
  | _ :: _, [], h => by simp at h
  | k :: ks, x :: xs, h => by
    have hl : ks.length = xs.length := by simpa using h
    by_cases e : k = q
    · subst e
      have : keyG (k :: ks) k = k :: ks := by simp [keyG]
      rw [this]
      simp only [setG, if_true, lkG]
      by_cases z : k = j
      · simp [z]
      · have : ¬ j = k := fun q => z q.symm
        simp [z, this]
    · have hk : keyG (k :: ks) q = k :: keyG ks q := by
        unfold keyG
        by_cases m : q ∈ ks
        · simp [m]
        · have : ¬ q = k := fun z => e z.symm
          simp [m, this]
      rw [hk]
      simp only [setG, if_neg e, lkG]
      by_cases z : k = j
      · subst z
        simp [e]
      · rw [if_neg z, if_neg z, lkG_set hl]
theorem lkG_none {q : κ} : ∀ {ks : List κ} {xs : List α}, ks.length = xs.length → (lkG ks xs q = none ↔ q ∉ ks)
  | [], _, _ => by simp [lkG]
  | _ :: _, [], h => by simp at h
  | k :: ks, x :: xs, h => by
    by_cases e : k = q
    · simp [lkG, e]
    · have := lkG_none (q := q) (show ks.length = xs.length by simpa using h)
      simp only [lkG, if_neg e, this, List.mem_cons, not_or]
      exact ⟨fun h => ⟨fun z => e z.symm, h⟩, fun h => h.2⟩
end
end Bf
namespace Bf
/-! ## A search by length: what leads on, the first way to something wrong -/
section
variable {κ μ : Type} [DecidableEq κ]
/-- what leads on from a place: a move, where to, whether this is wrong -/
abbrev Mv (κ μ : Type) := μ × κ × Bool
variable (mv : κ → List (Mv κ μ))
abbrev Pt (κ μ : Type) := List μ × κ
def exT (x : Pt κ μ) : List (Pt κ μ) := ((mv x.2).filter fun m => !m.2.2).map fun m => (x.1 ++ [m.1], m.2.1)
def wrT (x : Pt κ μ) : List (List μ) := ((mv x.2).filter fun m => m.2.2).map fun m => x.1 ++ [m.1]
/-- all ways of so many moves, none of them wrong -/
def paths (b : κ) : Nat → List (Pt κ μ)
  | 0 => [([], b)]
  | k + 1 => (paths b k).flatMap (exT mv)
def wrongs (b : κ) (k : Nat) : List (List μ) := (paths mv b k).flatMap (wrT mv)
/-- one of each new place -/
def pst (s : List κ × List (Pt κ μ)) (x : Pt κ μ) : List κ × List (Pt κ μ) := if x.2 ∈ s.1 then s else (s.1 ++ [x.2], s.2 ++ [x])
def prn (V : List κ) (xs : List (Pt κ μ)) : List κ × List (Pt κ μ) := xs.foldl pst (V, [])
/-- the search as far as k: V was visited ahead of it, W is visited now, R are the ways that go on -/
structure Sch (b : κ) (k : Nat) (W : List κ) (R : List (Pt κ μ)) : Prop where
  ex : ∃ V, R = (prn V (paths mv b k)).2 ∧ W = (prn V (paths mv b k)).1 ∧ (∀ p ∈ V, ∀ m ∈ mv p, m.2.2 = false → m.2.1 ∈ W) ∧ ∀ p ∈ V, ∀ m ∈ mv p, m.2.2 = false
  no : ∀ j, j < k → wrongs mv b j = []
  nd : W.Nodup
end
/-- as many as there are numbers for them -/
theorem nodup_lt : ∀ (N : Nat) (l : List Nat), l.Nodup → (∀ x ∈ l, x < N) → l.length ≤ N
  | 0, l, _, h => by
    cases l with
    | nil => exact Nat.le_refl _
    | cons x l => exact absurd (h x List.mem_cons_self) (Nat.not_lt_zero x)
  | N + 1, l, hn, h => by
    have h1 := nodup_lt N (l.filter fun x => decide (x ≠ N)) (hn.filter _) fun x hx => by
      obtain ⟨a, b⟩ := List.mem_filter.mp hx
      have := h x a
      have := of_decide_eq_true b
      omega
    have h2 : (l.filter fun x => !decide (x ≠ N)).length ≤ 1 := by
      have hs : ∀ x ∈ l.filter (fun x => !decide (x ≠ N)), x = N := fun x hx => by simpa using (List.mem_filter.mp hx).2
      have hd := hn.filter (fun x => !decide (x ≠ N))
      match e : l.filter (fun x => !decide (x ≠ N)) with
      | [] => simp
      | [_] => simp
      | a :: c :: r =>
        rw [e] at hs hd
        have e1 := hs a (by simp)
        have e2 := hs c (by simp)
        simp [e1, e2] at hd
    have h3 : l.length = (l.filter fun x => decide (x ≠ N)).length + (l.filter fun x => !decide (x ≠ N)).length := by
      clear h1 h2 h hn
      induction l with
      | nil => rfl
      | cons x l ih =>
        by_cases c : x = N
        · simp [c] at ih ⊢; omega
        · simp [c] at ih ⊢; omega
    omega
end Bf
namespace Bf
/-! ## The least of the greatest needs on all ways: what a search with one dict a round comes to -/
/-- a total order, told by what is less -/
structure TotLt {Q : Type} (lt : Q → Q → Bool) : Prop where
  irr : ∀ a, lt a a = false
  tr : ∀ a b c, lt a b = true → lt b c = true → lt a c = true
  tot : ∀ a b, lt a b = false → lt b a = false → a = b
section
variable {κ Q : Type} [DecidableEq κ] {lt : Q → Q → Bool} (T : TotLt lt) (mv : κ → List (Q × κ)) (fin : κ → Bool) (sts : List κ) (q0 : Q)
theorem TotLt.asy {lt : Q → Q → Bool} (T : TotLt lt) {a b : Q} (h : lt a b = true) : lt b a = false := by
  cases e : lt b a with
  | false => rfl
  | true =>
    have := T.tr _ _ _ h e
    rw [T.irr] at this
    cases this
/-- not less: ≤ the other way round -/
theorem TotLt.le_tr {lt : Q → Q → Bool} (T : TotLt lt) {a b c : Q} (h1 : lt b a = false) (h2 : lt c b = false) : lt c a = false := by
  cases e : lt c a with
  | false => rfl
  | true =>
    cases e2 : lt a b with
    | true => rw [T.tr _ _ _ e e2] at h2; cases h2
    | false =>
      have := T.tot _ _ e2 h1
      subst this
      rw [e] at h2
      cases h2
/-- the greater one of a need and what was needed before -/
def gre (lt : Q → Q → Bool) (need r : Q) : Q := if lt r need = true then need else r
/-- a way of so many moves to a place, with the greatest need on it -/
def Pth : Nat → κ → Q → Prop
  | 0, s, q => s ∈ sts ∧ q = q0
  | k + 1, s, q => ∃ p r n, Pth k p r ∧ (n, s) ∈ mv p ∧ q = gre lt n r
/-- the dict of a round: its places, each with a need -/
abbrev Rd (κ Q : Type) := List (κ × Q)
def lkR : Rd κ Q → κ → Option Q
  | [], _ => none
  | (k, q) :: d, s => if k = s then some q else lkR d s
def putR (lt : Q → Q → Bool) (d : Rd κ Q) (s : κ) (g : Q) : Rd κ Q := match lkR d s with
  | none => d ++ [(s, g)]
  | some q => if lt g q = true then d.map fun x => if x.1 = s then (s, g) else x else d
theorem lkR_app (d : Rd κ Q) (s t : κ) (g : Q) : lkR (d ++ [(s, g)]) t = (lkR d t).orElse fun _ => if s = t then some g else none := by
  induction d with
  | nil => rfl
  | cons x d ih =>
    obtain ⟨k, q⟩ := x
    show (if k = t then some q else lkR (d ++ [(s, g)]) t) = (if k = t then some q else lkR d t).orElse _
    by_cases e : k = t
    · rw [if_pos e, if_pos e]; rfl
    · rw [if_neg e, if_neg e, ih]
theorem lkR_map (d : Rd κ Q) (s t : κ) (g : Q) : lkR (d.map fun x => if x.1 = s then (s, g) else x) t = (lkR d t).map fun q => if s = t then g else q := by
  induction d with
  | nil => rfl
  | cons x d ih =>
    obtain ⟨k, q⟩ := x
    rw [List.map_cons]
    by_cases e : k = s
    · subst e
      rw [if_pos rfl]
      show (if k = t then some g else lkR _ t) = (if k = t then some q else lkR d t).map _
      by_cases e2 : k = t
      · rw [if_pos e2, if_pos e2, Option.map_some, if_pos e2]
      · rw [if_neg e2, if_neg e2, ih]
    · rw [if_neg e]
      show (if k = t then some q else lkR _ t) = (if k = t then some q else lkR d t).map _
      by_cases e2 : k = t
      · rw [if_pos e2, if_pos e2, Option.map_some, if_neg (fun z => e (e2.trans z.symm))]
      · rw [if_neg e2, if_neg e2, ih]
/-- the dict keeps the least -/
theorem lkR_put (d : Rd κ Q) (s t : κ) (g : Q) : lkR (putR lt d s g) t = if s = t then (match lkR d t with | none => some g | some q => some (if lt g q = true then g else q)) else lkR d t := by
  unfold putR
  by_cases e : s = t
  · subst e
    rw [if_pos rfl]
    cases h : lkR d s with
    | none => rw [lkR_app, h, if_pos rfl]; rfl
    | some q =>
      show lkR (if lt g q = true then d.map fun x => if x.1 = s then (s, g) else x else d) s = some (if lt g q = true then g else q)
      by_cases c : lt g q = true
      · rw [if_pos c, if_pos c, lkR_map, h, Option.map_some, if_pos rfl]
      · rw [if_neg c, if_neg c, h]
  · rw [if_neg e]
    cases h : lkR d s with
    | none =>
      show lkR (d ++ [(s, g)]) t = _
      rw [lkR_app, if_neg e]
      cases lkR d t <;> rfl
    | some q =>
      show lkR (if lt g q = true then d.map fun x => if x.1 = s then (s, g) else x else d) t = _
      by_cases c : lt g q = true
      · rw [if_pos c, lkR_map]
        cases lkR d t with
        | none => rfl
        | some r => rw [Option.map_some, if_neg e]
      · rw [if_neg c]
/-- what a dict says is the least of what is told of a place -/
def LeastR (lt : Q → Q → Bool) (S : κ → Q → Prop) (d : Rd κ Q) : Prop := ∀ s, match lkR d s with
  | none => ∀ q, ¬ S s q
  | some q => S s q ∧ ∀ r, S s r → lt r q = false
theorem LeastR.put {S : κ → Q → Prop} {d : Rd κ Q} (T : TotLt lt) (h : LeastR lt S d) (s : κ) (g : Q) : LeastR lt (fun t q => S t q ∨ (t = s ∧ q = g)) (putR lt d s g) := by
  intro t
  rw [lkR_put]
  have ht := h t
  by_cases e : s = t
  · subst e
    rw [if_pos rfl]
    cases c : lkR d s with
    | none =>
      rw [c] at ht
      exact ⟨.inr ⟨rfl, rfl⟩, fun r hr => by
        rcases hr with hr | ⟨_, rfl⟩
        · exact absurd hr (ht r)
        · exact T.irr r⟩
    | some q =>
      rw [c] at ht
      obtain ⟨h1, h2⟩ := ht
      show (_ ∧ _)
      by_cases z : lt g q = true
      · rw [if_pos z]
        exact ⟨.inr ⟨rfl, rfl⟩, fun r hr => by
          rcases hr with hr | ⟨_, rfl⟩
          · exact T.le_tr (T.asy z) (h2 r hr)
          · exact T.irr r⟩
      · rw [if_neg z]
        exact ⟨.inl h1, fun r hr => by
          rcases hr with hr | ⟨_, rfl⟩
          · exact h2 r hr
          · exact Bool.eq_false_iff.mpr z⟩
  · rw [if_neg e]
    cases c : lkR d t with
    | none =>
      rw [c] at ht
      exact fun q hq => hq.elim (ht q) fun ⟨z, _⟩ => e z.symm
    | some q =>
      rw [c] at ht
      exact ⟨.inl ht.1, fun r hr => hr.elim (ht.2 r) fun ⟨z, _⟩ => absurd z.symm e⟩
theorem LeastR.to {S S' : κ → Q → Prop} {d : Rd κ Q} (h : LeastR lt S d) (e : ∀ s q, S s q ↔ S' s q) : LeastR lt S' d := fun s => by
  have hs := h s
  cases c : lkR d s with
  | none => rw [c] at hs; exact fun q hq => hs q ((e s q).mpr hq)
  | some q => rw [c] at hs; exact ⟨(e s q).mp hs.1, fun r hr => hs.2 r ((e s r).mpr hr)⟩
theorem lkR_none : ∀ {d : Rd κ Q} {s : κ}, lkR d s = none → s ∉ d.map (·.1)
  | [], _, _ => by simp
  | (k, r) :: d, s, h => by
    by_cases e : k = s
    · rw [show lkR ((k, r) :: d) s = some r from if_pos e] at h; cases h
    · rw [show lkR ((k, r) :: d) s = lkR d s from if_neg e] at h
      rw [List.map_cons, List.mem_cons, not_or]
      exact ⟨fun z => e z.symm, lkR_none h⟩
theorem nodup_put {d : Rd κ Q} (h : (d.map (·.1)).Nodup) (s : κ) (g : Q) : ((putR lt d s g).map (·.1)).Nodup := by
  unfold putR
  cases c : lkR d s with
  | none =>
    show ((d ++ [(s, g)]).map (·.1)).Nodup
    rw [List.map_append]
    refine List.nodup_append.mpr ⟨h, by simp, fun a ha b hb e => ?_⟩
    rw [show b = s from List.mem_singleton.mp hb] at e
    exact lkR_none c (e ▸ ha)
  | some q =>
    show ((if lt g q = true then d.map fun x => if x.1 = s then (s, g) else x else d).map (·.1)).Nodup
    by_cases z : lt g q = true
    · rw [if_pos z, List.map_map]
      have : ((fun x : κ × Q => x.1) ∘ fun x : κ × Q => if x.1 = s then (s, g) else x) = fun x => x.1 := by
        funext x
        show (if x.1 = s then (s, g) else x).1 = x.1
        by_cases e : x.1 = s
        · rw [if_pos e, e]
        · rw [if_neg e]
      rw [this]
      exact h
    · rw [if_neg z]; exact h
/-- as far as some round -/
def LimTo (K : Nat) : Option Q → Prop
  | none => ∀ k s q, k < K → Pth mv sts q0 (lt := lt) k s q → fin s = false
  | some q => (∃ k s, k < K ∧ Pth mv sts q0 (lt := lt) k s q ∧ fin s = true) ∧ ∀ k s r, k < K → Pth mv sts q0 (lt := lt) k s r → fin s = true → lt r q = false
/-! ### the loop -/
structure LimI (lt : Q → Q → Bool) (K : Nat) (l : Option Q) (d : Rd κ Q) : Prop where
  to : LimTo mv fin sts q0 (lt := lt) K l
  le : LeastR lt (Pth mv sts q0 (lt := lt) K) d
  nd : (d.map (·.1)).Nodup
end
/-! ### two such searches side by side -/
section
variable {κ κ' Q : Type} {lt : Q → Q → Bool} {mvA : κ → List (Q × κ)} {mvB : κ' → List (Q × κ')} {finA : κ → Bool} {finB : κ' → Bool} {stA : List κ} {stB : List κ'} {q0 : Q}
/-- what the second one can, the first one can too, at no greater need -/
structure Half (R : κ → κ' → Prop) (lt : Q → Q → Bool) (mvA : κ → List (Q × κ)) (mvB : κ' → List (Q × κ')) (finA : κ → Bool) (finB : κ' → Bool) (stA : List κ) (stB : List κ') : Prop where
  st : ∀ b ∈ stB, ∃ a ∈ stA, R a b
  mv : ∀ a b, R a b → ∀ m ∈ mvB b, ∃ n ∈ mvA a, n.1 = m.1 ∧ R n.2 m.2
  fin : ∀ a b, R a b → finB b = true → finA a = true
theorem Half.pth {R : κ → κ' → Prop} (h : Half R lt mvA mvB finA finB stA stB) : ∀ {k : Nat} {b : κ'} {q : Q}, Pth mvB stB q0 (lt := lt) k b q → ∃ a, Pth mvA stA q0 (lt := lt) k a q ∧ R a b
  | 0, b, q, ⟨hb, e⟩ => by
    obtain ⟨a, ha, hr⟩ := h.st b hb
    exact ⟨a, ⟨ha, e⟩, hr⟩
  | k + 1, b, q, ⟨p, r, n, hp, hm, e⟩ => by
    obtain ⟨a, ha, hr⟩ := h.pth hp
    obtain ⟨m, hm', e1, hr'⟩ := h.mv a p hr _ hm
    exact ⟨m.2, ⟨a, r, m.1, ha, hm', by rw [e1]; exact e⟩, hr'⟩
end
end Bf
namespace Bf
open PySem PySem.Spec PyProof.Rows L2
/-! ## Stands of a receiver, and what leads on from them -/
instance : DecidableEq Site := fun x y => decidable_of_iff (x.k = y.k ∧ x.rest = y.rest ∧ x.o = y.o) (by cases x; cases y; simp)
/-- a step: the bit that is settled, the duration, the place behind -/
abbrev Stp := Option Int × Int × Site
def stepOf (x : Option Int) (s : Site) : Stp := (x, s.rest.headD 0, ⟨s.k, s.rest.tail, s.o⟩)
def stepsS (T : Tab) (s : Site) : List Stp := if decide (s.k = T.b) && decide (s.rest = []) then [] else if s.rest ≠ [] then [stepOf none s] else [stepOf (some 0) (T.sett s 0), stepOf (some 1) (T.sett s 1)]
structure Stn where
  ix : Nat
  lw : Nat
  le : Bool
  a : Site
  b : Site
deriving DecidableEq
def Stn.d (s : Stn) : Dt := .tup [.int s.ix, .int s.lw, .bl s.le, s.a.d, s.b.d]
abbrev Rcv := List (Tab × Fq)
def tabAt (rc : Rcv) (i : Nat) : Tab := match rc[i]? with
  | some x => x.1
  | none => .ha 1 1
def tolAt (rc : Rcv) (i : Nat) : Fq := match rc[i]? with
  | some x => x.2
  | none => (0, 1)
/-- the bit of the other one is the same, or less -/
def bitLe (le : Bool) (x y : Option Int) : Bool := le || decide (y = x) || (match x, y with
  | some a, some b => decide (b < a)
  | _, _ => false)
def ledN (s : Stn) (x y : Stp) : Stn := ⟨s.ix, s.lw, s.le || !decide (y.1 = x.1), x.2.2, y.2.2⟩
def mv3 (rc : Rcv) (s : Stn) : List (Fq × Stn × Stp × Stp) := (stepsS (tabAt rc s.ix) s.a).flatMap fun x => ((stepsS (tabAt rc s.lw) s.b).filter fun y => bitLe s.le x.1 y.1).map fun y => (canP (needP x.2.1 y.2.1 (tolAt rc s.lw)), ledN s x y, x, y)
def mvN (rc : Rcv) (s : Stn) : List (Fq × Stn) := (mv3 rc s).map fun m => (m.1, m.2.1)
def finN (rc : Rcv) (s : Stn) : Bool := s.le && (stepsS (tabAt rc s.ix) s.a).isEmpty && (stepsS (tabAt rc s.lw) s.b).isEmpty
def stsN (rc : Rcv) : List Stn := (List.range rc.length).flatMap fun i => (List.range (i + 1)).map fun j => ⟨i, j, decide (j < i), (tabAt rc i).beg, (tabAt rc j).beg⟩
/-! ### there are few moves: each reads a duration -/
def mesS (T : Tab) (s : Site) : Nat := s.rest.length + 3 * (T.b - s.k).toNat
theorem sett_k (T : Tab) (s : Site) (bit : Int) : (T.sett s bit).k = s.k + 1 := by cases T <;> rfl
theorem step_less {T : Tab} {s : Site} {x : Stp} (hk : s.k ≤ T.b) (h : x ∈ stepsS T s) : x.2.2.k ≤ T.b ∧ mesS T x.2.2 < mesS T s := by
  unfold stepsS at h
  by_cases e : (decide (s.k = T.b) && decide (s.rest = [])) = true
  · rw [if_pos e] at h; cases h
  · rw [if_neg e] at h
    by_cases r : s.rest ≠ []
    · rw [if_pos r] at h
      rw [List.mem_singleton.mp h]
      refine ⟨hk, ?_⟩
      show s.rest.tail.length + 3 * (T.b - s.k).toNat < s.rest.length + 3 * (T.b - s.k).toNat
      have : 0 < s.rest.length := List.length_pos_iff.mpr r
      rw [List.length_tail]
      omega
    · rw [if_neg r] at h
      have r' : s.rest = [] := Classical.byContradiction r
      have hlt : s.k < T.b := by
        rcases Int.lt_or_eq_of_le hk with z | z
        · exact z
        · rw [decide_eq_true z, decide_eq_true r'] at e
          exact absurd rfl e
      have key : ∀ bit, (stepOf (some bit) (T.sett s bit)).2.2.k ≤ T.b ∧ mesS T (stepOf (some bit) (T.sett s bit)).2.2 < mesS T s := fun bit => by
        have h1 := (part_len (T := T) (o := s.o) (bit := bit) (l := decide (s.k + 1 = T.b))).2
        rw [← sett_rest] at h1
        have h0 := List.length_pos_iff.mpr (sett_ne T s bit)
        refine ⟨by show (T.sett s bit).k ≤ T.b; rw [sett_k]; omega, ?_⟩
        show (T.sett s bit).rest.tail.length + 3 * (T.b - (T.sett s bit).k).toNat < s.rest.length + 3 * (T.b - s.k).toNat
        rw [sett_k, List.length_tail, r']
        show _ < 0 + _
        omega
      rcases List.mem_cons.mp h with rfl | h
      · exact key 0
      · rw [List.mem_singleton.mp h]; exact key 1
/-! ### all durations multiplied -/
def Tab.mul (g : Int) : Tab → Tab
  | .ha u b => .ha (u * g) b
  | .pa h z1 z2 o1 o2 s b => .pa (h.map (· * g)) (z1 * g) (z2 * g) (o1 * g) (o2 * g) (s * g) b
def Site.mul (g : Int) (s : Site) : Site := ⟨s.k, s.rest.map (· * g), s.o⟩
def Stn.mul (g : Int) (s : Stn) : Stn := ⟨s.ix, s.lw, s.le, s.a.mul g, s.b.mul g⟩
def inR (rc : Rcv) (s : Stn) : Prop := s.ix < rc.length ∧ s.lw < rc.length
theorem inR_sts {rc : Rcv} {s : Stn} (h : s ∈ stsN rc) : inR rc s := by
  obtain ⟨i, hi, h⟩ := List.mem_flatMap.mp h
  obtain ⟨j, hj, rfl⟩ := List.mem_map.mp h
  have := List.mem_range.mp hi
  have := List.mem_range.mp hj
  exact ⟨by assumption, by show j < rc.length; omega⟩
end Bf
namespace Bf
open PySem PySem.Spec PyProof.Rows L2
/-! ## Frames bit by bit -/
/-! ### legs -/
/-! ### the least of some offers, by key -/
/-! ### how far off -/
theorem le_tr {a b c : Fq} (ha : okQ a) (hb : okQ b) (hc : okQ c) (h1 : lessP b a = false) (h2 : lessP c b = false) : lessP c a = false := by
  cases e : lessP c a with
  | false => rfl
  | true =>
    have := less_trans (a := c) (b := a) (c := b) hc ha hb e h1
    rw [h2] at this
    cases this
end Bf
namespace Bf
open PySem PySem.Spec PyProof.Rows L2
/-! ## tuples of ints by their order -/
def ltB : List Int → List Int → Bool
  | [], [] => false
  | [], _ :: _ => true
  | _ :: _, [] => false
  | x :: xs, y :: ys => if x = y then ltB xs ys else decide (x < y)
section
variable {K : PySem.W.Frag} {mg : Str → Option Value} {Hb Fb : Hp} {C fI pN gN pD gD : Addr} {L : List Addr} {S S1 S2 : Sta} {ρ : List (Option Dt)} {P : Pm} {te ta tb : TE} {tas : TA} {t : TS} {ds : List Dt} {d : Dt} {j : Nat}
/-! ### greatest_off from an index on -/
end
end Bf
namespace Bf
open PySem PySem.Spec PyProof.Rows L2
/-! ## legs_of -/
theorem dur_okS {x : Int} (h : dur x) : okS x := ⟨h.1, Int.le_trans h.2 (by decide)⟩
theorem part_okS {T : Tab} (hT : T.ok) {o : Str} {bit : Int} {l : Bool} : ∀ x ∈ T.part o bit l, okS x := by
  cases T with
  | ha u b =>
    have hu := hT.1
    have h1 : okS u := dur_okS hu
    have h2 : okS (2 * u) := ⟨by have := hu.1; omega, by have := hu.2; omega⟩
    intro x hx
    simp only [Tab.part, haS, haP] at hx
    repeat' split at hx
    all_goals simp only [List.cons_append, List.nil_append, List.mem_cons, List.not_mem_nil, or_false] at hx
    all_goals first | (rcases hx with rfl | rfl | rfl <;> first | exact h1 | exact h2) | (rcases hx with rfl | rfl <;> first | exact h1 | exact h2) | (subst hx; first | exact h1 | exact h2)
  | pa h z1 z2 o1 o2 st b =>
    intro x hx
    simp only [Tab.part] at hx
    rcases List.mem_append.mp hx with hx | hx
    · split at hx <;> simp only [List.mem_cons, List.not_mem_nil, or_false] at hx <;> rcases hx with rfl | rfl
      · exact dur_okS hT.2.2.2.2.1
      · exact dur_okS hT.2.2.2.2.2.1
      · exact dur_okS hT.2.2.1
      · exact dur_okS hT.2.2.2.1
    · split at hx
      · obtain rfl := List.mem_singleton.mp hx
        exact dur_okS hT.2.2.2.2.2.2.2.1
      · cases hx
section
variable {K : PySem.W.Frag} {Hb Fb : Hp} {C : Addr} {L : List Addr} {S : Sta} {ρ : List (Option Dt)} {P : Pm} {te ta tb : TE} {t : TS} {ds : List Dt} {d : Dt} {j : Nat} {T : Tab} {size : Nat}
end
end Bf
namespace Bf
open PySem PySem.Spec PyProof.Rows L2
/-! ## the order of words -/
theorem ltB_app : ∀ {w w' : List Int} {xs ys : List Int}, w.length = w'.length → ltB (w ++ xs) (w' ++ ys) = if w = w' then ltB xs ys else ltB w w'
  | [], [], _, _, _ => by simp
  | [], _ :: _, _, _, h => by simp at h
  | _ :: _, [], _, _, h => by simp at h
  | a :: w, b :: w', xs, ys, h => by
    have ih := ltB_app (w := w) (w' := w') (xs := xs) (ys := ys) (by simpa using h)
    simp only [List.cons_append, ltB, ih]
    by_cases e : a = b
    · subst e
      simp
    · simp [e]
/-! ## equal fractions have the same lowest terms -/
theorem can_eq {a b : Fq} (ha : okQ a) (hb : okQ b) (h1 : lessP a b = false) (h2 : lessP b a = false) : canP a = canP b := by
  have e : a.1 * b.2 = b.1 * a.2 := by
    have := of_decide_eq_false h1
    have := of_decide_eq_false h2
    omega
  obtain ⟨a1, a2⟩ := a
  obtain ⟨b1, b2⟩ := b
  obtain ⟨p0, _, p1, _⟩ := ha
  obtain ⟨q0, _, q1, _⟩ := hb
  simp only at e p0 p1 q0 q1
  obtain ⟨m1, rfl⟩ := Int.eq_ofNat_of_zero_le p0
  obtain ⟨m2, rfl⟩ := Int.eq_ofNat_of_zero_le (show (0 : Int) ≤ a2 by omega)
  obtain ⟨n1, rfl⟩ := Int.eq_ofNat_of_zero_le q0
  obtain ⟨n2, rfl⟩ := Int.eq_ofNat_of_zero_le (show (0 : Int) ≤ b2 by omega)
  have en : m1 * n2 = n1 * m2 := by exact_mod_cast e
  have hm2 : 0 < m2 := by omega
  have hn2 : 0 < n2 := by omega
  have g1 : 0 < Nat.gcd m1 m2 := Nat.gcd_pos_of_pos_right _ hm2
  have g2 : 0 < Nat.gcd n1 n2 := Nat.gcd_pos_of_pos_right _ hn2
  obtain ⟨x1, hx1⟩ := Nat.gcd_dvd_left m1 m2
  obtain ⟨x2, hx2⟩ := Nat.gcd_dvd_right m1 m2
  obtain ⟨y1, hy1⟩ := Nat.gcd_dvd_left n1 n2
  obtain ⟨y2, hy2⟩ := Nat.gcd_dvd_right n1 n2
  have cx : Nat.Coprime x1 x2 := by
    have := Nat.coprime_div_gcd_div_gcd (m := m1) (n := m2) g1
    rwa [show m1 / Nat.gcd m1 m2 = x1 from Nat.div_eq_of_eq_mul_right g1 hx1, show m2 / Nat.gcd m1 m2 = x2 from Nat.div_eq_of_eq_mul_right g1 hx2] at this
  have cy : Nat.Coprime y1 y2 := by
    have := Nat.coprime_div_gcd_div_gcd (m := n1) (n := n2) g2
    rwa [show n1 / Nat.gcd n1 n2 = y1 from Nat.div_eq_of_eq_mul_right g2 hy1, show n2 / Nat.gcd n1 n2 = y2 from Nat.div_eq_of_eq_mul_right g2 hy2] at this
  have hx20 : 0 < x2 := by
    rcases Nat.eq_zero_or_pos x2 with z | z
    · rw [z, Nat.mul_zero] at hx2; omega
    · exact z
  have hy20 : 0 < y2 := by
    rcases Nat.eq_zero_or_pos y2 with z | z
    · rw [z, Nat.mul_zero] at hy2; omega
    · exact z
  have ee : x1 * y2 = y1 * x2 := by
    have : Nat.gcd m1 m2 * Nat.gcd n1 n2 * (x1 * y2) = Nat.gcd m1 m2 * Nat.gcd n1 n2 * (y1 * x2) := by
      calc Nat.gcd m1 m2 * Nat.gcd n1 n2 * (x1 * y2) = (Nat.gcd m1 m2 * x1) * (Nat.gcd n1 n2 * y2) := by ac_rfl
        _ = m1 * n2 := by rw [← hx1, ← hy2]
        _ = n1 * m2 := en
        _ = (Nat.gcd n1 n2 * y1) * (Nat.gcd m1 m2 * x2) := by rw [← hy1, ← hx2]
        _ = Nat.gcd m1 m2 * Nat.gcd n1 n2 * (y1 * x2) := by ac_rfl
    exact Nat.eq_of_mul_eq_mul_left (Nat.mul_pos g1 g2) this
  have d1 : x2 ∣ y2 := cx.symm.dvd_of_dvd_mul_left (by rw [ee]; exact Nat.dvd_mul_left _ _)
  have d2 : y2 ∣ x2 := cy.symm.dvd_of_dvd_mul_left (by rw [← ee]; exact Nat.dvd_mul_left _ _)
  have e2 : x2 = y2 := Nat.dvd_antisymm d1 d2
  have e1 : x1 = y1 := by
    rw [e2] at ee
    exact Nat.eq_of_mul_eq_mul_right hy20 ee
  have f1 : ((m1 : Int) / ((Nat.gcd m1 m2 : Nat) : Int)) = (x1 : Int) := by
    rw [← Int.natCast_ediv, Nat.div_eq_of_eq_mul_right g1 hx1]
  have f2 : ((m2 : Int) / ((Nat.gcd m1 m2 : Nat) : Int)) = (x2 : Int) := by
    rw [← Int.natCast_ediv, Nat.div_eq_of_eq_mul_right g1 hx2]
  have f3 : ((n1 : Int) / ((Nat.gcd n1 n2 : Nat) : Int)) = (y1 : Int) := by
    rw [← Int.natCast_ediv, Nat.div_eq_of_eq_mul_right g2 hy1]
  have f4 : ((n2 : Int) / ((Nat.gcd n1 n2 : Nat) : Int)) = (y2 : Int) := by
    rw [← Int.natCast_ediv, Nat.div_eq_of_eq_mul_right g2 hy2]
  unfold canP
  simp only [Int.natAbs_natCast]
  rw [f1, f2, f3, f4, e1, e2]
/-! ## what nearL tells -/
/-! ## the least tolerance, bit by bit -/
/-! ## the least word, bit by bit -/
end Bf
namespace Bf
/-! ## Fractions in lowest terms are in a total order -/
def okB (q : Fq) : Bool := decide (0 ≤ q.1) && decide (q.1 < 2 ^ 90) && decide (1 ≤ q.2) && decide (q.2 < 2 ^ 90) && decide (canP q = q)
theorem okB_iff {q : Fq} : okB q = true ↔ okQ q ∧ canP q = q := by
  unfold okB okQ
  simp only [Bool.and_eq_true, decide_eq_true_eq]
  constructor
  · rintro ⟨⟨⟨⟨a, b⟩, c⟩, d⟩, e⟩
    exact ⟨⟨a, b, c, d⟩, e⟩
  · rintro ⟨⟨a, b, c, d⟩, e⟩
    exact ⟨⟨⟨⟨a, b⟩, c⟩, d⟩, e⟩
def lexQ (a b : Fq) : Bool := decide (a.1 < b.1) || (decide (a.1 = b.1) && decide (a.2 < b.2))
/-- less, made total: what is no fraction in lowest terms comes behind -/
def ltQ (a b : Fq) : Bool := if okB a = true then (if okB b = true then lessP a b else true) else (if okB b = true then false else lexQ a b)
/-! ### more ways, or less needs: no greater limit -/
section
variable {κ κ' Q : Type} {lt : Q → Q → Bool} {mvA : κ → List (Q × κ)} {mvB : κ' → List (Q × κ')} {finA : κ → Bool} {finB : κ' → Bool} {stA : List κ} {stB : List κ'} {q0 : Q}
structure HalfLe (R : κ → κ' → Prop) (lt : Q → Q → Bool) (mvA : κ → List (Q × κ)) (mvB : κ' → List (Q × κ')) (finA : κ → Bool) (finB : κ' → Bool) (stA : List κ) (stB : List κ') : Prop where
  st : ∀ b ∈ stB, ∃ a ∈ stA, R a b
  mv : ∀ a b, R a b → ∀ m ∈ mvB b, ∃ n ∈ mvA a, lt m.1 n.1 = false ∧ R n.2 m.2
  fin : ∀ a b, R a b → finB b = true → finA a = true
theorem gre_both {lt : Q → Q → Bool} (T : TotLt lt) {n m a b : Q} (h1 : lt m n = false) (h2 : lt b a = false) : lt (gre lt m b) (gre lt n a) = false := by
  have e1 : lt b (gre lt m b) = false ∨ True := .inr trivial
  unfold gre
  by_cases c1 : lt b m = true
  · rw [if_pos c1]
    by_cases c2 : lt a n = true
    · rw [if_pos c2]; exact h1
    · rw [if_neg c2]; exact T.le_tr h2 (T.asy c1)
  · rw [if_neg c1]
    by_cases c2 : lt a n = true
    · rw [if_pos c2]; exact T.le_tr h1 (Bool.eq_false_iff.mpr c1)
    · rw [if_neg c2]; exact h2
theorem HalfLe.pth {R : κ → κ' → Prop} (T : TotLt lt) (h : HalfLe R lt mvA mvB finA finB stA stB) : ∀ {k : Nat} {b : κ'} {q : Q}, Pth mvB stB q0 (lt := lt) k b q → ∃ a r, Pth mvA stA q0 (lt := lt) k a r ∧ lt q r = false ∧ R a b
  | 0, b, q, ⟨hb, e⟩ => by
    obtain ⟨a, ha, hr⟩ := h.st b hb
    exact ⟨a, q, ⟨ha, e⟩, T.irr q, hr⟩
  | k + 1, b, q, ⟨p, r, n, hp, hm, e⟩ => by
    obtain ⟨a, r', ha, hle, hr⟩ := h.pth T hp
    obtain ⟨m, hm', e1, hr'⟩ := h.mv a p hr _ hm
    exact ⟨m.2, gre lt m.1 r', ⟨a, r', m.1, ha, hm', rfl⟩, by rw [e]; exact gre_both T e1 hle, hr'⟩
end
end Bf
namespace Bf
/-! ## With a greater tolerance the limit is no greater -/
theorem can_idem {p : Fq} (h : okQ p) : canP (canP p) = canP p := by
  have hs : lessP p p = false := by unfold lessP; exact decide_eq_false (by omega)
  exact can_eq (okQ_can h) h (by rw [less_canL h]; exact hs) (by rw [less_canR h]; exact hs)
theorem okB_can {p : Fq} (h : okQ p) : okB (canP p) = true := okB_iff.mpr ⟨okQ_can h, can_idem h⟩
theorem needP_1 {f p : Int} {t : Fq} : (needP f p t).1 = (if (0 : Int) < p * (t.2 - t.1) - f * t.2 then (p * (t.2 - t.1) - f * t.2 : Int) else if (0 : Int) < f * t.2 - p * (t.2 + t.1) then (f * t.2 - p * (t.2 + t.1) : Int) else 0) := rfl
theorem max3 (A B : Int) (h : 0 < A → B ≤ A) : A ≤ (if 0 < A then A else if 0 < B then B else 0) ∧ B ≤ (if 0 < A then A else if 0 < B then B else 0) ∧ 0 ≤ (if 0 < A then A else if 0 < B then B else 0) ∧ ((if 0 < A then A else if 0 < B then B else 0) = A ∨ (if 0 < A then A else if 0 < B then B else 0) = B ∨ (if 0 < A then A else if 0 < B then B else 0) = 0) := by
  by_cases a : 0 < A
  · rw [if_pos a]
    exact ⟨Int.le_refl A, h a, Int.le_of_lt a, .inl rfl⟩
  · rw [if_neg a]
    by_cases b : 0 < B
    · rw [if_pos b]
      exact ⟨by omega, Int.le_refl B, Int.le_of_lt b, .inr (.inl rfl)⟩
    · rw [if_neg b]
      exact ⟨by omega, by omega, Int.le_refl 0, .inr (.inr rfl)⟩
theorem need_max {f p : Int} {t : Fq} (hp : 0 ≤ p) (t0 : 0 ≤ t.1) : p * (t.2 - t.1) - f * t.2 ≤ (needP f p t).1 ∧ f * t.2 - p * (t.2 + t.1) ≤ (needP f p t).1 ∧ 0 ≤ (needP f p t).1 ∧ ((needP f p t).1 = p * (t.2 - t.1) - f * t.2 ∨ (needP f p t).1 = f * t.2 - p * (t.2 + t.1) ∨ (needP f p t).1 = 0) := by
  rw [needP_1]
  refine max3 _ _ fun h => ?_
  have hpp : p * (t.2 - t.1) ≤ p * (t.2 + t.1) := Int.mul_le_mul_of_nonneg_left (by omega) hp
  omega
theorem need_okQ {f p : Int} {t : Fq} (hf : okS f) (hp : okS p) (ht : okT t) : okQ (needP f p t) := by
  obtain ⟨f1, f2⟩ := hf
  obtain ⟨p1, p2⟩ := hp
  obtain ⟨t0, t1, t2⟩ := ht
  have a1 : 0 ≤ p * (t.2 - t.1) := Int.mul_nonneg (by omega) (by omega)
  have a2 : p * (t.2 - t.1) ≤ 2000000 * 1000 := Int.mul_le_mul p2 (by omega) (by omega) (by decide)
  have b1 : 0 ≤ p * (t.2 + t.1) := Int.mul_nonneg (by omega) (by omega)
  have c1 : 1 ≤ f * t.2 := by have := Int.mul_pos (show 0 < f by omega) (show 0 < t.2 by omega); omega
  have c2 : f * t.2 ≤ 2000000 * 1000 := Int.mul_le_mul f2 t2 (by omega) (by decide)
  have h90 : (2000000 * 1000 : Int) < 2 ^ 90 := by decide
  obtain ⟨_, _, m3, m4⟩ := need_max (f := f) (p := p) (t := t) (by omega) t0
  refine ⟨m3, ?_, c1, by show f * t.2 < 2 ^ 90; omega⟩
  rcases m4 with e | e | e <;> rw [e] <;> omega
/-! ### durations on the way -/
def siteR (s : Site) : Prop := ∀ x ∈ s.rest, okS x
theorem beg_R {T : Tab} (hT : T.ok) : siteR T.beg := by
  cases T with
  | ha u b =>
    intro x hx
    rw [show x = u from List.mem_singleton.mp hx]
    obtain ⟨h1, h2⟩ := hT.1
    exact ⟨h1, by omega⟩
  | pa h z1 z2 o1 o2 s b =>
    intro x hx
    obtain ⟨h1, h2⟩ := hT.2.1 x hx
    exact ⟨h1, by omega⟩
theorem step_R {T : Tab} {s : Site} {x : Stp} (hT : T.ok) (hs : siteR s) (h : x ∈ stepsS T s) : okS x.2.1 ∧ siteR x.2.2 := by
  have key : ∀ (b : Option Int) (s : Site), siteR s → s.rest ≠ [] → okS (stepOf b s).2.1 ∧ siteR (stepOf b s).2.2 := fun b s hs hr => by
    obtain ⟨k, r, o⟩ := s
    cases r with
    | nil => exact absurd rfl hr
    | cons y r => exact ⟨hs y List.mem_cons_self, fun z hz => hs z (List.mem_cons_of_mem _ hz)⟩
  have hset : ∀ bit, siteR (T.sett s bit) := fun bit z hz => by
    rw [sett_rest] at hz
    exact part_okS hT z hz
  unfold stepsS at h
  split at h
  · cases h
  · split at h
    · rename_i hr
      rw [List.mem_singleton.mp h]
      exact key _ s hs hr
    · rcases List.mem_cons.mp h with rfl | h
      · exact key _ _ (hset 0) (sett_ne T s 0)
      · rw [List.mem_singleton.mp h]; exact key _ _ (hset 1) (sett_ne T s 1)
def rcvOk (rc : Rcv) : Prop := ∀ x ∈ rc, x.1.ok ∧ okT x.2
theorem at_ok {rc : Rcv} (h : rcvOk rc) {i : Nat} (hi : i < rc.length) : (tabAt rc i).ok ∧ okT (tolAt rc i) := by
  unfold tabAt tolAt
  rw [List.getElem?_eq_getElem hi]
  exact h _ (List.getElem_mem hi)
def stnR (rc : Rcv) (s : Stn) : Prop := inR rc s ∧ siteR s.a ∧ siteR s.b
end Bf
namespace Bf
open PySem PySem.Spec PyProof.Rows L2
/-! ## How many stands there are -/
def restL : Tab → List (List Int)
  | .ha u _ => [[], [u], [u, u]]
  | .pa _ _ z2 _ o2 st _ => [[], [z2], [o2], [st], [z2, st], [o2, st]]
def oL : Tab → List Str
  | .ha _ _ => ["pulse", "gap"]
  | .pa .. => [""]
def begL (T : Tab) : List (List Int) := (List.range (T.beg.rest.length + 1)).map fun i => T.beg.rest.drop i
def siteL (T : Tab) : List Site := ((begL T).map fun r => ⟨0, r, T.beg.o⟩) ++ (List.range 8).flatMap fun k : Nat => (oL T).flatMap fun o => (restL T).map fun r => ⟨(k : Int) + 1, r, o⟩
theorem siteL_len {T : Tab} (hT : T.ok) : (siteL T).length ≤ 53 := by
  cases T with
  | ha u b => exact (by decide : (50 : Nat) ≤ 53)
  | pa h z1 z2 o1 o2 st b =>
    have hh : h.length ≤ 4 := by rcases hT.1 with e | e | e <;> omega
    unfold siteL begL
    rw [List.length_append, List.length_map, List.length_map, List.length_range]
    show h.length + 1 + 48 ≤ 53
    omega
theorem mem_late {T : Tab} {k : Nat} {r : List Int} {o : Str} (hk : k < 8) (ho : o ∈ oL T) (hr : r ∈ restL T) : (⟨(k : Int) + 1, r, o⟩ : Site) ∈ siteL T :=
  List.mem_append_right _ (List.mem_flatMap.mpr ⟨k, List.mem_range.mpr hk, List.mem_flatMap.mpr ⟨o, ho, List.mem_map.mpr ⟨r, hr, rfl⟩⟩⟩)
theorem beg_o (T : Tab) : T.beg.o ∈ oL T := by cases T <;> simp [Tab.beg, oL]
theorem mem_siteL {T : Tab} {s : Site} (h : s ∈ siteL T) : 0 ≤ s.k ∧ s.o ∈ oL T ∧ ((s.k = 0 ∧ ∃ i, s.rest = T.beg.rest.drop i ∧ s.o = T.beg.o) ∨ ∃ k : Nat, k < 8 ∧ s.k = (k : Int) + 1 ∧ s.rest ∈ restL T) := by
  rcases List.mem_append.mp h with h | h
  · obtain ⟨r, hr, rfl⟩ := List.mem_map.mp h
    obtain ⟨i, _, rfl⟩ := List.mem_map.mp hr
    exact ⟨Int.le_refl 0, beg_o T, .inl ⟨rfl, i, rfl, rfl⟩⟩
  · obtain ⟨k, hk, h⟩ := List.mem_flatMap.mp h
    obtain ⟨o, ho, h⟩ := List.mem_flatMap.mp h
    obtain ⟨r, hr, rfl⟩ := List.mem_map.mp h
    exact ⟨by show 0 ≤ (k : Int) + 1; omega, ho, .inr ⟨k, List.mem_range.mp hk, rfl, hr⟩⟩
theorem beg_L (T : Tab) : T.beg ∈ siteL T := by
  refine List.mem_append_left _ (List.mem_map.mpr ⟨T.beg.rest, List.mem_map.mpr ⟨0, List.mem_range.mpr (by omega), rfl⟩, ?_⟩)
  cases T <;> rfl
theorem tail_restL {T : Tab} {r : List Int} (h : r ∈ restL T) : r.tail ∈ restL T := by
  cases T with
  | ha u b =>
    simp only [restL, List.mem_cons, List.not_mem_nil, or_false] at h ⊢
    rcases h with rfl | rfl | rfl <;> simp
  | pa hd z1 z2 o1 o2 st b =>
    simp only [restL, List.mem_cons, List.not_mem_nil, or_false] at h ⊢
    rcases h with rfl | rfl | rfl | rfl | rfl | rfl <;> simp
theorem sett_L {T : Tab} {s : Site} (ho : s.o ∈ oL T) (bit : Int) : (T.sett s bit).rest.tail ∈ restL T ∧ (T.sett s bit).o ∈ oL T := by
  cases T with
  | ha u b =>
    have hp : ((haP u bit s.o).1 = [2 * u] ∨ (haP u bit s.o).1 = [u, u]) ∧ ((haP u bit s.o).2 = "pulse" ∨ (haP u bit s.o).2 = "gap") := by
      unfold haP
      split
      · refine ⟨.inl rfl, ?_⟩
        show ohS s.o = "pulse" ∨ ohS s.o = "gap"
        unfold ohS
        split
        · exact .inr rfl
        · exact .inl rfl
      · refine ⟨.inr rfl, ?_⟩
        simpa [oL] using ho
    have hs : ∀ l, (haS u bit s.o l).1.tail ∈ restL (.ha u b) ∧ (haS u bit s.o l).2 ∈ oL (.ha u b) := fun l => by
      unfold haS
      split
      · refine ⟨?_, by simp [oL]⟩
        show ((haP u bit s.o).1 ++ [u]).tail ∈ _
        rcases hp.1 with e | e <;> rw [e] <;> simp [restL]
      · refine ⟨?_, ?_⟩
        · rcases hp.1 with e | e <;> rw [e] <;> simp [restL]
        · simpa [oL] using hp.2
    exact hs _
  | pa hd z1 z2 o1 o2 st b =>
    refine ⟨?_, by simp [oL, Tab.sett]⟩
    show ((if bit = 1 then [o1, o2] else [z1, z2]) ++ (if decide (s.k + 1 = b) = true then [st] else [])).tail ∈ _
    split <;> split <;> simp [restL]
theorem step_L {T : Tab} (hT : T.ok) {s : Site} {x : Stp} (hs : s ∈ siteL T) (hk : s.k ≤ T.b) (h : x ∈ stepsS T s) : x.2.2 ∈ siteL T := by
  obtain ⟨k0, ho, hc⟩ := mem_siteL hs
  have hb := (Tab.b1 hT).2
  unfold stepsS at h
  by_cases e : (decide (s.k = T.b) && decide (s.rest = [])) = true
  · rw [if_pos e] at h; cases h
  · rw [if_neg e] at h
    by_cases r : s.rest ≠ []
    · rw [if_pos r] at h
      rw [List.mem_singleton.mp h]
      show (⟨s.k, s.rest.tail, s.o⟩ : Site) ∈ siteL T
      rcases hc with ⟨e0, i, er, eo⟩ | ⟨k, hk8, ek, hr⟩
      · rw [e0, er, eo, List.tail_drop]
        refine List.mem_append_left _ (List.mem_map.mpr ⟨_, List.mem_map.mpr ⟨i + 1, List.mem_range.mpr ?_, rfl⟩, rfl⟩)
        rw [er] at r
        have : i < T.beg.rest.length := by
          rcases Nat.lt_or_ge i T.beg.rest.length with z | z
          · exact z
          · exact absurd (List.drop_eq_nil_of_le z) r
        omega
      · rw [ek]
        exact mem_late hk8 ho (tail_restL hr)
    · rw [if_neg r] at h
      have r' : s.rest = [] := Classical.byContradiction r
      have hlt : s.k < T.b := by
        rcases Int.lt_or_eq_of_le hk with z | z
        · exact z
        · rw [decide_eq_true z, decide_eq_true r'] at e
          exact absurd rfl e
      have key : ∀ bit, (stepOf (some bit) (T.sett s bit)).2.2 ∈ siteL T := fun bit => by
        obtain ⟨h1, h2⟩ := sett_L (T := T) ho bit
        obtain ⟨k, ek⟩ := Int.eq_ofNat_of_zero_le k0
        show (⟨(T.sett s bit).k, (T.sett s bit).rest.tail, (T.sett s bit).o⟩ : Site) ∈ siteL T
        rw [sett_k, ek]
        exact mem_late (by omega) h2 h1
      rcases List.mem_cons.mp h with rfl | h
      · exact key 0
      · rw [List.mem_singleton.mp h]; exact key 1
/-- all stands that may be, for a receiver -/
def stnL (rc : Rcv) : List Stn := (List.range rc.length).flatMap fun i => (List.range rc.length).flatMap fun j => [false, true].flatMap fun l => (siteL (tabAt rc i)).flatMap fun a => (siteL (tabAt rc j)).map fun b => ⟨i, j, l, a, b⟩
def stnG (rc : Rcv) (s : Stn) : Prop := inR rc s ∧ s.a ∈ siteL (tabAt rc s.ix) ∧ s.a.k ≤ (tabAt rc s.ix).b ∧ s.b ∈ siteL (tabAt rc s.lw) ∧ s.b.k ≤ (tabAt rc s.lw).b
theorem stnG_L {rc : Rcv} {s : Stn} (h : stnG rc s) : s ∈ stnL rc := by
  obtain ⟨⟨h1, h2⟩, h3, _, h4, _⟩ := h
  exact List.mem_flatMap.mpr ⟨s.ix, List.mem_range.mpr h1, List.mem_flatMap.mpr ⟨s.lw, List.mem_range.mpr h2, List.mem_flatMap.mpr ⟨s.le, by cases s.le <;> simp, List.mem_flatMap.mpr ⟨s.a, h3, List.mem_map.mpr ⟨s.b, h4, rfl⟩⟩⟩⟩⟩
theorem stnG_mv {rc : Rcv} (hr : rcvOk rc) {s : Stn} (h : stnG rc s) {m : Fq × Stn} (hm : m ∈ mvN rc s) : stnG rc m.2 := by
  obtain ⟨hi, ha, hak, hb, hbk⟩ := h
  obtain ⟨m3, h3, rfl⟩ := List.mem_map.mp hm
  obtain ⟨x, hx, h3⟩ := List.mem_flatMap.mp h3
  obtain ⟨y, hy, rfl⟩ := List.mem_map.mp h3
  have hy := (List.mem_filter.mp hy).1
  exact ⟨hi, step_L (at_ok hr hi.1).1 ha hak hx, (step_less hak hx).1, step_L (at_ok hr hi.2).1 hb hbk hy, (step_less hbk hy).1⟩
theorem stnG_sts {rc : Rcv} (hr : rcvOk rc) {s : Stn} (h : s ∈ stsN rc) : stnG rc s := by
  have hi := inR_sts h
  obtain ⟨i, _, h⟩ := List.mem_flatMap.mp h
  obtain ⟨j, _, rfl⟩ := List.mem_map.mp h
  have hb : ∀ i, i < rc.length → (tabAt rc i).beg.k ≤ (tabAt rc i).b := fun i hi => by
    have := (Tab.b1 (at_ok hr hi).1).1
    have : (tabAt rc i).beg.k = 0 := by cases tabAt rc i <;> rfl
    omega
  exact ⟨hi, beg_L _, hb _ hi.1, beg_L _, hb _ hi.2⟩
theorem flat_le {α β : Type} {f : α → List β} {c : Nat} : ∀ {l : List α}, (∀ x ∈ l, (f x).length ≤ c) → (l.flatMap f).length ≤ l.length * c
  | [], _ => by simp
  | x :: l, h => by
    rw [List.flatMap_cons, List.length_append, List.length_cons, Nat.succ_mul]
    have := flat_le (l := l) fun y hy => h y (List.mem_cons_of_mem _ hy)
    have := h x List.mem_cons_self
    omega
theorem stnL_len {rc : Rcv} (hr : rcvOk rc) (hn : rc.length ≤ 4) : (stnL rc).length ≤ 89888 := by
  have h1 : ∀ i ∈ List.range rc.length, (siteL (tabAt rc i)).length ≤ 53 := fun i hi => siteL_len (at_ok hr (List.mem_range.mp hi)).1
  have h2 : (stnL rc).length ≤ rc.length * (rc.length * (2 * (53 * 53))) := by
    unfold stnL
    refine Nat.le_trans (flat_le (c := rc.length * (2 * (53 * 53))) fun i hi => ?_) (by rw [List.length_range]; exact Nat.le_refl _)
    refine Nat.le_trans (flat_le (c := 2 * (53 * 53)) fun j hj => ?_) (by rw [List.length_range]; exact Nat.le_refl _)
    refine Nat.le_trans (flat_le (c := 53 * 53) fun l _ => ?_) (Nat.le_refl _)
    refine Nat.le_trans (flat_le (c := 53) fun a _ => ?_) (Nat.mul_le_mul_right _ (h1 i hi))
    rw [List.length_map]
    exact h1 j hj
  have h3 : rc.length * (rc.length * (2 * (53 * 53))) ≤ 4 * (4 * (2 * (53 * 53))) := Nat.mul_le_mul hn (Nat.mul_le_mul hn (Nat.le_refl _))
  omega
/-- a list of such stands without any twice is short -/
theorem stands_short {rc : Rcv} (hr : rcvOk rc) (hn : rc.length ≤ 4) {W : List Stn} (hW : W.Nodup) (h : ∀ s ∈ W, stnG rc s) : W.length ≤ 89888 := by
  have : ∀ (W L : List Stn), W.Nodup → (∀ s ∈ W, s ∈ L) → W.length ≤ L.length := by
    intro W
    induction W with
    | nil => exact fun L _ _ => Nat.zero_le _
    | cons s W ih =>
      intro L hn hs
      obtain ⟨h1, h2⟩ := List.nodup_cons.mp hn
      have hm : s ∈ L := hs s List.mem_cons_self
      have h3 := ih (L.erase s) h2 fun t ht => by
        have : t ≠ s := fun z => h1 (z ▸ ht)
        exact (List.mem_erase_of_ne this).mpr (hs t (List.mem_cons_of_mem _ ht))
      have h4 := List.length_erase_of_mem hm
      have h5 := List.length_pos_of_mem hm
      rw [List.length_cons]
      omega
  exact Nat.le_trans (this W (stnL rc) hW fun s hs => stnG_L (h s hs)) (stnL_len hr hn)
end Bf
namespace Bf
open PySem PySem.Spec PyProof.Rows L2
/-! ## What holds on all ways of a receiver -/
theorem mv_ok {rc : Rcv} (hr : rcvOk rc) {s : Stn} (h : stnR rc s) {m : Fq × Stn} (hm : m ∈ mvN rc s) : okB m.1 = true ∧ stnR rc m.2 := by
  obtain ⟨hi, ha, hb⟩ := h
  obtain ⟨m3, h3, rfl⟩ := List.mem_map.mp hm
  obtain ⟨x, hx, h3⟩ := List.mem_flatMap.mp h3
  obtain ⟨y, hy, rfl⟩ := List.mem_map.mp h3
  have hy := (List.mem_filter.mp hy).1
  obtain ⟨x1, x2⟩ := step_R (at_ok hr hi.1).1 ha hx
  obtain ⟨y1, y2⟩ := step_R (at_ok hr hi.2).1 hb hy
  exact ⟨okB_can (need_okQ x1 y1 (at_ok hr hi.2).2), hi, x2, y2⟩
/-- no way has more than 28 moves -/
theorem mv_mes {rc : Rcv} {s : Stn} (h : stnG rc s) {m : Fq × Stn} (hm : m ∈ mvN rc s) : mesS (tabAt rc m.2.ix) m.2.a < mesS (tabAt rc s.ix) s.a := by
  obtain ⟨hi, ha, hak, hb, hbk⟩ := h
  obtain ⟨m3, h3, rfl⟩ := List.mem_map.mp hm
  obtain ⟨x, hx, h3⟩ := List.mem_flatMap.mp h3
  obtain ⟨y, hy, rfl⟩ := List.mem_map.mp h3
  exact (step_less hak hx).2
end Bf
namespace Bf
open PySem PySem.Spec PyProof.Rows L2
/-! ## Walks over one table: what is read, what is settled -/
def bitL : Option Int → List Int
  | none => []
  | some b => [b]
/-- from a place over these durations, with these bits settled, to a place -/
def Wlk (T : Tab) : Site → List Int → List Int → Site → Prop
  | s, [], ws, s' => ws = [] ∧ s' = s
  | s, f :: fs, ws, s' => ∃ x ∈ stepsS T s, x.2.1 = f ∧ ∃ ws', ws = bitL x.1 ++ ws' ∧ Wlk T x.2.2 fs ws' s'
end Bf
namespace Bf
open PySem PySem.Spec PyProof.Rows L2
/-! ## TwoW walks side by side -/
/-- the first list of bits is less: the same ahead, then 0 instead of 1 -/
def Lss (vs ws : List Int) : Prop := ∃ p a b, vs = p ++ 0 :: a ∧ ws = p ++ 1 :: b
theorem Lss.app {vs ws : List Int} (h : Lss vs ws) (xs ys : List Int) : Lss (vs ++ xs) (ws ++ ys) := by
  obtain ⟨p, a, b, rfl, rfl⟩ := h
  exact ⟨p, a ++ xs, b ++ ys, by simp, by simp⟩
/-- the greatest of the needs, one after the other -/
def mostN (t : Fq) (fs gs : List Int) : Fq := (fs.zip gs).foldl (fun q p => gre ltQ (canP (needP p.1 p.2 t)) q) (0, 1)
/-- a way is two walks -/
structure TwoW (rc : Rcv) (k : Nat) (s : Stn) (q : Fq) (fs gs ws vs : List Int) : Prop where
  inr : inR rc s
  le : s.lw ≤ s.ix
  fl : fs.length = k
  gl : gs.length = k
  a : Wlk (tabAt rc s.ix) (tabAt rc s.ix).beg fs ws s.a
  b : Wlk (tabAt rc s.lw) (tabAt rc s.lw).beg gs vs s.b
  q : q = mostN (tolAt rc s.lw) fs gs
  lt : s.lw < s.ix → s.le = true
  eq : s.lw = s.ix → s.le = false → ws = vs ∧ s.a = s.b
  ls : s.lw = s.ix → s.le = true → Lss vs ws
end Bf
namespace Bf
open PySem PySem.Spec PyProof.Rows L2
/-! ## Two walks are a way -/
theorem Lss.cons {b : Int} {vs ws : List Int} (h : Lss (b :: vs) (b :: ws)) : Lss vs ws := by
  obtain ⟨p, x, y, e1, e2⟩ := h
  cases p with
  | nil =>
    cases e1
    cases e2
  | cons z p =>
    cases e1
    cases e2
    exact ⟨p, x, y, rfl, rfl⟩
end Bf
namespace Bf
open PySem PySem.Spec PyProof.Rows L2
/-! ## The limit, by pairs of sendings -/
def isWrd (T : Tab) (v : List Int) : Prop := (v.length : Int) = T.b ∧ ∀ x ∈ v, x = 0 ∨ x = 1
/-- the sending (j, w) is ahead of (i, v), and their frames are as long -/
structure PairOk (rc : Rcv) (i j : Nat) (v w : List Int) : Prop where
  ir : i < rc.length
  le : j ≤ i
  vi : isWrd (tabAt rc i) v
  wj : isWrd (tabAt rc j) w
  len : ((tabAt rc i).frame v).length = ((tabAt rc j).frame w).length
  lt : j < i ∨ Lss w v
end Bf
namespace Bf
/-! ## The same fraction, however it is written -/
end Bf
namespace Bf
open PySem PySem.Spec PyProof.Rows L2
/-! ## The greatest need, as the law adds it up -/
def lawMost (t : Fq) (fs gs : List Int) : Fq := (fs.zip gs).foldl (fun q p => if lessP q (needP p.1 p.2 t) = true then needP p.1 p.2 t else q) (0, 1)
end Bf
namespace Bf
open PySem PySem.Spec PyProof.Rows L2
/-! ## Methods whose promises speak of data; a dict by a comprehension, its keys tuples; a dict's truth -/
section
variable {X : Cx} {k : Nat} {f C : Addr} {fd : FuncData} {ps : List Str} {sp : Sp} {dvs : List V} {ds : List Value} {E : XK} {m : Str} {pos apos : Pos} {e o : Expr} {es : List Expr} {ta : TE} {t : TA}
end
/-! the truth of a dict whose keys are tuples -/
section
variable {prog : Program} {w : World} {K : Type} [DecidableEq K] {knd : HeapKind prog w K} {A : Around} {E : Value → Shared → Prop} {s : Shared}
end
section
variable {X : Cx} {pins : List (Addr × Obj)} {σ : L2.St} {H : Hp} {s : Shared}
end
/-! {k: v for x in xs}, the keys tuples -/
section
variable {X : Cx}
end
end Bf
namespace Bf
open PySem PySem.Spec PyProof.Rows L2
/-! ## {x: c for x in xs} over data; the truth of a dict; methods of an instance whose cache grows -/
section
variable {K : PySem.W.Frag} {Hb Fb F F' H H' : Hp} {L L' : List Addr} {p : Addr} {o : HO} {v : V} {d x q : Dt} {σ : L2.St} {ρ : List (Option Dt)} {P : Pm} {te tl tk td ty tv : TE} {ta : TA} {tt c : TT} {t u : TS} {D : Ends} {Φ Ψ : Dt → Prop} {j : Nat} {xs ys ds ks keys : List Dt} {S S1 S2 : Sta} {w : World} {tw : TS}
end
end Bf
namespace Bf
open PySem PySem.Spec PyProof.Rows L2
/-! ## Promises of methods of an instance whose cache grows -/
/-- the instance stands in F, its dict in H holds what is right -/
def Cch (K : PySem.W.Frag) (F H : Hp) (C : Addr) (w : World) (p : Addr) (l1 l2 : List Dt) (v : V) : Prop := ∃ (a dx : Addr) (v1 v2 : V) (as : List Addr) (vs : List V) (ks ds : List Dt), v = .ref a ∧ F a = some (.ins C dx [("_steps", v1), ("_tolerances", v2), ("_needs", .ref p)]) ∧ Rep K F v1 (.lst l1) ∧ Rep K F v2 (.lst l2) ∧
  H p = some (DatO w ks as vs p) ∧ RepA K F (as.map V.ref) ks ∧ RepA K F vs ds ∧ ownOk l1 l2 ks ds
section
variable {K : PySem.W.Frag} {Hb Fb F F' H H' F1 F2 H1 H2 : Hp} {L L' : List Addr} {p C : Addr} {o : HO} {v v0 : V} {d x q : Dt} {σ : L2.St} {ρ : List (Option Dt)} {P : Pm} {te tl tk td ty tv : TE} {ta : TA} {tt c : TT} {t u : TS} {D : Ends} {Φ Ψ : Dt → Prop} {j n : Nat} {xs ys ds ks keys l1 l2 : List Dt} {S S1 S2 : Sta} {w : World} {tw : TS} {E : XK} {m : Str}
/-- the instance of before, the dict of now -/
theorem Cch.back (c : Cch K F H C w p l1 l2 v) (c' : Cch K F' H' C w p l1 l2 v0) (s : Same F F') : Cch K F' H' C w p l1 l2 v := by
  obtain ⟨a, dx, v1, v2, _, _, _, _, rfl, e1, r1, r2, _⟩ := c
  obtain ⟨_, _, _, _, as, vs, ks, ds, _, _, _, _, e2, ra, rb, k⟩ := c'
  exact ⟨a, dx, v1, v2, as, vs, ks, ds, rfl, s _ _ e1, r1.mono s.gr, r2.mono s.gr, e2, ra, rb, k⟩
end
end Bf
namespace Bf
open PySem PySem.Spec PyProof.Rows L2
instance : DecidableEq La := fun x y => decidable_of_iff (x.b = y.b ∧ x.m = y.m ∧ x.age = y.age ∧ x.th = y.th) (by cases x; cases y; simp)
instance : DecidableEq St1 := fun x y => decidable_of_iff (x.bo = y.bo ∧ x.mr = y.mr ∧ x.la = y.la) (by cases x; cases y; simp)
instance : DecidableEq Mo := fun x y => match x, y with
  | .rest, .rest => isTrue rfl
  | .press b h, .press b' h' => decidable_of_iff (b = b' ∧ h = h') (by simp)
  | .hold h, .hold h' => decidable_of_iff (h = h') (by simp)
  | .rest, .press _ _ => isFalse (fun e => by cases e)
  | .rest, .hold _ => isFalse (fun e => by cases e)
  | .press _ _, .rest => isFalse (fun e => by cases e)
  | .press _ _, .hold _ => isFalse (fun e => by cases e)
  | .hold _, .rest => isFalse (fun e => by cases e)
  | .hold _, .press _ _ => isFalse (fun e => by cases e)
/-! ## Places of the search: a state, a spell -/
structure Spl where
  lo : Nat
  pa : Nat
deriving DecidableEq
def Spl.d (s : Spl) : Dt := .tup [.int s.lo, .int s.pa]
abbrev Plc := St1 × Spl
/-- where a frame that goes on may come, a press came -/
def plOk (p : Plc) : Prop := p.2.pa = 0 → p.1.bo.isSome = true
/-! ### finitely many -/
def plU (lost : Nat) (p : Plc) : Prop := (∀ b, p.1.bo = some b → 0 ≤ b ∧ b < 4) ∧ (p.1.mr = 0 ∨ p.1.mr = 1) ∧ (∀ l, p.1.la = some l → 0 ≤ l.b ∧ l.b < 4 ∧ (l.m = 0 ∨ l.m = 1) ∧ 0 ≤ l.age ∧ l.age ≤ 10) ∧ p.2.lo ≤ lost ∧ p.2.pa ≤ 7
def codeL : Option La → Nat
  | none => 0
  | some l => 1 + (((l.b.toNat * 2 + l.m.toNat) * 11 + l.age.toNat) * 2 + (if l.th = true then 1 else 0))
def codeB : Option Int → Nat
  | none => 0
  | some b => b.toNat + 1
def codeP (p : Plc) : Nat := (((codeB p.1.bo * 2 + p.1.mr.toNat) * 200 + codeL p.1.la) * 6 + p.2.lo) * 8 + p.2.pa
theorem codeL_lt {lost : Nat} {p : Plc} (h : plU lost p) : codeL p.1.la < 200 := by
  obtain ⟨_, _, h3, _⟩ := h
  cases e : p.1.la with
  | none => decide
  | some l =>
    obtain ⟨a1, a2, a3, a4, a5⟩ := h3 l e
    show 1 + (((l.b.toNat * 2 + l.m.toNat) * 11 + l.age.toNat) * 2 + (if l.th = true then 1 else 0)) < 200
    split <;> omega
theorem codeB_lt {lost : Nat} {p : Plc} (h : plU lost p) : codeB p.1.bo < 5 := by
  cases e : p.1.bo with
  | none => decide
  | some b =>
    have := h.1 b e
    show b.toNat + 1 < 5
    omega
theorem code_lt {lost : Nat} {p : Plc} (hl : lost ≤ 5) (h : plU lost p) : codeP p < 96000 := by
  have h1 := codeL_lt h
  have h2 := codeB_lt h
  obtain ⟨_, hm, _, h4, h5⟩ := h
  unfold codeP
  omega
theorem code_inj {lost : Nat} {p q : Plc} (hl : lost ≤ 5) (hp : plU lost p) (hq : plU lost q) (e : codeP p = codeP q) : p = q := by
  have p1 := codeL_lt hp
  have q1 := codeL_lt hq
  have p2 := codeB_lt hp
  have q2 := codeB_lt hq
  obtain ⟨⟨bo, mr, la⟩, ⟨lo, pa⟩⟩ := p
  obtain ⟨⟨bo', mr', la'⟩, ⟨lo', pa'⟩⟩ := q
  obtain ⟨a1, a2, a3, a4, a5⟩ := hp
  obtain ⟨b1, b2, b3, b4, b5⟩ := hq
  simp only [codeP] at *
  have e1 : codeB bo = codeB bo' ∧ mr.toNat = mr'.toNat ∧ codeL la = codeL la' ∧ lo = lo' ∧ pa = pa' := by omega
  obtain ⟨c1, c2, c3, rfl, rfl⟩ := e1
  have d1 : bo = bo' := by
    cases bo with
    | none => cases bo' with
      | none => rfl
      | some b => simp [codeB] at c1
    | some a => cases bo' with
      | none => simp [codeB] at c1
      | some b =>
        have := a1 a rfl
        have := b1 b rfl
        simp only [codeB] at c1
        congr 1
        omega
  have d2 : mr = mr' := by omega
  have d3 : la = la' := by
    cases la with
    | none => cases la' with
      | none => rfl
      | some l => simp [codeL] at c3; omega
    | some l => cases la' with
      | none => simp [codeL] at c3
      | some l' =>
        obtain ⟨x1, x2, x3, x4, x5⟩ := a3 l rfl
        obtain ⟨y1, y2, y3, y4, y5⟩ := b3 l' rfl
        obtain ⟨lb, lm, lage, lth⟩ := l
        obtain ⟨lb', lm', lage', lth'⟩ := l'
        simp only [codeL] at *
        have : lb = lb' ∧ lm = lm' ∧ lage = lage' ∧ lth = lth' := by
          cases lth <;> cases lth' <;> simp only [if_true, Bool.false_eq_true, if_false] at c3 <;> refine ⟨?_, ?_, ?_, ?_⟩ <;> first | rfl | omega
        obtain ⟨rfl, rfl, rfl, rfl⟩ := this
        rfl
  rw [d1, d2, d3]
theorem places_few {lost : Nat} {W : List Plc} (hl : lost ≤ 5) (hn : W.Nodup) (h : ∀ p ∈ W, plU lost p) : W.length ≤ 96000 := by
  have := nodup_lt 96000 (W.map codeP) ?_ fun x hx => ?_
  · simpa using this
  · refine (List.Pairwise.and_mem.mp hn).map _ ?_
    rintro a b ⟨ha, hb, hne⟩ e
    exact hne (code_inj hl (h a ha) (h b hb) e)
  · obtain ⟨p, hp, rfl⟩ := List.mem_map.mp hx
    exact code_lt hl (h p hp)
/-! ### as keys -/
end Bf
namespace Bf
open PySem PySem.Spec PyProof.Rows L2
section
variable {K : PySem.W.Frag} {S S1 : Sta} {ρ : List (Option Dt)} {te : TE} {ta : TA} {j : Nat} {vs : List Nat}
def tTru (K : PySem.W.Frag) (ta : TE) : TT := fun σ H Q => ta σ H fun x H' => ∃ k, TruV K x H' k ∧ Q k H'
end
/-! ## spell_behind, moments_of, moves_from -/
section
variable {K : PySem.W.Frag} {Hb Fb : Hp} {S : Sta} {ds : List Dt} {d : Dt}
end
end Bf
namespace Bf
open PySem PySem.Spec PyProof.Rows L2
/-! ## Such methods by their bodies; defs that hand back something new; the class Ways -/
/-- what is known of the class -/
structure WayT (K : PySem.W.Frag) (mg : Str → Option Value) (C fI : Addr) : Prop where
  cl : Cls K C
  mK : Mk K C fI
  n1 : NoAttr K C "_steps"
  n2 : NoAttr K C "_tolerances"
  n3 : NoAttr K C "_needs"
  gC : mg "Ways" = some (.ref C)
/-- a method of it, as the text has it -/
structure WayM (K : PySem.W.Frag) (C : Addr) (x qual : Str) (st : Stmt) (f : Addr) (fd : FuncData) (ps : List Str) : Prop where
  fn : Fun K x qual st f fd
  me : Meth K C x f
  b : Binds K fd ps []
section
variable {K : PySem.W.Frag} {Hb Fb F F' H H' : Hp} {L L' : List Addr} {p C : Addr} {o : HO} {v : V} {d x q : Dt} {σ : L2.St} {ρ : List (Option Dt)} {P : Pm} {te tl tk td ty tv : TE} {ta : TA} {tt c : TT} {t u : TS} {D : Ends} {Φ Ψ : Dt → Prop} {j n : Nat} {xs ys ds ks keys l1 l2 : List Dt} {S S1 S2 : Sta} {w : World} {tw : TS} {E : XK} {m : Str}
theorem Ef.to {y : Dt} (h : Ef K Hb Fb L ρ te (Eq x)) (e : x = y) : Ef K Hb Fb L ρ te (Eq y) := e ▸ h
end
section
variable {Pg : Program} {w : World} {K : PySem.W.Frag} {mg : Str → Option Value} {base : Heap} {x qual : Str} {st : Stmt} {f C : Addr} {fd : FuncData} {N ps : List Str} {k n : Nat}
end
end Bf
namespace Bf
open PySem PySem.Spec PyProof.Rows L2
/-! ## What a Ways holds -/
structure SlOk (T : Tab) (ks : List Site) : Prop where
  nd : ks.Nodup
  beg : T.beg ∈ ks
  cl : ∀ s ∈ ks, ∀ x ∈ stepsS T s, x.2.2 ∈ ks
  ok : ∀ s ∈ ks, s ∈ siteL T ∧ s.k ≤ T.b ∧ siteR s
abbrev Sls := List (Addr × List Site)
def slA (sl : Sls) (i : Nat) : Addr × List Site := sl.getD i (0, [])
structure WOk (rc : Rcv) (sl : Sls) : Prop where
  ok : rcvOk rc
  n4 : rc.length ≤ 4
  st : ∀ i, i < rc.length → SlOk (tabAt rc i) (slA sl i).2
/-- a stand whose places are known -/
structure stnK (rc : Rcv) (sl : Sls) (s : Stn) : Prop where
  i : s.ix < rc.length
  l : s.lw < rc.length
  a : s.a ∈ (slA sl s.ix).2
  b : s.b ∈ (slA sl s.lw).2
  eq : s.le = false → s.ix = s.lw ∧ s.a = s.b
section
variable {K : PySem.W.Frag} {mg : Str → Option Value} {Hb Fb F F' H H' : Hp} {L L' : List Addr} {p C CR fI : Addr} {o : HO} {v : V} {d x y q : Dt} {σ : L2.St} {ρ : List (Option Dt)} {P : Pm} {te tl tk td ty tv tb : TE} {ta : TA} {tt c : TT} {t u : TS} {D : Ends} {Φ Ψ : Dt → Prop} {i j n : Nat} {xs ys ds keys l1 l2 : List Dt} {S S1 S2 : Sta} {w : World} {tw : TS} {E : XK} {m : Str}
/-! ### is_final -/
end
end Bf
namespace Bf
open PySem PySem.Spec PyProof.Rows L2
/-! ## wrong_row -/
def goodP (lost : Nat) (p : Plc) : Prop := plU lost p ∧ plOk p
/-- the dict of rows: keys, and a row for each -/
structure Rws (lost : Nat) (W : List Plc) (vals : List (List Mo)) (xs : List (Pt Plc Mo)) : Prop where
  len : W.length = vals.length
  nd : W.Nodup
  good : ∀ p ∈ W, goodP lost p
  at_ : ∀ x ∈ xs, lkG W vals x.2 = some x.1
theorem Rws.few {lost : Nat} {W : List Plc} {vals : List (List Mo)} {xs : List (Pt Plc Mo)} (h : Rws lost W vals xs) (hl : lost ≤ 5) : W.length ≤ 96000 := places_few hl h.nd fun p hp => (h.good p hp).1
theorem lkG_mem {κ α : Type} [DecidableEq κ] {ks : List κ} {xs : List α} {q : κ} {y : α} (hl : ks.length = xs.length) (h : lkG ks xs q = some y) : q ∈ ks := Classical.byContradiction fun n => by
  rw [(lkG_none hl).mpr n] at h
  cases h
theorem Rws.put {lost : Nat} {W : List Plc} {vals : List (List Mo)} {xs : List (Pt Plc Mo)} {p : Plc} {r : List Mo} (h : Rws lost W vals xs) (hp : goodP lost p) (hn : p ∉ W) : Rws lost (keyG W p) (setG W vals p r) ((r, p) :: xs) := by
  refine ⟨setG_len h.len, keyG_nodup h.nd, fun q hq => ?_, fun x hx => ?_⟩
  · rcases mem_keyG.mp hq with hq | rfl
    · exact h.good q hq
    · exact hp
  · rw [lkG_set h.len]
    rcases List.mem_cons.mp hx with rfl | hx
    · exact if_pos rfl
    · have := lkG_mem h.len (h.at_ x hx)
      rw [if_neg (fun z : x.2 = p => hn (z ▸ this))]
      exact h.at_ x hx
theorem Rws.sub {lost : Nat} {W : List Plc} {vals : List (List Mo)} {xs ys : List (Pt Plc Mo)} (h : Rws lost W vals xs) (s : ∀ y ∈ ys, y ∈ xs) : Rws lost W vals ys := ⟨h.len, h.nd, h.good, fun x hx => h.at_ x (s x hx)⟩
section
variable {K : PySem.W.Frag} {Hb Fb : Hp} {S : Sta} {ds : List Dt} {d : Dt} {w : World} {pn CS CN : Addr} {P : Pm}
end
end Bf
namespace Bf
open PySem PySem.Spec PyProof.Rows L2
/-! ## need's promise; moves_from -/
theorem stepsS_len (T : Tab) (s : Site) : (stepsS T s).length ≤ 2 := by
  unfold stepsS
  split
  · exact Nat.zero_le _
  · split
    · show 1 ≤ 2; omega
    · show 2 ≤ 2; omega
/-- two steps from a place: they are the same, or settle bits -/
theorem steps_two {T : Tab} {s : Site} {x y : Stp} (hx : x ∈ stepsS T s) (hy : y ∈ stepsS T s) : (x.1 = y.1 → x = y) ∧ (x.1 ≠ y.1 → ∃ a b, x.1 = some a ∧ y.1 = some b) := by
  unfold stepsS at hx hy
  split at hx
  · cases hx
  · rename_i h
    rw [if_neg h] at hy
    split at hx
    · rename_i h2
      rw [if_pos h2] at hy
      rw [List.mem_singleton.mp hx, List.mem_singleton.mp hy]
      exact ⟨fun _ => rfl, fun z => absurd rfl z⟩
    · rename_i h2
      rw [if_neg h2] at hy
      simp only [List.mem_cons, List.not_mem_nil, or_false] at hx hy
      rcases hx with rfl | rfl <;> rcases hy with rfl | rfl
      · exact ⟨fun _ => rfl, fun z => absurd rfl z⟩
      · exact ⟨fun z => (by cases (show (some (0 : Int)) = some 1 from z)), fun _ => ⟨0, 1, rfl, rfl⟩⟩
      · exact ⟨fun z => (by cases (show (some (1 : Int)) = some 0 from z)), fun _ => ⟨1, 0, rfl, rfl⟩⟩
      · exact ⟨fun _ => rfl, fun z => absurd rfl z⟩
theorem stnK_led {rc : Rcv} {sl : Sls} {s : Stn} {x y : Stp} (hW : WOk rc sl) (h : stnK rc sl s) (hx : x ∈ stepsS (tabAt rc s.ix) s.a) (hy : y ∈ stepsS (tabAt rc s.lw) s.b) : stnK rc sl (ledN s x y) := by
  refine ⟨h.i, h.l, (hW.st _ h.i).cl _ h.a _ hx, (hW.st _ h.l).cl _ h.b _ hy, fun e => ?_⟩
  have e1 : s.le = false ∧ y.1 = x.1 := by
    have e' : (s.le || !decide (y.1 = x.1)) = false := e
    simpa using e'
  obtain ⟨h1, h2⟩ := h.eq e1.1
  refine ⟨h1, ?_⟩
  rw [← h1, ← h2] at hy
  have := (steps_two hx hy).1 e1.2.symm
  show x.2.2 = y.2.2
  rw [this]
section
variable {K : PySem.W.Frag} {mg : Str → Option Value} {Hb Fb F F' H H' : Hp} {L L' : List Addr} {p C CR fI : Addr} {o : HO} {v : V} {d q : Dt} {σ : L2.St} {ρ : List (Option Dt)} {P : Pm} {te tl tk td ty tv tb : TE} {ta : TA} {tt c : TT} {t u : TS} {D : Ends} {Φ Ψ : Dt → Prop} {i j n : Nat} {xs ys ds keys l1 l2 : List Dt} {S S1 S2 : Sta} {w : World} {tw : TS} {E : XK} {m : Str}
end
end Bf
namespace Bf
open PySem PySem.Spec PyProof.Rows L2
/-! ## need: its own cache, read by hand -/
section
variable {K : PySem.W.Frag} {mg : Str → Option Value} {C CR fI : Addr} {w : World}
end
end Bf
namespace Bf
open PySem PySem.Spec PyProof.Rows L2
/-! ## steps_by_place -/
section
variable {K : PySem.W.Frag} {Hb Fb F F' H H' : Hp} {L L' : List Addr} {p : Addr} {o : HO} {v : V} {d q : Dt} {σ : L2.St} {ρ : List (Option Dt)} {P : Pm} {te tl : TE} {w : TS} {j : Nat} {xs ys ds : List Dt} {S : Sta} {vs : List Nat}
end
section
variable {K : PySem.W.Frag} {Hb Fb : Hp} {ds : List Dt} {Φ : Dt → Prop} {w : World}
end
end Bf
namespace Bf
open PySem PySem.Spec PyProof.Rows L2
/-! ## Expressions over F alone: what they come to is new, or of F -/
def Ex (K : PySem.W.Frag) (ρ : List (Option Dt)) (te : TE) (Φ : Dt → Prop) : Prop := ∀ (σ : L2.St) (F H : Hp), Same F H → (∀ a o, H a = some o → F a = none → mutk o = true) → Slots K F σ ρ → ∀ Q : VK, (∀ v d F' H', Vw H F F' H' → Rep K F' v d → Φ d → Q v H') → te σ H Q
section
variable {K : PySem.W.Frag} {Hb Fb F F' H H' H2 F2 : Hp} {L : List Addr} {p : Addr} {o : HO} {v : V} {d : Dt} {σ : L2.St} {ρ : List (Option Dt)} {te tl : TE} {ta : TA} {j j1 j2 i n : Nat} {ds : List Dt} {Φ Ψ : Dt → Prop} {E : XK}
end
end Bf
namespace Bf
open PySem PySem.Spec PyProof.Rows L2
/-! ## start_stands; Ways(receiver) -/
section
variable {K : PySem.W.Frag} {mg : Str → Option Value} {Hb Fb F F' H H' A B : Hp} {L L' : List Addr} {p C CR CB fI x : Addr} {o : HO} {v : V} {d q : Dt} {σ : L2.St} {ρ : List (Option Dt)} {P : Pm} {te tl : TE} {t w' : TS} {j j1 j2 i n : Nat} {xs ys ds : List Dt} {S : Sta} {w : World} {Φ : Dt → Prop} {E : XK}
/-! ### Ways(receiver) -/
mutual
/-- instances are ratios, nothing may change -/
def offI : Dt → Bool
  | .non => true
  | .bl _ => true
  | .int _ => true
  | .str _ => true
  | .raw _ => true
  | .lst xs => offIA xs
  | .tup xs => offIA xs
  | .ins _ ns xs => decide (ns = (["_num", "_den"] : List Str)) && decide (xs.length = 2) && offIA xs
  | .dat _ _ ks xs => offIA ks && offIA xs
  | _ => false
def offIA : List Dt → Bool
  | [] => true
  | x :: xs => offI x && offIA xs
end
def notRat (fs : List (Str × V)) : Prop := ∀ v r, fs ≠ (("_num" : Str), v) :: r
theorem ne_ins {dx : Addr} {fs : List (Str × V)} {a : Addr} (hx : A x = some (.ins C dx fs)) (ha : A a = some o) (h : ∀ C dx fs, o ≠ .ins C dx fs) : a ≠ x := fun z => by
  rw [z, hx] at ha
  exact h _ _ _ (Option.some.inj ha).symm
theorem ne_rat {dx dx' C' a : Addr} {fs : List (Str × V)} {ns : List Str} {vs : List V} (hx : A x = some (.ins C dx fs)) (hfs : notRat fs) (q : A a = some (.ins C' dx' (ns.zip vs))) (h1 : ns = (["_num", "_den"] : List Str)) (h2 : vs.length = 2) : a ≠ x := fun z => by
  subst h1
  rw [z, hx] at q
  match vs, h2 with
  | [v1, v2], _ =>
    cases q
    exact hfs _ _ rfl
section
variable {dx : Addr} {fs : List (Str × V)}
mutual
theorem Rep.skip (hx : A x = some (.ins C dx fs)) (hfs : notRat fs) (h : ∀ a o, a ≠ x → A a = some o → B a = some o) : ∀ {v : V} {d : Dt}, offI d = true → Rep K A v d → Rep K B v d
  | _, _, _, .non => .non
  | _, _, _, .bl b => .bl b
  | _, _, _, .int i => .int i
  | _, _, _, .str x => .str x
  | _, _, _, .raw v => .raw v
  | _, _, f, .lst q r => .lst (by
      rcases q with (q | ⟨o, q⟩) | q
      · exact .inl (.inl (h _ _ (ne_ins hx q fun _ _ _ z => nomatch z) q))
      · exact .inl (.inr ⟨o, h _ _ (ne_ins hx q fun _ _ _ z => nomatch z) q⟩)
      · exact .inr q) (r.skip hx hfs h (by simpa only [offI] using f))
  | _, _, f, .tup q r => .tup (by
      rcases q with (q | ⟨o, q⟩) | q
      · exact .inl (.inl (h _ _ (ne_ins hx q fun _ _ _ z => nomatch z) q))
      · exact .inl (.inr ⟨o, h _ _ (ne_ins hx q fun _ _ _ z => nomatch z) q⟩)
      · exact .inr q) (r.skip hx hfs h (by simpa only [offI] using f))
  | _, _, f, .ins q r => .ins (h _ _ (ne_rat hx hfs q (by
      simp only [offI, Bool.and_eq_true, decide_eq_true_eq] at f
      exact f.1.1) (by
      simp only [offI, Bool.and_eq_true, decide_eq_true_eq] at f
      exact r.len.trans f.1.2)) q) (r.skip hx hfs h (by
      simp only [offI, Bool.and_eq_true, decide_eq_true_eq] at f
      exact f.2))
  | _, _, f, .dat q l r1 r2 => by
    simp only [offI, Bool.and_eq_true] at f
    exact .dat (h _ _ (ne_ins hx q fun _ _ _ z => nomatch (show HO.ext _ = HO.ins _ _ _ from z)) q) l (r1.skip hx hfs h f.1) (r2.skip hx hfs h f.2)
  | _, _, f, .lat _ _ => by simp [offI] at f
  | _, _, f, .dic _ => by simp [offI] at f
  | _, _, f, .err _ _ _ => by simp [offI] at f
  | _, _, f, .dct _ _ _ => by simp [offI] at f
  | _, _, f, .dti _ _ _ => by simp [offI] at f
  | _, _, f, .cel _ _ => by simp [offI] at f
theorem RepA.skip (hx : A x = some (.ins C dx fs)) (hfs : notRat fs) (h : ∀ a o, a ≠ x → A a = some o → B a = some o) : ∀ {vs : List V} {ds : List Dt}, offIA ds = true → RepA K A vs ds → RepA K B vs ds
  | _, _, _, .nil => .nil
  | _, _, f, .cons q r => by
    simp only [offIA, Bool.and_eq_true] at f
    exact .cons (q.skip hx hfs h f.1) (r.skip hx hfs h f.2)
end
end
end
end Bf
namespace Bf
open PySem PySem.Spec PyProof.Rows L2
/-! ## Ways(receiver), by hand -/
section
variable {K : PySem.W.Frag} {mg : Str → Option Value} {C CR fI : Addr} {w : World}
end
end Bf
namespace Bf
open PySem PySem.Spec PyProof.Rows L2
/-! ## one_move_on -/
abbrev RdN := Rd Stn Fq
/-- a dict of stands that are known, with needs in lowest terms -/
structure rdOk (rc : Rcv) (sl : Sls) (d : RdN) : Prop where
  nd : (d.map (·.1)).Nodup
  ok : ∀ x ∈ d, okB x.2 = true ∧ stnK rc sl x.1
theorem rdOk.put {rc : Rcv} {sl : Sls} {d : RdN} {s : Stn} {g : Fq} (h : rdOk rc sl d) (hs : stnK rc sl s) (hg : okB g = true) : rdOk rc sl (putR ltQ d s g) := by
  refine ⟨nodup_put h.nd s g, fun x hx => ?_⟩
  unfold putR at hx
  cases e : lkR d s with
  | none =>
    rw [e] at hx
    rcases List.mem_append.mp hx with hx | hx
    · exact h.ok x hx
    · rw [List.mem_singleton.mp hx]; exact ⟨hg, hs⟩
  | some q =>
    rw [e] at hx
    simp only at hx
    split at hx
    · obtain ⟨y, hy, rfl⟩ := List.mem_map.mp hx
      by_cases z : y.1 = s
      · rw [if_pos z]; exact ⟨hg, hs⟩
      · rw [if_neg z]; exact h.ok y hy
    · exact h.ok x hx
theorem stnK_G {rc : Rcv} {sl : Sls} {s : Stn} (hW : WOk rc sl) (h : stnK rc sl s) : stnG rc s ∧ stnR rc s := by
  have a := (hW.st _ h.i).ok _ h.a
  have b := (hW.st _ h.l).ok _ h.b
  exact ⟨⟨⟨h.i, h.l⟩, a.1, a.2.1, b.1, b.2.1⟩, ⟨h.i, h.l⟩, a.2.2, b.2.2⟩
theorem rdOk.few {rc : Rcv} {sl : Sls} {d : RdN} (hW : WOk rc sl) (h : rdOk rc sl d) : d.length ≤ 89888 := by
  have := stands_short hW.ok hW.n4 h.nd fun s hs => by
    obtain ⟨x, hx, rfl⟩ := List.mem_map.mp hs
    exact (stnK_G hW (h.ok x hx).2).1
  rwa [List.length_map] at this
theorem mv3_K {rc : Rcv} {sl : Sls} {s : Stn} {m : Fq × Stn × Stp × Stp} (hW : WOk rc sl) (h : stnK rc sl s) (hm : m ∈ mv3 rc s) : okB m.1 = true ∧ stnK rc sl m.2.1 := by
  refine ⟨(mv_ok hW.ok (stnK_G hW h).2 (m := (m.1, m.2.1)) (List.mem_map.mpr ⟨m, hm, rfl⟩)).1, ?_⟩
  obtain ⟨x, hx, hm⟩ := List.mem_flatMap.mp hm
  obtain ⟨y, hy, rfl⟩ := List.mem_map.mp hm
  exact stnK_led hW h hx (List.mem_filter.mp hy).1
section
variable {K : PySem.W.Frag} {mg : Str → Option Value} {Hb Fb : Hp} {L : List Addr} {p C CR fI : Addr} {ρ : List (Option Dt)} {te tb : TE} {ds l1 l2 : List Dt} {S S1 S2 : Sta} {w : World} {Φ : Dt → Prop} {a b : Fq}
end
end Bf
namespace Bf
open PySem PySem.Spec PyProof.Rows L2
/-! ## least_to_final, limit_of -/
theorem sts_K {rc : Rcv} {sl : Sls} (hW : WOk rc sl) {s : Stn} (h : s ∈ stsN rc) : stnK rc sl s := by
  obtain ⟨i, hi, h⟩ := List.mem_flatMap.mp h
  obtain ⟨j, hj, rfl⟩ := List.mem_map.mp h
  have hi := List.mem_range.mp hi
  have hj := List.mem_range.mp hj
  refine ⟨hi, by show j < rc.length; omega, (hW.st i hi).beg, (hW.st j (by omega)).beg, fun e => ?_⟩
  have e' : decide (j < i) = false := e
  have : i = j := by have := of_decide_eq_false e'; omega
  subst this
  exact ⟨rfl, rfl⟩
section
variable {K : PySem.W.Frag} {mg : Str → Option Value} {Hb Fb : Hp} {L : List Addr} {p C CR fI : Addr} {ρ : List (Option Dt)} {te tb : TE} {ds l1 l2 : List Dt} {S S1 S2 : Sta} {w : World} {Φ : Dt → Prop} {a b : Fq}
end
end Bf
namespace Bf
open PySem PySem.Spec PyProof.Rows L2
/-! ## The law's own limit: the least need of all pairs of sendings, one after another -/
/-- a sending with its frame -/
abbrev Snd := (Nat × List Int) × List Int
def sndFrom : Nat → Rcv → List Snd
  | _, [] => []
  | k, y :: rc => ((wordsL y.1.b.toNat).map fun w => ((k, w), y.1.frame w)) ++ sndFrom (k + 1) rc
def sndL (rc : Rcv) : List Snd := sndFrom 0 rc
def minO (x : Option Fq) (q : Fq) : Option Fq := match x with
  | none => some q
  | some f => if lessP q f = true then some q else some f
/-- the need of a sending and one ahead of it -/
def needS (rc : Rcv) (A B : Snd) : Fq := lawMost (tolAt rc B.1.1) A.2 B.2
def limB (rc : Rcv) (A : Snd) (x : Option Fq) (B : Snd) : Option Fq := if A.2.length = B.2.length then minO x (needS rc A B) else x
def limA (rc : Rcv) (ss : List Snd) (x : Option Fq) (k : Nat) : Option Fq := match ss[k]? with
  | none => x
  | some A => (ss.take k).foldl (limB rc A) x
def limF (rc : Rcv) : Option Fq := (List.range (sndL rc).length).foldl (limA rc (sndL rc)) none
/-! ### the order of sendings -/
theorem lss_lt {a b : List Int} (h : Lss a b) : ltB a b = true := by
  obtain ⟨p, u, v, rfl, rfl⟩ := h
  rw [ltB_app rfl, if_pos rfl]
  rfl
end Bf
namespace Bf
open PySem PySem.Spec PyProof.Rows L2
/-! ## A tolerance below the limit, and at most all tolerances: each burst within it is read right -/
end Bf
namespace Bf
open PySem PySem.Spec PyProof.Rows L2
/-! ## limit_of, by hand: a Ways that nobody else holds -/
section
variable {K : PySem.W.Frag} {C CR CB : Addr} {w : World}
end
end Bf
namespace Bf
open PySem PySem.Spec PyProof.Rows L2
/-! ## least_off, least_word, nearest -/
section
variable {K : PySem.W.Frag} {Hb Fb : Hp} {C : Addr} {L : List Addr} {S : Sta} {ρ : List (Option Dt)} {P : Pm} {te ta tb : TE} {t : TS} {ds : List Dt} {d : Dt} {j : Nat} {T : Tab} {bs : List Fq}
end
end Bf
namespace Bf
open PySem PySem.Spec PyProof.Rows L2
section
variable {K : PySem.W.Frag} {Hb Fb : Hp} {C : Addr} {L : List Addr} {S : Sta} {ρ : List (Option Dt)} {P : Pm} {te ta tb : TE} {t : TS} {ds : List Dt} {d : Dt} {j : Nat} {T : Tab} {bs : List Fq}
end
end Bf
namespace Bf
open PySem PySem.Spec PyProof.Rows L2
/-! ## reads, by least_word -/
section
variable {K : PySem.W.Frag} {mg : Str → Option Value} {C CB CR : Addr} {S : Sta} {ds : List Dt} {d : Dt} {o : Out} {E : XK}
end
end Bf
namespace Bf
open PySem PySem.Spec PyProof.Rows L2
/-! ## drawn receivers of so many tables at most, their tolerances' parts below 100 -/
section
variable {K : PySem.W.Frag} {a : Addr} {c : CT} {cs : List Int} {n : Nat} {ds : List Dt} {C : Addr}
end
end Bf
namespace Bf
open PySem PySem.Spec PyProof.Rows L2
/-! ## Bursts and tables, all multiplied: read alike, as near -/
section
variable {g : Int} {bs : List Fq} (hg : 0 < g) (hb : ∀ b ∈ bs, okQ (b.1 * g, b.2))
end
end Bf
namespace Bf
open PySem PySem.Spec PyProof.Rows L2
/-! ## What the first tables read, all of them read; the nearest word and what a table alone reads -/
end Bf
namespace Bf
open PySem PySem.Spec PyProof.Rows L2
/-! ## Loops over pairs, over range(a, b); defs that refuse no table that is right -/
section
variable {K : PySem.W.Frag} {S S1 S2 SF SB : Sta} {L : List Addr} {ρ : List (Option Dt)} {P : Po} {tl te ta tb : TE} {t : TS} {tas : TA} {ds : List Dt} {d : Dt} {j j1 j2 : Nat} {C CB CT : Addr} {Φ : Dt → Prop}
/-! ### one limit is at most the other -/
end
end Bf
namespace Bf
open PySem PySem.Spec PyProof.Rows L2
/-! ## _law_most, _law_sendings -/
section
variable {K : PySem.W.Frag} {mg : Str → Option Value} {Hb Fb F F' H H' A B : Hp} {L L' : List Addr} {p C CR CB fI x : Addr} {o : HO} {v : V} {d q : Dt} {σ : L2.St} {ρ : List (Option Dt)} {P : Pm} {te tl : TE} {t w' : TS} {j j1 j2 i n : Nat} {xs ys ds : List Dt} {S : Sta} {w : World} {Φ : Dt → Prop} {E : XK}
end
end Bf
namespace Bf
open PySem PySem.Spec PyProof.Rows L2
/-! ## _law_words as a new list, _law_sendings -/
section
variable {K : PySem.W.Frag} {Hb Fb : Hp} {ds : List Dt} {d : Dt} {C : Addr}
end
end Bf
namespace Bf
open PySem PySem.Spec PyProof.Rows L2
/-! ## _law_limit -/
section
variable {K : PySem.W.Frag} {S SB : Sta} {L : List Addr} {ρ : List (Option Dt)} {P : Po} {tl : TE} {t : TS}
end
section
variable {K : PySem.W.Frag} {S S1 S2 SF SB : Sta} {L : List Addr} {ρ : List (Option Dt)} {P : Po} {tl te ta tb : TE} {t : TS} {tas : TA} {ds : List Dt} {d : Dt} {j j1 j2 : Nat} {C CB CT : Addr} {Φ : Dt → Prop}
end

section
variable {K : PySem.W.Frag} {S : Sta} {ds : List Dt} {d : Dt} {C : Addr} {P : Po}
end
end Bf
namespace Bf
open PySem PySem.Spec PyProof.Rows L2
/-! ## least_tolerance, margin_of -/
section
variable {K : PySem.W.Frag} {S S1 S2 : Sta} {ρ : List (Option Dt)} {ta tb : TE} {ds : List Dt} {d : Dt} {C : Addr} {a b : Fq}
end
end Bf
namespace Bf
open PySem PySem.Spec PyProof.Rows L2
/-! ## The law of reading -/
section
variable {K : PySem.W.Frag} {a : Addr} {c : CT} {cs : List Int} {C CB : Addr}
end
end Bf
namespace Bf
open PySem PySem.Spec PyProof.Rows L2
/-! ## x * y by an own method: both of the same class -/
section
variable {K : PySem.W.Frag} {mg : Str → Option Value} {C fI pN gN pD gD : Addr} {S S1 S2 : Sta} {ρ : List (Option Dt)} {te ta tb : TE} {ds : List Dt} {d : Dt} {n m i j : Int}
end
end Bf
namespace Bf
open PySem PySem.Spec PyProof.Rows L2
/-! ## Durations multiplied: the law's own defs -/
/-- a duration, or a tuple of them -/
inductive DurD : Dt → Prop where
  | one {n : Int} (h : okS n) : DurD (.int n)
  | more {ns : List Int} (h : ∀ n ∈ ns, okS n) (hl : ns.length ≤ 1000) : DurD (tI ns)
def Tab.small (g : Int) : Tab → Bool
  | .ha u _ => decide (u * g < 100000)
  | .pa h z1 z2 o1 o2 s _ => ((h ++ [z1, z2] ++ [o1, o2] ++ [s]).filter fun x => decide (99999 < x * g)).isEmpty
section
variable {K : PySem.W.Frag} {S S1 : Sta} {ρ : List (Option Dt)} {ta tb : TE} {ds : List Dt} {d x : Dt} {g : Int} {E : XK} {T : Tab}
end
end Bf
namespace Bf
open PySem PySem.Spec PyProof.Rows L2
/-! ## _law_moved: bursts of small numbers, that can be multiplied -/
section
variable {K : PySem.W.Frag} {a : Addr} {c : CT} {cs : List Int} {n : Nat} {ds : List Dt} {C : Addr}
end
end Bf
namespace Bf
open PySem PySem.Spec PyProof.Rows L2 PySem.SeqAt
/-! ## x == y of tuples of the same things that hold ratios -/
section
variable {X : Cx} {C q : Addr} {qd : FuncData}
end
section
variable {K : PySem.W.Frag} {S : Sta} {C : Addr}
end
end Bf
namespace Bf
open PySem PySem.Spec PyProof.Rows L2
/-! ## What the law of what is safe wants beside: loops and comprehensions that draw -/
section
variable {K : PySem.W.Frag} {S SF SB : Sta} {L : List Addr} {ρ : List (Option Dt)} {P : Po} {te tl : TE} {t : TS} {vs : List Nat} {j : Nat}
end
/-! ## No duration of a frame is longer than two parts -/
/-! ## The law's limit is a fraction of small numbers -/
end Bf
namespace Bf
open PySem PySem.Spec PyProof.Rows L2
/-! ## Drawn receivers whose tolerances are in lowest terms -/
section
variable {K : PySem.W.Frag} {a : Addr} {c : CT} {cs : List Int} {n : Nat} {ds : List Dt} {C : Addr}
end
/-! ## The least tolerance -/
/-! ## need_ratio, is_safe, _law_least -/
section
variable {K : PySem.W.Frag} {mg : Str → Option Value} {C CR CB fI pN gN pD gD : Addr} {S S1 S2 : Sta} {ρ : List (Option Dt)} {ta tb : TE} {ds : List Dt} {d : Dt} {a b : Fq} {E : XK}
end
/-! ## _law_item -/
section
variable {K : PySem.W.Frag} {a : Addr} {c : CT} {cs : List Int} {n : Nat} {ds : List Dt} {C : Addr}
end
end Bf
namespace Bf
open PySem PySem.Spec PyProof.Rows L2
/-! ## The law of limits -/
section
variable {K : PySem.W.Frag} {S S1 S2 : Sta} {ρ : List (Option Dt)} {te ta tb : TE} {a : Addr} {c : CT} {cs : List Int} {C : Addr} {P : Po}
end
end Bf
namespace Bf
open PySem PySem.Spec PyProof.Rows L2
/-! ## The law of what is safe -/
section
variable {K : PySem.W.Frag} {S S1 S2 : Sta} {ρ : List (Option Dt)} {te ta tb : TE} {a : Addr} {c : CT} {cs : List Int} {C CB : Addr} {P : Po}
end
end Bf
namespace Bf
open PySem PySem.Spec PyProof.Rows L2
/-! ## The great receivers: their limit -/
/-! ## a table of halves -/
end Bf
namespace Bf
open PySem PySem.Spec PyProof.Rows L2
/-! ## stands that are led to at a tolerance, and from where: a search with what waits -/
abbrev Og := Option (Stn × Stp × Stp)
abbrev Cb := List (Stn × Og)
/-- a need is no greater than a tolerance, if there is one -/
def okTol (t : Option Fq) (q : Fq) : Bool := match t with
  | none => true
  | some t => !lessP t q
abbrev Mv3 := Fq × Stn × Stp × Stp
def sucO (s : Stn) (m : Mv3) : Stn × Og := (m.2.1, some (s, m.2.2.1, m.2.2.2))
def sucL (rc : Rcv) (t : Option Fq) (s : Stn) : Cb := ((mv3 rc s).filter fun m => okTol t m.1).map (sucO s)
/-- a way from a start to a stand: its pairs of steps -/
inductive WayS (rc : Rcv) (t : Option Fq) : Stn → List (Stp × Stp) → Prop
  | st {s : Stn} : s ∈ stsN rc → WayS rc t s []
  | mv {s : Stn} {w : List (Stp × Stp)} {m : Mv3} : WayS rc t s w → m ∈ mv3 rc s → okTol t m.1 = true → WayS rc t m.2.1 (w ++ [(m.2.2.1, m.2.2.2)])
def Led (rc : Rcv) (t : Option Fq) (s : Stn) : Prop := ∃ w, WayS rc t s w
def orgOk (rc : Rcv) (t : Option Fq) (d : Cb) (x : Stn × Og) : Prop := (x.2 = none ∧ x.1 ∈ stsN rc) ∨ ∃ p m, p ∈ d.map (·.1) ∧ m ∈ mv3 rc p ∧ okTol t m.1 = true ∧ x = sucO p m
/-- one turn of the search, and what it comes to by turns: what it finds is determined -/
def cbS (rc : Rcv) (t : Option Fq) (q : Cb × Cb) : Cb × Cb := match q.2.getLast? with
  | none => q
  | some x => if x.1 ∈ q.1.map (·.1) then (q.1, q.2.dropLast) else (q.1 ++ [x], q.2.dropLast ++ sucL rc t x.1)
def cbN (rc : Rcv) (t : Option Fq) : Nat → Cb × Cb
  | 0 => ([], (stsN rc).map fun s => (s, none))
  | n + 1 => cbS rc t (cbN rc t n)
structure CbI (rc : Rcv) (t : Option Fq) (d wt : Cb) : Prop where
  rn : ∃ n, cbN rc t n = (d, wt)
  nd : (d.map (·.1)).Nodup
  st : ∀ s ∈ stsN rc, s ∈ d.map (·.1) ∨ s ∈ wt.map (·.1)
  sc : ∀ s ∈ d.map (·.1), ∀ x ∈ sucL rc t s, x.1 ∈ d.map (·.1) ∨ x.1 ∈ wt.map (·.1)
  og : ∀ i x, d[i]? = some x → orgOk rc t (d.take i) x
  ow : ∀ x ∈ wt, orgOk rc t d x
  wl : ∀ i x, wt[i]? = some x → i + 4 * mesS (tabAt rc x.1.ix) x.1.a ≤ 128
section
variable {rc : Rcv} {t : Option Fq} {d wt : Cb} {s : Stn} {x : Stn × Og}
theorem orgOk.mono {d' : Cb} (h : orgOk rc t d x) (hs : ∀ s ∈ d.map (·.1), s ∈ d'.map (·.1)) : orgOk rc t d' x := h.imp id fun ⟨p, m, h1, h2⟩ => ⟨p, m, hs p h1, h2⟩
theorem sucL_mem {y : Stn × Og} : y ∈ sucL rc t s ↔ ∃ m, m ∈ mv3 rc s ∧ okTol t m.1 = true ∧ sucO s m = y := by
  unfold sucL
  rw [List.mem_map]
  constructor
  · rintro ⟨m, h, e⟩
    have := List.mem_filter.mp h
    exact ⟨m, this.1, this.2, e⟩
  · rintro ⟨m, h1, h2, e⟩
    exact ⟨m, List.mem_filter.mpr ⟨h1, h2⟩, e⟩
theorem mv3_len : (mv3 rc s).length ≤ 4 := by
  refine Nat.le_trans (flat_le (c := 2) fun x _ => ?_) ?_
  · rw [List.length_map]
    exact Nat.le_trans (List.length_filter_le _ _) (stepsS_len _ _)
  · have := stepsS_len (tabAt rc s.ix) s.a
    omega
theorem sucL_len : (sucL rc t s).length ≤ 4 := by
  unfold sucL
  rw [List.length_map]
  exact Nat.le_trans (List.length_filter_le _ _) mv3_len
theorem WayS.G (hr : rcvOk rc) {w : List (Stp × Stp)} (h : WayS rc t s w) : stnG rc s := by
  induction h with
  | st h => exact stnG_sts hr h
  | @mv s w m _ hm _ ih => exact stnG_mv hr ih (m := (m.1, m.2.1)) (List.mem_map.mpr ⟨m, hm, rfl⟩)
theorem WayS.K {sl : Sls} (hW : WOk rc sl) {w : List (Stp × Stp)} (h : WayS rc t s w) : stnK rc sl s := by
  induction h with
  | st h => exact sts_K hW h
  | mv _ hm _ ih => exact (mv3_K hW ih hm).2
theorem CbI.led (h : CbI rc t d wt) : ∀ (n i : Nat) (x : Stn × Og), i < n → d[i]? = some x → Led rc t x.1
  | 0, _, _, hn, _ => absurd hn (Nat.not_lt_zero _)
  | n + 1, i, x, hn, e => by
    rcases h.og i x e with ⟨_, h1⟩ | ⟨p, m, h1, h2, h3, rfl⟩
    · exact ⟨[], .st h1⟩
    · obtain ⟨y, hy, rfl⟩ := List.mem_map.mp h1
      obtain ⟨j, hj, ej⟩ := List.getElem_of_mem hy
      have hji : j < i := by rw [List.length_take] at hj; omega
      have ej' : d[j]? = some y := by
        rw [List.getElem_take] at ej
        rw [← ej]
        exact List.getElem?_eq_getElem _
      obtain ⟨w, hw⟩ := CbI.led h n j y (by omega) ej'
      exact ⟨_, .mv hw h2 h3⟩
theorem CbI.ledK (h : CbI rc t d wt) (hs : s ∈ d.map (·.1)) : Led rc t s := by
  obtain ⟨y, hy, rfl⟩ := List.mem_map.mp hs
  obtain ⟨j, hj, ej⟩ := List.getElem_of_mem hy
  exact h.led (j + 1) j y (Nat.lt_succ_self _) (by rw [← ej]; exact List.getElem?_eq_getElem _)
theorem CbI.ledW (h : CbI rc t d wt) (hx : x ∈ wt) : Led rc t x.1 := by
  rcases h.ow x hx with ⟨_, h1⟩ | ⟨p, m, h1, h2, h3, rfl⟩
  · exact ⟨[], .st h1⟩
  · obtain ⟨w, hw⟩ := h.ledK h1
    exact ⟨_, .mv hw h2 h3⟩
theorem CbI.few (hr : rcvOk rc) (h4 : rc.length ≤ 4) (h : CbI rc t d wt) : d.length ≤ 89888 := by
  have := stands_short hr h4 h.nd fun s hs => let ⟨_, hw⟩ := h.ledK hs; hw.G hr
  rwa [List.length_map] at this
theorem CbI.short (h : CbI rc t d wt) : wt.length ≤ 129 := by
  rcases Nat.lt_or_ge 129 wt.length with hl | hl
  · have := h.wl 129 (wt[129]) (List.getElem?_eq_getElem hl)
    omega
  · exact hl
theorem CbI.skip (h : CbI rc t d (wt ++ [x])) (hm : x.1 ∈ d.map (·.1)) : CbI rc t d wt where
  rn := by
    obtain ⟨n, e⟩ := h.rn
    refine ⟨n + 1, ?_⟩
    show cbS rc t (cbN rc t n) = _
    rw [e]
    unfold cbS
    simp only [List.getLast?_append, List.getLast?_singleton, Option.some_or, List.dropLast_concat]
    rw [if_pos hm]
  nd := h.nd
  st s hs := by
    rcases h.st s hs with z | z
    · exact .inl z
    · rw [List.map_append] at z
      rcases List.mem_append.mp z with z | z
      · exact .inr z
      · rw [List.mem_singleton.mp z]; exact .inl hm
  sc s hs y hy := by
    rcases h.sc s hs y hy with z | z
    · exact .inl z
    · rw [List.map_append] at z
      rcases List.mem_append.mp z with z | z
      · exact .inr z
      · rw [List.mem_singleton.mp z]; exact .inl hm
  og := h.og
  ow y hy := h.ow y (List.mem_append_left _ hy)
  wl i y e := h.wl i y (by rw [List.getElem?_append_left (List.getElem?_eq_some_iff.mp e).1]; exact e)
theorem CbI.add (hr : rcvOk rc) (h : CbI rc t d (wt ++ [x])) (hm : x.1 ∉ d.map (·.1)) : CbI rc t (d ++ [x]) (wt ++ sucL rc t x.1) where
  rn := by
    obtain ⟨n, e⟩ := h.rn
    refine ⟨n + 1, ?_⟩
    show cbS rc t (cbN rc t n) = _
    rw [e]
    unfold cbS
    simp only [List.getLast?_append, List.getLast?_singleton, Option.some_or, List.dropLast_concat]
    rw [if_neg hm]
  nd := by
    rw [List.map_append]
    exact List.nodup_append.mpr ⟨h.nd, by simp, fun a ha b hb => by rw [List.mem_singleton.mp hb]; intro z; rw [z] at ha; exact hm ha⟩
  st s hs := by
    rw [List.map_append, List.map_append]
    rcases h.st s hs with z | z
    · exact .inl (List.mem_append_left _ z)
    · rw [List.map_append] at z
      rcases List.mem_append.mp z with z | z
      · exact .inr (List.mem_append_left _ z)
      · exact .inl (List.mem_append_right _ z)
  sc s hs y hy := by
    rw [List.map_append] at hs ⊢
    rw [List.map_append]
    rcases List.mem_append.mp hs with hs | hs
    · rcases h.sc s hs y hy with z | z
      · exact .inl (List.mem_append_left _ z)
      · rw [List.map_append] at z
        rcases List.mem_append.mp z with z | z
        · exact .inr (List.mem_append_left _ z)
        · exact .inl (List.mem_append_right _ z)
    · rw [List.mem_singleton.mp hs] at hy
      exact .inr (List.mem_append_right _ (List.mem_map.mpr ⟨y, hy, rfl⟩))
  og i y e := by
    rcases Nat.lt_or_ge i d.length with hi | hi
    · rw [List.getElem?_append_left hi] at e
      rw [List.take_append_of_le_length (Nat.le_of_lt hi)]
      exact h.og i y e
    · rw [List.getElem?_append_right hi] at e
      have : i = d.length := by
        have := (List.getElem?_eq_some_iff.mp e).1
        simp only [List.length_cons, List.length_nil] at this
        omega
      subst this
      rw [Nat.sub_self] at e
      cases e
      rw [List.take_append_of_le_length (Nat.le_refl _), List.take_length]
      exact h.ow x (by simp)
  ow y hy := by
    rcases List.mem_append.mp hy with hy | hy
    · exact (h.ow y (List.mem_append_left _ hy)).mono fun s hs => by rw [List.map_append]; exact List.mem_append_left _ hs
    · obtain ⟨m, h1, h2, rfl⟩ := sucL_mem.mp hy
      exact .inr ⟨x.1, m, by simp, h1, h2, rfl⟩
  wl i y e := by
    rcases Nat.lt_or_ge i wt.length with hi | hi
    · rw [List.getElem?_append_left hi] at e
      exact h.wl i y (by rw [List.getElem?_append_left hi]; exact e)
    · rw [List.getElem?_append_right hi] at e
      have hx := h.wl wt.length x (by rw [List.getElem?_append_right (Nat.le_refl _), Nat.sub_self]; rfl)
      obtain ⟨m, h1, _, rfl⟩ := sucL_mem.mp (List.mem_of_getElem? e)
      obtain ⟨w, hw⟩ := h.ledW (x := x) (by simp)
      have h2 := mv_mes (hw.G hr) (m := (m.1, m.2.1)) (List.mem_map.mpr ⟨m, h1, rfl⟩)
      have h3 := (List.getElem?_eq_some_iff.mp e).1
      have h4 : (sucL rc t x.1).length ≤ 4 := sucL_len
      show i + 4 * mesS (tabAt rc m.2.1.ix) m.2.1.a ≤ 128
      simp only at h2
      omega
theorem cbN_stay {n : Nat} (e : cbN rc t n = (d, [])) : ∀ k, cbN rc t (n + k) = (d, [])
  | 0 => e
  | k + 1 => by
    show cbS rc t (cbN rc t (n + k)) = _
    rw [cbN_stay e k]
    rfl
/-- what the search finds is determined -/
theorem CbI.uniq {d' : Cb} (h : CbI rc t d []) (h' : CbI rc t d' []) : d = d' := by
  obtain ⟨n, e⟩ := h.rn
  obtain ⟨m, e'⟩ := h'.rn
  have a := cbN_stay e m
  have b := cbN_stay e' n
  rw [Nat.add_comm, b] at a
  exact (Prod.mk.inj a).1.symm
/-- the way by which a stand was first reached -/
inductive OgW (d : Cb) : Stn → List (Stp × Stp) → Prop
  | st {s : Stn} : (s, none) ∈ d → OgW d s []
  | mv {s p : Stn} {x : Stp × Stp} {w : List (Stp × Stp)} : (s, some (p, x)) ∈ d → OgW d p w → OgW d s (w ++ [x])
theorem og_uniq (hn : (d.map (·.1)).Nodup) {o o' : Og} (h : (s, o) ∈ d) (h' : (s, o') ∈ d) : o = o' := by
  induction d with
  | nil => cases h
  | cons y d ih =>
    obtain ⟨h1, h2⟩ := List.nodup_cons.mp hn
    rcases List.mem_cons.mp h with e | e <;> rcases List.mem_cons.mp h' with e' | e'
    · rw [← e] at e'; exact ((Prod.mk.inj e').2).symm
    · exact absurd (List.mem_map.mpr ⟨_, e', by rw [← e]⟩) h1
    · exact absurd (List.mem_map.mpr ⟨_, e, by rw [← e']⟩) h1
    · exact ih h2 e e'
theorem OgW.uniq (hn : (d.map (·.1)).Nodup) {w w' : List (Stp × Stp)} (h : OgW d s w) (h' : OgW d s w') : w = w' := by
  induction h generalizing w' with
  | st h => cases h' with
    | st _ => rfl
    | mv h2 _ => cases og_uniq hn h h2
  | mv h _ ih => cases h' with
    | st h2 => cases og_uniq hn h h2
    | mv h2 h3 =>
      cases og_uniq hn h h2
      rw [ih h3]
theorem CbI.done (h : CbI rc t d []) : s ∈ d.map (·.1) ↔ Led rc t s := by
  constructor
  · exact h.ledK
  · rintro ⟨w, hw⟩
    induction hw with
    | st hs => exact (h.st _ hs).resolve_right fun z => nomatch z
    | @mv s w m _ hm ht ih => exact (h.sc _ ih (sucO s m) (sucL_mem.mpr ⟨m, hm, ht, rfl⟩)).resolve_right fun z => nomatch z
end
end Bf
namespace Bf
open PySem PySem.Spec PyProof.Rows L2
/-! ## stands_led_to -/
def cbK (d : Cb) : List Dt := (d.map (·.1)).map Stn.d
section
variable {K : PySem.W.Frag} {mg : Str → Option Value} {Hb Fb F H : Hp} {L : List Addr} {p C CR fI : Addr} {σ : L2.St} {ρ : List (Option Dt)} {P : Pm} {te tb : TE} {tw : TS} {ds xs l1 l2 : List Dt} {S S1 S2 : Sta} {w : World} {Φ : Dt → Prop} {j : Nat} {d : Dt}
end
end Bf
namespace Bf
open PySem PySem.Spec PyProof.Rows L2
/-! ## way_to, word_along, paper_of_way -/
/-- the bits that are settled by steps -/
def bitsA (l : List Stp) : List Dt := (l.filterMap (·.1)).map Dt.int
def paperW (CR : Addr) (rc : Rcv) (s : Stn) (way : List (Stp × Stp)) : Dt := .tup [.str "taken", .tup [.int s.ix, .tup (bitsA (way.map (·.1)))], .tup [.int s.lw, .tup (bitsA (way.map (·.2)))], .tup (way.map fun x => ratP CR (nearA x.1.2.1 x.2.2.1 (tolAt rc s.lw)))]
section
variable {K : PySem.W.Frag} {mg : Str → Option Value} {Hb Fb F H : Hp} {L : List Addr} {p C CR fI : Addr} {σ : L2.St} {ρ : List (Option Dt)} {P : Pm} {te tb tl : TE} {tw : TS} {ds xs l1 l2 : List Dt} {S S1 S2 : Sta} {w : World} {Φ : Dt → Prop} {j j2 : Nat} {d : Dt} {vs : List Nat}
theorem en_revL (h : Ev K S S1 ρ te (Eq (.lst xs))) : EvN K S S1 ρ (tRevL K te) xs.reverse := fun σ H i s Q q =>
  h σ H i s _ fun v d H1 g1 i1 r1 e => by
    subst e
    obtain ⟨a, us, rfl, ht, ra⟩ := r1.lstI
    exact ⟨a, us, rfl, ht, fun p hp => q p _ H1 _ g1 i1 hp (same_new hp).gr (S1.st i1 (same_new hp)) upd_same (ra.rev.mono (same_new hp).gr)⟩
/-- [e for x, y in pairs] over a list -/
theorem ev_lcL2 {ps : List (Dt × Dt)} {f : Dt × Dt → Dt} (hmu : S.Mu) (h : Ev K S S ρ tl (Eq (.lst (ps.map fun p => .tup [p.1, p.2])))) (hj : j ∈ vs) (hj2 : j2 ∈ vs) (hz : ps.length ≤ 100000)
    (he : ∀ x ∈ ps, Ev K S S (((wipeD ρ vs).set j (some x.1)).set j2 (some x.2)) te (Eq (f x))) (hf : ∀ x ∈ ps, nol (f x) = true) :
    Ev K S S ρ (tLc (iList K tl) (gTup K 2 (gCons (gName j) (gCons (gName j2) gNil))) tYes te vs) (Eq (.lst (ps.map f))) := fun σ H i s Q q =>
  h σ H i s _ fun v d H1 g1 i1 r1 p1 => by
    subst p1
    obtain ⟨a, us, rfl, hT, ra⟩ := r1.lstI
    have hlen : us.length = ps.length := by rw [ra.len, List.length_map]
    refine ⟨a, rfl, ⟨us, hT⟩, fun D hD => lc_list (K := K) (a := a) (xs := us) (fun n H' => Gr H1 H' ∧ S.I H' ∧ ∃ acc, H' D = some (.lst acc) ∧ RepA K H' acc ((ps.take n).map f)) ⟨(same_new hD).gr, S.st i1 (same_new hD), [], upd_same, .nil⟩
      (fun n H' _ q' => q'.1.sqL hT) (fun n x H' hx q' => ?_) fun H' q' => ?_⟩
    · obtain ⟨g2, i2, acc, ha, rac⟩ := q'
      obtain ⟨dx, hdx, rdx⟩ := ra.ta hx
      rw [List.getElem?_map] at hdx
      cases hp : ps[n]? with
      | none => rw [hp] at hdx; cases hdx
      | some p =>
        rw [hp] at hdx
        cases hdx
        obtain ⟨b, ws, rfl, hb, rb⟩ := (rdx.mono g2).tupI
        cases rb with
        | cons r1 r2 =>
          cases r2 with
          | cons r3 r4 =>
            cases r4
            rename_i v1 v2
            have hm : p ∈ ps := List.mem_of_getElem? hp
            have s2 := ((((s.mono g1).mono g2).wipe vs).set r1 j).set r3 j2
            have hnl : n < ps.length := (List.getElem?_eq_some_iff.mp hp).1
            refine ⟨b, _, rfl, hb, rfl, v1, _, rfl, v2, _, rfl, rfl, by rw [wipe_in _ j2 vs _ hj2, wipe_in _ j vs _ hj, wipe_twice], ?_⟩
            unfold tYes
            dsimp only
            rw [if_pos rfl]
            refine he p hm _ H' i2 s2 _ fun y dy H4 g4 i4 r4 e4 => ?_
            subst e4
            have ha4 : H4 D = some (.lst acc) := g4 _ _ ha rfl
            have g14 := g2.trans g4
            refine ⟨acc, ha4, ?_, gr_off g14 hD, hmu i1 g14 hD ha4 i4, acc ++ [y], upd_same, ?_⟩
            · rw [rac.len, List.length_map]
              exact Nat.lt_of_le_of_lt (List.length_take_le _ _) (Nat.lt_of_lt_of_le hnl (Nat.le_trans hz (by decide)))
            · have ht : ps.take (n + 1) = ps.take n ++ [p] := by rw [List.take_add_one, hp]; rfl
              rw [ht, List.map_append]
              have hnol : nolA ((ps.take n).map f) = true := nolA_all.mpr fun y hy => by
                obtain ⟨z, hz, rfl⟩ := List.mem_map.mp hy
                exact hf z (List.mem_of_mem_take hz)
              exact ((rac.mono g4).off ha4 hnol).app (.cons (r4.off ha4 (hf p hm)) .nil)
    · obtain ⟨g2, i2, acc, ha, rac⟩ := q'
      rw [hlen, List.take_length] at rac
      exact q _ _ H' (g1.trans g2) i2 (.lst (SqL.of ha) rac) rfl
/-! ### way_to -/
/-! ### word_along, paper_of_way -/
end
end Bf
namespace Bf
open PySem PySem.Spec PyProof.Rows L2
/-! ## taken -/
theorem WayS.steps {rc : Rcv} {sl : Sls} {t : Option Fq} {s : Stn} {way : List (Stp × Stp)} (hW : WOk rc sl) (h : WayS rc t s way) : ∀ x ∈ way, okS x.1.2.1 ∧ okS x.2.2.1 := by
  induction h with
  | st _ => exact fun _ z => nomatch z
  | @mv s w m h1 hm _ ih =>
    intro x hx
    rcases List.mem_append.mp hx with hx | hx
    · exact ih x hx
    · rw [List.mem_singleton.mp hx]
      have hs := h1.K hW
      obtain ⟨x1, hx1, hm⟩ := List.mem_flatMap.mp hm
      obtain ⟨y, hy, rfl⟩ := List.mem_map.mp hm
      have hg := (stnK_G hW hs).2
      exact ⟨(step_R (at_ok hW.ok hs.i).1 hg.2.1 hx1).1, (step_R (at_ok hW.ok hs.l).1 hg.2.2 (List.mem_filter.mp hy).1).1⟩
/-- what a paper says -/
def PaperI (CR : Addr) (rc : Rcv) (t : Fq) (e : Dt) : Prop := (∃ ks : List Stn, ks.Nodup ∧ (∀ s, s ∈ ks ↔ Led rc (some t) s) ∧ (∀ s ∈ ks, finN rc s = false) ∧ e = .tup [.str "safe", .tup (ks.map Stn.d)]) ∨ ∃ s way, WayS rc (some t) s way ∧ finN rc s = true ∧ e = paperW CR rc s way
/-- what a paper says, determined: the first final stand, and the way by which it was first reached -/
def PaperD (CR : Addr) (rc : Rcv) (t : Fq) (e : Dt) : Prop := ∃ d : Cb, CbI rc (some t) d [] ∧ (((∀ s ∈ d.map (·.1), finN rc s = false) ∧ e = .tup [.str "safe", .tup (cbK d)]) ∨ ∃ i s way, (d.map (·.1))[i]? = some s ∧ (∀ s' ∈ (d.map (·.1)).take i, finN rc s' = false) ∧ finN rc s = true ∧ WayS rc (some t) s way ∧ OgW d s way ∧ e = paperW CR rc s way)
theorem PaperD.I {CR : Addr} {rc : Rcv} {t : Fq} {e : Dt} (h : PaperD CR rc t e) : PaperI CR rc t e := by
  obtain ⟨d, hI, ⟨hf, rfl⟩ | ⟨i, s, way, _, _, hf, hw, _, rfl⟩⟩ := h
  · exact .inl ⟨d.map (·.1), hI.nd, fun s => hI.done, hf, rfl⟩
  · exact .inr ⟨s, way, hw, hf, rfl⟩
theorem PaperD.uniq {CR : Addr} {rc : Rcv} {t : Fq} {e e' : Dt} (h : PaperD CR rc t e) (h' : PaperD CR rc t e') : e = e' := by
  obtain ⟨d, hI, h⟩ := h
  obtain ⟨d', hI', h'⟩ := h'
  obtain rfl := hI.uniq hI'
  rcases h with ⟨hf, rfl⟩ | ⟨i, s, way, hi, hb, hf, hw, ho, rfl⟩ <;> rcases h' with ⟨hf', rfl⟩ | ⟨i', s', way', hi', hb', hf', hw', ho', rfl⟩
  · rfl
  · have := hf _ (List.mem_of_getElem? hi')
    rw [hf'] at this; cases this
  · have := hf' _ (List.mem_of_getElem? hi)
    rw [hf] at this; cases this
  · have hl := (List.getElem?_eq_some_iff.mp hi).1
    have hl' := (List.getElem?_eq_some_iff.mp hi').1
    have tk : ∀ {i j : Nat} {s : Stn}, (d.map (·.1))[i]? = some s → i < j → s ∈ (d.map (·.1)).take j := fun {i j s} e hij => by
      refine List.mem_of_getElem? (i := i) ?_
      rw [List.getElem?_take, if_pos hij, e]
    have : i = i' := by
      rcases Nat.lt_trichotomy i i' with z | z | z
      · have := hb' _ (tk hi z)
        rw [hf] at this; cases this
      · exact z
      · have := hb _ (tk hi' z)
        rw [hf'] at this; cases this
    subst this
    rw [hi] at hi'
    cases hi'
    rw [ho.uniq hI.nd ho']
section
variable {K : PySem.W.Frag} {mg : Str → Option Value} {Hb Fb F H : Hp} {L : List Addr} {p C CR CB CBR fI : Addr} {w : World} {ds : List Dt} {d : Dt}
end
end Bf
namespace Bf
open PySem PySem.Spec PyProof.Rows L2
/-! ## a way within a tolerance is a way whose greatest need is within it -/
section
variable {rc : Rcv} {t : Fq} {s : Stn}
end
end Bf
namespace Bf
open PySem PySem.Spec PyProof.Rows L2
/-! ## a way, as a paper tells it: two walks, their bits and durations -/
abbrev Way := List (Stp × Stp)
def dur1 (w : Way) : List Int := w.map fun x => x.1.2.1
def dur2 (w : Way) : List Int := w.map fun x => x.2.2.1
def bit1 (w : Way) : List Int := (w.map (·.1)).filterMap (·.1)
def bit2 (w : Way) : List Int := (w.map (·.2)).filterMap (·.1)
structure TwoV (rc : Rcv) (t : Option Fq) (s : Stn) (w : Way) : Prop where
  inr : inR rc s
  le : s.lw ≤ s.ix
  a : Wlk (tabAt rc s.ix) (tabAt rc s.ix).beg (dur1 w) (bit1 w) s.a
  b : Wlk (tabAt rc s.lw) (tabAt rc s.lw).beg (dur2 w) (bit2 w) s.b
  q : ∀ x ∈ w, okTol t (canP (needP x.1.2.1 x.2.2.1 (tolAt rc s.lw))) = true
  lt : s.lw < s.ix → s.le = true
  eq : s.lw = s.ix → s.le = false → bit1 w = bit2 w ∧ s.a = s.b
  ls : s.lw = s.ix → s.le = true → Lss (bit2 w) (bit1 w)
end Bf
namespace Bf
open PySem PySem.Spec PyProof.Rows L2
/-! ## the burst of a paper is near both frames -/
end Bf
namespace Bf
open PySem PySem.Spec PyProof.Rows L2 PySem.SeqAt
/-! ## a list != [], whatever it holds -/
def rNeNil (K : PySem.W.Frag) : R2 := fun x y H Q => ∃ a b xs, x = .ref a ∧ y = .ref b ∧ SqL K H a xs ∧ SqL K H b [] ∧ Q (.bl (!xs.isEmpty)) H
theorem op_neNil {X : Cx} (hu : X.A.units + 64 < cLine) : OpR X (compareOp .NotEq) (rNeNil X.K) := by
  intro pins s σ H x y v u Q I rx ry h
  obtain ⟨a, b, xs, rfl, rfl, hA, hB, q⟩ := h
  cases (show v = Value.ref a from rx)
  cases (show u = Value.ref b from ry)
  obtain ⟨its, r, p, _⟩ := I.list hA
  obtain ⟨its2, r2, p2, _⟩ := I.list hB
  cases r2
  have hl := r.length
  cases xs with
  | nil =>
    cases r
    have rc := RcNeAt.lists (e := fun _ => true) p.isList p2.isList (A := X.A) (s := s) rfl (by omega) fun j h1 h2 => absurd h1 (by simp)
    exact rc X.prog X.w _ _ ⟨.bl _, H, I, rfl, q⟩
  | cons x xs =>
    have rc := RcNeAt.lists_lengths p.isList p2.isList (A := X.A) (s := s) (by
      cases its with
      | nil => simp at hl
      | cons i is => simp) (by omega)
    exact rc X.prog X.w _ _ ⟨.bl _, H, I, rfl, q⟩
theorem rv_neNil {K : PySem.W.Frag} {S : Sta} {xs : List Dt} : Rv2 K S (rNeNil K) (.lst xs) (.lst []) (Eq (.bl (!xs.isEmpty))) := rv_at fun H v u _ r1 r2 Q q => by
  obtain ⟨a, vs, rfl, ha, ra⟩ := r1.lstI
  obtain ⟨b, us, rfl, hb, rb⟩ := r2.lstI
  cases rb
  refine ⟨a, b, vs, rfl, rfl, ha, hb, ?_⟩
  have e : vs.isEmpty = xs.isEmpty := by
    have := ra.len
    cases vs <;> cases xs <;> simp at this ⊢
  rw [e]
  exact q _ (.bl _)
end Bf
namespace Bf
open PySem PySem.Spec PyProof.Rows L2
/-! ## defs by Sm that hand back a new list; start_stands so -/
section
variable {K : PySem.W.Frag} {mg : Str → Option Value} {Hb Fb F F' H H' A B : Hp} {L L' : List Addr} {p C CR CB fI x : Addr} {o : HO} {v : V} {d q : Dt} {σ : L2.St} {ρ : List (Option Dt)} {P : Pm} {te tl : TE} {t w' : TS} {j j1 j2 i n : Nat} {xs ys ds : List Dt} {S : Sta} {w : World} {Φ : Dt → Prop} {E : XK}
end
end Bf
namespace Bf
open PySem PySem.Spec PyProof.Rows L2
/-! ## the law's own: steps, starts, what leads on, is_final -/
theorem WayS.R {rc : Rcv} {t : Option Fq} {s : Stn} {way : List (Stp × Stp)} (hr : rcvOk rc) (h : WayS rc t s way) : stnR rc s ∧ (s.le = false → s.ix = s.lw ∧ s.a = s.b) := by
  induction h with
  | @st s h =>
    have hi := inR_sts h
    obtain ⟨i, hi', h⟩ := List.mem_flatMap.mp h
    obtain ⟨j, hj, rfl⟩ := List.mem_map.mp h
    refine ⟨⟨hi, beg_R (at_ok hr hi.1).1, beg_R (at_ok hr hi.2).1⟩, fun e => ?_⟩
    have e' : decide (j < i) = false := e
    have hj := List.mem_range.mp hj
    have : i = j := by have := of_decide_eq_false e'; omega
    subst this
    exact ⟨rfl, rfl⟩
  | @mv s w m _ hm _ ih =>
    obtain ⟨hR, hE⟩ := ih
    refine ⟨(mv_ok hr hR (m := (m.1, m.2.1)) (List.mem_map.mpr ⟨m, hm, rfl⟩)).2, fun e => ?_⟩
    obtain ⟨x, hx, hm⟩ := List.mem_flatMap.mp hm
    obtain ⟨y, hy, rfl⟩ := List.mem_map.mp hm
    have e1 : s.le = false ∧ y.1 = x.1 := by
      have e' : (s.le || !decide (y.1 = x.1)) = false := e
      simpa using e'
    obtain ⟨h1, h2⟩ := hE e1.1
    have hy := (List.mem_filter.mp hy).1
    rw [← h1, ← h2] at hy
    have := (steps_two hx hy).1 e1.2.symm
    subst this
    exact ⟨h1, rfl⟩
section
variable {K : PySem.W.Frag} {mg : Str → Option Value} {Hb Fb F F' H H' A B : Hp} {L L' : List Addr} {p C CR CB fI x : Addr} {o : HO} {v : V} {d q : Dt} {σ : L2.St} {ρ : List (Option Dt)} {P : Pm} {te tl : TE} {t w' tw : TS} {j j1 j2 i n : Nat} {xs ys ds : List Dt} {S : Sta} {w : World} {Φ : Dt → Prop} {E : XK}
end
end Bf
namespace Bf
open PySem PySem.Spec PyProof.Rows L2
/-! ## a paper "taken" that a way shows holds -/
end Bf
namespace Bf
open PySem PySem.Spec PyProof.Rows L2 PySem.SeqAt
/-! ## sendings by their order: (an int, a tuple of ints) -/
section
variable {A : Around} {s : Shared} {p q : Addr} {its its2 : List Value} {ns ms : List Int}
end
def sndLt (i : Int) (ns : List Int) (j : Int) (ms : List Int) : Bool := if i = j then ltB ns ms else decide (i < j)
end Bf
namespace Bf
open PySem PySem.Spec PyProof.Rows L2
/-! ## _law_led -/
section
variable {K : PySem.W.Frag} {mg : Str → Option Value} {Hb Fb F F' H H' A B : Hp} {L L' : List Addr} {p C CR CB fI x : Addr} {o : HO} {v : V} {d q : Dt} {σ : L2.St} {ρ : List (Option Dt)} {P : Pm} {te tl : TE} {t w' tw : TS} {j j1 j2 i n : Nat} {xs ys ds : List Dt} {S : Sta} {w : World} {Φ : Dt → Prop} {E : XK}
end
end Bf
namespace Bf
open PySem PySem.Spec PyProof.Rows L2
/-! ## _law_is_final, _law_stands -/
section
variable {K : PySem.W.Frag} {mg : Str → Option Value} {Hb Fb F F' H H' A B : Hp} {L L' : List Addr} {p C CR CB fI x : Addr} {o : HO} {v : V} {d q : Dt} {σ : L2.St} {ρ : List (Option Dt)} {P : Pm} {te tl : TE} {t w' tw : TS} {j j1 j2 i n : Nat} {xs ys ds : List Dt} {S : Sta} {w : World} {Φ : Dt → Prop} {E : XK}
end
end Bf
namespace Bf
open PySem PySem.Spec PyProof.Rows L2
/-! ## [k for k in a dict with tuples as keys if ..], the dict locked -/
section
variable {X : Cx} {pins : List (Addr × Obj)} {σ : L2.St} {H : Hp} {s : Shared}
end
section
variable {P : Program} {w : World} {K : PySem.W.Frag} {tg : Expr} {d : Addr} {o : Obj} {es : Array DictEntry} {ep : Nat}
end
/-! data that hold no list and no dict stay, whatever happens to a dict -/
mutual
def noD : Dt → Bool
  | .non => true
  | .bl _ => true
  | .int _ => true
  | .str _ => true
  | .raw _ => true
  | .tup xs => noDA xs
  | .ins _ _ xs => noDA xs
  | _ => false
def noDA : List Dt → Bool
  | [] => true
  | x :: xs => noD x && noDA xs
end
mutual
theorem noD_fix : ∀ {d : Dt}, fixd d = true → noD d = true
  | .non, _ => rfl
  | .bl _, _ => rfl
  | .int _, _ => rfl
  | .str _, _ => rfl
  | .raw _, _ => rfl
  | .tup xs, h => by simp only [noD]; exact noDA_fix (by simpa only [fixd] using h)
  | .ins _ _ xs, h => by simp only [noD]; exact noDA_fix (by simpa only [fixd] using h)
  | .lst _, h => by simp [fixd] at h
  | .dic .., h => by simp [fixd] at h
  | .lat .., h => by simp [fixd] at h
  | .err .., h => by simp [fixd] at h
  | .dct .., h => by simp [fixd] at h
  | .dti .., h => by simp [fixd] at h
  | .dat .., h => by simp [fixd] at h
  | .cel .., h => by simp [fixd] at h
theorem noDA_fix : ∀ {xs : List Dt}, fixdA xs = true → noDA xs = true
  | [], _ => rfl
  | x :: xs, h => by
    simp only [fixdA, Bool.and_eq_true] at h
    simp only [noDA, noD_fix h.1, noDA_fix h.2, Bool.and_self]
end
section
variable {K : PySem.W.Frag} {A B : Hp} {q : Addr}
/-- at q stands a dict with tuples as keys, perhaps locked -/
def DatAt (A : Hp) (q : Addr) : Prop := (∃ f, A q = some (.ext f)) ∨ ∃ o f, A q = some (.frz o (.ext f))
theorem DatAt.ne (h : DatAt A q) {a : Addr} {o : HO} (e : A a = some o) (n1 : ∀ f, o ≠ .ext f) (n2 : ∀ ob f, o ≠ .frz ob (.ext f)) : a ≠ q := fun z => by
  rw [z] at e
  rcases h with ⟨f, h⟩ | ⟨ob, f, h⟩
  · rw [e] at h; exact n1 _ (Option.some.inj h)
  · rw [e] at h; exact n2 _ _ (Option.some.inj h)
mutual
theorem Rep.aside (hq : DatAt A q) (h : ∀ a o, a ≠ q → A a = some o → B a = some o) : ∀ {v : V} {d : Dt}, noD d = true → Rep K A v d → Rep K B v d
  | _, _, _, .non => .non
  | _, _, _, .bl b => .bl b
  | _, _, _, .int i => .int i
  | _, _, _, .str x => .str x
  | _, _, _, .raw v => .raw v
  | _, _, f, .tup q' r => .tup (by
      rcases q' with (q' | ⟨o, q'⟩) | q'
      · exact .inl (.inl (h _ _ (hq.ne q' (fun _ z => nomatch z) fun _ _ z => nomatch z) q'))
      · exact .inl (.inr ⟨o, h _ _ (hq.ne q' (fun _ z => nomatch z) fun _ _ z => by cases z) q'⟩)
      · exact .inr q') (r.aside hq h (by simpa only [noD] using f))
  | _, _, f, .ins q' r => .ins (h _ _ (hq.ne q' (fun _ z => nomatch z) fun _ _ z => nomatch z) q') (r.aside hq h (by simpa only [noD] using f))
  | _, _, f, .lst _ _ => by simp [noD] at f
  | _, _, f, .dat _ _ _ _ => by simp [noD] at f
  | _, _, f, .lat _ _ => by simp [noD] at f
  | _, _, f, .dic _ => by simp [noD] at f
  | _, _, f, .err _ _ _ => by simp [noD] at f
  | _, _, f, .dct _ _ _ => by simp [noD] at f
  | _, _, f, .dti _ _ _ => by simp [noD] at f
  | _, _, f, .cel _ _ => by simp [noD] at f
theorem RepA.aside (hq : DatAt A q) (h : ∀ a o, a ≠ q → A a = some o → B a = some o) : ∀ {vs : List V} {ds : List Dt}, noDA ds = true → RepA K A vs ds → RepA K B vs ds
  | _, _, _, .nil => .nil
  | _, _, f, .cons q' r => by
    simp only [noDA, Bool.and_eq_true] at f
    exact .cons (q'.aside hq h f.1) (r.aside hq h f.2)
end
end
end Bf
namespace Bf
open PySem PySem.Spec PyProof.Rows L2
/-! ## len(a dict with tuples as keys), dict(pairs) so -/
section
variable {X : Cx}
end
section
variable {K : PySem.W.Frag} {S S1 S2 SB SF : Sta} {L : List Addr} {ρ : List (Option Dt)} {td ty te ta tb : TE} {tt : TT} {ks xs ys : List Dt} {q d d0 : Dt} {p : Addr} {w : World} {tw : TS} {P : Po} {i j b : Nat} {vs : List Nat}
mutual
theorem noD_nol : ∀ {d : Dt}, noD d = true → nol d = true
  | .non, _ => rfl
  | .bl _, _ => rfl
  | .int _, _ => rfl
  | .str _, _ => rfl
  | .raw _, h => by first | rfl | simp [nol]
  | .tup xs, h => by simp only [nol]; exact noDA_nol (by simpa only [noD] using h)
  | .ins _ _ xs, h => by simp only [nol]; exact noDA_nol (by simpa only [noD] using h)
  | .lst _, h => by simp [noD] at h
  | .dic .., h => by simp [noD] at h
  | .lat .., h => by simp [noD] at h
  | .err .., h => by simp [noD] at h
  | .dct .., h => by simp [noD] at h
  | .dti .., h => by simp [noD] at h
  | .dat .., h => by simp [noD] at h
  | .cel .., h => by simp [noD] at h
theorem noDA_nol : ∀ {xs : List Dt}, noDA xs = true → nolA xs = true
  | [], _ => rfl
  | x :: xs, h => by
    simp only [noDA, Bool.and_eq_true] at h
    simp only [nolA, noD_nol h.1, noDA_nol h.2, Bool.and_self]
end
end
end Bf
namespace Bf
open PySem PySem.Spec PyProof.Rows L2
/-! ### places stay small -/
def Site.sm (T : Tab) (s : Site) : Prop := 0 ≤ s.k ∧ s.k ≤ T.b ∧ s.rest.length ≤ 8 ∧ (∀ x ∈ s.rest, 0 ≤ x ∧ x ≤ 200000) ∧ T.oOk s.o
/-! ## The law itself -/
section
variable {K : PySem.W.Frag} {a : Addr} {c : CT} {cs : List Int}
end
end Bf
namespace Bf
open PySem PySem.Spec PyProof.Rows L2
/-! ## The law of stands -/
section
variable {K : PySem.W.Frag} {S S1 S2 : Sta} {ρ : List (Option Dt)} {te ta tb : TE} {a : Addr} {c : CT} {cs : List Int} {C CB : Addr} {P : Po} {w : World}
end
end Bf
namespace Bf
open PySem PySem.Spec PyProof.Rows L2
/-! ## check_taken of papers that hold -/
theorem WayS.none {rc : Rcv} {t : Option Fq} {s : Stn} {w : Way} (h : WayS rc t s w) : WayS rc .none s w := by
  induction h with
  | st h => exact .st h
  | mv _ hm _ ih => exact .mv ih hm rfl
/-! ### has_form_of_place, has_form_of_stand -/
section
variable {K : PySem.W.Frag} {mg : Str → Option Value} {Hb Fb F H : Hp} {L : List Addr} {p C CR CB CBR fI : Addr} {w : World} {ρ : List (Option Dt)} {ds l1 l2 : List Dt} {d : Dt} {Φ : Dt → Prop} {S : Sta} {tt c : TT}
/-! ### as_listed -/
end
end Bf
namespace Bf
open PySem PySem.Spec PyProof.Rows L2
/-! ## wrong_part_of_safe -/
/-- stands that are a paper "safe" -/
structure SafeP (rc : Rcv) (t : Fq) (ks : List Stn) : Prop where
  nd : ks.Nodup
  st : ∀ s ∈ stsN rc, s ∈ ks
  led : ∀ s ∈ ks, Led rc none s
  fin : ∀ s ∈ ks, finN rc s = false
  cl : ∀ s ∈ ks, ∀ m ∈ mv3 rc s, okTol (some t) m.1 = true → m.2.1 ∈ ks
section
variable {K : PySem.W.Frag} {mg : Str → Option Value} {Hb Fb F H : Hp} {L : List Addr} {p C CR CB CBR fI : Addr} {w : World} {ρ : List (Option Dt)} {ds l1 l2 : List Dt} {d : Dt} {Φ : Dt → Prop} {S : Sta} {tt c : TT}
end
end Bf
namespace Bf
open PySem PySem.Spec PyProof.Rows L2
/-! ## frame_of_sending, wrong_part_of_taken, check_taken -/
def sndD (i : Nat) (w : List Int) : Dt := .tup [.int i, tI w]
/-- a paper "taken" that holds -/
structure TakenP (rc : Rcv) (t : Fq) (i j : Nat) (v w : List Int) (bs : List Fq) : Prop where
  pair : PairOk rc i j v w
  len : bs.length = ((tabAt rc i).frame v).length
  short : bs.length ≤ 63
  ok : ∀ b ∈ bs, okP b
  near : ∀ q ∈ bs.zip ((tabAt rc i).frame v), lessP t (offP q.1 q.2) = false
  near2 : ∀ q ∈ bs.zip ((tabAt rc j).frame w), lessP (tolAt rc j) (offP q.1 q.2) = false
def takD (C : Addr) (i j : Nat) (v w : List Int) (bs : List Fq) : Dt := .tup [.str "taken", sndD i v, sndD j w, bD C bs]
theorem PairOk.sndLt {rc : Rcv} {i j : Nat} {v w : List Int} (h : PairOk rc i j v w) : sndLt j w i v = true := by
  unfold Bf.sndLt
  by_cases e : (j : Int) = i
  · rw [if_pos e]
    rcases h.lt with h1 | h1
    · omega
    · exact lss_lt h1
  · rw [if_neg e]
    have := h.le
    exact decide_eq_true (by omega)
def isPap (CR : Addr) (rc : Rcv) (t : Fq) (e : Dt) : Prop := (∃ ks, SafeP rc t ks ∧ e = .tup [.str "safe", .tup (ks.map Stn.d)]) ∨ ∃ i j v w bs, TakenP rc t i j v w bs ∧ e = takD CR i j v w bs
section
variable {K : PySem.W.Frag} {mg : Str → Option Value} {p C CB CBR fI : Addr} {w : World} {ds : List Dt} {d : Dt} {S : Sta}
end
end Bf
namespace Bf
open PySem PySem.Spec PyProof.Rows L2
/-! ## _law_is_taken -/
section
variable {K : PySem.W.Frag} {mg : Str → Option Value} {p C CB CBR fI : Addr} {w : World} {ds : List Dt} {d : Dt} {S : Sta}
end
end Bf
namespace Bf
open PySem PySem.Spec PyProof.Rows L2
/-! ## The law of what is taken -/
/-- whether the limit is within a tolerance -/
def dueB (rc : Rcv) (r : Fq) : Bool := match limF rc with
  | none => false
  | some q => !lessP r q
/-- what is known of a paper that is told -/
structure PapK (C : Addr) (rc : Rcv) (r : Fq) (e : Dt) (xs : List Dt) : Prop where
  sh : e = .tup (.str (if dueB rc r = true then "taken" else "safe") :: xs)
  len : xs.length = if dueB rc r = true then 3 else 1
  eq : ∀ x ∈ xs, eqK C 4 x
  pap : isPap C rc (canP r) e
  tak : dueB rc r = true → ∃ i j v w bs, TakenP rc (canP r) i j v w bs ∧ e = takD C i j v w bs
section
variable {K : PySem.W.Frag} {S S1 S2 : Sta} {ρ : List (Option Dt)} {te ta tb : TE} {a : Addr} {c : CT} {cs : List Int} {C CB : Addr} {P : Po} {w : World}
end
end Bf
namespace Bf
open PySem PySem.Spec PyProof.Rows L2
/-! ## _law_great, _law_halves_right -/
section
variable {K : PySem.W.Frag} {S S1 S2 : Sta} {ρ : List (Option Dt)} {te ta tb : TE} {a : Addr} {c : CT} {cs : List Int} {C CB : Addr} {P : Po} {w : World} {ds : List Dt} {n : Nat}
end
end Bf
namespace Bf
open PySem PySem.Spec PyProof.Rows L2
/-! ## Reading a table's text: the program -/
abbrev t_is_numeral (K : PySem.W.Frag) : TS := (tSeq (tIfS (tOr (tNot (tAnd (tB (tM0 rAsc (tVar 0))) (tB (tM0 rDig (tVar 0))))) (tTest (tOp rGtI (tCB rLenS (tCons (tVar 0) tNil)) (tVar 1)))) (tRet (tC (.bl false))) tNext)
    (tRet (tOrV (tOp rEq (tVar 0) (tC (.str "0"))) (tNotV (tM1 rStw (tVar 0) (tC (.str "0")))))))
section
variable {K : PySem.W.Frag} {S S1 : Sta} {ρ : List (Option Dt)} {ta tb : TE} {ds : List Dt} {d : Dt} {a : Str} {t : Bool}
end
end Bf
namespace Bf
open PySem PySem.Spec PyProof.Rows L2
/-! ## Reading a table's text: numbers_by, split_text, read_pairs, read_table -/
abbrev dI (xs : List Int) : Dt := .lst (xs.map Dt.int)
section
variable {K : PySem.W.Frag} {S : Sta} {ds : List Dt} {o : Out} {CT CB : Addr} {E : XK}
end
/-! ### split_text, read_pairs, read_table -/
def r_spt (CT : Addr) (ds : List Dt) (o : Out) : Prop := ∃ d, ds = [d] ∧ okN d = true ∧ ((∃ a : Str, d = .str a ∧ a.length ≤ 900 ∧ o = .ok (dS (wdsOf a))) ∨ (isStrD d = false ∧ o = .er CT "word" (.int 0)))
abbrev p_split_text (K : PySem.W.Frag) (CT : Addr) : Sp := spX K 1 (r_spt CT)
abbrev t_split_text (K : PySem.W.Frag) (CT : Addr) (E : XK) : TS := (tSeq (tIfS (tNot (tB (tCB (rIsi K) (tCons (tVar 0) (tCons (tC (.ty "str")) tNil))))) (tRaiseB CT "word" (fun cls d _ H => E cls d H) (tCons (tC (.int 0)) tNil)) tNext)
    (tRet (tM1 rSplit (tVar 0) (tC (.str " ")))))
def txOk (d : Dt) : Prop := okN d = true ∧ (isStrD d = false ∨ ∃ a : Str, d = .str a ∧ a.length ≤ 900)
section
variable {K : PySem.W.Frag} {S : Sta} {ds : List Dt} {o : Out} {CT CB pP pH : Addr} {E : XK}
theorem so_split_text (hp : r_spt CT ds o) (hw : ∀ C f d, o = .er C f d → XW K S C f d E) : So K S S [] (t_split_text K CT E) (startD 1 ds) (PO o) := by
  obtain ⟨d, rfl, hd, h⟩ := hp
  rcases h with ⟨a, rfl, ha, rfl⟩ | ⟨hs, rfl⟩
  · exact so_ifF ((et_not (et_B (ev_isStr (ev_var rfl) hd))).to rfl) (so_skip (so_retD (en_split (ev_var rfl) ev_str (by decide +kernel) (Nat.le_trans (Nat.add_le_add_right ha 2) (by decide))).ev (Sta.Le.refl S) rfl))
  · exact so_ifT ((et_not (et_B (ev_isStr (ev_var rfl) hd))).to (by rw [hs]; rfl)) (so_raise1B ev_int (hw _ _ _ rfl))
end
end Bf
namespace Bf
open PySem PySem.Spec PyProof.Rows L2
/-! ## read_table, is_pairs, table_text -/
section
variable {K : PySem.W.Frag} {S S1 : Sta} {ρ : List (Option Dt)} {te : TE} {w : TS} {ds : List Dt} {o : Out} {CT CB pP pH : Addr} {E : XK} {T : Tab}
end
end Bf
namespace Bf
open PySem PySem.Spec PyProof.Rows L2
/-! ## The text of a table, written and read again -/
def txI (i : Int) : Str := Str.ofString (toString i)
def txD : Dt → Str
  | .int i => txI i
  | .str a => a
  | _ => ""
/-- what stands in the text, word by word -/
def Tab.ws : Tab → List Dt
  | .ha u b => [.str "halves", .int u, .int b]
  | .pa h a b c d s n => .str "pairs" :: (h.map Dt.int ++ [.str "/", .int a, .int b, .str "/", .int c, .int d, .str "/", .int s, .str "/", .int n])
def Tab.wds (T : Tab) : List Str := T.ws.map txD
def Tab.txt (T : Tab) : Str := Txt.join " " T.wds
theorem sg_join (y : Str) (ps : List Str) : sg (Txt.join y ps) = TL.joinL (sg y) (ps.map sg) := (congrArg TL.tl (TL.join_eq y ps)).trans (TL.tl_join y ps)
theorem sum_le : ∀ (ws : List Str) (k : Nat), (∀ w ∈ ws, w.length ≤ k) → (ws.map (·.length)).sum ≤ ws.length * k
  | [], _, _ => by simp
  | w :: ws, k, h => by
    have := sum_le ws k fun v hv => h v (List.mem_cons_of_mem _ hv)
    have h1 := h w List.mem_cons_self
    simp only [List.map_cons, List.sum_cons, List.length_cons, Nat.succ_mul]
    omega
end Bf
namespace Bf
open PySem PySem.Spec PyProof.Rows L2
/-! ## Ratios as texts -/
theorem room_d {k : Nat} {A : Around} (r : Room k A) : A.depth + 1 < recursionLimit := by have := r.dp; omega
/-- what is known of a classmethod, of __str__ -/
structure CmT (K : PySem.W.Frag) (C : Addr) (x qual : Str) (st : Stmt) (f : Addr) (fd : FuncData) (ps : List Str) (p : Addr) : Prop where
  fn : Fun K x qual st f fd
  r : ClX.CRead K C (.type "type")
  c : ClX.CMet K C (.type "type") x p f
  b : Binds K fd ps []
structure SmT (K : PySem.W.Frag) (C : Addr) (x qual : Str) (st : Stmt) (f : Addr) (fd : FuncData) (ps : List Str) : Prop where
  fn : Fun K x qual st f fd
  s : PySem.W.findIn K (.ref C) x = some (some (.ref f))
  f : PySem.W.isFn K (.ref f) = true
  b : Binds K fd ps []
abbrev rZfill : V → List V → Hp → VK → Prop := fun x xs H Q => ∃ (a : Str) (i : Int), x = .str a ∧ xs = [.int i] ∧ PadOk i = true ∧ Q (.str (Txt.zfill a i)) H
/-- f'..' of several parts -/
abbrev tJoined (ts : List TE) : TE := fun σ H Q => tJs ts Str.empty σ H fun out H1 => Q (.str out) H1
section
variable {K : PySem.W.Frag} {S S1 S2 S3 : Sta} {ρ : List (Option Dt)} {te ta tb tc : TE} {a b c : Str}
theorem ev_fmt (h : Ev K S S1 ρ te (Eq (.str a))) (hz : a.length ≤ sizeLine) : Ev K S S1 ρ (tFmt te) (Eq (.str a)) := fun σ H i s Q q => h σ H i s _ fun v d H1 g1 i1 r1 e => by
  subst e
  obtain rfl := r1.strI
  exact .inl ⟨a, rfl, hz, q _ _ H1 g1 i1 (.str a) rfl⟩
theorem empA (x : Str) : Str.empty ++ x = x := sg_ext (by show (#[] ++ x.cps).toList = _; simp)
theorem ev_joined3 (h1 : Ev K S S1 ρ ta (Eq (.str a))) (h2 : Ev K S1 S2 ρ tb (Eq (.str b))) (h3 : Ev K S2 S3 ρ tc (Eq (.str c))) (hz : a.length + b.length + c.length ≤ sizeLine) : Ev K S S3 ρ (tJoined [ta, tb, tc]) (Eq (.str (a ++ b ++ c))) := fun σ H i s Q q =>
  h1 σ H i s _ fun v1 d1 H1 g1 i1 r1 e1 => by
    subst e1
    obtain rfl := r1.strI
    refine ⟨a, rfl, by rw [empA]; omega, h2 σ H1 i1 (s.mono g1) _ fun v2 d2 H2 g2 i2 r2 e2 => ?_⟩
    subst e2
    obtain rfl := r2.strI
    rw [empA]
    refine ⟨b, rfl, by rw [lenY]; omega, h3 σ H2 i2 ((s.mono g1).mono g2) _ fun v3 d3 H3 g3 i3 r3 e3 => ?_⟩
    subst e3
    obtain rfl := r3.strI
    refine ⟨c, rfl, by rw [lenY, lenY]; omega, ?_⟩
    exact q _ _ H3 ((g1.trans g2).trans g3) i3 (.str _) rfl
where
  lenY (x y : Str) : (x ++ y).length = x.length + y.length := by
    show (x.cps ++ y.cps).size = _
    rw [Array.size_append]
    rfl
theorem et_truS (h : Ev K S S1 ρ te (Eq (.str a))) (hz : a.length ≤ sizeLine) : EvT K S S1 ρ (tTru K te) (Eq ((a.length : Int) != 0)) := fun σ H i s Q q => h σ H i s _ fun v d H1 g1 i1 r1 e => by
  subst e
  obtain rfl := r1.strI
  exact ⟨_, ⟨hz, rfl⟩, q _ H1 g1 i1 rfl⟩
end
/-! ### decimal_of, __str__ -/
def r_dec (ds : List Dt) (d : Dt) : Prop := ∃ n : Nat, ds = [.int n] ∧ n < 10 ^ 64 ∧ d = .str (numT n)
abbrev p_decimal_of (K : PySem.W.Frag) : Sp := spR K 1 r_dec
abbrev t_decimal_of (K : PySem.W.Frag) : TS := (tSeq (tAsg (tLst tNil) (gName 1))
    (tSeq (tAsg (tVar 0) (gName 2))
    (tSeq (tWhile (tTest (tOp rGeI (tVar 2) (tC (.int 10000000000000000000000000000000000000000000000000000000000000000)))) (tSeq (tDrop (tBM K "list" rAppend (tVar 1) (tCons (tBM K "str" rZfill (tCB rStrX (tCons (tOp rModI (tVar 2) (tC (.int 10000000000000000000000000000000000000000000000000000000000000000))) tNil)) (tCons (tC (.int 64)) tNil)) tNil)))
    (tAsg (tOp rDivW (tVar 2) (tC (.int 10000000000000000000000000000000000000000000000000000000000000000))) (gName 2))))
    (tSeq (tDrop (tBM K "list" rAppend (tVar 1) (tCons (tCB rStrX (tCons (tVar 2) tNil)) tNil)))
    (tRet (tM1 (rJoin K) (tC (.str "")) (tRevL K (tVar 1))))))))
def ratT (n m : Nat) : Str := if m = 1 then numT n else numT n ++ "/" ++ numT m
def r_ostr (C : Addr) (ds : List Dt) (d : Dt) : Prop := ∃ n m : Nat, ds = [rat C n m] ∧ n < 10 ^ 64 ∧ m < 10 ^ 64 ∧ d = .str (ratT n m)
abbrev p_o_str (K : PySem.W.Frag) (C : Addr) : Sp := spR K 1 (r_ostr C)
abbrev t_o_str (K : PySem.W.Frag) : TS := (tSeq (tIfS (tTest (tOp rEq (L2.tFld K (tVar 0) "_den") (tC (.int 1)))) (tRet (tFmt (tCall (p_decimal_of K) [] E0 (tCons (L2.tFld K (tVar 0) "_num") tNil)))) tNext)
    (tRet (tJoined [(tFmt (tCall (p_decimal_of K) [] E0 (tCons (L2.tFld K (tVar 0) "_num") tNil))), (tC (.str "/")), (tFmt (tCall (p_decimal_of K) [] E0 (tCons (L2.tFld K (tVar 0) "_den") tNil)))])))
theorem numT_len {n k : Nat} (hk : 0 < k) (h : n < 10 ^ k) : (numT n).length ≤ k := by
  rw [← sg_len, sg_num]
  exact TL.numL_len hk h
theorem log_big {n : Nat} (h : n < 10 ^ 64) : ((n : Nat) : Int).natAbs.log2 < 1920 := by
  rw [Int.natAbs_natCast]
  rcases Nat.eq_zero_or_pos n with z | z
  · rw [z]; decide
  · exact (Nat.log2_lt (by omega)).mpr (Nat.lt_of_lt_of_le h (Nat.le_trans (show 10 ^ 64 ≤ 2 ^ 220 by decide) (Nat.pow_le_pow_right (by decide) (by decide))))
theorem join_one (x : Str) : Txt.join "" [x] = x := by
  refine sg_ext ?_
  rw [sg_join]
  rfl
section
variable {K : PySem.W.Frag} {mg : Str → Option Value} {C fI pN gN pD gD : Addr} {S S1 : Sta} {ρ : List (Option Dt)} {te : TE} {ds : List Dt} {d : Dt}
theorem so_decimal_of (hmu : S.Mu) (hp : r_dec ds d) : So K S S [] (t_decimal_of K) (startD 3 ds) (Pu d) := by
  obtain ⟨n, rfl, hn, rfl⟩ := hp
  refine so_newF (en_lst ea_nil (Nat.zero_le _)) (Sta.Le.refl _) fun p hne => so_setD (ev_var rfl) ?_
  refine so_re (ρ' := [some (.int n), some (.lat p []), some (.int n)]) rfl ?_
  refine so_while1F ((et_test (ev_op (ev_var rfl) ev_int rv_ge)).to (decide_eq_false (by
    have e : (10000000000000000000000000000000000000000000000000000000000000000 : Int) = ((10 ^ 64 : Nat) : Int) := by decide
    rw [e]
    omega))) ?_
  refine so_appP (p := p) (d := .str (numT n)) List.mem_cons_self (mu_looseP hmu) rfl rfl (Offs.mk ⟨fun _ d e => by cases e; rfl, fun h => absurd rfl h, fun _ d e => by cases e; rfl, trivial⟩) (by decide) (ev_cb (ea_cons (ev_var rfl) ea_nil) (rc_strXI (log_big hn))) rfl ?_
  refine so_retD (ev_join (ys := [numT n]) ev_str ((en_revL (xs := [.str (numT n)]) (ev_lat (ev_var rfl))).ev.to rfl) ?_) (Sta.Le.refl _) ?_
  · have h1 := numT_len (by decide) hn
    have h2 : ("" : Str).length = 0 := by decide +kernel
    simp only [List.map_cons, List.map_nil, List.sum_cons, List.sum_nil, List.length_cons, List.length_nil, h2]
    omega
  · rw [join_one]
theorem ev_decimal_of {n : Nat} (h : Ev K S S1 ρ te (Eq (.int n))) (hn : n < 10 ^ 64) : Ev K S S1 ρ (tCall (p_decimal_of K) [] E0 (tCons te tNil)) (Eq (.str (numT n))) := ev_callR (ea_cons h ea_nil) rfl ⟨n, rfl, hn, rfl⟩
theorem so_o_str (T : RatT K mg C fI pN gN pD gD) (hp : r_ostr C ds d) : So K S S [] (t_o_str K) (startD 1 ds) (Pu d) := by
  obtain ⟨n, m, rfl, hn, hm, rfl⟩ := hp
  have z1 : (numT n).length ≤ sizeLine := Nat.le_trans (numT_len (by decide) hn) (by decide)
  have z2 : (numT m).length ≤ sizeLine := Nat.le_trans (numT_len (by decide) hm) (by decide)
  have z3 : (numT n).length + ("/" : Str).length + (numT m).length ≤ sizeLine := Nat.le_trans (Nat.add_le_add (Nat.add_le_add (numT_len (by decide) hn) (Nat.le_refl _)) (numT_len (by decide) hm)) (by decide +kernel)
  refine so_ifD (et_test (ev_op (ev_fd T (ev_var rfl)) ev_int rv_eqI)) (fun e => ?_) fun e => so_skip ?_
  · have e : ((m : Nat) : Int) = 1 := of_decide_eq_true e
    refine so_ret1D (ev_fmt (ev_decimal_of (ev_fn T (ev_var rfl)) hn) z1) (Sta.Le.refl S) ?_
    show Dt.str (ratT n m) = _
    unfold ratT
    rw [if_pos (by omega)]
  · have e : ¬ ((m : Nat) : Int) = 1 := of_decide_eq_false e
    refine so_retD (ev_joined3 (ev_fmt (ev_decimal_of (ev_fn T (ev_var rfl)) hn) z1) ev_str (ev_fmt (ev_decimal_of (ev_fd T (ev_var rfl)) hm) z2) z3) (Sta.Le.refl S) ?_
    show Dt.str (ratT n m) = _
    unfold ratT
    rw [if_neg (by omega)]
/-- str(a ratio) -/
theorem ev_strO {n m : Nat} (h : Ev K S S1 ρ te (Eq (rat C n m))) (hn : n < 10 ^ 64) (hm : m < 10 ^ 64) : Ev K S S1 ρ (tCB (rStrO C (p_o_str K C)) (tCons te tNil)) (Eq (.str (ratT n m))) := fun σ H i s Q q => h σ H i s _ fun v d H1 g1 i1 r1 e => by
  subst e
  obtain ⟨a, dx, rfl, ha⟩ := r1.ratI
  refine ⟨a, dx, _, rfl, ha, [rat C n m], _, .cons r1 .nil, rfl, ⟨n, m, rfl, hn, hm, rfl⟩, fun v H2 sm rv => ?_⟩
  exact ⟨_, rv.strI, q _ _ H2 (g1.trans sm.gr) (S1.st i1 sm) rv rfl⟩
end
end Bf
namespace Bf
open PySem PySem.Spec PyProof.Rows L2
/-! ## Ratio.read -/
def r_numG (ds : List Dt) (d : Dt) : Prop := ∃ (a : Str) (k : Nat), ds = [.str a, .int k] ∧ a.length ≤ 100000 ∧ d = .bl (numW k a)
abbrev p_is_numeralG (K : PySem.W.Frag) : Sp := spR K 2 r_numG
/-- the two numbers that a text tells -/
def rdRat (a : Str) : Option (Nat × Nat) :=
  let p := Txt.partition a "/"
  let den : Str := if p.2.1 = ("" : Str) then "1" else p.2.2
  if numW 40 p.1 = true ∧ numW 40 den = true ∧ den ≠ ("0" : Str) then some (valW p.1, valW den) else none
theorem tl_sl : TL.tl ("/" : Str) = [47] := by decide +kernel
theorem numW_sl {k : Nat} {w : Str} (h : numW k w = true) : 47 ∉ sg w := fun hm => by
  unfold numW at h
  simp only [Bool.and_eq_true, List.all_eq_true] at h
  have := h.1.2 47 hm
  exact absurd this (by decide)
/-- no stroke, or cut at the first one -/
theorem cut_slash (a : Str) : 47 ∉ sg a ∨ ∃ p q : Str, a = p ++ "/" ++ q ∧ 47 ∉ sg p := by
  by_cases h : 47 ∈ sg a
  · right
    have hd : ∀ l : List Nat, 47 ∈ l → ∃ p q, l = p ++ 47 :: q ∧ 47 ∉ p := fun l => by
      induction l with
      | nil => intro z; cases z
      | cons c l ih =>
        intro z
        by_cases e : c = 47
        · subst e
          exact ⟨[], l, rfl, by simp⟩
        · rcases List.mem_cons.mp z with z | z
          · exact absurd z.symm e
          · obtain ⟨p, q, rfl, hp⟩ := ih z
            exact ⟨c :: p, q, rfl, by simp only [List.mem_cons, not_or]; exact ⟨fun y => e y.symm, hp⟩⟩
    obtain ⟨p, q, e, hp⟩ := hd _ h
    refine ⟨⟨p.toArray⟩, ⟨q.toArray⟩, sg_ext ?_, by simpa using hp⟩
    rw [e]
    show _ = ((p.toArray ++ ("/" : Str).cps) ++ q.toArray).toList
    rw [Array.toList_append, Array.toList_append]
    show p ++ 47 :: q = (p ++ TL.tl ("/" : Str)) ++ q
    rw [tl_sl]
    simp
  · exact .inl h
theorem rd_plain {a : Str} (h : 47 ∉ sg a) : rdRat a = if numW 40 a = true then some (valW a, 1) else none := by
  unfold rdRat
  rw [TL.partition_none tl_sl h]
  have e1 : numW 40 ("1" : Str) = true := by decide +kernel
  have e2 : valW ("1" : Str) = 1 := by decide +kernel
  have e3 : ("1" : Str) ≠ "0" := by decide +kernel
  simp only [show (Str.empty = ("" : Str)) from rfl, if_true, e1, e2]
  by_cases h : numW 40 a = true
  · rw [if_pos ⟨h, trivial, e3⟩, if_pos h]
  · rw [if_neg (fun z => h z.1), if_neg h]
theorem rd_cut {p q : Str} (h : 47 ∉ sg p) : rdRat (p ++ "/" ++ q) = if numW 40 p = true ∧ numW 40 q = true ∧ q ≠ ("0" : Str) then some (valW p, valW q) else none := by
  unfold rdRat
  rw [TL.partition_app tl_sl h]
  have e3 : ¬ ("/" : Str) = "" := by decide +kernel
  simp only [e3, if_false]
theorem val_zero {k : Nat} {q : Str} (h : numW k q = true) : valW q = 0 ↔ q = ("0" : Str) := by
  constructor
  · intro hv
    unfold numW at h
    simp only [Bool.and_eq_true, Bool.or_eq_true, decide_eq_true_eq, Bool.not_eq_true', decide_eq_false_iff_not] at h
    obtain ⟨⟨⟨h1, _⟩, h3⟩, h4⟩ := h
    have pos : ∀ (l : List Nat) (acc : Nat), 0 < acc → 0 < l.foldl (fun acc c => acc * 10 + (c - 48)) acc := fun l => by
      induction l with
      | nil => intro acc h; exact h
      | cons c l ih =>
        intro acc h
        have : 0 < acc * 10 + (c - 48) := by omega
        exact ih _ this
    match hs : sg q, h1, h3, h4 with
    | [c], _, h3, _ =>
      have hc : isDg c = true := by simpa using h3
      unfold isDg at hc
      rw [Bool.and_eq_true, decide_eq_true_eq, decide_eq_true_eq] at hc
      have hv : NumText.digitsVal (sg q) = 0 := hv
      rw [hs] at hv
      have : 0 * 10 + (c - 48) = 0 := hv
      refine sg_ext ?_
      rw [hs, sg_zero]
      congr 1
      omega
    | c :: c' :: r, _, h3, h4 =>
      rcases h4 with z | z
      · simp at z
      · have hc : isDg c = true := List.all_eq_true.mp h3 c List.mem_cons_self
        unfold isDg at hc
        rw [Bool.and_eq_true, decide_eq_true_eq, decide_eq_true_eq] at hc
        have hn : c ≠ 48 := by simpa using z
        have hv : NumText.digitsVal (sg q) = 0 := hv
        rw [hs] at hv
        have := pos (c' :: r) (0 * 10 + (c - 48)) (by omega)
        have e : NumText.digitsVal (c :: c' :: r) = (c' :: r).foldl (fun acc c => acc * 10 + (c - 48)) (0 * 10 + (c - 48)) := rfl
        rw [e] at hv
        omega
  · rintro rfl
    decide +kernel
theorem rd_lt {a : Str} {n m : Nat} (h : rdRat a = some (n, m)) : n < 10 ^ 40 ∧ 1 ≤ m ∧ m < 10 ^ 40 := by
  rcases cut_slash a with hs | ⟨p, q, rfl, hs⟩
  · rw [rd_plain hs] at h
    split at h
    · rename_i hw
      cases h
      exact ⟨num_lt hw, Nat.le_refl _, by decide⟩
    · cases h
  · rw [rd_cut hs] at h
    split at h
    · rename_i hw
      cases h
      refine ⟨num_lt hw.1, ?_, num_lt hw.2.1⟩
      have := mt (val_zero hw.2.1).mp hw.2.2
      omega
    · cases h
def rdR (CR C : Addr) (x : Dt) : Out := match x with
  | .str a => (match rdRat a with
    | some (n, m) => .ok (ratL C n m)
    | none => .er CR "given" x)
  | _ => .er CR "given" x
def r_oread (CR C : Addr) (ds : List Dt) (o : Out) : Prop := ∃ x, ds = [.raw (.ref C), x] ∧ okRt C x ∧ (∀ a, x = .str a → a.length ≤ 100000) ∧ o = rdR CR C x
abbrev p_o_read (K : PySem.W.Frag) (CR C : Addr) : Sp := spX K 2 (r_oread CR C)
abbrev t_o_read (K : PySem.W.Frag) (CR C : Addr) (E : XK) : TS := (tSeq (tIfS (tNot (tB (tCB (rIsi K) (tCons (tVar 1) (tCons (tC (.ty "str")) tNil))))) (tRaiseB CR "given" (fun cls d _ H => E cls d H) (tCons (tVar 1) tNil)) tNext)
    (tSeq (tAsg (tM1 rPart (tVar 1) (tC (.str "/"))) (gTup K 3 (gCons (gName 2) (gCons (gName 3) (gCons (gName 4) gNil)))))
    (tSeq (tIfS (tNot (tTru K (tVar 3))) (tAsg (tC (.str "1")) (gName 4)) tNext)
    (tSeq (tIfS (tOr (tNot (tAnd (tB (tCall (p_is_numeralG K) [] E0 (tCons (tVar 2) (tCons (tC (.int 40)) tNil)))) (tB (tCall (p_is_numeralG K) [] E0 (tCons (tVar 4) (tCons (tC (.int 40)) tNil)))))) (tTest (tOp rEq (tVar 4) (tC (.str "0"))))) (tRaiseB CR "given" (fun cls d _ H => E cls d H) (tCons (tVar 1) tNil)) tNext)
    (tRet (tMakeL 0 C (spRI C) [] E0 (tCons (tCB rIntS (tCons (tVar 2) tNil)) (tCons (tCB rIntS (tCons (tVar 4) tNil)) tNil))))))))
section
variable {K : PySem.W.Frag} {mg : Str → Option Value} {C CR fI pN gN pD gD : Addr} {S S1 : Sta} {ρ : List (Option Dt)} {te ta tb : TE} {tl : TA} {ds : List Dt} {d : Dt} {o : Out} {E : XK} {a : Str} {i k : Nat} {n m : Int}
theorem so_is_numeralG (hp : r_numG ds d) : So K S S [] (t_is_numeral K) (startD 2 ds) (Pu d) := by
  obtain ⟨a, k, rfl, ha, rfl⟩ := hp
  have hz : a.length ≤ sizeLine := Nat.le_trans ha (by decide)
  refine so_ifD (et_or (et_not (et_and (et_B (ev_asc (ev_var rfl))) fun _ => et_B (ev_dig (ev_var rfl)))) fun _ => et_test (ev_op (ev_cb (ea_cons (ev_var rfl) ea_nil) (rc_lenS hz)) (ev_var rfl) rv_gt)) (fun e => ?_) fun e => so_skip ?_
  · refine so_retD ev_bl (Sta.Le.refl S) ?_
    show Dt.bl (numW k a) = _
    rw [← numeral_eq, sg_len]
    congr 1
    cases hx : (Txt.isascii a && Txt.isdigit a) with
    | false => rfl
    | true =>
      rw [hx] at e
      have : (k : Int) < a.length := by simpa using e
      have : decide (k < a.length) = true := decide_eq_true (by omega)
      rw [this]
      rfl
  · refine so_retD (ev_or (ev_op (ev_var rfl) ev_str rv_eqS) fun _ => ev_not (ev_stw (ev_var rfl) ev_str)) (Sta.Le.refl S) ?_
    show Dt.bl (numW k a) = _
    rw [← numeral_eq, sg_len]
    congr 1
    cases hx : (Txt.isascii a && Txt.isdigit a) with
    | false => rw [hx] at e; cases e
    | true =>
      rw [hx] at e
      have : (a.length : Int) ≤ k := by simpa using e
      have : decide (k < a.length) = false := decide_eq_false (by omega)
      rw [this]
      rfl
theorem ev_numG (h : Ev K S S ρ ta (Eq (.str a))) (ha : a.length ≤ 100000) : Ev K S S ρ (tCall (p_is_numeralG K) [] E0 (tCons ta (tCons (tC (.int 40)) tNil))) (Eq (.bl (numW 40 a))) := ev_callR (ea_cons h (ea_cons ev_int ea_nil)) rfl ⟨a, 40, rfl, ha, rfl⟩
theorem ev_mkratL (hj : ρ[i]? = some (some (.raw (.ref C)))) (h : EvA K S S1 ρ tl (Eq [.int n, .int m])) (h0 : 0 ≤ n) (h1 : 1 ≤ m) (hb : m.natAbs < 2 ^ 8000) : Ev K S S1 ρ (tMakeL i C (spRI C) [] E tl) (Eq (ratL C n m)) := fun σ H hi s Q q => by
  obtain ⟨v, hv, rv⟩ := s.val i _ hj
  obtain rfl := rv.rawI
  exact ⟨hv, ev_mkrat h h0 h1 hb σ H hi s Q q⟩
theorem pow40 {m : Nat} (h : m < 10 ^ 40) : ((m : Nat) : Int).natAbs < 2 ^ 8000 := by
  rw [Int.natAbs_natCast]
  exact Nat.lt_of_lt_of_le h (Nat.le_trans (show 10 ^ 40 ≤ 2 ^ 140 by decide) (Nat.pow_le_pow_right (by decide) (by decide)))
theorem so_o_read (T : RatT K mg C fI pN gN pD gD) (hp : r_oread CR C ds o) (hw : ∀ C' f d, o = .er C' f d → XW K S C' f d E) : So K S S [] (t_o_read K CR C E) (startD 5 ds) (PO o) := by
  obtain ⟨x, rfl, hx, hl, ho⟩ := hp
  by_cases hs : ∃ a, x = .str a
  · obtain ⟨a, rfl⟩ := hs
    have hl := hl a rfl
    have hz : a.length ≤ sizeLine := Nat.le_trans hl (by decide)
    refine so_ifF ((et_not (et_B (ev_isStr (ev_var rfl) rfl))).to rfl) (so_skip ?_)
    have fin : ∀ (p b dn : Str), p.length ≤ 100000 → dn.length ≤ 100000 → o = (if numW 40 p = true ∧ numW 40 dn = true ∧ dn ≠ ("0" : Str) then .ok (ratL C (valW p : Nat) (valW dn : Nat)) else .er CR "given" (.str a)) →
        So K S S [] (tSeq (tIfS (tOr (tNot (tAnd (tB (tCall (p_is_numeralG K) [] E0 (tCons (tVar 2) (tCons (tC (.int 40)) tNil)))) (tB (tCall (p_is_numeralG K) [] E0 (tCons (tVar 4) (tCons (tC (.int 40)) tNil)))))) (tTest (tOp rEq (tVar 4) (tC (.str "0"))))) (tRaiseB CR "given" (fun cls d _ H => E cls d H) (tCons (tVar 1) tNil)) tNext)
          (tRet (tMakeL 0 C (spRI C) [] E0 (tCons (tCB rIntS (tCons (tVar 2) tNil)) (tCons (tCB rIntS (tCons (tVar 4) tNil)) tNil))))) [some (.raw (.ref C)), some (.str a), some (.str p), some (.str b), some (.str dn)] (PO o) := fun p b dn lp ld ho => by
      refine so_ifD (et_or (et_not (et_and (et_B (ev_numG (ev_var rfl) lp)) fun _ => et_B (ev_numG (ev_var rfl) ld))) fun _ => et_test (ev_op (ev_var rfl) ev_str rv_eqS)) (fun e => ?_) fun e => so_skip ?_
      · have hn : ¬ (numW 40 p = true ∧ numW 40 dn = true ∧ dn ≠ ("0" : Str)) := fun ⟨z1, z2, z3⟩ => by
          rw [z1, z2, decide_eq_false z3] at e
          cases e
        rw [if_neg hn] at ho
        exact so_raise1B (ev_var rfl) (hw _ _ _ ho)
      · have hy : numW 40 p = true ∧ numW 40 dn = true ∧ dn ≠ ("0" : Str) := by
          simpa [not_or, and_assoc] using e
        rw [if_pos hy] at ho
        obtain ⟨i1, i2⟩ := num_int hy.1 (by decide)
        obtain ⟨j1, j2⟩ := num_int hy.2.1 (by decide)
        have h1 := mt (val_zero hy.2.1).mp hy.2.2
        refine so_retD (ev_mkratL rfl (ea_cons (ev_cb (ea_cons (ev_var rfl) ea_nil) (rc_intS i1 i2)) (ea_cons (ev_cb (ea_cons (ev_var rfl) ea_nil) (rc_intS j1 j2)) ea_nil)) (by omega) (by omega) (pow40 (num_lt hy.2.1))) (Sta.Le.refl S) ?_
        rw [ho]
        rfl
    have ho : o = match rdRat a with
      | some (n, m) => .ok (ratL C n m)
      | none => .er CR "given" (.str a) := ho
    have l1 : ("1" : Str).length ≤ 100000 := by decide +kernel
    rcases cut_slash a with hc | ⟨p, q, rfl, hc⟩
    · refine so_unp (is := [2, 3, 4]) (xs := [.str a, .str "", .str ""]) ((ev_part (ev_var rfl) ev_str (by decide +kernel) hz).to (by rw [TL.partition_none tl_sl hc]; rfl)) rfl rfl rfl ?_
      refine so_ifT ((et_not (et_truS (ev_var rfl) (by decide +kernel))).to (by decide +kernel)) (so_setD ev_str ?_)
      refine fin a "" "1" hl l1 ?_
      rw [ho, rd_plain hc]
      have e1 : numW 40 ("1" : Str) = true := by decide +kernel
      have e2 : valW ("1" : Str) = 1 := by decide +kernel
      have e3 : ("1" : Str) ≠ "0" := by decide +kernel
      by_cases h : numW 40 a = true
      · rw [if_pos h, if_pos ⟨h, e1, e3⟩, e2]
      · rw [if_neg h, if_neg fun z => h z.1]
    · have lp : p.length ≤ (p ++ "/" ++ q).length ∧ q.length ≤ (p ++ "/" ++ q).length := by
        have : (p ++ "/" ++ q).length = p.length + ("/" : Str).length + q.length := by
          show ((p.cps ++ ("/" : Str).cps) ++ q.cps).size = _
          rw [Array.size_append, Array.size_append]
          rfl
        omega
      refine so_unp (is := [2, 3, 4]) (xs := [.str p, .str "/", .str q]) ((ev_part (ev_var rfl) ev_str (by decide +kernel) hz).to (by rw [TL.partition_app tl_sl hc])) rfl rfl rfl ?_
      refine so_ifF ((et_not (et_truS (ev_var rfl) (by decide +kernel))).to (by decide +kernel)) (so_skip ?_)
      refine fin p "/" q (by omega) (by omega) ?_
      rw [ho, rd_cut hc]
      by_cases h : numW 40 p = true ∧ numW 40 q = true ∧ q ≠ ("0" : Str)
      · rw [if_pos h, if_pos h]
      · rw [if_neg h, if_neg h]
  · have ho' : o = .er CR "given" x := by
      rw [ho]
      cases x <;> first | rfl | exact absurd ⟨_, rfl⟩ hs
    have hf : Ev K S S [some (.raw (.ref C)), some x, none, none, none] (tCB (rIsi K) (tCons (tVar 1) (tCons (tC (.ty "str")) tNil))) (Eq (.bl false)) := by
      rcases hx with hx | ⟨n, m, rfl⟩
      · refine (ev_isStr (ev_var rfl) hx).to ?_
        cases x <;> first | rfl | exact absurd ⟨_, rfl⟩ hs
      · exact ev_ratIs T (ev_var rfl) (by simp)
    exact so_ifT ((et_not (et_B hf)).to rfl) (so_raise1B (ev_var rfl) (hw _ _ _ ho'))
end
end Bf
namespace Bf
open PySem PySem.Spec PyProof.Rows L2
/-! ## table_text, the law's _law_text, _law_number -/
theorem joinL_len (S : List Nat) : ∀ ps : List (List Nat), (TL.joinL S ps).length ≤ (ps.map List.length).sum + ps.length * S.length
  | [] => by simp [TL.joinL]
  | [p] => by simp [TL.joinL]
  | p :: q :: r => by
    have := joinL_len S (q :: r)
    simp only [TL.joinL, List.length_append, List.map_cons, List.sum_cons, List.length_cons, Nat.succ_mul] at this ⊢
    omega
theorem join_len (y : Str) (ps : List Str) : (Txt.join y ps).length ≤ (ps.map (·.length)).sum + ps.length * y.length := by
  have h := joinL_len (sg y) (ps.map sg)
  rw [← sg_join, sg_len, sg_len, List.length_map, List.map_map] at h
  have e : (List.length ∘ sg) = fun x : Str => x.length := funext fun x => sg_len x
  rw [e] at h
  exact h
section
variable {K : PySem.W.Frag} {S S1 : Sta} {ρ : List (Option Dt)} {te tl : TE} {w : TS} {ds xs : List Dt} {d : Dt} {o : Out} {C : Addr} {E : XK} {T : Tab} {j : Nat}
/-! ### the law's text -/
end
end Bf
namespace Bf
open PySem PySem.Spec PyProof.Rows L2
/-! ## the law's _law_number, _law_is_size, _law_table_due -/
theorem ten_dg (c : Nat) : (!decide (c ∈ sg ("0123456789" : Str))) = !isDg c := by
  congr 1
  rw [show sg ("0123456789" : Str) = [48, 49, 50, 51, 52, 53, 54, 55, 56, 57] by decide +kernel]
  unfold isDg
  rw [Bool.eq_iff_iff]
  simp only [List.mem_cons, List.not_mem_nil, or_false, Bool.and_eq_true, decide_eq_true_eq]
  omega
theorem one_zero (c : Nat) : decide (oneS c = ("0" : Str)) = decide (c = 48) := by
  rw [Bool.eq_iff_iff]
  simp only [decide_eq_true_eq]
  constructor
  · intro h
    have := congrArg sg h
    rw [sg_zero] at this
    have h2 : [c] = [48] := this
    simpa using h2
  · rintro rfl
    refine sg_ext ?_
    rw [sg_zero]
    rfl
section
variable {K : PySem.W.Frag} {S S1 : Sta} {ρ : List (Option Dt)} {te tl ta : TE} {w : TS} {ds xs : List Dt} {d : Dt} {o : Out} {C : Addr} {E : XK} {T : Tab} {j : Nat} {a : Str}
end
end Bf
namespace Bf
open PySem PySem.Spec PyProof.Rows L2
/-! ## the law's _law_table_due -/
section
variable {K : PySem.W.Frag} {S S1 : Sta} {ρ : List (Option Dt)} {te tl ta : TE} {tt : TT} {w : TS} {ds xs : List Dt} {d : Dt} {o : Out} {C : Addr} {E : XK} {T : Tab} {j j2 : Nat} {a : Str} {vs : List Nat}
end
/-! ### what is due of what was read -/
section
variable {K : PySem.W.Frag} {S S1 SB SF : Sta} {L : List Addr} {ρ : List (Option Dt)} {P : Po} {te tl ta : TE} {w : TS} {ds xs : List Dt} {d : Dt} {T : Tab} {j : Nat}
end
end Bf
namespace Bf
open PySem PySem.Spec PyProof.Rows L2
/-! ## Lists in a list that grow: found = [[]], found.append([]), found[-1].append(x) -/
def Und (K : PySem.W.Frag) (a : Addr) (us : List V) (q : Addr) : Prop := ∀ H o, SqL K H a us → SqL K (upd H q o) a us
/-- nothing of B has vanished -/
def SD (S : Sta) (B : Hp) : Sta := ⟨fun H => S.I H ∧ ∀ x, H x = none → B x = none, fun h s => ⟨S.st h.1 s, fun x e => h.2 x (by
  rename_i H H'
  cases hx : H x with
  | none => rfl
  | some o => rw [s x o hx] at e; cases e)⟩⟩
theorem sd_mu {S : Sta} {B : Hp} (m : S.Mu) : (SD S B).Mu := by
  intro Ha Hb D o ws i1 g hD e z
  refine ⟨m i1.1 g hD e z.1, fun x hx => ?_⟩
  by_cases hxD : x = D
  · rw [hxD, upd_same] at hx; cases hx
  · rw [upd_ne hxD] at hx; exact z.2 x hx
theorem Und.ne {K : PySem.W.Frag} {a q : Addr} {us : List V} (h : a ≠ q) : Und K a us q := fun H o s => by
  rcases s with (s | ⟨o', s⟩) | s
  · exact .inl (.inl (by rw [upd_ne h]; exact s))
  · exact .inl (.inr ⟨o', by rw [upd_ne h]; exact s⟩)
  · exact .inr s
theorem Und.of {K : PySem.W.Frag} {H : Hp} {a q : Addr} {us : List V} (s : SqL K H a us) (h : H q = none) : Und K a us q := by
  rcases s with (s | ⟨o', s⟩) | s
  · exact .ne fun e => by rw [e, h] at s; cases s
  · exact .ne fun e => by rw [e, h] at s; cases s
  · exact fun H o _ => .inr s
abbrev szI : List Int := [1000000, 2, 2, 1, 1]
abbrev LV (f : List Int) : HO := .lst (f.map V.int)
/-- the lists in the list -/
def QS (B0 H : Hp) : List Addr → Fnd → Prop
  | [], [] => True
  | q :: qs, f :: fs => B0 q = none ∧ H q = some (LV f) ∧ QS B0 H qs fs
  | _, _ => False
theorem QS.len {B0 H : Hp} : ∀ {qs : List Addr} {fs : Fnd}, QS B0 H qs fs → qs.length = fs.length
  | [], [], _ => rfl
  | _ :: _, _ :: _, h => by simp [QS.len h.2.2]
  | [], _ :: _, h => h.elim
  | _ :: _, [], h => h.elim
theorem QS.mono {B0 H H' : Hp} (g : Gr H H') : ∀ {qs : List Addr} {fs : Fnd}, QS B0 H qs fs → QS B0 H' qs fs
  | [], [], _ => trivial
  | _ :: _, _ :: _, h => ⟨h.1, g _ _ h.2.1 rfl, QS.mono g h.2.2⟩
  | [], _ :: _, h => h.elim
  | _ :: _, [], h => h.elim
theorem QS.off {B0 H : Hp} {a : Addr} {o : HO} : ∀ {qs : List Addr} {fs : Fnd}, a ∉ qs → QS B0 H qs fs → QS B0 (upd H a o) qs fs
  | [], [], _, _ => trivial
  | q :: _, _ :: _, hn, h => ⟨h.1, by rw [upd_ne (fun e => hn (by rw [← e]; exact List.mem_cons_self))]; exact h.2.1, QS.off (fun z => hn (List.mem_cons_of_mem _ z)) h.2.2⟩
  | [], _ :: _, _, h => h.elim
  | _ :: _, [], _, h => h.elim
theorem QS.snoc {B0 H : Hp} {q : Addr} {f : List Int} : ∀ {qs : List Addr} {fs : Fnd}, QS B0 H qs fs → B0 q = none → H q = some (LV f) → QS B0 H (qs ++ [q]) (fs ++ [f])
  | [], [], _, h1, h2 => ⟨h1, h2, trivial⟩
  | _ :: _, _ :: _, h, h1, h2 => ⟨h.1, h.2.1, QS.snoc h.2.2 h1 h2⟩
  | [], _ :: _, h, _, _ => h.elim
  | _ :: _, [], h, _, _ => h.elim
theorem QS.front {B0 H : Hp} {q : Addr} {f : List Int} : ∀ {qs : List Addr} {fs : Fnd}, QS B0 H (qs ++ [q]) (fs ++ [f]) → QS B0 H qs fs ∧ B0 q = none ∧ H q = some (LV f)
  | [], [], h => ⟨trivial, h.1, h.2.1⟩
  | q' :: qs, f' :: fs, h => by
    obtain ⟨a, b, c⟩ := QS.front (qs := qs) (fs := fs) h.2.2
    exact ⟨⟨h.1, h.2.1, a⟩, b, c⟩
  | [], f' :: fs, h => by
    have := QS.len h
    simp at this
  | q' :: qs, [], h => by
    have := QS.len h
    simp at this
structure FI (K : PySem.W.Frag) (S : Sta) (B0 H : Hp) (p z : Addr) (qs : List Addr) (fs : Fnd) (ks : List (Addr × List V)) : Prop where
  i0 : S.I B0
  i : (SD S B0).I H
  g : Gr B0 H
  bp : B0 p = none
  hp : H p = some (.lst (qs.map V.ref))
  hz : H z = some (LV szI)
  pz : p ≠ z
  pq : p ∉ qs
  zq : z ∉ qs
  nd : qs.Nodup
  q : QS B0 H qs fs
  k : ∀ x ∈ ks, SqL K H x.1 x.2 ∧ ∀ r ∈ p :: qs, Und K x.1 x.2 r
theorem QS.ne {B0 H : Hp} {q : Addr} (h : H q = none) : ∀ {qs : List Addr} {fs : Fnd}, QS B0 H qs fs → q ∉ qs
  | [], [], _, z => nomatch z
  | q' :: _, _ :: _, hh, z => by
    rcases List.mem_cons.mp z with e | z
    · have := hh.2.1
      rw [← e, h] at this
      cases this
    · exact QS.ne h hh.2.2 z
  | [], _ :: _, hh, _ => hh.elim
  | _ :: _, [], hh, _ => hh.elim
theorem QS.rep {K : PySem.W.Frag} {B0 H : Hp} : ∀ {qs : List Addr} {fs : Fnd}, QS B0 H qs fs → RepA K H (qs.map V.ref) (fs.map dI)
  | [], [], _ => .nil
  | _ :: _, _ :: _, h => .cons (.lst (SqL.of h.2.1) (rep_ints _)) (QS.rep h.2.2)
  | [], _ :: _, hh => hh.elim
  | _ :: _, [], hh => hh.elim
section
variable {K : PySem.W.Frag} {B0 H H' : Hp} {p z q : Addr} {qs : List Addr} {fs : Fnd} {ks : List (Addr × List V)}
theorem FI.mono (h : FI K S B0 H p z qs fs ks) (g : Gr H H') (i : (SD S B0).I H') : FI K S B0 H' p z qs fs ks :=
  ⟨h.i0, i, h.g.trans g, h.bp, g _ _ h.hp rfl, g _ _ h.hz rfl, h.pz, h.pq, h.zq, h.nd, h.q.mono g, fun x hx => ⟨g.sqL (h.k x hx).1, (h.k x hx).2⟩⟩
theorem FI.rep (h : FI K S B0 H p z qs fs ks) : Rep K H (.ref p) (.lst (fs.map dI)) := .lst (SqL.of h.hp) h.q.rep
theorem FI.up {r : Addr} {ws : List V} {o : HO} (m : S.Mu) (h : FI K S B0 H p z qs fs ks) (hr : B0 r = none) (e : H r = some (.lst ws)) : (SD S B0).I (upd H r o) := sd_mu m ⟨h.i0, fun _ e => e⟩ h.g hr e h.i
/-- found.append([]) -/
theorem FI.app (m : S.Mu) (h : FI K S B0 H p z qs fs ks) (hq : H q = none) : FI K S B0 (upd (upd H q (LV [])) p (.lst (qs.map V.ref ++ [.ref q]))) p z (qs ++ [q]) (fs ++ [[]]) ks := by
  have sm := same_new (o := LV []) hq
  have h1 := h.mono sm.gr ((SD S B0).st h.i sm)
  have hne : q ∉ qs := h.q.ne hq
  have hpq : p ≠ q := fun e => by have := h.hp; rw [e, hq] at this; cases this
  have hzq : z ≠ q := fun e => by have := h.hz; rw [e, hq] at this; cases this
  have hmem : ∀ {a : Addr}, a ∉ qs → a ≠ q → a ∉ qs ++ [q] := fun ha hb hm => by
    rcases List.mem_append.mp hm with hm | hm
    · exact ha hm
    · exact hb (List.mem_singleton.mp hm)
  refine ⟨h.i0, h1.up m h.bp h1.hp, gr_off h1.g h.bp, h.bp, by rw [upd_same, List.map_append]; rfl, by rw [upd_ne (Ne.symm h.pz)]; exact h1.hz, h.pz, hmem h.pq hpq, hmem h.zq hzq, ?_, (h1.q.snoc (h.i.2 q hq) upd_same).off (hmem h.pq hpq), fun x hx => ⟨(h.k x hx).2 p List.mem_cons_self _ _ (h1.k x hx).1, fun r hr => ?_⟩⟩
  · refine List.nodup_append.mpr ⟨h.nd, by simp, fun a ha b hb => ?_⟩
    rw [List.mem_singleton.mp hb]
    exact fun e => hne (e ▸ ha)
  · rcases List.mem_cons.mp hr with rfl | hr
    · exact (h.k x hx).2 _ List.mem_cons_self
    · rcases List.mem_append.mp hr with hr | hr
      · exact (h.k x hx).2 _ (List.mem_cons_of_mem _ hr)
      · rw [List.mem_singleton.mp hr]
        exact Und.of (h.k x hx).1 hq
/-- found[-1].append(n) -/
theorem FI.put {x : List Int} {n : Int} (m : S.Mu) (h : FI K S B0 H p z (qs ++ [q]) (fs ++ [x]) ks) : FI K S B0 (upd H q (.lst (x.map V.int ++ [.int n]))) p z (qs ++ [q]) (fs ++ [x ++ [n]]) ks := by
  obtain ⟨q1, q2, q3⟩ := h.q.front
  have hpq : p ≠ q := fun e => h.pq (e ▸ List.mem_append_right _ (List.mem_singleton.mpr rfl))
  have hzq : z ≠ q := fun e => h.zq (e ▸ List.mem_append_right _ (List.mem_singleton.mpr rfl))
  have hne : q ∉ qs := fun hm => (List.nodup_append.mp h.nd).2.2 q hm q (List.mem_singleton.mpr rfl) rfl
  refine ⟨h.i0, h.up m q2 q3, gr_off h.g q2, h.bp, by rw [upd_ne hpq]; exact h.hp, by rw [upd_ne hzq]; exact h.hz, h.pz, h.pq, h.zq, h.nd, (q1.off hne).snoc q2 (by rw [upd_same]; show some (HO.lst _) = some (.lst ((x ++ [n]).map V.int)); rw [List.map_append]; rfl), fun y hy => ⟨(h.k y hy).2 q (List.mem_cons_of_mem _ (List.mem_append_right _ (List.mem_singleton.mpr rfl))) _ _ (h.k y hy).1, (h.k y hy).2⟩⟩
end
end Bf
namespace Bf
open PySem PySem.Spec PyProof.Rows L2
/-! ## the law's _law_parts -/
def flatD : Dt → Prop
  | .raw _ => True
  | .int _ => True
  | .str _ => True
  | _ => False
theorem Rep.flat {K : PySem.W.Frag} {H H' : Hp} {v : V} {d : Dt} (h : flatD d) (r : Rep K H v d) : Rep K H' v d := by
  cases d with
  | raw u => obtain rfl := r.rawI; exact .raw _
  | int i => obtain rfl := r.intI; exact .int _
  | str a => obtain rfl := r.strI; exact .str _
  | _ => exact h.elim
section
variable {K : PySem.W.Frag} {S : Sta} {B0 H : Hp} {p z b a q : Addr} {fs : Fnd} {ks : List (Addr × List V)} {ρ : List (Option Dt)} {j : Nat} {us : List V} {xs : List Dt}
end
section
variable {K : PySem.W.Frag} {S : Sta} {B0 H : Hp} {p z b a q : Addr} {fs : Fnd} {ks : List (Addr × List V)} {σ : L2.St} {D : Ends} {i : Nat} {w : Str} {y5 : Option Dt}
end
end Bf
namespace Bf
open PySem PySem.Spec PyProof.Rows L2
/-! ## the law's _law_parts, the loop -/
section
variable {K : PySem.W.Frag} {S : Sta} {B0 H : Hp} {p z a q : Addr} {qs : List Addr} {fs : Fnd} {ks : List (Addr × List V)} {us : List V} {ds : List Dt} {d : Dt}
theorem FI.add (h : FI K S B0 H p z qs fs ks) (hs : SqL K H a us) (hn : ∀ r ∈ p :: qs, a ≠ r) : FI K S B0 H p z qs fs ((a, us) :: ks) := ⟨h.i0, h.i, h.g, h.bp, h.hp, h.hz, h.pz, h.pq, h.zq, h.nd, h.q, fun x hx => by
  rcases List.mem_cons.mp hx with rfl | hx
  · exact ⟨hs, fun r hr => Und.ne (hn r hr)⟩
  · exact h.k x hx⟩
theorem QS.some {r : Addr} : ∀ {qs : List Addr} {fs : Fnd}, QS B0 H qs fs → r ∈ qs → H r ≠ none
  | [], [], _, hr => nomatch hr
  | _ :: _, _ :: _, h, hr => by
    rcases List.mem_cons.mp hr with rfl | hr
    · rw [h.2.1]; intro e; cases e
    · exact QS.some h.2.2 hr
  | [], _ :: _, h, _ => h.elim
  | _ :: _, [], h, _ => h.elim
end
end Bf
namespace Bf
open PySem PySem.Spec PyProof.Rows L2
/-! ## the law's _law_due -/
section
variable {K : PySem.W.Frag} {S S1 : Sta} {ρ : List (Option Dt)} {ta : TE} {ds : List Dt} {d : Dt}
end
end Bf
namespace Bf
open PySem PySem.Spec PyProof.Rows L2
/-! ## the law's _law_bent -/
section
variable {K : PySem.W.Frag} {S S1 SB SF : Sta} {L : List Addr} {ρ : List (Option Dt)} {P : Po} {te : TE} {ta : TA} {w : TS} {xs ys : List Dt} {j : Nat}
/-- x = [..] of anything; x.append(a new list) -/
theorem so_newAppN (hmu : S.Mu) (hj : j < ρ.length) (ha : EvA K S S ρ ta (Eq xs)) (hz : xs.length < 100000) (he : ∀ p, EvN K S S (ρ.set j (some (.lat p xs))) te ys) (hd : nolA ys = true) (q : ∀ p, Sg K S SB SF L w (ρ.set j (some (.lat p (xs ++ [.lst ys])))) P) :
    Sg K S SB SF L (tSeq (tAsg (tLst ta) (gName j)) (tSeq (tDrop (tBM K "list" rAppend (tVar j) (tCons te tNil))) w)) ρ P := fun D σ B H b i s f => by
  refine ha σ H i s _ fun vs ds H1 g1 i1 r1 e => ?_
  subst e
  have hl := r1.len
  have hsz : (100000 : Nat) ≤ sizeLine := by decide
  refine ⟨by omega, fun p hp => ?_⟩
  have sm : Same H1 (upd H1 p (.lst vs)) := same_new hp
  have s2 := ((s.mono g1).mono sm.gr).set (v := .ref p) (.lat upd_same (r1.mono sm.gr)) j
  have hjs : (σ.set j (some (V.ref p)))[j]? = some (some (V.ref p)) := List.getElem?_set_self (by rw [s.len]; exact hj)
  refine ⟨.ref p, hjs, .inl ⟨rfl, _, SqL.of upd_same⟩, ?_⟩
  refine he p _ _ (S.st i1 sm) s2 _ fun q' us H2 H3 g2 i2 hq g3 i3 e3 r3 => ?_
  have hp2 : H2 p = some (.lst vs) := g2 _ _ upd_same rfl
  have hp3 : H3 p = some (.lst vs) := g3 _ _ hp2 rfl
  have hqp : q' ≠ p := fun z => by rw [z, hp2] at hq; cases hq
  refine ⟨p, vs, .ref q', rfl, rfl, hp3, by omega, ?_⟩
  have ne : ∀ a o, H1 a = some o → a ≠ p := fun a o e z => by rw [z, hp] at e; cases e
  have g13 := (sm.gr.trans g2).trans g3
  have g14 : Gr H1 (upd H3 p (.lst (vs ++ [.ref q']))) := fun a o e dd => by
    rw [upd_ne (ne a o e)]
    exact g13 _ _ e dd
  have rl : Rep K (upd H3 p (.lst (vs ++ [.ref q']))) (.ref q') (.lst ys) := .lst (SqL.of (by rw [upd_ne hqp]; exact e3)) (r3.off hp3 hd)
  have s4 := ((s.mono g1).mono g14).set (v := .ref p) (.lat upd_same ((r1.mono g14).app (.cons rl .nil))) j
  exact q p D _ B _ (b.up (g1.trans g14)) (hmu i1 g13 hp hp3 i3) s4 f
end
/-- a text behind a text -/
abbrev rAddSt : R2 := fun x y H Q => ∃ i j, x = .str i ∧ y = .str j ∧ i.length + j.length ≤ sizeLine ∧ Q (.str (i ++ j)) H
/-- the lengths of some words together -/
def smL (ws : List Str) : Nat := (ws.map (·.length)).sum
theorem smL_app (a b : List Str) : smL (a ++ b) = smL a + smL b := by simp [smL]
theorem smL_cut (ws : List Str) (n : Nat) : smL (ws.take n) ≤ smL ws ∧ smL (ws.drop n) ≤ smL ws := by
  have h : smL (ws.take n) + smL (ws.drop n) = smL ws := by rw [← smL_app, List.take_append_drop]
  omega
def cutW (ws : List Str) (lo hi : Option Int) : List Str := (ws.drop (HT.sIx ws.length 0 lo)).take (HT.sIx ws.length ws.length hi - HT.sIx ws.length 0 lo)
theorem cut_strs (ws : List Str) (lo hi : Option Int) : cutD (ws.map Dt.str) lo hi = (cutW ws lo hi).map Dt.str := by
  unfold cutD cutW
  rw [List.length_map, ← List.map_drop, ← List.map_take]
theorem cutW_s (ws : List Str) (lo hi : Option Int) : smL (cutW ws lo hi) ≤ smL ws ∧ (cutW ws lo hi).length ≤ ws.length := by
  refine ⟨Nat.le_trans (smL_cut _ _).1 (smL_cut _ _).2, ?_⟩
  unfold cutW
  rw [List.length_take, List.length_drop]
  omega
theorem wds_smL (a : Str) : smL (wdsOf a) + (wdsOf a).length = a.length + 1 := wds_sum a
/-- texts of at most k signs -/
def shT (k : Nat) (xs : List Dt) : Bool := xs.all fun x => match x with | .str y => decide (y.length ≤ k) | _ => false
theorem shT_mem {k : Nat} {xs : List Dt} {d : Dt} (h : shT k xs = true) (hd : d ∈ xs) : ∃ y : Str, d = .str y ∧ y.length ≤ k := by
  have := List.all_eq_true.mp h d hd
  cases d with
  | str y => exact ⟨y, rfl, of_decide_eq_true this⟩
  | _ => cases this
section
variable {K : PySem.W.Frag} {S S1 : Sta} {ρ : List (Option Dt)} {te ta tb tlo thi : TE} {a : Addr} {c : CT} {cs : List Int} {n : Nat} {ds : List Dt}
theorem lenA (x y : Str) : (x ++ y).length = x.length + y.length := by
  show (x.cps ++ y.cps).size = _
  rw [Array.size_append]
  rfl
theorem en_bent {ws : List Str} {x : Str} {i2 i5 : Nat} {tlo thi : TO} {lo hi lo2 hi2 : Option Int} (h : ρ[i2]? = some (some (dS ws))) (h5 : ρ[i5]? = some (some (.str x))) {tlo2 thi2 : TO} (hl : EvO K S S ρ tlo (Eq lo)) (hh : EvO K S S ρ thi (Eq hi)) (hl2 : EvO K S S ρ tlo2 (Eq lo2)) (hh2 : EvO K S S ρ thi2 (Eq hi2)) (hz : ws.length ≤ 10000) :
    EvN K S S ρ (tOp (rCatS K) (tOp (rCatS K) (tSl (rSlL K) (tVar i2) tlo thi) (tLst (tCons (tVar i5) tNil))) (tSl (rSlL K) (tVar i2) tlo2 thi2)) ((cutW ws lo hi ++ [x] ++ cutW ws lo2 hi2).map Dt.str) := by
  have l1 := (cutW_s ws lo hi).2
  have l2 := (cutW_s ws lo2 hi2).2
  refine (en_catL (xs := (cutW ws lo hi ++ [x]).map Dt.str) (ys := (cutW ws lo2 hi2).map Dt.str) ((ev_op ((ev_slL (ev_var h) hl hh).to (y := .lst ((cutW ws lo hi).map Dt.str)) (by rw [cut_strs])) (ev_lst (ea_cons (ev_var h5) ea_nil) (by show 1 ≤ sizeLine; decide)) (rv_catL ?_)).to ?_) ((ev_slL (ev_var h) hl2 hh2).to (by rw [cut_strs])) ?_).to ?_
  · rw [List.length_map]
    exact Nat.le_trans (Nat.add_le_add_right (Nat.le_trans l1 hz) _) (by show 10001 ≤ sizeLine; decide)
  · rw [List.map_append]; rfl
  · rw [List.length_map, List.length_map, List.length_append]
    exact Nat.le_trans (Nat.add_le_add (Nat.add_le_add_right (Nat.le_trans l1 hz) _) (Nat.le_trans l2 hz)) (by show 20001 ≤ sizeLine; decide)
  · simp only [List.map_append]
theorem ev_bent2 {ws : List Str} {i2 : Nat} {tlo thi tlo2 thi2 : TO} {lo hi lo2 hi2 : Option Int} (h : ρ[i2]? = some (some (dS ws))) (hl : EvO K S S ρ tlo (Eq lo)) (hh : EvO K S S ρ thi (Eq hi)) (hl2 : EvO K S S ρ tlo2 (Eq lo2)) (hh2 : EvO K S S ρ thi2 (Eq hi2)) (hz : ws.length ≤ 10000) :
    Ev K S S ρ (tOp (rCatS K) (tSl (rSlL K) (tVar i2) tlo thi) (tSl (rSlL K) (tVar i2) tlo2 thi2)) (Eq (dS (cutW ws lo hi ++ cutW ws lo2 hi2))) := by
  have l1 := (cutW_s ws lo hi).2
  have l2 := (cutW_s ws lo2 hi2).2
  refine (ev_op ((ev_slL (ev_var h) hl hh).to (y := .lst ((cutW ws lo hi).map Dt.str)) (by rw [cut_strs])) ((ev_slL (ev_var h) hl2 hh2).to (y := .lst ((cutW ws lo2 hi2).map Dt.str)) (by rw [cut_strs])) (rv_catL ?_)).to ?_
  · rw [List.length_map, List.length_map]
    exact Nat.le_trans (Nat.add_le_add (Nat.le_trans l1 hz) (Nat.le_trans l2 hz)) (by show 20000 ≤ sizeLine; decide)
  · show Dt.lst _ = Dt.lst (List.map _ _)
    rw [List.map_append]
theorem ev_joinB {us : List Str} {a : Str} (h : Ev K S S1 ρ te (Eq (dS us))) (h1 : smL us + us.length ≤ 100000) : Ev K S S1 ρ (tM1 (rJoin K) (tC (.str " ")) te) (Eq (.str (Txt.join " " us))) ∧ (Txt.join " " us).length ≤ smL us + us.length := by
  have e : (" " : Str).length = 1 := by decide +kernel
  have hl := join_len " " us
  rw [e, Nat.mul_one] at hl
  refine ⟨ev_join ev_str h ?_, hl⟩
  rw [e, Nat.mul_one]
  exact Nat.le_trans h1 (by decide)
end
end Bf
namespace Bf
open PySem PySem.Spec PyProof.Rows L2
/-! ## The law's tally goes with the states -/
def lastI (sy : Sy) (nu me : Int) (i : Int) (he : List (Int × Int × Int)) : Option La → Prop
  | none => he = [] ∧ me = -1
  | some l => ∃ hs k0 m0, he = hs ++ [(k0, l.b, m0)] ∧ 0 ≤ me ∧ 0 ≤ k0 ∧ k0 < i ∧ l.th = decide (me = nu) ∧ (sy = .toggle → l.m = m0) ∧ ∀ k, sy = .same k → (l.age = i - 1 - k0 ∧ i - 1 - k0 ≤ k + 1) ∨ (l.age = k + 1 ∧ k + 1 ≤ i - 1 - k0)
structure TI (sy : Sy) (s : St1) (i : Int) (he : List (Int × Int × Int)) (nu me : Int) : Prop where
  n0 : -1 ≤ nu
  n1 : nu < i
  m0 : -1 ≤ me
  m1 : me ≤ nu
  bo : s.bo.isSome = true ↔ 0 ≤ nu
  mr : sy = .toggle → s.mr = nu % 2
  la : lastI sy nu me i he s.la
section
variable {sy : Sy} {s : St1} {i : Nat} {he : List (Int × Int × Int)} {nu me : Int} {mo : Mo}
end
end Bf
namespace Bf
open PySem PySem.Spec PyProof.Rows L2
def Sy.isT : Sy → Bool
  | .toggle => true
  | _ => false
section
variable {K : PySem.W.Frag} {S S' SB : Sta} {ds : List Dt} {d : Dt} {p q r : Addr} {sy : Sy} {mos : List Mo} {mo : Mo} {i : Nat}
end
end Bf
namespace Bf
open PySem PySem.Spec PyProof.Rows L2
/-! ## Rows of up to forty moments -/
section
variable {K : PySem.W.Frag} {a : Addr} {c : CT} {cs : List Int} {n : Nat} {ds : List Dt}
end
end Bf
namespace Bf
open PySem PySem.Spec PyProof.Rows L2
/-! ## [k for k, b in pairs], [k for k in range(n) if ..], k in a list -/
section
variable {K : PySem.W.Frag} {S S1 : Sta} {ρ : List (Option Dt)} {te tl : TE} {ta : TA} {tt : TT} {vs : List Nat} {j j2 : Nat}
theorem rv_inL {i : Int} {ns : List Int} : Rv2 K S (rIn K false) (.int i) (.lst (ns.map Dt.int)) (Eq (.bl (decide (i ∈ ns)))) := rv_at fun H v u _ r1 r2 Q q => by
  obtain rfl := r1.intI
  obtain ⟨a, vs, rfl, ht, ra⟩ := r2.lstI
  refine ⟨a, vs, rfl, .inl ht, rfl, ?_, ?_⟩
  · rw [ra.ints, List.all_eq_true]
    intro y hy
    obtain ⟨n, _, rfl⟩ := List.mem_map.mp hy
    rfl
  · rw [if_neg Bool.false_ne_true, ra.ints, any_ints (H := H)]
    exact q _ (.bl _)
end
end Bf
namespace Bf
open PySem PySem.Spec PyProof.Rows L2
/-! ## the law's _law_number with 40 digits, _law_ratio -/
def lawN (k : Nat) (a : Str) : Int := if numW k a = true then (valW a : Nat) else -1
def r_lnum26 (ds : List Dt) (d : Dt) : Prop := ∃ a : Str, ds = [.str a] ∧ a.length ≤ 1000 ∧ d = .int (lawN 40 a)
abbrev p__law_number26 (K : PySem.W.Frag) : Sp := spR K 1 r_lnum26
abbrev t__law_number26 (K : PySem.W.Frag) : TS := (tSeq (tIfS (tOr (tNot (tTest (tChain rLeI rLeI (tC (.int 1)) (tCB rLenS (tCons (tVar 0) tNil)) (tC (.int 40))))) (tTest (tOp (rNeNil K) (tLc (iStr (tVar 0)) (gName 1) (tTest (tOp rNotInSg (tVar 1) (tC (.str "0123456789")))) (tVar 1) [1]) (tLst tNil)))) (tRet (tUn rNegI (tC (.int 1)))) tNext)
    (tRet (tIf (tAnd (tTest (tOp rGtI (tCB rLenS (tCons (tVar 0) tNil)) (tC (.int 1)))) (tTest (tOp rEq (tOp (rIx K) (tVar 0) (tC (.int 0))) (tC (.str "0"))))) (tUn rNegI (tC (.int 1))) (tCB rIntS (tCons (tVar 0) tNil)))))
/-- the parts between strokes -/
def prtOf (a : Str) : List Str := Txt.split a "/"
theorem prt_eq (a : Str) : (prtOf a).map sg = TL.spl [47] 0 [] (sg a) := TL.split_spl a "/" (by decide) (TL.kind_ok (by decide +kernel))
theorem spl_none : ∀ (l acc : List Nat), 47 ∉ l → TL.spl [47] 0 acc l = [acc ++ l]
  | [], acc, _ => by simp [TL.spl]
  | c :: r, acc, h => by
    have e : c ≠ 47 := fun z => h (by rw [z]; exact List.mem_cons_self)
    rw [TL.spl_miss (TL.pre_of_head _ _ e), spl_none r (acc ++ [c]) fun z => h (List.mem_cons_of_mem _ z)]
    simp
theorem spl_cut (q : List Nat) : ∀ (p acc : List Nat), 47 ∉ p → TL.spl [47] 0 acc (p ++ 47 :: q) = (acc ++ p) :: TL.spl [47] 0 [] q
  | [], acc, _ => by
    rw [List.nil_append, TL.spl_hit (by simp [TL.pre]), List.append_nil]
    rfl
  | c :: r, acc, h => by
    have e : c ≠ 47 := fun z => h (by rw [z]; exact List.mem_cons_self)
    rw [List.cons_append, TL.spl_miss (TL.pre_of_head _ _ e), spl_cut q r (acc ++ [c]) fun z => h (List.mem_cons_of_mem _ z)]
    simp
theorem prt_none {a : Str} (h : 47 ∉ sg a) : prtOf a = [a] := TL.map_tl_inj ((prt_eq a).trans (by rw [spl_none _ _ h]; rfl))
theorem sg_app (x y : Str) : sg (x ++ y) = sg x ++ sg y := by show (x.cps ++ y.cps).toList = _; exact Array.toList_append
theorem prt_cut {p q : Str} (h : 47 ∉ sg p) : prtOf (p ++ "/" ++ q) = p :: prtOf q := TL.map_tl_inj ((prt_eq _).trans (by
  have e : sg ("/" : Str) = [47] := by decide +kernel
  rw [sg_app, sg_app, e, List.append_assoc]
  show TL.spl [47] 0 [] (sg p ++ 47 :: sg q) = _
  rw [spl_cut _ _ _ h, ← prt_eq]
  rfl))
theorem prt_sum (a : Str) : ((prtOf a).map (·.length)).sum + (prtOf a).length = a.length + 1 := by
  have h := spl_sum 47 (sg a) []
  rw [← prt_eq, List.map_map, List.length_map, sg_len] at h
  have e : (List.length ∘ sg) = fun x : Str => x.length := funext fun x => sg_len x
  rw [e] at h
  simpa using h
theorem prt_ne (a : Str) : prtOf a ≠ [] := fun e => by
  have := prt_sum a
  rw [e] at this
  simp at this
theorem prt_each {a : Str} {w : Str} (h : w ∈ prtOf a) : w.length ≤ a.length := by
  have h1 := prt_sum a
  have h2 : w.length ≤ ((prtOf a).map (·.length)).sum := sum_mem (List.mem_map.mpr ⟨w, h, rfl⟩)
  have h3 : 1 ≤ (prtOf a).length := List.length_pos_iff.mpr (prt_ne a)
  omega
def lratD (a : Str) : Dt := match rdRat a with
  | some (n, m) => .tup [.int (n : Nat), .int (m : Nat)]
  | none => .non
def r_lrat (ds : List Dt) (d : Dt) : Prop := ∃ a : Str, ds = [.str a] ∧ a.length ≤ 900 ∧ d = lratD a
abbrev p__law_ratio (K : PySem.W.Frag) : Sp := spR K 1 r_lrat
abbrev t__law_ratio (K : PySem.W.Frag) : TS := (tSeq (tAsg (tLc (iList K (tM1 rSplit (tVar 0) (tC (.str "/")))) (gName 2) tYes (tCall (p__law_number26 K) [] E0 (tCons (tVar 2) tNil)) [2]) (gName 1))
    (tSeq (tIfS (tOr (tTest (tOp rGtI (tCB (rLen K) (tCons (tVar 1) tNil)) (tC (.int 2)))) (tOr (tTest (tOp (rIn K false) (tUn rNegI (tC (.int 1))) (tVar 1))) (tTest (tOp (rEqD K) (tSl (rSlL K) (tVar 1) (tPart (tC (.int 1))) tNoPart) (tLst (tCons (tC (.int 0)) tNil)))))) (tRet (tC .non)) tNext)
    (tRet (tIf (tTest (tOp rEq (tCB (rLen K) (tCons (tVar 1) tNil)) (tC (.int 2)))) (tTup (tCons (tOp (rIx K) (tVar 1) (tC (.int 0))) (tCons (tOp (rIx K) (tVar 1) (tC (.int 1))) tNil))) (tTup (tCons (tOp (rIx K) (tVar 1) (tC (.int 0))) (tCons (tC (.int 1)) tNil)))))))
def numD : Dt → Dt
  | .str x => .int (lawN 40 x)
  | _ => .non
section
variable {K : PySem.W.Frag} {S S1 : Sta} {ρ : List (Option Dt)} {te tl ta : TE} {w : TS} {ds xs : List Dt} {d : Dt} {o : Out} {C : Addr} {E : XK} {T : Tab} {j : Nat} {a : Str}
theorem so__law_number26 (hmu : S.Mu) (hp : r_lnum26 ds d) : So K S S [] (t__law_number26 K) (startD 2 ds) (Pu d) := by
  obtain ⟨a, rfl, ha, rfl⟩ := hp
  have hz : a.length ≤ sizeLine := Nat.le_trans ha (by decide)
  have hlen : ∀ {ρ : List (Option Dt)}, ρ[0]? = some (some (.str a)) → Ev K S S ρ (tCB rLenS (tCons (tVar 0) tNil)) (Eq (.int (a.length : Nat))) := fun h => ev_cb (ea_cons (ev_var h) ea_nil) (rc_lenS hz)
  have hlc : Ev K S S [some (.str a), none] (tLc (iStr (tVar 0)) (gName 1) (tTest (tOp rNotInSg (tVar 1) (tC (.str "0123456789")))) (tVar 1) [1]) (Eq (.lst (((sg a).filter fun c => !isDg c).map fun c => .str (oneS c)))) :=
    ev_lcStr hmu (ev_var rfl) (List.mem_singleton.mpr rfl) (by show 1 < 2; decide) (by rw [sg_len]; omega) fun c _ => (et_test (ev_op (ev_var rfl) ev_str rv_notInSg)).to (ten_dg c)
  have hne : (!(((sg a).filter fun c => !isDg c).map fun c => Dt.str (oneS c)).isEmpty) = !(sg a).all isDg := by
    congr 1
    rw [Bool.eq_iff_iff, List.isEmpty_iff, List.map_eq_nil_iff, List.filter_eq_nil_iff, List.all_eq_true]
    constructor
    · intro h x hx
      have := h x hx
      simpa using this
    · intro h x hx
      rw [h x hx]
      decide
  have hl' : (sg a).length = a.length := sg_len a
  refine so_ifD (et_or (et_not (et_test (ev_lele ev_int (hlen rfl) ev_int))) fun _ => (et_test (ev_op hlc (ev_lst ea_nil (Nat.zero_le _)) rv_neNil)).to hne) (fun e => ?_) fun e => so_skip ?_
  · have hn : numW 40 a = false := by
      unfold numW
      rw [hl']
      cases hall : (sg a).all isDg with
      | false => simp
      | true =>
        rw [hall] at e
        have : ¬ (1 ≤ a.length ∧ a.length ≤ 40) := fun h => by
          have h1 : ((1 : Int) ≤ a.length) := by omega
          have h2 : ((a.length : Int) ≤ 40) := by omega
          rw [decide_eq_true h1, decide_eq_true h2] at e
          cases e
        by_cases h1 : 1 ≤ a.length
        · rw [decide_eq_false (show ¬ a.length ≤ 40 from fun h => this ⟨h1, h⟩)]
          simp
        · rw [decide_eq_false h1]
          simp
    refine so_ret1D (ev_neg ev_int) (Sta.Le.refl S) ?_
    show Dt.int (lawN 40 a) = _
    unfold lawN
    rw [hn]
    rfl
  · have hall : (sg a).all isDg = true := by
      cases hall : (sg a).all isDg with
      | true => rfl
      | false => rw [hall] at e; simp at e
    have h15 : 1 ≤ a.length ∧ a.length ≤ 40 := by
      rw [hall] at e
      simp only [Bool.not_true, Bool.or_false, Bool.not_eq_false', Bool.and_eq_true, decide_eq_true_eq] at e
      omega
    obtain ⟨c, r, hc⟩ : ∃ c r, sg a = c :: r := by
      cases h : sg a with
      | nil => rw [h] at hl'; simp at hl'; omega
      | cons c r => exact ⟨c, r, rfl⟩
    have hnum : numW 40 a = !(decide (1 < a.length) && decide (c = 48)) := by
      unfold numW
      rw [hl', hall, decide_eq_true h15.1, decide_eq_true h15.2, hc]
      simp only [List.head?_cons, Option.some.injEq, Bool.true_and, Bool.and_true]
      rw [Bool.eq_iff_iff]
      by_cases h1 : a.length = 1
      · simp [h1]
      · have h2 : 1 < a.length := by omega
        simp [h1, h2]
    have h0 : Ev K S S [some (.str a), none] (tOp (rIx K) (tVar 0) (tC (.int 0))) (Eq (.str (oneS c))) := ev_op (ev_var rfl) ev_int (rv_ixS hz (by rw [hc]; exact atI_nat (j := 0) rfl))
    refine so_ret (Φ := Eq (.int (lawN 40 a))) (ev_if (et_and ((et_test (ev_op (hlen rfl) ev_int rv_gt)).to (show decide ((1 : Int) < (a.length : Nat)) = decide (1 < a.length) by rw [Bool.eq_iff_iff]; simp only [decide_eq_true_eq]; omega)) fun _ => (et_test (ev_op h0 ev_str rv_eqS)).to (one_zero c)) (fun e2 => (ev_neg ev_int).to ?_) fun e2 => ?_) (Sta.Le.refl S) fun _ e => e
    · unfold lawN
      rw [hnum, e2]
      rfl
    · have hn : numW 40 a = true := by rw [hnum, e2]; rfl
      obtain ⟨h1, h2⟩ := num_int hn (by decide)
      refine (ev_cb (ea_cons (ev_var rfl) ea_nil) (rc_intS h1 h2)).to ?_
      unfold lawN
      rw [if_pos hn]
theorem ev_lnum26 (h : Ev K S S1 ρ ta (Eq (.str a))) (ha : a.length ≤ 1000) : Ev K S S1 ρ (tCall (p__law_number26 K) [] E0 (tCons ta tNil)) (Eq (.int (lawN 40 a))) := ev_callR (ea_cons h ea_nil) rfl ⟨a, rfl, ha, rfl⟩
theorem lawN_bad {x : Str} : lawN 40 x = -1 ↔ ¬ numW 40 x = true := by
  unfold lawN
  by_cases h : numW 40 x = true
  · rw [if_pos h]
    simp only [h, not_true, iff_false]
    omega
  · rw [if_neg h]
    simp [h]
theorem eqv_one (u v : Int) : PyData.eqv (py (.lst [.int u])) (py (.lst [.int v])) = decide (u = v) := by
  simp [py, pyA, PyData.eqv, PyData.eqvAll]
  rfl
theorem so__law_ratio (hmu : S.Mu) (hp : r_lrat ds d) : So K S S [] (t__law_ratio K) (startD 3 ds) (Pu d) := by
  obtain ⟨a, rfl, ha, rfl⟩ := hp
  have hsum := prt_sum a
  refine so_setD (d := .lst (((prtOf a).map (lawN 40)).map Dt.int)) ((ev_lcL (xs := (prtOf a).map Dt.str) (f := numD) (p := fun _ => true) hmu ((en_split (ev_var rfl) ev_str (by decide +kernel) (Nat.le_trans (Nat.add_le_add_right ha 2) (by decide))).ev.to rfl) (by simp) (by rw [List.length_map]; omega) (fun _ _ => et_yes) (fun x hx _ => ?_) fun x hx _ => ?_).to ?_) ?_
  · obtain ⟨v, hv, rfl⟩ := List.mem_map.mp hx
    exact ev_lnum26 (ev_var rfl) (Nat.le_trans (prt_each hv) (by omega))
  · obtain ⟨v, hv, rfl⟩ := List.mem_map.mp hx
    rfl
  · rw [List.filter_eq_self.mpr (fun _ _ => rfl), List.map_map, List.map_map]
    rfl
  have z2 : 2 ≤ sizeLine := by decide
  have z1 : 1 ≤ sizeLine := by decide
  rcases cut_slash a with hc | ⟨p, q, rfl, hc⟩
  · rw [prt_none hc]
    show Sg K S S S [] _ [some (.str a), some (.lst ([lawN 40 a].map Dt.int)), none] _
    have hlen : Ev K S S [some (.str a), some (.lst ([lawN 40 a].map Dt.int)), none] (tCB (rLen K) (tCons (tVar 1) tNil)) (Eq (.int 1)) := ev_lenL (xs := [lawN 40 a].map Dt.int) (ev_var rfl)
    by_cases hn : numW 40 a = true
    · have hv : lawN 40 a = (valW a : Nat) := by unfold lawN; rw [if_pos hn]
      refine so_ifF (et_orF ((et_test (ev_op hlen ev_int rv_gt)).to (by decide)) (et_orF ((et_test (ev_op (ev_neg ev_int) (ev_var rfl) rv_inL)).to (decide_eq_false fun z => ?_)) ((et_test (ev_op (ev_slL (ev_var rfl) (eo_some ev_int) eo_none) (ev_lst (ea_cons ev_int ea_nil) z1) (rv_eqD rfl rfl))).to rfl))) (so_skip (so_retD (ev_ifF ((et_test (ev_op hlen ev_int rv_eqI)).to (by decide)) (ev_tup (ea_cons (ev_ixL (ev_var rfl) ev_int (atI_nat (j := 0) rfl)) (ea_cons ev_int ea_nil)) z2)) (Sta.Le.refl S) ?_))
      · have z : (-1 : Int) = lawN 40 a := by simpa using z
        exact lawN_bad.mp z.symm hn
      · show lratD a = _
        unfold lratD
        rw [rd_plain hc, if_pos hn, hv]
        rfl
    · refine so_ifT (et_orF ((et_test (ev_op hlen ev_int rv_gt)).to (by decide)) (et_orT ((et_test (ev_op (ev_neg ev_int) (ev_var rfl) rv_inL)).to (decide_eq_true (by rw [lawN_bad.mpr hn]; simp))))) (so_ret1D ev_non (Sta.Le.refl S) ?_)
      show lratD a = _
      unfold lratD
      rw [rd_plain hc, if_neg hn]
  · rw [prt_cut hc]
    by_cases hq : 47 ∈ sg q
    · obtain ⟨r, s, hr, hc2⟩ : ∃ r s : Str, q = r ++ "/" ++ s ∧ 47 ∉ sg r := by
        rcases cut_slash q with z | z
        · exact absurd hq z
        · exact z
      subst hr
      rw [prt_cut hc2]
      have hl : 1 ≤ (prtOf s).length := List.length_pos_iff.mpr (prt_ne s)
      refine so_ifT (et_orT ((et_test (ev_op (ev_lenL (ev_var rfl)) ev_int rv_gt)).to (decide_eq_true ?_))) (so_ret1D ev_non (Sta.Le.refl S) ?_)
      · simp only [List.length_map, List.length_cons]
        omega
      · show lratD _ = _
        unfold lratD
        rw [rd_cut hc, if_neg]
        exact fun z => numW_sl z.2.1 hq
    · rw [prt_none hq]
      show Sg K S S S [] _ [some (.str (p ++ "/" ++ q)), some (.lst ([lawN 40 p, lawN 40 q].map Dt.int)), none] _
      have hlen : Ev K S S [some (.str (p ++ "/" ++ q)), some (.lst ([lawN 40 p, lawN 40 q].map Dt.int)), none] (tCB (rLen K) (tCons (tVar 1) tNil)) (Eq (.int 2)) := ev_lenL (xs := [lawN 40 p, lawN 40 q].map Dt.int) (ev_var rfl)
      have hno : ¬ (numW 40 p = true ∧ numW 40 q = true ∧ q ≠ ("0" : Str)) → lratD (p ++ "/" ++ q) = .non := fun h => by
        unfold lratD
        rw [rd_cut hc, if_neg h]
      by_cases hin : numW 40 p = true ∧ numW 40 q = true
      · have hv : lawN 40 p = (valW p : Nat) := by unfold lawN; rw [if_pos hin.1]
        have hu : lawN 40 q = (valW q : Nat) := by unfold lawN; rw [if_pos hin.2]
        have hmem : ¬ (-1 : Int) ∈ [lawN 40 p, lawN 40 q] := fun z => by
          simp only [List.mem_cons, List.not_mem_nil, or_false] at z
          rcases z with z | z
          · exact lawN_bad.mp z.symm hin.1
          · exact lawN_bad.mp z.symm hin.2
        refine so_ifD (et_orF ((et_test (ev_op hlen ev_int rv_gt)).to (by decide)) (et_orF ((et_test (ev_op (ev_neg ev_int) (ev_var rfl) rv_inL)).to (decide_eq_false hmem)) ((et_test (ev_op ((ev_slL (ev_var rfl) (eo_some ev_int) eo_none).to (y := .lst [.int (lawN 40 q)]) rfl) (ev_lst (ea_cons ev_int ea_nil) z1) (rv_eqD rfl rfl))).to (eqv_one _ _)))) (fun e => ?_) fun e => so_skip ?_
        · have e : lawN 40 q = 0 := of_decide_eq_true e
          refine so_ret1D ev_non (Sta.Le.refl S) (hno fun z => ?_)
          have := mt (val_zero hin.2).mp z.2.2
          omega
        · have e : ¬ lawN 40 q = 0 := of_decide_eq_false e
          refine so_retD (ev_ifT ((et_test (ev_op hlen ev_int rv_eqI)).to (by decide)) (ev_tup (ea_cons (ev_ixL (ev_var rfl) ev_int (atI_nat (j := 0) rfl)) (ea_cons (ev_ixL (ev_var rfl) ev_int (atI_nat (j := 1) rfl)) ea_nil)) z2)) (Sta.Le.refl S) ?_
          show lratD _ = _
          unfold lratD
          rw [rd_cut hc, if_pos ⟨hin.1, hin.2, fun z => e (by rw [hu, (val_zero hin.2).mpr z]; rfl)⟩, hv, hu]
      · refine so_ifT (et_orF ((et_test (ev_op hlen ev_int rv_gt)).to (by decide)) (et_orT ((et_test (ev_op (ev_neg ev_int) (ev_var rfl) rv_inL)).to (decide_eq_true ?_)))) (so_ret1D ev_non (Sta.Le.refl S) (hno fun z => hin ⟨z.1, z.2.1⟩))
        by_cases hp : numW 40 p = true
        · have hq2 : ¬ numW 40 q = true := fun z => hin ⟨hp, z⟩
          rw [lawN_bad.mpr hq2]
          simp
        · rw [lawN_bad.mpr hp]
          simp
theorem ev_lrat (h : Ev K S S1 ρ ta (Eq (.str a))) (ha : a.length ≤ 900) : Ev K S S1 ρ (tCall (p__law_ratio K) [] E0 (tCons ta tNil)) (Eq (lratD a)) := ev_callR (ea_cons h ea_nil) rfl ⟨a, rfl, ha, rfl⟩
end
end Bf
namespace Bf
open PySem PySem.Spec PyProof.Rows L2
/-! ## bursts from texts: a comprehension over enumerate whose step raises -/
section
variable {K : PySem.W.Frag} {S S1 : Sta} {ρ : List (Option Dt)} {te tl : TE} {tt : TT} {vs : List Nat} {j j2 : Nat} {xs : List Dt}
theorem er_lcSrc {g : TG} (h : EvR K S ρ tl) : EvR K S ρ (tLc (iEnum K (tCons tl tNil)) g tt te vs) := fun σ H i s Q => h σ H i s _
theorem er_lcEn {f : Nat → Dt → Dt} {k : Nat} {y : Dt} (hmu : S.Mu) (h : Ev K S S ρ tl (Eq (.lst xs))) (hj : j ∈ vs) (hj2 : j2 ∈ vs) (hz : xs.length ≤ 100000) (hk : xs[k]? = some y)
    (he : ∀ i x, i < k → xs[i]? = some x → Ev K S S (((wipeD ρ vs).set j (some (.int (i : Nat)))).set j2 (some x)) te (Eq (f i x))) (hf : ∀ i x, i < k → xs[i]? = some x → nol (f i x) = true)
    (hr : EvR K S (((wipeD ρ vs).set j (some (.int (k : Nat)))).set j2 (some y)) te) :
    EvR K S ρ (tLc (iEnum K (tCons tl tNil)) (gTup K 2 (gCons (gName j) (gCons (gName j2) gNil))) tYes te vs) := fun σ H i s Q =>
  h σ H i s _ fun v d H1 g1 i1 r1 p1 => by
    subst p1
    obtain ⟨a, us, rfl, hT, ra⟩ := r1.lstI
    have hlen : us.length = xs.length := ra.len
    have hkl : k < xs.length := (List.getElem?_eq_some_iff.mp hk).1
    refine ⟨a, us, rfl, hT, fun D hD => lc_it walk_enum (fun n H' => Gr H1 H' ∧ S.I H' ∧ n ≤ k ∧ ∃ acc, H' D = some (.lst acc) ∧ RepA K H' acc ((xs.zipIdx.take n).map fun y => f y.2 y.1)) ⟨(same_new hD).gr, S.st i1 (same_new hD), Nat.zero_le _, [], upd_same, .nil⟩
      (fun n H' _ q' => q'.1.sqL hT) (fun n x H' H2 hn q' y => ?_) fun H' q' => ?_⟩
    · obtain ⟨T, x1, x2, rfl, hTn, rfl, e1, e2⟩ := y
      cases e1
      obtain ⟨g2, i2, hnk, acc, ha, rac⟩ := q'
      obtain ⟨d, hd', rd⟩ := ra.ta e2
      have sn := same_new (o := .tup [.int (n : Nat), x2]) hTn
      have g3 := g2.trans sn.gr
      have hTD : T ≠ D := fun z => by rw [z] at hTn; rw [hTn] at ha; cases ha
      have ha' : upd H' T (.tup [.int (n : Nat), x2]) D = some (.lst acc) := by rw [upd_ne (Ne.symm hTD)]; exact ha
      have s2 := ((((s.mono g1).mono g3).wipe vs).set (.int ((n : Nat) : Int)) j).set (rd.mono g3) j2
      refine ⟨T, [.int (n : Nat), x2], rfl, SqT.of upd_same, rfl, .int (n : Nat), [x2], rfl, x2, [], rfl, rfl, by rw [wipe_in _ j2 vs _ hj2, wipe_in _ j vs _ hj, wipe_twice], ?_⟩
      unfold tYes
      dsimp only
      rw [if_pos rfl]
      rcases Nat.lt_or_ge n k with hlt | hge
      · refine he n d hlt hd' _ _ (S.st i2 sn) s2 _ fun y dy H4 g5 i5 r5 e5 => ?_
        subst e5
        have ha5 : H4 D = some (.lst acc) := g5 _ _ ha' rfl
        have g15 := g3.trans g5
        have hzi : xs.zipIdx[n]? = some (d, n) := by rw [List.getElem?_zipIdx, hd']; simp
        have htake : xs.zipIdx.take (n + 1) = xs.zipIdx.take n ++ [(d, n)] := by rw [List.take_add_one, hzi]; rfl
        have hnol : nolA ((xs.zipIdx.take n).map fun y => f y.2 y.1) = true := nolA_all.mpr fun y hy => by
          obtain ⟨z, hz', rfl⟩ := List.mem_map.mp hy
          obtain ⟨k', hk', ek⟩ := List.getElem_of_mem hz'
          have e3 : (xs.zipIdx.take n)[k']? = some z := by rw [← ek]; exact List.getElem?_eq_getElem _
          have hkn : k' < n := by rw [List.length_take] at hk'; omega
          rw [List.getElem?_take, if_pos hkn, List.getElem?_zipIdx] at e3
          cases e4 : xs[k']? with
          | none => rw [e4] at e3; cases e3
          | some w =>
            rw [e4] at e3
            cases e3
            rw [Nat.zero_add]
            exact hf k' w (by omega) e4
        refine ⟨acc, ha5, ?_, gr_off g15 hD, hmu i1 g15 hD ha5 i5, by omega, acc ++ [y], upd_same, ?_⟩
        · rw [rac.len, List.length_map]
          exact Nat.lt_of_le_of_lt (List.length_take_le _ _) (Nat.lt_of_lt_of_le (show n < xs.length by omega) (Nat.le_trans hz (by decide)))
        · rw [htake, List.map_append]
          exact ((rac.mono (sn.gr.trans g5)).off ha5 hnol).app (.cons (r5.off ha5 (hf n d hlt hd')) .nil)
      · have : n = k := by omega
        subst this
        rw [hk] at hd'
        cases hd'
        exact hr _ _ (S.st i2 sn) s2 _
    · obtain ⟨_, _, hnk, _⟩ := q'
      omega
theorem pr_cmS {n : Nat} {R : List Dt → Out → Prop} {C D0 : Addr} {f : Str} {d : Dt} {ds : List Dt} {tl : TA} {σ : L2.St} {H : Hp} {Es : L2.St → XK} (hi : S.I H) (hs : Slots K H σ ρ) (ha : EvA K S S1 ρ tl (Eq ds)) (hn : ds.length + 1 = n) (hp : R (.raw (.ref C) :: ds) (.er D0 f d))
    (hw : ∀ a v H', Gr H H' → S1.I H' → H' a = some (.xd [(f, v)]) → Rep K H' v d → Es σ (.ref D0) (some a) H') (Q : VK) : tCMethS C (spX K n R) Es (tC (.ref C)) tl σ H Q :=
  ⟨rfl, ha σ H hi hs _ fun vs ds' H1 g1 i1 r1 e => by
    subst e
    exact ⟨_, .er D0 f d, .cons (.raw _) r1, hn, hp, fun a v H2 sm ea rv => hw a v H2 (g1.trans sm.gr) (S1.st i1 sm) ea rv⟩⟩
end
/-! ### ratio_of_word, read_burst -/
/-- what a word tells -/
def rvD (C : Addr) (a : Str) : Dt := match rdRat a with
  | some (n, m) => ratL C n m
  | none => .non
def rwO (CT C : Addr) (k : Int) (a : Str) : Out := match rdRat a with
  | some (n, m) => .ok (ratL C n m)
  | none => .er CT "word" (.int k)
def r_rw (CT C : Addr) (ds : List Dt) (o : Out) : Prop := ∃ (a : Str) (k : Int), ds = [.str a, .int k] ∧ a.length ≤ 100000 ∧ o = rwO CT C k a
abbrev p_ratio_of_word (K : PySem.W.Frag) (CT C : Addr) : Sp := spX K 2 (r_rw CT C)
abbrev t_ratio_of_word (K : PySem.W.Frag) (CR CT C : Addr) (E : XK) : TS := (fun D σ H => (fun W => (tRet (tCMethS C (p_o_read K CR C) (WE W) (tC (.ref C)) (tCons (tVar 0) tNil)))) (wOnly K (.ref CR) (fun a cls d => (tRaiseB CT "word" (fun cls d _ H => E cls d H) (tCons (tVar 1) tNil))) (fun cls d _ H => E cls d H) D) D σ H)
theorem ratL_nat (C : Addr) (n m : Nat) : ratL C n m = rat C ((n / Nat.gcd n m : Nat) : Int) ((m / Nat.gcd n m : Nat) : Int) := by
  unfold ratL
  rw [Int.natAbs_natCast, Int.natAbs_natCast]
  rfl
theorem rvD_ok (C : Addr) (a : Str) : okRt C (rvD C a) := by
  unfold rvD
  split
  · exact .inr ⟨_, _, rfl⟩
  · exact .inl rfl
theorem rvD_nol (C : Addr) (a : Str) : nol (rvD C a) = true := by
  unfold rvD
  split
  · exact nol_rat
  · rfl
theorem first_bad : ∀ ws : List Str, (∀ w ∈ ws, rdRat w ≠ none) ∨ ∃ l w r, ws = l ++ w :: r ∧ rdRat w = none ∧ ∀ v ∈ l, rdRat v ≠ none
  | [] => .inl fun _ z => nomatch z
  | w :: ws => by
    by_cases e : rdRat w = none
    · exact .inr ⟨[], w, ws, rfl, e, fun _ z => nomatch z⟩
    · rcases first_bad ws with h | ⟨l, v, r, rfl, h1, h2⟩
      · exact .inl fun v hv => by
          rcases List.mem_cons.mp hv with rfl | hv
          · exact e
          · exact h v hv
      · exact .inr ⟨w :: l, v, r, rfl, h1, fun u hu => by
          rcases List.mem_cons.mp hu with rfl | hu
          · exact e
          · exact h2 u hu⟩
theorem rw_good {CT C : Addr} {k : Int} {a : Str} (h : rdRat a ≠ none) : rwO CT C k a = .ok (rvD C a) := by
  unfold rwO rvD
  cases e : rdRat a with
  | none => exact absurd e h
  | some p => rfl
theorem rw_bad {CT C : Addr} {k : Int} {a : Str} (h : rdRat a = none) : rwO CT C k a = .er CT "word" (.int k) := by
  unfold rwO
  rw [h]
def nbuO (CB : Addr) (x : Dt) : Out := if isBu x = true then .ok x else .er CB "given" x
def flashD (C : Addr) (a : Str) : Dt := .tup ((wdsOf a).map (rvD C))
/-- a text's words are all ratios, or not -/
def BadAt (a : Str) (k : Nat) : Prop := ∃ l w r, wdsOf a = l ++ w :: r ∧ rdRat w = none ∧ (∀ v ∈ l, rdRat v ≠ none) ∧ k = l.length
def AllGood (a : Str) : Prop := ∀ w ∈ wdsOf a, rdRat w ≠ none
def r_rb (CT CB C : Addr) (ds : List Dt) (o : Out) : Prop := ∃ x, ds = [x] ∧ okN x = true ∧ ((isStrD x = false ∧ o = .er CT "word" (.int 0)) ∨ ∃ a : Str, x = .str a ∧ a.length ≤ 900 ∧ ((∃ k, BadAt a k ∧ o = .er CT "word" (.int ((k : Int) + 1))) ∨ (AllGood a ∧ o = nbuO CB (flashD C a))))
abbrev p_read_burst (K : PySem.W.Frag) (CT CB C : Addr) : Sp := spX K 1 (r_rb CT CB C)
abbrev t_read_burst (K : PySem.W.Frag) (CT CB C : Addr) (E : XK) : TS := (tSeq (tAsg (tLc (iEnum K (tCons (tCall (p_split_text K CT) [] E (tCons (tVar 0) tNil)) tNil)) (gTup K 2 (gCons (gName 3) (gCons (gName 2) gNil))) tYes (tCall (p_ratio_of_word K CT C) [] E (tCons (tVar 2) (tCons (tOp rAddI (tVar 3) (tC (.int 1))) tNil))) [3, 2]) (gName 1))
    (tRet (tCall (p_need_burstX K CB C) [] E (tCons (tCB (rTupO K) (tCons (tVar 1) tNil)) tNil))))
def rdS (C : Addr) : Dt → Dt
  | .str a => rvD C a
  | _ => .non
section
variable {K : PySem.W.Frag} {S S1 : Sta} {ρ : List (Option Dt)} {CR CT CB C : Addr} {ds : List Dt} {o : Out} {d : Dt} {E : XK} {te ta : TE}
theorem so_ratio_of_word (hte : PySem.W.exmOne K (.ref CR) (.ref CR) = some true) (hp : r_rw CT C ds o) (hw : ∀ C' f d, o = .er C' f d → XW K S C' f d E) : So K S S [] (t_ratio_of_word K CR CT C E) (startD 2 ds) (PO o) := by
  obtain ⟨a, k, rfl, ha, rfl⟩ := hp
  cases e : rdRat a with
  | some p =>
    obtain ⟨n, m⟩ := p
    have ho : rwO CT C k a = .ok (ratL C n m) := by unfold rwO; rw [e]
    rw [ho]
    exact so_onlyOk fun W => so_retD (ev_cmS (R := r_oread CR C) (ds := [.str a]) (d := ratL C n m) (ea_cons (ev_var rfl) ea_nil) rfl ⟨.str a, rfl, .inl rfl, fun b z => by cases z; exact ha, by unfold rdR; dsimp only; rw [e]⟩) (Sta.Le.refl _) rfl
  | none =>
    have ho : rwO CT C k a = .er CT "word" (.int k) := rw_bad e
    refine so_onlyEr (S1 := S) (C := CR) (f := "given") (d := .str a) (c := .ref CR) (Wout := fun cls d _ H => E cls d H) (tw := fun W => tRet (tCMethS C (p_o_read K CR C) (WE W) (tC (.ref C)) (tCons (tVar 0) tNil))) (ts := fun a cls d => tRaiseB CT "word" (fun cls d _ H => E cls d H) (tCons (tVar 1) tNil)) hte (fun W D σ H i s hW => ?_) (fun e' a' => ?_)
    · exact pr_ret (pr_cmS (R := r_oread CR C) (ds := [.str a]) i s (ea_cons (ev_var rfl) ea_nil) rfl ⟨.str a, rfl, .inl rfl, fun b z => by cases z; exact ha, by unfold rdR; dsimp only; rw [e]⟩ hW)
    · exact so_raise0B (ev_var rfl) (hw _ _ _ ho)
theorem so_read_burst (hmu : S.Mu) (hp : r_rb CT CB C ds o) (hw : ∀ C' f d, o = .er C' f d → XW K S C' f d E) : So K S S [] (t_read_burst K CT CB C E) (startD 4 ds) (PO o) := by
  obtain ⟨x, rfl, hx, ⟨hs, rfl⟩ | ⟨a, rfl, ha, h⟩⟩ := hp
  · exact so_setR (er_lcSrc (er_callX (R := r_spt CT) (ea_cons (ev_var rfl) ea_nil) rfl ⟨x, rfl, hx, .inr ⟨hs, rfl⟩⟩ (hw _ _ _ rfl)))
  · have hws := wds_sum a
    have hsp : Ev K S S (startD 4 [.str a]) (tCall (p_split_text K CT) [] E (tCons (tVar 0) tNil)) (Eq (dS (wdsOf a))) := ev_callX (R := r_spt CT) (ea_cons (ev_var rfl) ea_nil) rfl ⟨_, rfl, rfl, .inl ⟨a, rfl, ha, rfl⟩⟩
    have hone : ∀ {ρ : List (Option Dt)} {i : Nat} {w : Str}, w ∈ wdsOf a → ρ[2]? = some (some (.str w)) → ρ[3]? = some (some (.int (i : Nat))) → EvA K S S ρ (tCons (tVar 2) (tCons (tOp rAddI (tVar 3) (tC (.int 1))) tNil)) (Eq [.str w, .int ((i : Int) + 1)]) ∧ w.length ≤ 100000 := fun hw h2 h3 => ⟨ea_cons (ev_var h2) (ea_cons (ev_op (ev_var h3) ev_int rv_add) ea_nil), Nat.le_trans (wds_each hw) (by omega)⟩
    rcases h with ⟨k, ⟨l, w, r, hl, hbad, hgood, rfl⟩, rfl⟩ | ⟨hgood, rfl⟩
    · have hk : ((wdsOf a).map Dt.str)[l.length]? = some (.str w) := by rw [hl]; simp
      refine so_setR (er_lcEn (f := fun _ x => rdS C x) hmu hsp (by simp) (by simp) (by rw [List.length_map]; omega) hk (fun i x hi hx => ?_) (fun i x hi hx => ?_) ?_)
      · obtain ⟨v, hv, rfl⟩ := dS_at hx
        have hm : v ∈ l := by
          rw [hl, List.getElem?_append_left hi] at hv
          exact List.mem_of_getElem? hv
        obtain ⟨h1, h2⟩ := hone (ρ := [some (.str a), none, some (.str v), some (.int (i : Nat))]) (i := i) (w := v) (by rw [hl]; exact List.mem_append_left _ hm) rfl rfl
        exact ev_callX (R := r_rw CT C) h1 rfl ⟨v, _, rfl, h2, (rw_good (hgood v hm)).symm⟩
      · obtain ⟨v, hv, rfl⟩ := dS_at hx
        exact rvD_nol C v
      · obtain ⟨h1, h2⟩ := hone (ρ := [some (.str a), none, some (.str w), some (.int (l.length : Nat))]) (i := l.length) (w := w) (by rw [hl]; simp) rfl rfl
        exact er_callX (R := r_rw CT C) (d := .int ((l.length : Int) + 1)) h1 rfl ⟨w, _, rfl, h2, (rw_bad hbad).symm⟩ (hw _ _ _ rfl)
    · refine so_setD (d := .lst ((wdsOf a).map (rvD C))) ((ev_lcEn (f := fun _ x => rdS C x) (p := fun _ _ => true) hmu hsp (by simp) (by simp) (by rw [List.length_map]; omega) (fun _ _ _ => et_yes) (fun i x hx _ => ?_) fun i x hx => ?_).to ?_) ?_
      · obtain ⟨v, hv, rfl⟩ := dS_at hx
        have hm := List.mem_of_getElem? hv
        obtain ⟨h1, h2⟩ := hone (ρ := [some (.str a), none, some (.str v), some (.int (i : Nat))]) (i := i) (w := v) hm rfl rfl
        exact ev_callX (R := r_rw CT C) h1 rfl ⟨v, _, rfl, h2, (rw_good (hgood v hm)).symm⟩
      · obtain ⟨v, hv, rfl⟩ := dS_at hx
        exact rvD_nol C v
      · rw [List.filter_eq_self.mpr (fun _ _ => rfl)]
        congr 1
        have e : ∀ (l : List Str) (k : Nat), ((l.map Dt.str).zipIdx k).map (fun y => rdS C y.1) = l.map (rvD C) := fun l => by
          induction l with
          | nil => intro k; rfl
          | cons v l ih => intro k; rw [List.map_cons, List.zipIdx_cons, List.map_cons, ih, List.map_cons]; rfl
        exact e _ 0
      · have hbv : bvR C (flashD C a) := ⟨.inl rfl, fun xs e => by
          cases e
          refine ⟨by rw [List.length_map]; omega, fun x hx => ?_⟩
          obtain ⟨v, _, rfl⟩ := List.mem_map.mp hx
          exact rvD_ok C v⟩
        have harg : EvA K S S [some (.str a), some (.lst ((wdsOf a).map (rvD C))), none, none] (tCons (tCB (rTupO K) (tCons (tVar 1) tNil)) tNil) (Eq [flashD C a]) := ea_cons (ev_cb (ea_cons (ev_var rfl) ea_nil) rc_tupL) ea_nil
        unfold nbuO at hw ⊢
        by_cases hb : isBu (flashD C a) = true
        · rw [if_pos hb]
          exact so_retD (ev_callX (R := r_nbuX CB C) harg rfl ⟨_, hbv, rfl, by rw [if_pos hb]⟩) (Sta.Le.refl S) rfl
        · rw [if_neg hb] at hw ⊢
          exact so_retR (er_callX (R := r_nbuX CB C) (f := "given") (d := flashD C a) harg rfl ⟨_, hbv, rfl, by rw [if_neg hb]⟩ (hw _ _ _ rfl))
end
end Bf
namespace Bf
open PySem PySem.Spec PyProof.Rows L2
/-! ## the law's _law_due of a burst's text; burst_text -/
section
variable {K : PySem.W.Frag} {S S1 : Sta} {ρ : List (Option Dt)} {te tl : TE} {tt : TT} {vs : List Nat} {j j2 : Nat}
/-- [e for x, y in pairs if ..] over a list -/
theorem ev_lcL2p {ps : List (Dt × Dt)} {f : Dt × Dt → Dt} {p : Dt × Dt → Bool} (hmu : S.Mu) (h : Ev K S S ρ tl (Eq (.lst (ps.map fun p => .tup [p.1, p.2])))) (hj : j ∈ vs) (hj2 : j2 ∈ vs) (hz : ps.length ≤ 100000)
    (ht : ∀ x ∈ ps, EvT K S S (((wipeD ρ vs).set j (some x.1)).set j2 (some x.2)) tt (Eq (p x)))
    (he : ∀ x ∈ ps, Ev K S S (((wipeD ρ vs).set j (some x.1)).set j2 (some x.2)) te (Eq (f x))) (hf : ∀ x ∈ ps, nol (f x) = true) :
    Ev K S S ρ (tLc (iList K tl) (gTup K 2 (gCons (gName j) (gCons (gName j2) gNil))) tt te vs) (Eq (.lst ((ps.filter p).map f))) := fun σ H i s Q q =>
  h σ H i s _ fun v d H1 g1 i1 r1 p1 => by
    subst p1
    obtain ⟨a, us, rfl, hT, ra⟩ := r1.lstI
    have hlen : us.length = ps.length := by rw [ra.len, List.length_map]
    refine ⟨a, rfl, ⟨us, hT⟩, fun D hD => lc_list (K := K) (a := a) (xs := us) (fun n H' => Gr H1 H' ∧ S.I H' ∧ ∃ acc, H' D = some (.lst acc) ∧ RepA K H' acc (((ps.take n).filter p).map f)) ⟨(same_new hD).gr, S.st i1 (same_new hD), [], upd_same, .nil⟩
      (fun n H' _ q' => q'.1.sqL hT) (fun n x H' hx q' => ?_) fun H' q' => ?_⟩
    · obtain ⟨g2, i2, acc, ha, rac⟩ := q'
      obtain ⟨dx, hdx, rdx⟩ := ra.ta hx
      rw [List.getElem?_map] at hdx
      cases hp : ps[n]? with
      | none => rw [hp] at hdx; cases hdx
      | some z =>
        rw [hp] at hdx
        cases hdx
        obtain ⟨b, ws, rfl, hb, rb⟩ := (rdx.mono g2).tupI
        cases rb with
        | cons r1 r2 =>
          cases r2 with
          | cons r3 r4 =>
            cases r4
            rename_i v1 v2
            have hm : z ∈ ps := List.mem_of_getElem? hp
            have s2 := ((((s.mono g1).mono g2).wipe vs).set r1 j).set r3 j2
            have hnl : n < ps.length := (List.getElem?_eq_some_iff.mp hp).1
            refine ⟨b, _, rfl, hb, rfl, v1, _, rfl, v2, _, rfl, rfl, by rw [wipe_in _ j2 vs _ hj2, wipe_in _ j vs _ hj, wipe_twice], ?_⟩
            refine ht z hm _ H' i2 s2 _ fun bb H3 g3 i3 e3 => ?_
            subst e3
            have ha3 : H3 D = some (.lst acc) := g3 _ _ ha rfl
            have htk : ps.take (n + 1) = ps.take n ++ [z] := by rw [List.take_add_one, hp]; rfl
            cases hpz : p z with
            | false =>
              rw [if_neg Bool.false_ne_true]
              refine ⟨g2.trans g3, i3, acc, ha3, ?_⟩
              rw [htk, List.filter_append, List.filter_cons_of_neg (by rw [hpz]; decide), List.filter_nil, List.append_nil]
              exact rac.mono g3
            | true =>
              rw [if_pos rfl]
              refine he z hm _ H3 i3 (s2.mono g3) _ fun y dy H4 g4 i4 r4 e4 => ?_
              subst e4
              have ha4 : H4 D = some (.lst acc) := g4 _ _ ha3 rfl
              have g14 := (g2.trans g3).trans g4
              refine ⟨acc, ha4, ?_, gr_off g14 hD, hmu i1 g14 hD ha4 i4, acc ++ [y], upd_same, ?_⟩
              · rw [rac.len, List.length_map]
                exact Nat.lt_of_le_of_lt (Nat.le_trans (List.length_filter_le _ _) (List.length_take_le _ _)) (Nat.lt_of_lt_of_le hnl (Nat.le_trans hz (by decide)))
              · rw [htk, List.filter_append, List.filter_cons_of_pos (by exact hpz), List.map_append]
                have hnol : nolA (((ps.take n).filter p).map f) = true := nolA_all.mpr fun y hy => by
                  obtain ⟨z, hz, rfl⟩ := List.mem_map.mp hy
                  exact hf z (List.mem_of_mem_take (List.mem_filter.mp hz).1)
                exact ((rac.mono (g3.trans g4)).off ha4 hnol).app (.cons (r4.off ha4 (hf z hm)) .nil)
    · obtain ⟨g2, i2, acc, ha, rac⟩ := q'
      rw [hlen, List.take_length] at rac
      exact q _ _ H' (g1.trans g2) i2 (.lst (SqL.of ha) rac) rfl
end
/-! ### _law_due -/
def dueF (F : Dt) : Dt := if isBu F = true then .lst [F] else .tup [.str "burst", F]
def r_ldu26 (C : Addr) (ds : List Dt) (d : Dt) : Prop := ∃ x, ds = [x] ∧ okN x = true ∧ ((isStrD x = false ∧ d = .tup [.str "text", .int 0]) ∨ ∃ a : Str, x = .str a ∧ a.length ≤ 900 ∧ ((∃ k, BadAt a k ∧ d = .tup [.str "text", .int ((k : Int) + 1)]) ∨ (AllGood a ∧ d = dueF (flashD C a))))
abbrev p__law_due26 (K : PySem.W.Frag) (C : Addr) : Sp := spR K 1 (r_ldu26 C)
abbrev t__law_due26 (K : PySem.W.Frag) (C : Addr) : TS := (tSeq (tIfS (tNot (tB (tCB (rIsi K) (tCons (tVar 0) (tCons (tC (.ty "str")) tNil))))) (tRet (tTup (tCons (tC (.str "text")) (tCons (tC (.int 0)) tNil)))) tNext)
    (tSeq (tAsg (tLc (iList K (tM1 rSplit (tVar 0) (tC (.str " ")))) (gName 2) tYes (tCall (p__law_ratio K) [] E0 (tCons (tVar 2) tNil)) [2]) (gName 1))
    (tSeq (tAsg (tLc (iEnum K (tCons (tVar 1) tNil)) (gTup K 2 (gCons (gName 4) (gCons (gName 5) gNil))) (tTest (tOp rIsNo (tVar 5) (tC .non))) (tOp rAddI (tVar 4) (tC (.int 1))) [4, 5]) (gName 3))
    (tSeq (tIfS (tTest (tOp (rNeNil K) (tVar 3) (tLst tNil))) (tRet (tTup (tCons (tC (.str "text")) (tCons (tOp (rIx K) (tVar 3) (tC (.int 0))) tNil)))) tNext)
    (tSeq (tAsg (tCB (rTupO K) (tCons (tLc (iList K (tVar 1)) (gTup K 2 (gCons (gName 7) (gCons (gName 8) gNil))) tYes (tMake C (spRI C) [] E0 (tCons (tVar 7) (tCons (tVar 8) tNil))) [7, 8]) tNil)) (gName 6))
    (tSeq (tIfS (tOr (tTest (tOp rEq (tOp rModI (tCB (rLen K) (tCons (tVar 6) tNil)) (tC (.int 2))) (tC (.int 0)))) (tOr (tTest (tOp rGtI (tCB (rLen K) (tCons (tVar 6) tNil)) (tC (.int 63)))) (tTest (tOp (rNeNil K) (tLc (iList K (tVar 1)) (gTup K 2 (gCons (gName 7) (gCons (gName 8) gNil))) (tTest (tOp rEq (tVar 7) (tC (.int 0)))) (tC (.int 1)) [7, 8]) (tLst tNil))))) (tRet (tTup (tCons (tC (.str "burst")) (tCons (tVar 6) tNil)))) tNext)
    (tRet (tLst (tCons (tVar 6) tNil)))))))))
def lrS : Dt → Dt
  | .str a => lratD a
  | _ => .non
def pairW (a : Str) : Dt × Dt := match rdRat a with
  | some (n, m) => (.int (n : Nat), .int (m : Nat))
  | none => (.non, .non)
def mkR (C : Addr) : Dt × Dt → Dt
  | (.int n, .int m) => ratL C n m
  | _ => .non
def zeroP : Dt × Dt → Bool
  | (.int n, _) => decide (n = 0)
  | _ => false
theorem lr_good {w : Str} (h : rdRat w ≠ none) : lratD w = .tup [(pairW w).1, (pairW w).2] := by
  unfold lratD pairW
  cases e : rdRat w with
  | none => exact absurd e h
  | some p => rfl
theorem lr_bad {w : Str} (h : rdRat w = none) : lratD w = .non := by unfold lratD; rw [h]
theorem no_wrong : ∀ (ws : List Str) (k : Nat), (∀ w ∈ ws, rdRat w ≠ none) → (((ws.map lratD).zipIdx k).filter fun y => y.1.isNon) = []
  | [], _, _ => rfl
  | w :: ws, k, h => by
    rw [List.map_cons, List.zipIdx_cons, List.filter_cons_of_neg, no_wrong ws (k + 1) fun v hv => h v (List.mem_cons_of_mem _ hv)]
    rw [lr_good (h w List.mem_cons_self)]
    exact Bool.false_ne_true
theorem wrong_at {l r : List Str} {w : Str} (hw : rdRat w = none) (hl : ∀ v ∈ l, rdRat v ≠ none) : ∃ t, ((((l ++ w :: r).map lratD).zipIdx.filter fun y => y.1.isNon).map fun y => Dt.int ((y.2 : Int) + 1)) = .int ((l.length : Int) + 1) :: t := by
  rw [List.map_append, List.zipIdx_append, List.filter_append, no_wrong l 0 hl, List.nil_append, List.map_cons, List.zipIdx_cons, List.filter_cons_of_pos (by rw [lr_bad hw]; rfl), List.map_cons, List.length_map]
  exact ⟨_, by rw [Nat.zero_add]⟩
theorem az_word {C : Addr} {w : Str} (h : rdRat w ≠ none) : isAZ (rvD C w) = !zeroP (pairW w) := by
  unfold rvD pairW
  cases e : rdRat w with
  | none => exact absurd e h
  | some p =>
    obtain ⟨n, m⟩ := p
    obtain ⟨_, h1, _⟩ := rd_lt e
    show isAZ (ratL C n m) = !decide ((n : Int) = 0)
    rw [ratL_nat]
    show decide ((0 : Int) < ((n / Nat.gcd n m : Nat) : Int)) = _
    rcases Nat.eq_zero_or_pos n with z | z
    · subst z
      simp
    · have hg : 0 < Nat.gcd n m := Nat.gcd_pos_of_pos_left _ z
      have hd : 0 < n / Nat.gcd n m := Nat.div_pos (Nat.gcd_le_left _ z) hg
      rw [decide_eq_true (by omega), decide_eq_false (by omega)]
      rfl
theorem az_words {C : Addr} : ∀ {ws : List Str}, (∀ w ∈ ws, rdRat w ≠ none) → (!(((ws.map pairW).filter zeroP).map fun _ => Dt.int 1).isEmpty) = !(ws.map (rvD C)).all isAZ
  | [], _ => rfl
  | w :: ws, h => by
    have ih := az_words (C := C) (ws := ws) fun v hv => h v (List.mem_cons_of_mem _ hv)
    have hw := az_word (C := C) (h w List.mem_cons_self)
    rw [List.map_cons, List.map_cons, List.all_cons, hw]
    cases e : zeroP (pairW w) with
    | true =>
      rw [List.filter_cons_of_pos (by exact e)]
      rfl
    | false =>
      rw [List.filter_cons_of_neg (by rw [e]; decide), ih]
      rfl
section
variable {K : PySem.W.Frag} {S S1 : Sta} {ρ : List (Option Dt)} {CR CT CB C : Addr} {ds : List Dt} {o : Out} {d : Dt} {E : XK} {te ta : TE}
theorem so__law_due26 (hmu : S.Mu) (hp : r_ldu26 C ds d) : So K S S [] (t__law_due26 K C) (startD 9 ds) (Pu d) := by
  have z2 : 2 ≤ sizeLine := by decide
  obtain ⟨x, rfl, hx, ⟨hs, rfl⟩ | ⟨a, rfl, ha, h⟩⟩ := hp
  · exact so_ifT ((et_not (et_B (ev_isStr (ev_var rfl) hx))).to (by rw [hs]; rfl)) (so_ret1D (ev_tup (ea_cons ev_str (ea_cons ev_int ea_nil)) z2) (Sta.Le.refl S) rfl)
  refine so_ifF ((et_not (et_B (ev_isStr (ev_var rfl) hx))).to rfl) (so_skip ?_)
  have hws := wds_sum a
  refine so_setD (d := .lst ((wdsOf a).map lratD)) ((ev_lcL (xs := (wdsOf a).map Dt.str) (f := lrS) (p := fun _ => true) hmu ((en_split (ev_var rfl) ev_str (by decide +kernel) (Nat.le_trans (Nat.add_le_add_right ha 2) (by decide))).ev.to rfl) (by simp) (by rw [List.length_map]; omega) (fun _ _ => et_yes) (fun x hx _ => ?_) fun x hx _ => ?_).to ?_) ?_
  · obtain ⟨v, hv, rfl⟩ := List.mem_map.mp hx
    exact ev_lrat (ev_var rfl) (Nat.le_trans (wds_each hv) ha)
  · obtain ⟨v, hv, rfl⟩ := List.mem_map.mp hx
    show nol (lratD v) = true
    unfold lratD
    split <;> rfl
  · rw [List.filter_eq_self.mpr (fun _ _ => rfl), List.map_map]
    rfl
  have hwr : Ev K S S [some (.str a), some (.lst ((wdsOf a).map lratD)), none, none, none, none, none, none, none] (tLc (iEnum K (tCons (tVar 1) tNil)) (gTup K 2 (gCons (gName 4) (gCons (gName 5) gNil))) (tTest (tOp rIsNo (tVar 5) (tC .non))) (tOp rAddI (tVar 4) (tC (.int 1))) [4, 5]) (Eq (.lst ((((wdsOf a).map lratD).zipIdx.filter fun y => y.1.isNon).map fun y => Dt.int ((y.2 : Int) + 1)))) :=
    ev_lcEn (f := fun i _ => .int ((i : Int) + 1)) (p := fun _ x => x.isNon) hmu (ev_var rfl) (by simp) (by simp) (by rw [List.length_map]; omega) (fun i x hi => et_test (ev_op (ev_var rfl) ev_non rv_isNo)) (fun i x hi _ => ev_op (ev_var rfl) ev_int rv_add) fun _ _ _ => rfl
  refine so_setD hwr ?_
  rcases h with ⟨k, ⟨l, w, r, hl, hbad, hgood, rfl⟩, rfl⟩ | ⟨hgood, rfl⟩
  · rw [hl]
    obtain ⟨t, ht⟩ := wrong_at (r := r) hbad hgood
    rw [ht]
    exact so_ifT ((et_test (ev_op (ev_var rfl) (ev_lst ea_nil (Nat.zero_le _)) rv_neNil)).to rfl) (so_ret1D (ev_tup (ea_cons ev_str (ea_cons (ev_ixL (ev_var rfl) ev_int (atI_nat (j := 0) rfl)) ea_nil)) z2) (Sta.Le.refl S) rfl)
  · rw [no_wrong _ 0 hgood]
    refine so_ifF ((et_test (ev_op (ev_var rfl) (ev_lst ea_nil (Nat.zero_le _)) rv_neNil)).to rfl) (so_skip ?_)
    have hps : (wdsOf a).map lratD = ((wdsOf a).map pairW).map fun p => .tup [p.1, p.2] := by
      rw [List.map_map]
      exact List.map_congr_left fun w hw => lr_good (hgood w hw)
    have hfl : ((wdsOf a).map pairW).map (mkR C) = (wdsOf a).map (rvD C) := by
      rw [List.map_map]
      refine List.map_congr_left fun w hw => ?_
      have := hgood w hw
      show mkR C (pairW w) = rvD C w
      unfold pairW rvD
      cases e : rdRat w with
      | none => exact absurd e this
      | some p => rfl
    rw [hps]
    have hlen : ((wdsOf a).map pairW).length ≤ 100000 := by rw [List.length_map]; omega
    refine so_setD (d := flashD C a) ((ev_cb (ea_cons (ev_lcL2 (ps := (wdsOf a).map pairW) (f := mkR C) hmu (ev_var rfl) (by simp) (by simp) hlen (fun x hx => ?_) fun x hx => ?_) ea_nil) rc_tupL).to (by rw [hfl]; rfl)) ?_
    · obtain ⟨w, hw, rfl⟩ := List.mem_map.mp hx
      have := hgood w hw
      cases e : rdRat w with
      | none => exact absurd e this
      | some p =>
        obtain ⟨n, m⟩ := p
        obtain ⟨_, h1, h2⟩ := rd_lt e
        have e2 : pairW w = (.int (n : Nat), .int (m : Nat)) := by unfold pairW; rw [e]
        rw [e2]
        exact ev_mkrat (ea_cons (ev_var rfl) (ea_cons (ev_var rfl) ea_nil)) (by omega) (by omega) (pow40 h2)
    · obtain ⟨w, hw, rfl⟩ := List.mem_map.mp hx
      have := hgood w hw
      unfold pairW
      cases e : rdRat w with
      | none => exact absurd e this
      | some p => exact nol_rat
    have hlf : ∀ {ρ : List (Option Dt)}, ρ[6]? = some (some (flashD C a)) → Ev K S S ρ (tCB (rLen K) (tCons (tVar 6) tNil)) (Eq (.int ((wdsOf a).length : Nat))) := fun h => (ev_lenT (xs := (wdsOf a).map (rvD C)) (ev_var h)).to (by rw [List.length_map])
    refine so_ifD (k := !isBu (flashD C a)) ((et_or (et_test (ev_op (ev_op (hlf rfl) ev_int (rv_mod (by decide))) ev_int rv_eqI)) fun _ => et_or (et_test (ev_op (hlf rfl) ev_int rv_gt)) fun _ => (et_test (ev_op (ev_lcL2p (ps := (wdsOf a).map pairW) (f := fun _ => .int 1) (p := zeroP) hmu (ev_var rfl) (by simp) (by simp) hlen (fun x hx => ?_) (fun x hx => ev_int) fun _ _ => rfl) (ev_lst ea_nil (Nat.zero_le _)) rv_neNil)).to (az_words (C := C) hgood)).to ?_) (fun e => ?_) fun e => so_skip ?_
    · obtain ⟨w, hw, rfl⟩ := List.mem_map.mp hx
      have := hgood w hw
      cases e : rdRat w with
      | none => exact absurd e this
      | some p =>
        obtain ⟨n, m⟩ := p
        have e2 : pairW w = (.int (n : Nat), .int (m : Nat)) := by unfold pairW; rw [e]
        rw [e2]
        exact (et_test (ev_op (ev_var rfl) ev_int rv_eqI)).to rfl
    · unfold flashD isBu
      dsimp only
      rw [List.length_map]
      cases hall : ((wdsOf a).map (rvD C)).all isAZ
      · simp
      · simp only [Bool.and_true, Bool.not_true, Bool.or_false]
        rw [Bool.eq_iff_iff]
        simp only [Bool.or_eq_true, Bool.not_eq_true', Bool.and_eq_false_iff, decide_eq_true_eq, decide_eq_false_iff_not]
        omega
    · have e : isBu (flashD C a) = false := by simpa using e
      refine so_ret1D (ev_tup (ea_cons ev_str (ea_cons (ev_var rfl) ea_nil)) z2) (Sta.Le.refl S) ?_
      show dueF (flashD C a) = _
      unfold dueF
      rw [e]
      rfl
    · have e : isBu (flashD C a) = true := by simpa using e
      refine so_retD (ev_lst (ea_cons (ev_var rfl) ea_nil) (by show 1 ≤ sizeLine; decide)) (Sta.Le.refl S) ?_
      show dueF (flashD C a) = _
      unfold dueF
      rw [e]
      rfl
end
end Bf
namespace Bf
open PySem PySem.Spec PyProof.Rows L2
/-! ## burst_text, and back; said and due are the same; _law_bent -/
def ratN (C : Addr) (p : Nat × Nat) : Dt := rat C (p.1 : Nat) (p.2 : Nat)
/-- bursts as this law draws them -/
def bnOk (ns : List (Nat × Nat)) : Prop := ns.length % 2 = 1 ∧ ns.length ≤ 63 ∧ ∀ p ∈ ns, 0 < p.1 ∧ p.1 < 10 ^ 7 ∧ 0 < p.2 ∧ p.2 < 10 ^ 1 ∧ Nat.gcd p.1 p.2 = 1
def bnW (ns : List (Nat × Nat)) : List Str := ns.map fun p => ratT p.1 p.2
def bnT (ns : List (Nat × Nat)) : Str := Txt.join " " (bnW ns)
abbrev bnD (C : Addr) (ns : List (Nat × Nat)) : Dt := .tup (ns.map (ratN C))
theorem num_nosp (n c : Nat) (h : c < 48) : c ∉ sg (numT n) := fun z => by
  rw [sg_num] at z
  have := TL.numL_digits n c z
  omega
theorem ratT_len {n m : Nat} (h : n < 10 ^ 7) (h2 : m < 10 ^ 1) : (ratT n m).length ≤ 9 := by
  have h1 := numT_len (n := n) (by decide) h
  have h3 := numT_len (n := m) (by decide) h2
  have e : ("/" : Str).length = 1 := by decide +kernel
  unfold ratT
  split
  · omega
  · rw [lenA, lenA, e]
    omega
theorem ratT_sp (n m : Nat) : 32 ∉ sg (ratT n m) := by
  unfold ratT
  split
  · exact num_nosp _ _ (by decide)
  · have e : sg ("/" : Str) = [47] := by decide +kernel
    rw [sg_app, sg_app, e]
    simp only [List.mem_append, not_or]
    exact ⟨⟨num_nosp _ _ (by decide), by decide⟩, num_nosp _ _ (by decide)⟩
theorem rd_ratT {n m : Nat} (h : n < 10 ^ 7) (h1 : 0 < m) (h2 : m < 10 ^ 1) : rdRat (ratT n m) = some (n, m) := by
  obtain ⟨a1, a2⟩ := num_txt (n := n) (k := 40) (by decide) (Nat.lt_trans h (by decide))
  obtain ⟨b1, b2⟩ := num_txt (n := m) (k := 40) (by decide) (Nat.lt_trans h2 (by decide))
  unfold ratT
  split
  · rename_i e
    rw [rd_plain (num_nosp _ _ (by decide)), if_pos a1, a2, e]
  · have hz : numT m ≠ ("0" : Str) := fun z => by
      have := (val_zero b1).mpr z
      rw [b2] at this
      omega
    rw [rd_cut (num_nosp _ _ (by decide)), if_pos ⟨a1, b1, hz⟩, a2, b2]
theorem bn_words {ns : List (Nat × Nat)} (h : bnOk ns) : wdsOf (bnT ns) = bnW ns := by
  have e1 : sg (" " : Str) = [32] := by decide +kernel
  refine TL.map_tl_inj ((wds_eq (bnT ns)).trans ?_)
  unfold bnT
  rw [sg_join, e1]
  refine TL.spl_join (fun z => ?_) fun p hp => ?_
  · have h1 := h.1
    have h2 : ns.length = 0 := by simpa [bnW] using z
    rw [h2] at h1
    exact absurd h1 (by decide)
  · obtain ⟨w, hw, rfl⟩ := List.mem_map.mp hp
    obtain ⟨q, _, rfl⟩ := List.mem_map.mp hw
    exact ratT_sp _ _
theorem bn_good {ns : List (Nat × Nat)} (h : bnOk ns) : AllGood (bnT ns) := fun w hw => by
  rw [bn_words h] at hw
  obtain ⟨p, hp, rfl⟩ := List.mem_map.mp hw
  obtain ⟨_, h1, h2, h3, _⟩ := h.2.2 p hp
  rw [rd_ratT h1 h2 h3]
  simp
theorem bn_flash {C : Addr} {ns : List (Nat × Nat)} (h : bnOk ns) : flashD C (bnT ns) = bnD C ns := by
  unfold flashD bnD
  rw [bn_words h, bnW, List.map_map]
  congr 1
  refine List.map_congr_left fun p hp => ?_
  obtain ⟨_, h1, h2, h3, h4⟩ := h.2.2 p hp
  show rvD C (ratT p.1 p.2) = _
  unfold rvD
  rw [rd_ratT h1 h2 h3]
  show ratL C _ _ = _
  rw [ratL_nat, h4, Nat.div_one, Nat.div_one]
  rfl
theorem bn_bu {C : Addr} {ns : List (Nat × Nat)} (h : bnOk ns) : isBu (bnD C ns) = true := by
  have h1 := h.1
  have h2 := h.2.1
  simp only [isBu, List.length_map, Bool.and_eq_true, decide_eq_true_eq, List.all_eq_true]
  refine ⟨⟨h2, h1⟩, fun x hx => ?_⟩
  obtain ⟨p, hp, rfl⟩ := List.mem_map.mp hx
  have := (h.2.2 p hp).1
  exact decide_eq_true (by omega)
theorem bn_bv {C : Addr} {ns : List (Nat × Nat)} (h : bnOk ns) : bvR C (bnD C ns) := ⟨.inl rfl, fun xs e => by
  cases e
  refine ⟨by rw [List.length_map]; have := h.2.1; omega, fun x hx => ?_⟩
  obtain ⟨p, _, rfl⟩ := List.mem_map.mp hx
  exact .inr ⟨_, _, rfl⟩⟩
theorem bn_len {ns : List (Nat × Nat)} (h : bnOk ns) : (bnT ns).length ≤ 700 ∧ smL (bnW ns) + (bnW ns).length ≤ 700 := by
  have h1 := sum_le (bnW ns) 9 fun w hw => by
    obtain ⟨p, hp, rfl⟩ := List.mem_map.mp hw
    obtain ⟨_, h1, h2, h3, _⟩ := h.2.2 p hp
    exact ratT_len h1 h3
  have h2 : (bnW ns).length = ns.length := List.length_map _
  have h3 := h.2.1
  have h4 : smL (bnW ns) = ((bnW ns).map (·.length)).sum := rfl
  have e : (" " : Str).length = 1 := by decide +kernel
  have hl := join_len " " (bnW ns)
  rw [e, Nat.mul_one] at hl
  refine ⟨?_, by omega⟩
  show (Txt.join " " (bnW ns)).length ≤ 700
  omega
def r_btx (C : Addr) (ds : List Dt) (o : Out) : Prop := ∃ ns, ds = [bnD C ns] ∧ bnOk ns ∧ o = .ok (.str (bnT ns))
abbrev p_burst_text (K : PySem.W.Frag) (C : Addr) : Sp := spX K 1 (r_btx C)
abbrev t_burst_text (K : PySem.W.Frag) (CB C : Addr) (E : XK) : TS := (tSeq (tDrop (tCall (p_need_burstX K CB C) [] E (tCons (tVar 0) tNil)))
    (tRet (tM1 (rJoin K) (tC (.str " ")) (tLc (iTup K (tVar 0)) (gName 1) tYes (tCB (rStrO C (p_o_str K C)) (tCons (tVar 1) tNil)) [1]))))
def strN : Dt → Dt
  | .ins _ _ [.int n, .int m] => .str (ratT n.toNat m.toNat)
  | _ => .non
section
variable {K : PySem.W.Frag} {S S1 : Sta} {ρ : List (Option Dt)} {CR CT CB C : Addr} {ds : List Dt} {o : Out} {d : Dt} {E : XK} {te ta tl : TE} {vs : List Nat} {j : Nat}
/-- " ".join([str(item) for item in a burst]) -/
theorem ev_btx {ns : List (Nat × Nat)} (hmu : S.Mu) (hn : bnOk ns) (h : Ev K S S ρ tl (Eq (bnD C ns))) (hj : j ∈ vs) (hv : ∀ x : Dt, ((wipeD ρ vs).set j (some x))[j]? = some (some x)) :
    Ev K S S ρ (tM1 (rJoin K) (tC (.str " ")) (tLc (iTup K tl) (gName j) tYes (tCB (rStrO C (p_o_str K C)) (tCons (tVar j) tNil)) vs)) (Eq (.str (bnT ns))) := by
  have hl : Ev K S S ρ (tLc (iTup K tl) (gName j) tYes (tCB (rStrO C (p_o_str K C)) (tCons (tVar j) tNil)) vs) (Eq (dS (bnW ns))) := by
    refine (ev_lcT (xs := ns.map (ratN C)) (f := strN) (p := fun _ => true) hmu h hj (by rw [List.length_map]; have := hn.2.1; omega) (fun _ _ => et_yes) (fun x hx _ => ?_) fun x hx _ => ?_).to ?_
    · obtain ⟨p, hp, rfl⟩ := List.mem_map.mp hx
      obtain ⟨_, h1, _, h3, _⟩ := hn.2.2 p hp
      exact ev_strO (ev_var (hv _)) (Nat.lt_trans h1 (by decide)) (Nat.lt_trans h3 (by decide))
    · obtain ⟨p, hp, rfl⟩ := List.mem_map.mp hx
      rfl
    · rw [List.filter_eq_self.mpr (fun _ _ => rfl), List.map_map, bnW]
      show Dt.lst _ = Dt.lst (List.map _ (List.map _ _))
      rw [List.map_map]
      rfl
  exact (ev_joinB (a := "") hl (Nat.le_trans (bn_len hn).2 (by decide))).1
theorem so_burst_text (hmu : S.Mu) (hp : r_btx C ds o) : So K S S [] (t_burst_text K CB C E) (startD 2 ds) (PO o) := by
  obtain ⟨ns, rfl, hn, rfl⟩ := hp
  refine so_drop (ev_callX (R := r_nbuX CB C) (d := bnD C ns) (ea_cons (ev_var rfl) ea_nil) rfl ⟨_, bn_bv hn, rfl, by rw [if_pos (bn_bu hn)]⟩) ?_
  exact so_retD (ev_btx hmu hn (ev_var rfl) (by simp) fun _ => rfl) (Sta.Le.refl S) rfl
end
/-! ### x != y, of the same lists or tuples -/
def rNeA (K : PySem.W.Frag) (C : Addr) : R2 := fun x y H Q => (DLst K (DRepL K C 4) x y H ∨ DTup K (DRepL K C 4) x y H) ∧ ∀ H', Same H H' → Q (.bl false) H'
section
variable {X : Cx} {C q : Addr} {qd : FuncData}
theorem op_neA (T : RatE X.prog X.w X.K X.mg X.base C q qd) (hr : Room 7 X.A) (hg : X.A.guards = some []) : OpR X (compareOp .NotEq) (rNeA X.K C) := by
  intro pins s σ H x y v u Q I rx ry h
  obtain ⟨d, q⟩ := h
  show wpAny (model X.prog X.w) X.A (richCompare .NotEq v u) (EP X pins σ Q) X.xe s
  rcases d with d | d
  · refine wpAny_mono (cmp_lst (.inr ⟨rfl, rfl⟩) mon_repL (eqP_repL T 4) ⟨hr, rfl, hg⟩ I rx ry d) (fun r s' z => ?_) fun _ _ x => x
    obtain ⟨hr', H', I', e⟩ := z
    subst hr'
    exact ⟨.bl false, H', I', rfl, q H' e⟩
  · refine wpAny_mono (neP_tup mon_repL (eqP_repL T 4) ⟨hr, rfl, hg⟩ I rx ry d) (fun r s' z => ?_) fun _ _ x => x
    obtain ⟨hr', H', I', e⟩ := z
    subst hr'
    exact ⟨.bl false, H', I', rfl, q H' e⟩
end
section
variable {K : PySem.W.Frag} {S : Sta} {C : Addr}
theorem rv_neAL {xs : List Dt} (h : ∀ x ∈ xs, eqL C 4 x) : Rv2 K S (rNeA K C) (.lst xs) (.lst xs) (Eq (.bl false)) := fun H v u hi r1 r2 Q q => by
  obtain ⟨a, us, rfl, ha, ra⟩ := r1.lstI
  obtain ⟨b, vs, rfl, hb, rb⟩ := r2.lstI
  exact ⟨.inl ⟨a, b, us, vs, rfl, rfl, ha, hb, prs_repL ra rb h⟩, fun H' sm => q _ _ H' sm.gr (S.st hi sm) (.bl _) rfl⟩
theorem rv_neAT {xs : List Dt} (h : ∀ x ∈ xs, eqL C 4 x) : Rv2 K S (rNeA K C) (.tup xs) (.tup xs) (Eq (.bl false)) := fun H v u hi r1 r2 Q q => by
  obtain ⟨a, us, rfl, ha, ra⟩ := r1.tupI
  obtain ⟨b, vs, rfl, hb, rb⟩ := r2.tupI
  exact ⟨.inr ⟨a, b, us, vs, rfl, rfl, ha, hb, prs_repL ra rb h⟩, fun H' sm => q _ _ H' sm.gr (S.st hi sm) (.bl _) rfl⟩
theorem eqL_str {n : Nat} (x : Str) : eqL C n (.str x) := by cases n <;> first | exact .inr (.inr (.inr (.inl ⟨x, rfl⟩))) | exact .inl (.inr (.inr (.inr (.inl ⟨x, rfl⟩))))
theorem eqL_int {n : Nat} (x : Int) : eqL C n (.int x) := by cases n <;> first | exact .inr (.inr (.inl ⟨x, rfl⟩)) | exact .inl (.inr (.inr (.inl ⟨x, rfl⟩)))
theorem eqL_rv {n : Nat} (a : Str) : eqL C n (rvD C a) := by
  have h : eqK C 0 (rvD C a) := by
    unfold rvD
    split
    · exact .inr (.inr (.inr (.inr ⟨_, _, rfl⟩)))
    · exact .inl rfl
  cases n
  · exact h
  · exact .inl h
theorem eqL_flash {n : Nat} (a : Str) : eqL C (n + 1) (flashD C a) := .inr (.inl ⟨_, rfl, fun x hx => by
  obtain ⟨w, _, rfl⟩ := List.mem_map.mp hx
  exact eqL_rv w⟩)
end
end Bf
namespace Bf
open PySem PySem.Spec PyProof.Rows L2
/-! ## the law's _law_bent of a burst's text -/
theorem cutW_upto (ws : List Str) (k : Nat) : cutW ws none (some (k : Int)) = ws.take (min k ws.length) := by
  unfold cutW
  have e1 : HT.sIx ws.length 0 none = 0 := rfl
  rw [e1, HT.sIx_nat, List.drop_zero, Nat.sub_zero]
theorem cutW_from (ws : List Str) (k : Nat) : cutW ws (some (k : Int)) none = ws.drop (min k ws.length) := by
  unfold cutW
  have e2 : HT.sIx ws.length ws.length none = ws.length := rfl
  rw [e2, HT.sIx_nat, List.take_of_length_le (by rw [List.length_drop]; exact Nat.le_refl _)]
theorem smL_two (ws : List Str) {a b : Nat} (h : a ≤ b) : smL (ws.take a) + smL (ws.drop b) ≤ smL ws ∧ (ws.take a).length + (ws.drop b).length ≤ ws.length := by
  have h1 : smL (ws.take a) + smL (ws.drop a) = smL ws := by rw [← smL_app, List.take_append_drop]
  have h2 : ws.drop b = (ws.drop a).drop (b - a) := by rw [List.drop_drop]; congr 1; omega
  have h3 := (smL_cut (ws.drop a) (b - a)).2
  rw [← h2] at h3
  refine ⟨by omega, ?_⟩
  rw [List.length_take, List.length_drop]
  omega
theorem bent_len (ws : List Str) (x : Str) {k k2 : Nat} (h : k ≤ k2) : smL (cutW ws none (some (k : Int)) ++ [x] ++ cutW ws (some (k2 : Int)) none) ≤ smL ws + x.length ∧ (cutW ws none (some (k : Int)) ++ [x] ++ cutW ws (some (k2 : Int)) none).length ≤ ws.length + 1 := by
  rw [cutW_upto, cutW_from, smL_app, smL_app]
  obtain ⟨h1, h2⟩ := smL_two ws (a := min k ws.length) (b := min k2 ws.length) (by omega)
  have : smL [x] = x.length := by simp [smL]
  simp only [List.length_append, List.length_cons, List.length_nil]
  omega
theorem bent_len2 (ws : List Str) {k k2 : Nat} (h : k ≤ k2) : smL (cutW ws none (some (k : Int)) ++ cutW ws (some (k2 : Int)) none) ≤ smL ws ∧ (cutW ws none (some (k : Int)) ++ cutW ws (some (k2 : Int)) none).length ≤ ws.length := by
  rw [cutW_upto, cutW_from, smL_app]
  obtain ⟨h1, h2⟩ := smL_two ws (a := min k ws.length) (b := min k2 ws.length) (by omega)
  simp only [List.length_append]
  omega
theorem cutS_two (z : Str) (k : Nat) : (cutS z none (some (k : Int))).length + (cutS z (some (k : Int)) none).length ≤ z.length := by
  have e1 : HT.sIx z.length 0 none = 0 := rfl
  have e2 : HT.sIx z.length z.length none = z.length := rfl
  show (((z.cps.toList.drop (HT.sIx z.length 0 none)).take (HT.sIx z.length z.length (some (k : Int)) - HT.sIx z.length 0 none)).toArray).size + (((z.cps.toList.drop (HT.sIx z.length 0 (some (k : Int)))).take (HT.sIx z.length z.length none - HT.sIx z.length 0 (some (k : Int)))).toArray).size ≤ z.length
  have e3 : z.cps.size = z.length := rfl
  rw [e1, e2, HT.sIx_nat, HT.sIx_nat, List.size_toArray, List.size_toArray, List.length_take, List.length_take, List.length_drop, List.length_drop, Array.length_toList, e3]
  omega
def bentR26 (ds : List Dt) (d : Dt) : Prop := ∃ a b : Str, ds = [.str a] ∧ d = .str b ∧ b.length ≤ a.length + 45
abbrev p__law_bent26 (K : PySem.W.Frag) : Sp := spD K 1 (fun ds => ∃ a : Str, ds = [.str a] ∧ a.length ≤ 800) bentR26 4
abbrev t__law_bent26 (K : PySem.W.Frag) : TS := (tSeq (tAsg (tM1 rSplit (tVar 1) (tC (.str " "))) (gName 2))
    (tSeq (tAsg (tCall (p__law_next K) [] E0 (tCons (tVar 0) (tCons (tOp rAddI (tCB (rLen K) (tCons (tVar 2) tNil)) (tC (.int 1))) tNil))) (gName 3))
    (tSeq (tAsg (tCall (p__law_pick K) [] E0 (tCons (tVar 0) (tCons (tLst (tCons (tC (.str "0")) (tCons (tC (.str "1/0")) (tCons (tC (.str "3/6")) (tCons (tC (.str "01")) (tCons (tC (.str "")) (tCons (tC (.str "x")) (tCons (tOp rMulS (tC (.str "9")) (tC (.int 41))) (tCons (tC (.str "1/2/3")) (tCons (tC (.str "-1")) (tCons (tC (.str "7")) (tCons (tC (.str "1 2")) (tCons (tC (.str "0/5")) tNil))))))))))))) tNil))) (gName 4))
    (tSeq (tAsg (tCall (p__law_next K) [] E0 (tCons (tVar 0) (tCons (tC (.int 4)) tNil))) (gName 5))
    (tSeq (tIfS (tTest (tOp rEq (tVar 5) (tC (.int 0)))) (tRet (tOp rAddSt (tOp rAddSt (tSl rSlS (tVar 1) tNoPart (tPart (tVar 3))) (tCall (p__law_pick K) [] E0 (tCons (tVar 0) (tCons (tLst (tCons (tC (.str " ")) (tCons (tC (.str "/")) (tCons (tC (.str "0")) (tCons (tC (.str "\n")) (tCons (tC (.str ".")) tNil)))))) tNil)))) (tSl rSlS (tVar 1) (tPart (tVar 3)) tNoPart))) tNext)
    (tSeq (tAsg (tLst (tCons (tOp (rCatS K) (tOp (rCatS K) (tSl (rSlL K) (tVar 2) tNoPart (tPart (tVar 3))) (tLst (tCons (tVar 4) tNil))) (tSl (rSlL K) (tVar 2) (tPart (tVar 3)) tNoPart)) (tCons (tOp (rCatS K) (tSl (rSlL K) (tVar 2) tNoPart (tPart (tVar 3))) (tSl (rSlL K) (tVar 2) (tPart (tOp rAddI (tVar 3) (tC (.int 1)))) tNoPart)) tNil))) (gName 6))
    (tSeq (tDrop (tBM K "list" rAppend (tVar 6) (tCons (tOp (rCatS K) (tOp (rCatS K) (tSl (rSlL K) (tVar 2) tNoPart (tPart (tVar 3))) (tLst (tCons (tVar 4) tNil))) (tSl (rSlL K) (tVar 2) (tPart (tOp rAddI (tVar 3) (tC (.int 1)))) tNoPart)) tNil)))
    (tRet (tM1 (rJoin K) (tC (.str " ")) (tOp (rIx K) (tVar 6) (tOp rSubI (tVar 5) (tC (.int 1)))))))))))))
section
variable {K : PySem.W.Frag} {S S1 S2 : Sta} {ρ : List (Option Dt)} {te ta tb tlo thi : TE} {a : Addr} {c : CT} {cs : List Int} {n : Nat} {ds : List Dt}
theorem ev_addLe {k k' : Nat} (ha : Ev K S S1 ρ ta (fun d => ∃ y : Str, d = .str y ∧ y.length ≤ k)) (hb : Ev K S1 S2 ρ tb (fun d => ∃ y : Str, d = .str y ∧ y.length ≤ k')) (hz : k + k' ≤ sizeLine) : Ev K S S2 ρ (tOp rAddSt ta tb) (fun d => ∃ y : Str, d = .str y ∧ y.length ≤ k + k') := fun σ H i s Q q =>
  ha σ H i s _ fun v d H1 g1 i1 r1 p1 => hb σ H1 i1 (s.mono g1) _ fun u d2 H2 g2 i2 r2 p2 => by
    obtain ⟨x, rfl, hx⟩ := p1
    obtain ⟨y, rfl, hy⟩ := p2
    obtain rfl := r1.strI
    obtain rfl := r2.strI
    exact ⟨x, y, rfl, rfl, by omega, q _ _ H2 (g1.trans g2) i2 (.str _) ⟨_, rfl, by rw [lenA]; omega⟩⟩
def freshL : List Dt := [.str "0", .str "1/0", .str "3/6", .str "01", .str "", .str "x", .str (mulT "9" 41), .str "1/2/3", .str "-1", .str "7", .str "1 2", .str "0/5"]
theorem so__law_bent26 (hc : cs ≠ []) (hn : n + 4 ≤ 1000000) (hp : ∃ a : Str, ds = [.str a] ∧ a.length ≤ 800) : So K (DW K a c cs n) (DW K a c cs (n + 4)) [] (t__law_bent26 K) (startD 7 (.raw (.ref a) :: ds)) { nx := fun _ => bentR26 ds .non, rt := bentR26 ds } := by
  obtain ⟨x, rfl, hx⟩ := hp
  have hz : x.length ≤ sizeLine := Nat.le_trans hx (by decide)
  have hws := wds_smL x
  refine so_setD (d := dS (wdsOf x)) ((en_split (ev_var rfl) ev_str (by decide +kernel) (Nat.le_trans (Nat.add_le_add_right hx 2) (by decide))).ev.to rfl) ?_
  generalize hW : wdsOf x = W at hws ⊢
  have hlen : ∀ {S : Sta} {x0 x3 x4 x5 x6 : Option Dt} {y : Option Dt}, Ev K S S [x0, y, some (dS W), x3, x4, x5, x6] (tCB (rLen K) (tCons (tVar 2) tNil)) (Eq (.int (W.length : Nat))) := (ev_lenL (ev_var rfl)).to (by rw [List.length_map])
  refine so_set (S1 := DW K a c cs (n + 1)) (ev__law_next (n := n) (m := (W.length : Nat) + 1) (ea_cons (ev_var rfl) (ea_cons (ev_op hlen ev_int rv_add) ea_nil)) hc (by omega) (by omega) (Nat.lt_of_le_of_lt (show _ ≤ 1000 by omega) (by decide))) fun d hd => ?_
  obtain ⟨at0, rfl, h0, hat⟩ := hd
  obtain ⟨k, rfl⟩ : ∃ k : Nat, at0 = k := Int.eq_ofNat_of_zero_le h0
  refine so_re (ρ' := [some (.raw (.ref a)), some (.str x), some (dS W), some (.int k), none, none, none]) rfl ?_
  have one9 : 1 ≤ ("9" : Str).length ∧ ("9" : Str).length ≤ 1000 := by decide +kernel
  refine so_set (S1 := DW K a c cs (n + 2)) (ev__law_pick (n := n + 1) (xs := freshL) (ea_c (ev_var rfl) (ea_c (ev_lst (ea_c ev_str (ea_c ev_str (ea_c ev_str (ea_c ev_str (ea_c ev_str (ea_c ev_str (ea_c (ev_op ev_str ev_int (rv_mulS (k := 41) (by decide) one9)) (ea_c ev_str (ea_c ev_str (ea_c ev_str (ea_c ev_str (ea_c ev_str ea_nil)))))))))))) (by show 12 ≤ sizeLine; decide)) ea_nil)) hc (by omega) (by simp [freshL]) (by show 12 ≤ 100000; decide)) fun d hd => ?_
  obtain ⟨z, rfl, hz41⟩ := shT_mem (k := 41) (by decide +kernel) hd
  refine so_re (ρ' := [some (.raw (.ref a)), some (.str x), some (dS W), some (.int k), some (.str z), none, none]) rfl ?_
  refine so_set (S1 := DW K a c cs (n + 3)) (ev__law_next (n := n + 2) (m := 4) (ea_cons (ev_var rfl) (ea_cons ev_int ea_nil)) hc (by omega) (by decide) (by decide)) fun d hd => ?_
  obtain ⟨way, rfl, w0, w4⟩ := hd
  refine so_re (ρ' := [some (.raw (.ref a)), some (.str x), some (dS W), some (.int k), some (.str z), some (.int way), none]) rfl ?_
  refine so_ifD (et_test (ev_op (ev_var rfl) ev_int rv_eqI)) (fun e => ?_) fun e => so_skip ?_
  · have h2 := cutS_two x k
    refine so_ret1 (Φ := fun d => ∃ y : Str, d = .str y ∧ y.length ≤ (cutS x none (some (k : Int))).length + 1 + (cutS x (some (k : Int)) none).length) (ev_addLe (ev_addLe (S1 := DW K a c cs (n + 3)) (S2 := DW K a c cs (n + 4)) (k' := 1) ((ev_slS (ev_var rfl) eo_none (eo_some (ev_var rfl)) hz).weak fun d e => ⟨_, e.symm, Nat.le_refl _⟩) ((ev__law_pick (n := n + 3) (xs := [.str " ", .str "/", .str "0", .str "\n", .str "."]) (ea_c (ev_var rfl) (ea_c (ev_lst (ea_c ev_str (ea_c ev_str (ea_c ev_str (ea_c ev_str (ea_c ev_str ea_nil))))) (by show 5 ≤ sizeLine; decide)) ea_nil)) hc (by omega) (by simp) (by show 5 ≤ 100000; decide)).weak fun d hd => shT_mem (k := 1) (by decide +kernel) hd) (Nat.le_trans (show _ ≤ 1000 by omega) (by decide))) ((ev_slS (ev_var rfl) (eo_some (ev_var rfl)) eo_none hz).weak fun d e => ⟨_, e.symm, Nat.le_refl _⟩) (Nat.le_trans (show _ ≤ 1000 by omega) (by decide))) (dw_le (by omega)) fun d hd => ?_
    obtain ⟨y, rfl, hy⟩ := hd
    exact ⟨x, y, rfl, rfl, by omega⟩
  · have e : ¬ way = 0 := of_decide_eq_false e
    have hWl : W.length ≤ 10000 := by omega
    have hat1 : ∀ {S : Sta} {x0 x1 x2 x4 x5 x6 : Option Dt}, Ev K S S [x0, x1, x2, some (.int k), x4, x5, x6] (tOp rAddI (tVar 3) (tC (.int 1))) (Eq (.int ((k + 1 : Nat) : Int))) := (ev_op (ev_var rfl) ev_int rv_add).to rfl
    let R : List (Option Dt) := [some (.raw (.ref a)), some (.str x), some (dS W), some (.int k), some (.str z), some (.int way), none]
    have k1 : EvN K (DW K a c cs (n + 3)) (DW K a c cs (n + 3)) R (tOp (rCatS K) (tOp (rCatS K) (tSl (rSlL K) (tVar 2) tNoPart (tPart (tVar 3))) (tLst (tCons (tVar 4) tNil))) (tSl (rSlL K) (tVar 2) (tPart (tVar 3)) tNoPart)) _ := en_bent rfl rfl eo_none (eo_some (ev_var rfl)) (eo_some (ev_var rfl)) eo_none hWl
    have k2 : Ev K (DW K a c cs (n + 3)) (DW K a c cs (n + 3)) R (tOp (rCatS K) (tSl (rSlL K) (tVar 2) tNoPart (tPart (tVar 3))) (tSl (rSlL K) (tVar 2) (tPart (tOp rAddI (tVar 3) (tC (.int 1)))) tNoPart)) _ := ev_bent2 rfl eo_none (eo_some (ev_var rfl)) (eo_some hat1) eo_none hWl
    have k3 : ∀ (p : Addr) (xs : List Dt), EvN K (DW K a c cs (n + 3)) (DW K a c cs (n + 3)) (R.set 6 (some (.lat p xs))) (tOp (rCatS K) (tOp (rCatS K) (tSl (rSlL K) (tVar 2) tNoPart (tPart (tVar 3))) (tLst (tCons (tVar 4) tNil))) (tSl (rSlL K) (tVar 2) (tPart (tOp rAddI (tVar 3) (tC (.int 1)))) tNoPart)) _ := fun p xs => en_bent rfl rfl eo_none (eo_some (ev_var rfl)) (eo_some hat1) eo_none hWl
    refine so_newAppN (S := DW K a c cs (n + 3)) (ρ := R) (j := 6) dw_mu (by show 6 < 7; decide) (ea_cons k1.ev (ea_cons k2 ea_nil)) (by show 2 < 100000; decide) (fun p => k3 p _) (nolA_strs _) fun p => ?_
    have fin : ∀ (us : List Str), smL us ≤ smL W + z.length → us.length ≤ W.length + 1 → ([dS (cutW W none (some (k : Int)) ++ [z] ++ cutW W (some (k : Int)) none), dS (cutW W none (some (k : Int)) ++ cutW W (some ((k + 1 : Nat) : Int)) none)] ++ [dS (cutW W none (some (k : Int)) ++ [z] ++ cutW W (some ((k + 1 : Nat) : Int)) none)])[(way - 1).toNat]? = some (dS us) →
        Sg K (DW K a c cs (n + 3)) (DW K a c cs (n + 4)) (DW K a c cs (n + 4)) [] (tRet (tM1 (rJoin K) (tC (.str " ")) (tOp (rIx K) (tVar 6) (tOp rSubI (tVar 5) (tC (.int 1)))))) ([some (.raw (.ref a)), some (.str x), some (dS W), some (.int k), some (.str z), some (.int way), some (.lat p ([dS (cutW W none (some (k : Int)) ++ [z] ++ cutW W (some (k : Int)) none), dS (cutW W none (some (k : Int)) ++ cutW W (some ((k + 1 : Nat) : Int)) none)] ++ [dS (cutW W none (some (k : Int)) ++ [z] ++ cutW W (some ((k + 1 : Nat) : Int)) none)]))]) { nx := fun _ => bentR26 [.str x] .non, rt := bentR26 [.str x] } := fun us h1 h2 h3 => by
      obtain ⟨k1, k2⟩ := ev_joinB (K := K) (S := DW K a c cs (n + 3)) (S1 := DW K a c cs (n + 3)) (a := x) (us := us) (te := tOp (rIx K) (tVar 6) (tOp rSubI (tVar 5) (tC (.int 1)))) (ρ := [some (.raw (.ref a)), some (.str x), some (dS W), some (.int k), some (.str z), some (.int way), some (.lat p ([dS (cutW W none (some (k : Int)) ++ [z] ++ cutW W (some (k : Int)) none), dS (cutW W none (some (k : Int)) ++ cutW W (some ((k + 1 : Nat) : Int)) none)] ++ [dS (cutW W none (some (k : Int)) ++ [z] ++ cutW W (some ((k + 1 : Nat) : Int)) none)]))]) (ev_ixL (ev_lat (ev_var rfl)) (ev_op (ev_var rfl) ev_int rv_sub) (by have := atI_nat h3; rw [Int.toNat_of_nonneg (by omega)] at this; exact this)) (by omega)
      exact so_retD k1 (dw_le (by omega)) ⟨x, _, rfl, rfl, by omega⟩
    have hp1 := bent_len W z (k := k) (k2 := k) (Nat.le_refl _)
    have hp2 := bent_len2 W (k := k) (k2 := k + 1) (by omega)
    have hp3 := bent_len W z (k := k) (k2 := k + 1) (by omega)
    have hw : way = 1 ∨ way = 2 ∨ way = 3 := by omega
    rcases hw with rfl | rfl | rfl
    · exact fin _ hp1.1 hp1.2 rfl
    · exact fin _ (by omega) (by omega) rfl
    · exact fin _ hp3.1 hp3.2 rfl
end
end Bf
namespace Bf
open PySem PySem.Spec PyProof.Rows L2
/-! ## an error is told of by its kind: all ten kinds, L: those that may be kept, G and Pt: those with a given, with a part -/
def fldN (i : Nat) : Str := if i = 1 ∨ i = 6 then "part" else if i = 4 then "place" else if i = 8 then "moment" else if i = 9 then "word" else "given"
def nameN (i : Nat) : Str := ((["ratio", "table", "word", "burst", "receiver", "number", "paper", "style", "row", "text"] : List Str)[i]?).getD ""
def r_faultG (K : PySem.W.Frag) (t : Ten) (L G Pt : List Addr) (ds : List Dt) (a : Dt) : Prop := ∃ (C : Addr) (i : Nat) (d : Dt), C ∈ L ∧ i < 10 ∧ IsTen K t C i ∧ (fldN i = "given" → C ∈ G) ∧ (fldN i = "part" → C ∈ Pt) ∧ ds = [.err C (fldN i) d] ∧ a = .tup [.str (nameN i), d]
abbrev p__law_faultG (K : PySem.W.Frag) (t : Ten) (L G Pt : List Addr) : Sp := spR K 1 (r_faultG K t L G Pt)
abbrev e__law_faultG (K : PySem.W.Frag) (t : Ten) (L G Pt : List Addr) : TS := (tSeq (tIfS (tTest (tOp rEq (tBM K "list" (rCntF K) (tVar 1) (tCons (tC (.bl true)) tNil)) (tC (.int 1)))) (tRet (tTup (tCons (tOp (rIx K) (tLst (tCons (tC (.str "ratio")) (tCons (tC (.str "word")) (tCons (tC (.str "burst")) (tCons (tC (.str "number")) (tCons (tC (.str "style")) tNil)))))) (tBM K "list" (rIndex K) (tVar 1) (tCons (tC (.bl true)) tNil))) (tCons (tKFld G "given" (tVar 0)) tNil)))) tNext)
    (tSeq (tIfS (tB (tCB (rIsiTE K L) (tCons (tVar 0) (tCons (tTup (tCons (tC (.ref t.table)) (tCons (tC (.ref t.paper)) tNil))) tNil)))) (tRet (tTup (tCons (tIf (tB (tCB (rIsiE K L) (tCons (tVar 0) (tCons (tC (.ref t.table)) tNil)))) (tC (.str "table")) (tC (.str "paper"))) (tCons (tKFld Pt "part" (tVar 0)) tNil)))) tNext)
    (tSeq (tIfS (tB (tCB (rIsiE K L) (tCons (tVar 0) (tCons (tC (.ref t.receiver)) tNil)))) (tRet (tTup (tCons (tC (.str "receiver")) (tCons (tKFld [t.receiver] "place" (tVar 0)) tNil)))) tNext)
    (tRet (tIf (tB (tCB (rIsiE K L) (tCons (tVar 0) (tCons (tC (.ref t.row)) tNil)))) (tTup (tCons (tC (.str "row")) (tCons (tKFld [t.row] "moment" (tVar 0)) tNil))) (tTup (tCons (tC (.str "text")) (tCons (tKFld [t.text] "word" (tVar 0)) tNil))))))))
abbrev t__law_faultG (K : PySem.W.Frag) (t : Ten) (L G Pt : List Addr) : TS := (tSeq (tAsg (tLst (tCons (tCB (rIsiE K L) (tCons (tVar 0) (tCons (tC (.ref t.ratio)) tNil))) (tCons (tCB (rIsiE K L) (tCons (tVar 0) (tCons (tC (.ref t.word)) tNil))) (tCons (tCB (rIsiE K L) (tCons (tVar 0) (tCons (tC (.ref t.burst)) tNil))) (tCons (tCB (rIsiE K L) (tCons (tVar 0) (tCons (tC (.ref t.number)) tNil))) tNil))))) (gName 1))
    (tSeq (tDrop (tBM K "list" rAppend (tVar 1) (tCons (tCB (rIsiE K L) (tCons (tVar 0) (tCons (tC (.ref t.style)) tNil))) tNil)))
    (e__law_faultG K t L G Pt)))
section
variable {K : PySem.W.Frag} {S S1 : Sta} {ds : List Dt} {ρ : List (Option Dt)} {o : Out} {E : XK} {d a : Dt} {t : Ten} {L G Pt : List Addr}
theorem so__law_faultG (hmu : S.Mu) (hp : r_faultG K t L G Pt ds a) : So K S S [] (t__law_faultG K t L G Pt) (startD 2 ds) (Pu a) := by
  obtain ⟨C, i, d, hC, hi, T, hG, hP, rfl, rfl⟩ := hp
  have one : ∀ {ρ : List (Option Dt)} {D : Addr} (j : Nat), t.l[j]? = some D → ρ[0]? = some (some (.err C (fldN i) d)) → (hj : j < 9 := by decide) → Ev K S S ρ (tCB (rIsiE K L) (tCons (tVar 0) (tCons (tC (.ref D)) tNil))) (Eq (.bl (decide (j = i)))) := fun j hD h0 hj => ev_isiE (ev_var h0) hC (T.is_ j _ hj hD)
  have z2 : 2 ≤ sizeLine := by decide
  refine so_newApp (xs := [.bl (decide (0 = i)), .bl (decide (2 = i)), .bl (decide (3 = i)), .bl (decide (5 = i))]) (d := .bl (decide (7 = i))) hmu (by show 1 < 2; decide)
      (ea_cons (one 0 rfl rfl) (ea_cons (one 2 rfl rfl) (ea_cons (one 3 rfl rfl) (ea_cons (one 5 rfl rfl) ea_nil)))) (by show 4 < 100000; decide) rfl (fun p => one 7 rfl rfl) rfl fun p => ?_
  have cnt : ∀ {k : Int} {b : Bool}, ((((([decide (0 = i), decide (2 = i), decide (3 = i), decide (5 = i), decide (7 = i)].map V.bl).countP fun z => eqV z (V.bl true)) : Nat) : Int) = k) → decide (k = 1) = b → EvT K S S [some (.err C (fldN i) d), some (.lat p ([decide (0 = i), decide (2 = i), decide (3 = i), decide (5 = i), decide (7 = i)].map Dt.bl))] (tTest (tOp rEq (tBM K "list" (rCntF K) (tVar 1) (tCons (tC (.bl true)) tNil)) (tC (.int 1)))) (Eq b) := fun {k b} e1 e2 => (et_test (ev_op (ev_countB (bs := [decide (0 = i), decide (2 = i), decide (3 = i), decide (5 = i), decide (7 = i)]) (ev_var rfl)) ev_int rv_eqI)).to (by rw [e1, e2])
  have giv : ∀ (j : Nat) (x : Str), (([decide (0 = i), decide (2 = i), decide (3 = i), decide (5 = i), decide (7 = i)].map V.bl).countP fun z => eqV z (V.bl true)) = 1 → [decide (0 = i), decide (2 = i), decide (3 = i), decide (5 = i), decide (7 = i)][j]? = some true → (∀ m, m < j → [decide (0 = i), decide (2 = i), decide (3 = i), decide (5 = i), decide (7 = i)][m]? = some false) → ([.str "ratio", .str "word", .str "burst", .str "number", .str "style"] : List Dt)[j]? = some (.str x) → nameN i = x → fldN i = "given" →
      So K S S [] (e__law_faultG K t L G Pt) [some (.err C (fldN i) d), some (.lat p ([decide (0 = i), decide (2 = i), decide (3 = i), decide (5 = i), decide (7 = i)].map Dt.bl))] (Pu (.tup [.str (nameN i), d])) := fun j x h1 h2 h3 h4 h5 h6 => by
    refine so_ifT (cnt (k := 1) (by rw [h1]; rfl) rfl) ?_
    rw [h5]
    have hk : Ev K S S [some (.err C (fldN i) d), some (.lat p ([decide (0 = i), decide (2 = i), decide (3 = i), decide (5 = i), decide (7 = i)].map Dt.bl))] (tKFld G "given" (tVar 0)) (Eq d) := by
      have hv : Ev K S S [some (.err C (fldN i) d), some (.lat p ([decide (0 = i), decide (2 = i), decide (3 = i), decide (5 = i), decide (7 = i)].map Dt.bl))] (tVar 0) (Eq (.err C "given" d)) := ev_var (by rw [h6]; rfl)
      exact ev_kfld hv (hG h6)
    exact so_ret1D (ev_tup (ea_cons (ev_ixL (ev_lst (ea_cons ev_str (ea_cons ev_str (ea_cons ev_str (ea_cons ev_str (ea_cons ev_str ea_nil))))) (by show 5 ≤ sizeLine; decide)) (ev_indexB (bs := [decide (0 = i), decide (2 = i), decide (3 = i), decide (5 = i), decide (7 = i)]) (j := j) (ev_var rfl) h2 h3) (atI_nat (j := j) h4)) (ea_cons hk ea_nil)) z2) (Sta.Le.refl S) rfl
  have kit : ∀ {b : Bool}, (decide (1 = i) || decide (6 = i)) = b → PySem.W.kitAny K (.ref C) [.ref t.table, .ref t.paper] = some b := fun {b} e => by
    unfold PySem.W.kitAny
    rw [T.is_ 1 t.table (by decide) rfl]
    cases h1 : decide (1 = i) with
    | true => rw [h1, Bool.true_or] at e; rw [← e]
    | false =>
      rw [h1, Bool.false_or] at e
      show PySem.W.kitAny K (.ref C) [.ref t.paper] = some b
      unfold PySem.W.kitAny
      rw [T.is_ 6 t.paper (by decide) rfl, e]
      cases b <;> rfl
  have oth : (([decide (0 = i), decide (2 = i), decide (3 = i), decide (5 = i), decide (7 = i)].map V.bl).countP fun z => eqV z (V.bl true)) = 0 → So K S S [] (tSeq (tIfS (tB (tCB (rIsiTE K L) (tCons (tVar 0) (tCons (tTup (tCons (tC (.ref t.table)) (tCons (tC (.ref t.paper)) tNil))) tNil)))) (tRet (tTup (tCons (tIf (tB (tCB (rIsiE K L) (tCons (tVar 0) (tCons (tC (.ref t.table)) tNil)))) (tC (.str "table")) (tC (.str "paper"))) (tCons (tKFld Pt "part" (tVar 0)) tNil)))) tNext)
    (tSeq (tIfS (tB (tCB (rIsiE K L) (tCons (tVar 0) (tCons (tC (.ref t.receiver)) tNil)))) (tRet (tTup (tCons (tC (.str "receiver")) (tCons (tKFld [t.receiver] "place" (tVar 0)) tNil)))) tNext)
    (tRet (tIf (tB (tCB (rIsiE K L) (tCons (tVar 0) (tCons (tC (.ref t.row)) tNil)))) (tTup (tCons (tC (.str "row")) (tCons (tKFld [t.row] "moment" (tVar 0)) tNil))) (tTup (tCons (tC (.str "text")) (tCons (tKFld [t.text] "word" (tVar 0)) tNil))))))) [some (.err C (fldN i) d), some (.lat p ([decide (0 = i), decide (2 = i), decide (3 = i), decide (5 = i), decide (7 = i)].map Dt.bl))] (Pu (.tup [.str (nameN i), d])) →
      So K S S [] (e__law_faultG K t L G Pt) [some (.err C (fldN i) d), some (.lat p ([decide (0 = i), decide (2 = i), decide (3 = i), decide (5 = i), decide (7 = i)].map Dt.bl))] (Pu (.tup [.str (nameN i), d])) := fun h0 k => so_ifF (cnt (k := 0) (by rw [h0]; rfl) rfl) (so_skip k)
  have isf : ∀ {ρ : List (Option Dt)} {D : Addr} (j : Nat), t.l[j]? = some D → ¬ j = i → ρ[0]? = some (some (.err C (fldN i) d)) → (hj : j < 9 := by decide) → Ev K S S ρ (tCB (rIsiE K L) (tCons (tVar 0) (tCons (tC (.ref D)) tNil))) (Eq (.bl false)) := fun j hD hne h0 hj => (one j hD h0 hj).to (by rw [decide_eq_false hne])
  have hcase : i = 0 ∨ i = 1 ∨ i = 2 ∨ i = 3 ∨ i = 4 ∨ i = 5 ∨ i = 6 ∨ i = 7 ∨ i = 8 ∨ i = 9 := by omega
  rcases hcase with rfl | rfl | rfl | rfl | rfl | rfl | rfl | rfl | rfl | rfl
  · exact giv 0 "ratio" rfl rfl (fun m hm => absurd hm (Nat.not_lt_zero m)) rfl rfl rfl
  · refine oth rfl (so_ifT ((et_B (ev_isiTE (ev_var rfl) hC (kit (b := true) rfl)))) ?_)
    exact so_ret1D (ev_tup (ea_cons (ev_ifT (et_B ((one 1 rfl rfl).to rfl)) ev_str) (ea_cons (ev_kfld (ev_var rfl) (hP rfl)) ea_nil)) z2) (Sta.Le.refl S) rfl
  · exact giv 1 "word" rfl rfl (fun m hm => by match m, hm with | 0, _ => rfl) rfl rfl rfl
  · exact giv 2 "burst" rfl rfl (fun m hm => by match m, hm with | 0, _ => rfl | 1, _ => rfl) rfl rfl rfl
  · have hc : C = t.receiver := by have := T.at_; exact (Option.some.inj this).symm
    refine oth rfl (so_ifF ((et_B (ev_isiTE (ev_var rfl) hC (kit (b := false) rfl)))) (so_skip ?_))
    refine so_ifT ((et_B ((one 4 rfl rfl).to rfl))) ?_
    exact so_ret1D (ev_tup (ea_cons ev_str (ea_cons (ev_kfld (ev_var rfl) (by rw [hc]; exact List.mem_cons_self)) ea_nil)) z2) (Sta.Le.refl S) rfl
  · exact giv 3 "number" rfl rfl (fun m hm => by match m, hm with | 0, _ => rfl | 1, _ => rfl | 2, _ => rfl) rfl rfl rfl
  · refine oth rfl (so_ifT ((et_B (ev_isiTE (ev_var rfl) hC (kit (b := true) rfl)))) ?_)
    exact so_ret1D (ev_tup (ea_cons (ev_ifF (et_B (isf 1 rfl (by decide) rfl)) ev_str) (ea_cons (ev_kfld (ev_var rfl) (hP rfl)) ea_nil)) z2) (Sta.Le.refl S) rfl
  · exact giv 4 "style" rfl rfl (fun m hm => by match m, hm with | 0, _ => rfl | 1, _ => rfl | 2, _ => rfl | 3, _ => rfl) rfl rfl rfl
  · have hc : C = t.row := by have := T.at_; exact (Option.some.inj this).symm
    refine oth rfl (so_ifF ((et_B (ev_isiTE (ev_var rfl) hC (kit (b := false) rfl)))) (so_skip ?_))
    refine so_ifF ((et_B (isf 4 rfl (by decide) rfl))) (so_skip ?_)
    exact so_retD (ev_ifT ((et_B ((one 8 rfl rfl).to rfl))) (ev_tup (ea_cons ev_str (ea_cons (ev_kfld (ev_var rfl) (by rw [hc]; exact List.mem_cons_self)) ea_nil)) z2)) (Sta.Le.refl S) rfl
  · have hc : C = t.text := by have := T.at_; exact (Option.some.inj this).symm
    refine oth rfl (so_ifF ((et_B (ev_isiTE (ev_var rfl) hC (kit (b := false) rfl)))) (so_skip ?_))
    refine so_ifF ((et_B (isf 4 rfl (by decide) rfl))) (so_skip ?_)
    exact so_retD (ev_ifF ((et_B (isf 8 rfl (by decide) rfl))) (ev_tup (ea_cons ev_str (ea_cons (ev_kfld (ev_var rfl) (by rw [hc]; exact List.mem_cons_self)) ea_nil)) z2)) (Sta.Le.refl S) rfl
end
/-! ### what is said -/
def RG (K : PySem.W.Frag) (t : Ten) (L G Pt : List Addr) : Out → Dt → Prop
  | .ok z, d => d = .lst [z]
  | .er C f z, d => r_faultG K t L G Pt [.err C f z] d
abbrev t__law_saidG (K : PySem.W.Frag) (t : Ten) (L G Pt : List Addr) (f c' : Addr) (q : Str) (tl : XK → Hp → VK → Prop) : TS := (tSeq (tAsg (tTup (tCons (tC .non) (tCons (tC .non) tNil))) (gTup K 2 (gCons (gName 1) (gCons (gName 2) gNil))))
    (tSeq (fun D σ H => (fun W => (tAsg (tAct 0 f c' q tl (WE W)) (gName 2))) (wKp (fun cls => PySem.W.exmAny K cls (t.l.map Value.ref)) 3 (fun a cls d => (tAsg (tVar 3) (gName 1))) (fun _ _ _ _ => False) D) D σ H)
    (tRet (tIf (tTest (tOp rIsNo (tVar 1) (tC .non))) (tLst (tCons (tVar 2) tNil)) (tCall (p__law_faultG K t L G Pt) [] E0 (tCons (tVar 1) tNil))))))
section
variable {K : PySem.W.Frag} {S S1 : Sta} {ds : List Dt} {ρ : List (Option Dt)} {o : Out} {E : XK} {d : Dt} {t : Ten} {L G Pt : List Addr}
theorem so__law_saidG {H0 : Hp} {f c' : Addr} {q : Str} {tl : XK → Hp → VK → Prop} (hc : H0 c' = some (LamX.CodeO c' q)) (hl : LamO K H0 tl o) (hR : RG K t L G Pt o d) : So K (staSame H0) (staSame H0) [] (t__law_saidG K t L G Pt f c' q tl) (startD 4 [.raw (.ref f)]) (Pu d) := by
  refine so_unp (is := [1, 2]) (xs := [.non, .non]) (ev_tup (ea_cons ev_non (ea_cons ev_non ea_nil)) (by show 2 ≤ sizeLine; decide)) rfl rfl rfl ?_
  cases o with
  | ok z =>
    obtain rfl := hR
    refine so_seqG (S1 := staSame H0) (M := fun ρ' => ρ' = [some (.raw (.ref f)), some .non, some z, none]) (Sta.Le.refl _) (so_keepOk fun W => so_set0D (ev_act rfl hc hl) (Sta.Le.refl _) rfl) fun ρ' hM => ?_
    subst hM
    exact so_retD (ev_ifT ((et_test (ev_op (ev_var rfl) ev_non rv_isNo)).to rfl) (ev_lst (ea_cons (ev_var rfl) ea_nil) (by show 1 ≤ sizeLine; decide))) (Sta.Le.refl _) rfl
  | er C' f' z =>
    have hR' : r_faultG K t L G Pt [.err C' f' z] d := hR
    have hx : PySem.W.exmAny K (.ref C') (t.l.map Value.ref) = some true := by
      obtain ⟨C, i, d', _, _, T, _, _, e, _⟩ := hR'
      cases e
      exact T.ex
    refine so_seqG (S1 := staSame H0) (M := fun ρ' => ρ' = [some (.raw (.ref f)), some (.err C' f' z), some .non, none]) (Sta.Le.refl _) (so_keepEr (S1 := staSame H0) (C := C') (f := f') (d := z) (i := 3) (j := 1) (tw := fun W => tAsg (tAct 0 f c' q tl (WE W)) (gName 2)) hx (by decide) (by show 3 < 4; decide) (fun W D σ H i s hW => pr_act rfl hc hl i s hW) (Sta.Le.refl _) rfl) fun ρ' hM => ?_
    subst hM
    exact so_retD (ev_ifF ((et_test (ev_op (ev_var rfl) ev_non rv_isNo)).to rfl) (ev_callR (R := r_faultG K t L G Pt) (ea_cons (ev_var rfl) ea_nil) rfl hR')) (Sta.Le.refl _) rfl
end
end Bf
namespace Bf
open PySem PySem.Spec PyProof.Rows L2
/-! ## The law of texts of tables -/
/-! ### what is said and what is due -/
theorem tx_str {a : Str} (h : a.length ≤ 900) : txOk (.str a) := ⟨rfl, .inr ⟨a, rfl, h⟩⟩
section
variable {K : PySem.W.Frag} {a : Addr} {c : CT} {cs : List Int} {t : Ten}
end
end Bf
namespace Bf
open PySem PySem.Spec PyProof.Rows L2
/-! ## The law of texts of bursts -/
abbrev p_law26 (cs : List (Addr × Addr)) (K : PySem.W.Frag) : Sp := spLawT cs K
abbrev q_law26 (K : PySem.W.Frag) (TL : List (Addr × Str)) (t : Ten) (C : Addr) (j : Nat) : TS := (tIfS (tTest (tOp (rNeA K C) (LamX.tLam TL (TTs K (RG K t [t.burst, t.text] [t.burst, t.number, t.style] [t.table])) (fun E => (tCall (p_read_burst K t.text t.burst C) [] E (tCons (tVar j) tNil)))) (tCall (p__law_due26 K C) [] E0 (tCons (tVar j) tNil)))) (tRet (tC (.bl false))) tNext)
abbrev u_law26 (K : PySem.W.Frag) (TL : List (Addr × Str)) (t : Ten) (C : Addr) : TS := (tSeq (tAsg (tCall (p__law_pick K) [] E0 (tCons (tVar 1) (tCons (tLst (tCons (tC (.int 1)) (tCons (tC (.int 3)) (tCons (tC (.int 7)) (tCons (tOp rAddI (tOp rMulW (tC (.int 2)) (tCall (p__law_next K) [] E0 (tCons (tVar 1) (tCons (tC (.int 32)) tNil)))) (tC (.int 1))) tNil))))) tNil))) (gName 3))
    (tSeq (tAsg (tCB (rTupO K) (tCons (tLc (iRng1 (tCons (tVar 3) tNil)) (gName 5) tYes (tMake C (spRI C) [] E0 (tCons (tOp rAddI (tC (.int 1)) (tCall (p__law_next K) [] E0 (tCons (tVar 1) (tCons (tOp rPowI (tC (.int 10)) (tC (.int 6))) tNil)))) (tCons (tOp rAddI (tC (.int 1)) (tCall (p__law_next K) [] E0 (tCons (tVar 1) (tCons (tC (.int 4)) tNil)))) tNil))) [5]) tNil)) (gName 4))
    (tSeq (tAsg (tM1 (rJoin K) (tC (.str " ")) (tLc (iTup K (tVar 4)) (gName 7) tYes (tCB (rStrO C (p_o_str K C)) (tCons (tVar 7) tNil)) [7])) (gName 6))
    (tSeq (tIfS (tOr (tTest (tOp rNe (tCall (p_burst_text K C) [] E0 (tCons (tVar 4) tNil)) (tVar 6))) (tOr (tTest (tOp rNe (tCallW (p_burst_text K C) 1 idV E0 (tCons (tVar 4) tNil)) (tVar 6))) (tTest (tOp (rNeQ K C) (tCallW (p_read_burst K t.text t.burst C) 1 idV E0 (tCons (tVar 6) tNil)) (tVar 4))))) (tRet (tC (.bl false))) tNext)
    (tFor (iRng1 (tCons (tC (.int 4)) tNil)) (gName 5) (tSeq (tAsg (tCall (p__law_bent26 K) [] E0 (tCons (tVar 1) (tCons (tVar 6) tNil))) (gName 8))
    (tFor (iTup K (tTup (tCons (tVar 8) (tCons (tCall (p__law_bent26 K) [] E0 (tCons (tVar 1) (tCons (tVar 8) tNil))) tNil)))) (gName 9) (q_law26 K TL t C 9))))))))
abbrev odd26 (K : PySem.W.Frag) (C : Addr) : TE := (tTup (tCons (tC .non) (tCons (tC (.int 5)) (tCons (tC (.bl true)) (tCons (tTup (tCons (tMake C (spRI C) [.int 1] E0 (tCons (tC (.int 1)) tNil)) tNil)) (tCons (tLst (tCons (tC (.str "1")) tNil)) (tCons tDNewK (tCons (tC (.str "")) (tCons (tC (.str " ")) (tCons (tC (.str "0")) (tCons (tM1 (rJoin K) (tC (.str " ")) (tOp rRep (tLst (tCons (tC (.str "1")) tNil)) (tC (.int 65)))) (tCons (tM1 (rJoin K) (tC (.str " ")) (tOp rRep (tLst (tCons (tC (.str "1")) tNil)) (tC (.int 63)))) tNil))))))))))))
abbrev r_law26 (K : PySem.W.Frag) (TL : List (Addr × Str)) (t : Ten) (C : Addr) : TS := (tSeq (tFor (iRng1 (tCons (tC (.int 6)) tNil)) (gName 2) (u_law26 K TL t C))
    (tSeq (tFor (iTup K (odd26 K C)) (gName 10) (q_law26 K TL t C 10))
    (tRet (tC (.bl true)))))
abbrev t_law26 (K : PySem.W.Frag) (TL : List (Addr × Str)) (t : Ten) (C : Addr) : TS := (tSeq (tAsg (tCall (spBT K) [] E0 (tCons (tVar 0) tNil)) (gName 1)) (r_law26 K TL t C))
/-! ### what is said and what is due -/
theorem bad_cases {a : Str} : (∃ k, BadAt a k) ∨ AllGood a := by
  rcases first_bad (wdsOf a) with h | ⟨l, w, r, e, h1, h2⟩
  · exact .inr h
  · exact .inl ⟨l.length, l, w, r, e, h1, h2, rfl⟩
def eqLT (C : Addr) (d : Dt) : Prop := (∃ xs, d = .lst xs ∧ ∀ x ∈ xs, eqL C 4 x) ∨ ∃ xs, d = .tup xs ∧ ∀ x ∈ xs, eqL C 4 x
theorem eqLT_two {C : Addr} {s : Str} {d : Dt} (h : eqL C 4 d) : eqLT C (.tup [.str s, d]) := .inr ⟨_, rfl, fun x hx => by
  simp only [List.mem_cons, List.not_mem_nil, or_false] at hx
  rcases hx with rfl | rfl
  · exact eqL_str s
  · exact h⟩
theorem said_due26 {K : PySem.W.Frag} {t : Ten} {C : Addr} {x : Dt} (h3 : IsTen K t t.burst 3) (h9 : IsTen K t t.text 9) (hx : txOk x) : ∃ o d, r_rb t.text t.burst C [x] o ∧ r_ldu26 C [x] d ∧ RG K t [t.burst, t.text] [t.burst, t.number, t.style] [t.table] o d ∧ eqLT C d := by
  have txt : ∀ k : Int, RG K t [t.burst, t.text] [t.burst, t.number, t.style] [t.table] (.er t.text "word" (.int k)) (.tup [.str "text", .int k]) := fun k => ⟨t.text, 9, .int k, by simp, by decide, h9, fun z => absurd z (by decide +kernel), fun z => absurd z (by decide +kernel), rfl, rfl⟩
  obtain ⟨hok, hs | ⟨a, rfl, ha⟩⟩ := hx
  · exact ⟨_, _, ⟨x, rfl, hok, .inl ⟨hs, rfl⟩⟩, ⟨x, rfl, hok, .inl ⟨hs, rfl⟩⟩, txt 0, eqLT_two (eqL_int 0)⟩
  · rcases bad_cases (a := a) with ⟨k, hk⟩ | hg
    · exact ⟨_, _, ⟨_, rfl, hok, .inr ⟨a, rfl, ha, .inl ⟨k, hk, rfl⟩⟩⟩, ⟨_, rfl, hok, .inr ⟨a, rfl, ha, .inl ⟨k, hk, rfl⟩⟩⟩, txt _, eqLT_two (eqL_int _)⟩
    · refine ⟨_, _, ⟨_, rfl, hok, .inr ⟨a, rfl, ha, .inr ⟨hg, rfl⟩⟩⟩, ⟨_, rfl, hok, .inr ⟨a, rfl, ha, .inr ⟨hg, rfl⟩⟩⟩, ?_⟩
      unfold nbuO dueF
      by_cases hb : isBu (flashD C a) = true
      · rw [if_pos hb, if_pos hb]
        exact ⟨rfl, .inl ⟨_, rfl, fun x hx => by
          rw [List.mem_singleton] at hx
          rw [hx]
          exact eqL_flash a⟩⟩
      · rw [if_neg hb, if_neg hb]
        exact ⟨⟨t.burst, 3, _, by simp, by decide, h3, fun _ => by simp, fun z => absurd z (by decide +kernel), rfl, rfl⟩, eqLT_two (eqL_flash a)⟩
theorem rv_neLT {K : PySem.W.Frag} {S : Sta} {C : Addr} {d : Dt} (h : eqLT C d) : Rv2 K S (rNeA K C) d d (Eq (.bl false)) := by
  rcases h with ⟨xs, rfl, h⟩ | ⟨xs, rfl, h⟩
  · exact rv_neAL h
  · exact rv_neAT h
def okN2 (p : Nat × Nat) : Prop := 0 < p.1 ∧ p.1 < 10 ^ 7 ∧ 0 < p.2 ∧ p.2 < 10 ^ 1 ∧ Nat.gcd p.1 p.2 = 1
theorem ratsN_of {C : Addr} : ∀ {ds : List Dt}, (∀ x ∈ ds, ∃ p, x = ratN C p ∧ okN2 p) → ∃ bs : List (Nat × Nat), ds = bs.map (ratN C) ∧ ∀ p ∈ bs, okN2 p
  | [], _ => ⟨[], rfl, fun _ z => nomatch z⟩
  | d :: ds, h => by
    obtain ⟨p, rfl, hp⟩ := h d List.mem_cons_self
    obtain ⟨bs, rfl, hb⟩ := ratsN_of (ds := ds) fun x hx => h x (List.mem_cons_of_mem _ hx)
    exact ⟨p :: bs, rfl, fun q hq => by
      rcases List.mem_cons.mp hq with e | hq
      · rw [e]; exact hp
      · exact hb q hq⟩
theorem ratL_N {C : Addr} {r s : Int} (r0 : 1 ≤ r) (r1 : r ≤ 1000000) (s0 : 1 ≤ s) (s1 : s ≤ 4) : ∃ p, ratL C r s = ratN C p ∧ okN2 p := by
  obtain ⟨n, rfl⟩ : ∃ n : Nat, r = n := Int.eq_ofNat_of_zero_le (by omega)
  obtain ⟨m, rfl⟩ : ∃ m : Nat, s = m := Int.eq_ofNat_of_zero_le (by omega)
  have hg : 0 < Nat.gcd n m := Nat.gcd_pos_of_pos_left _ (by omega)
  refine ⟨(n / Nat.gcd n m, m / Nat.gcd n m), ratL_nat C n m, Nat.div_pos (Nat.gcd_le_left _ (by omega)) hg, ?_, Nat.div_pos (Nat.gcd_le_right _ (by omega)) hg, ?_, Nat.gcd_div_gcd_div_gcd_of_pos_left (by omega)⟩
  · exact Nat.lt_of_le_of_lt (Nat.div_le_self _ _) (Nat.lt_of_le_of_lt (show n ≤ 1000000 by omega) (by decide))
  · exact Nat.lt_of_le_of_lt (Nat.div_le_self _ _) (Nat.lt_of_le_of_lt (show m ≤ 4 by omega) (by decide))
def ones (n : Nat) : Str := Txt.join " " (List.replicate n "1")
def oddT26 (C : Addr) : List Dt := [.non, .int 5, .bl true, .tup [rat C 1 1], .lst [.str "1"], .dic, .str "", .str " ", .str "0", .str (ones 65), .str (ones 63)]
theorem odd26_ok {C : Addr} : ∀ d ∈ oddT26 C, txOk d := by
  have s : ∀ a : Str, a.length ≤ 900 → txOk (.str a) := fun a h => tx_str h
  intro d hd
  simp only [oddT26, List.mem_cons, List.not_mem_nil, or_false] at hd
  rcases hd with rfl | rfl | rfl | rfl | rfl | rfl | rfl | rfl | rfl | rfl | rfl
  · exact ⟨rfl, .inl rfl⟩
  · exact ⟨rfl, .inl rfl⟩
  · exact ⟨rfl, .inl rfl⟩
  · exact ⟨rfl, .inl rfl⟩
  · exact ⟨rfl, .inl rfl⟩
  · exact ⟨rfl, .inl rfl⟩
  · exact s _ (by decide +kernel)
  · exact s _ (by decide +kernel)
  · exact s _ (by decide +kernel)
  · exact s _ (by decide +kernel)
  · exact s _ (by decide +kernel)
section
variable {K : PySem.W.Frag} {a C : Addr} {c : CT} {cs : List Int} {t : Ten} {S : Sta} {ρ : List (Option Dt)}
theorem ev_ones {n : Nat} (hn : n ≤ 1000) : Ev K S S ρ (tM1 (rJoin K) (tC (.str " ")) (tOp rRep (tLst (tCons (tC (.str "1")) tNil)) (tC (.int n)))) (Eq (.str (ones n))) := by
  have e1 : ("1" : Str).length = 1 := by decide +kernel
  have hs : smL (List.replicate n ("1" : Str)) = n := by
    unfold smL
    rw [List.map_replicate, e1, List.sum_replicate_nat, Nat.mul_one]
  refine (ev_joinB (a := "") (us := List.replicate n "1") ((ev_repL (n := n) (ea_cons ev_str ea_nil) (by show 1 ≤ 1000; decide) ev_int hn).to ?_) (by rw [hs, List.length_replicate]; omega)).1
  show _ = Dt.lst (List.map _ _)
  congr 1
  clear hs hn
  induction n with
  | zero => rfl
  | succ n ih => rw [List.replicate_succ, List.flatten_cons, ih, List.replicate_succ, List.map_cons]; rfl
theorem ev_odd26 : Ev K S S ρ (odd26 K C) (Eq (.tup (oddT26 C))) :=
  ev_tup (ea_c ev_non (ea_c ev_int (ea_c ev_bl (ea_c (ev_tup (ea_c (ev_mkrat1 (ea_c ev_int ea_nil) (by decide)) ea_nil) (by show 1 ≤ sizeLine; decide)) (ea_c (ev_lst (ea_c ev_str ea_nil) (by show 1 ≤ sizeLine; decide)) (ea_c ev_dic (ea_c ev_str (ea_c ev_str (ea_c ev_str (ea_c (ev_ones (n := 65) (by decide)) (ea_c (ev_ones (n := 63) (by decide)) ea_nil))))))))))) (by show 11 ≤ sizeLine; decide)
/-- said is as due -/
theorem so_said26 {x : Dt} {j : Nat} {P : Po} (h3 : IsTen K t t.burst 3) (h9 : IsTen K t t.text 9) (hT : TabS S c.tb) (hx : txOk x) (hj : ρ[j]? = some (some x)) (q : P.nx ρ) : So K S S [] (q_law26 K c.tb t C j) ρ P := by
  obtain ⟨o, d, h1, h2, hR, he⟩ := said_due26 (C := C) h3 h9 hx
  exact so_if0F ((et_test (ev_op (ev_lamX (R := r_rb t.text t.burst C) (ds := [x]) hT (fun S' => ea_cons (ev_var hj) ea_nil) rfl h1 hR) (ev_callR (R := r_ldu26 C) (ea_cons (ev_var hj) ea_nil) rfl h2) (rv_neLT he))).to rfl) (so_next (Sta.Le.refl _) q)
theorem so_turn26 {x0 y2 y3 y4 y5 y6 y7 y8 y9 y10 : Option Dt} {n : Nat} (h3 : IsTen K t t.burst 3) (h9 : IsTen K t t.text 9) (hc : cs ≠ []) (hn : n + 160 ≤ 1000000) (P : Po) (hP : ∀ y3 y4 y5 y6 y7 y8 y9, P.nx [x0, some (.raw (.ref a)), y2, y3, y4, y5, y6, y7, y8, y9, y10]) : So K (DW K a c cs n) (DW K a c cs (n + 160)) [] (u_law26 K c.tb t C) [x0, some (.raw (.ref a)), y2, y3, y4, y5, y6, y7, y8, y9, y10] P := by
  -- how many
  refine so_set (S1 := DW K a c cs (n + 2)) (Φ := fun d => ∃ m : Nat, d = .int (m : Nat) ∧ m % 2 = 1 ∧ m ≤ 63) ((ev_callDP (k := 1) (cost := 1) (pre := fun ds => ∃ xs, (ds = [.lst xs] ∨ ds = [.tup xs]) ∧ xs ≠ [] ∧ xs.length ≤ 100000) (Θ := pickR) (n := n + 1) (Ψ := fun ds => ∃ r : Int, 0 ≤ r ∧ r < 32 ∧ ds = [.lst [.int 1, .int 3, .int 7, .int (2 * r + 1)]]) (fun σ H i s Q q => ?_) (fun ds ⟨r, r0, r1, e⟩ => by subst e; exact ⟨rfl, _, .inl rfl, by simp, by show 4 ≤ 100000; decide⟩) hc (by omega)).weak fun d hd => ?_) fun d hd => ?_
  · refine (ea_consP (ev_var (d := .raw (.ref a)) rfl) (ea_consP (ev_lstP (ea_consP (ev_int (i := 1)) (ea_consP (ev_int (i := 3)) (ea_consP (ev_int (i := 7)) (ea_consP (Φ := fun d => ∃ r : Int, 0 ≤ r ∧ r < 32 ∧ d = .int (2 * r + 1)) (ev_opP (Φ := fun d => ∃ r : Int, 0 ≤ r ∧ r < 32 ∧ d = .int (2 * r)) (S1 := DW K a c cs (n + 1)) (ev_opP (ev_int (i := 2)) (ev__law_next (n := n) (m := 32) (ea_cons (ev_var rfl) (ea_cons ev_int ea_nil)) hc (by omega) (by decide) (by decide)) fun x y ex hy => ?_) (ev_int (i := 1)) fun x y hx ey => ?_) ea_nil)))) fun ds hds => ?_) ea_nil)) σ H i s Q fun vs ds H' g i' r hl => q vs ds H' g i' r ?_
    · obtain ⟨r, rfl, r0, r1⟩ := hy
      subst ex
      exact fun H v u i' ra rb Q k => rv_mul (cmulQ (by decide) (by decide) r0 (by omega)) H v u i' ra rb Q fun v' d' H' g i2 rr e => k v' d' H' g i2 rr ⟨r, r0, r1, e.symm⟩
    · obtain ⟨r, r0, r1, rfl⟩ := hx
      subst ey
      exact fun H v u i' ra rb Q k => rv_add H v u i' ra rb Q fun v' d' H' g i2 rr e => k v' d' H' g i2 rr ⟨r, r0, r1, e.symm⟩
    · obtain ⟨_, _, rfl, _, _, _, rfl, _, _, _, rfl, _, _, _, rfl, _, rfl⟩ := hds
      show 4 ≤ sizeLine
      decide
    · obtain ⟨_, _, e1, rfl, _, _, e2, ⟨_, rfl, _, _, rfl, rfl, _, _, rfl, rfl, _, _, rfl, rfl, _, _, rfl, ⟨r, r0, r1, rfl⟩, rfl⟩, rfl⟩ := hl
      subst e2
      exact ⟨_, e1, r, r0, r1, rfl⟩
  · obtain ⟨ds, ⟨r, r0, r1, rfl⟩, ys, e, hm⟩ := hd
    rcases e with e | e <;> cases e
    simp only [List.mem_cons, List.not_mem_nil, or_false] at hm
    rcases hm with rfl | rfl | rfl | rfl
    · exact ⟨1, rfl, by decide, by decide⟩
    · exact ⟨3, rfl, by decide, by decide⟩
    · exact ⟨7, rfl, by decide, by decide⟩
    · exact ⟨(2 * r + 1).toNat, by rw [Int.toNat_of_nonneg (by omega)], by omega, by omega⟩
  obtain ⟨m, rfl, m1, m2⟩ := hd
  refine so_re (ρ' := [x0, some (.raw (.ref a)), y2, some (.int m), y4, y5, y6, y7, y8, y9, y10]) rfl ?_
  -- the flash
  refine so_set (S1 := DW K a c cs (n + 2 + 2 * m)) (Φ := fun d => ∃ xs, d = .tup xs ∧ (xs.length = m ∧ nolA xs = true ∧ ∀ x ∈ xs, ∃ p, x = ratN C p ∧ okN2 p)) (ev_tupL (ev_lcRP (Z := fun i => DW K a c cs (n + 2 + 2 * i)) (Φ := fun x => ∃ p, x = ratN C p ∧ okN2 p) (fun h1 g hD e h => dw_off h1 g hD e h) (fun i => dw_le (by omega)) (ea_cons (ev_var rfl) ea_nil) (by omega) (by decide) fun i hi => ?_)) fun d hd => ?_
  · refine ev_mkratQ (Φl := fun l => ∃ x y, l = [x, y] ∧ (∃ r, x = .int r ∧ 1 ≤ r ∧ r ≤ 1000000) ∧ ∃ r, y = .int r ∧ 1 ≤ r ∧ r ≤ 4) (ea_twoP (S1 := DW K a c cs (n + 2 + 2 * i + 1)) (ev_addP (Θ := fun d => ∃ r, d = .int r ∧ 1 ≤ r ∧ r ≤ 1000000) ev_int (ev__law_next (n := n + 2 + 2 * i) (m := 1000000) (ea_cons (ev_var rfl) (ea_cons ((ev_op ev_int ev_int (rv_pow ⟨by decide, by decide⟩)).to rfl) ea_nil)) hc (by omega) (by decide) (by decide)) fun y ⟨r, e, r0, r1⟩ => ⟨r, e, _, rfl, by omega, by omega⟩)
      (ev_addP (Θ := fun d => ∃ r, d = .int r ∧ 1 ≤ r ∧ r ≤ 4) ev_int (ev__law_next (n := n + 2 + 2 * i + 1) (ea_cons (ev_var rfl) (ea_cons ev_int ea_nil)) hc (by omega) (by decide) (by decide)) fun y ⟨r, e, r0, r1⟩ => ⟨r, e, _, rfl, by omega, by omega⟩)) fun l hl => ?_
    obtain ⟨x, y, rfl, ⟨r, rfl, r0, r1⟩, ⟨s, rfl, s0, s1⟩⟩ := hl
    exact ⟨r, s, rfl, by omega, s0, by omega, ratL_N r0 r1 s0 s1, nol_rat⟩
  obtain ⟨xs, rfl, hl, _, hx⟩ := hd
  obtain ⟨ns, rfl, hns⟩ := ratsN_of hx
  rw [List.length_map] at hl
  have hb : bnOk ns := ⟨by omega, by omega, hns⟩
  have htl := (bn_len hb).1
  refine so_re (ρ' := [x0, some (.raw (.ref a)), y2, some (.int m), some (bnD C ns), y5, y6, y7, y8, y9, y10]) rfl ?_
  refine so_setD (d := .str (bnT ns)) (ev_btx dw_mu hb (ev_var rfl) (by simp) fun _ => rfl) ?_
  refine so_re (ρ' := [x0, some (.raw (.ref a)), y2, some (.int m), some (bnD C ns), y5, some (.str (bnT ns)), y7, y8, y9, y10]) rfl ?_
  have hbt : r_btx C [bnD C ns] (.ok (.str (bnT ns))) := ⟨ns, rfl, hb, rfl⟩
  have hrd : r_rb t.text t.burst C [.str (bnT ns)] (.ok (bnD C ns)) := ⟨_, rfl, rfl, .inr ⟨bnT ns, rfl, by omega, .inr ⟨bn_good hb, by
    unfold nbuO
    rw [bn_flash hb, if_pos (bn_bu hb)]⟩⟩⟩
  have heq : ∀ x ∈ ns.map (ratN C), eqK C 4 x := fun x hx => by
    obtain ⟨p, _, rfl⟩ := List.mem_map.mp hx
    exact .inl (.inr (.inr (.inr (.inr ⟨_, _, rfl⟩))))
  refine so_ifF (et_orF ((et_test (ev_op (ev_callX (R := r_btx C) (ea_cons (ev_var rfl) ea_nil) rfl hbt) (ev_var rfl) rv_neS)).to (by simp)) (et_orF ((et_test (ev_op (ev_callXW (R := r_btx C) (ds := [bnD C ns]) (ea_cons (ev_var rfl) ea_nil) rfl (fun _ _ r => idV_rep r) rfl hbt) (ev_var rfl) rv_neS)).to (by simp)) ((et_test (ev_op (ev_callXW (R := r_rb t.text t.burst C) (ds := [.str (bnT ns)]) (ea_cons (ev_var rfl) ea_nil) rfl (fun _ _ r => idV_rep r) rfl hrd) (ev_var rfl) (rv_neTup heq))).to rfl))) (so_skip ?_)
  -- bent texts
  refine so_le (S1 := DW K a c cs (n + 128)) (dw_le (by omega)) ?_
  refine so_forR (n := 4) (Z := fun i => DW K a c cs (n + 128 + 8 * i)) (ea_cons ev_int ea_nil) (by decide) (fun i hi => dw_le (by omega)) (fun i hi => dw_le (by omega)) (fun i ρ' => ∃ y5 y8 y9, ρ' = [x0, some (.raw (.ref a)), y2, some (.int m), some (bnD C ns), y5, some (.str (bnT ns)), y7, y8, y9, y10]) ⟨_, _, _, rfl⟩ (fun k ρ' hk hJ => ?_) fun ρ' ⟨_, _, _, e⟩ => e ▸ hP _ _ _ _ _ _ _
  obtain ⟨y5, y8, y9, rfl⟩ := hJ
  refine so_set (S1 := DW K a c cs (n + 128 + 8 * k + 4)) (ev_callD (k := 1) (cost := 4) (pre := fun ds => ∃ a : Str, ds = [.str a] ∧ a.length ≤ 800) (Φ := bentR26) (n := n + 128 + 8 * k) (ds := [.str (bnT ns)]) (ea_cons (ev_var rfl) (ea_cons (ev_var rfl) ea_nil)) rfl ⟨_, rfl, by omega⟩ hc (by omega)) fun d hd => ?_
  obtain ⟨_, b1, e, rfl, hb1⟩ := hd
  cases e
  refine so_re (ρ' := [x0, some (.raw (.ref a)), y2, some (.int m), some (bnD C ns), some (.int k), some (.str (bnT ns)), y7, some (.str b1), y9, y10]) rfl ?_
  have htup : Ev K (DW K a c cs (n + 128 + 8 * k + 4)) (DW K a c cs (n + 128 + 8 * (k + 1))) [x0, some (.raw (.ref a)), y2, some (.int m), some (bnD C ns), some (.int k), some (.str (bnT ns)), y7, some (.str b1), y9, y10] (tTup (tCons (tVar 8) (tCons (tCall (p__law_bent26 K) [] E0 (tCons (tVar 1) (tCons (tVar 8) tNil))) tNil))) (fun d => ∃ xs, d = .tup xs ∧ ∀ x ∈ xs, ∃ b : Str, x = .str b ∧ b.length ≤ 900) := by
    refine (ev_tupP (ea_twoP (ev_var (S := DW K a c cs (n + 128 + 8 * k + 4)) (d := .str b1) rfl) (ev_callD (k := 1) (cost := 4) (pre := fun ds => ∃ a : Str, ds = [.str a] ∧ a.length ≤ 800) (Φ := bentR26) (a := a) (c := c) (cs := cs) (n := n + 128 + 8 * k + 4) (ds := [.str b1]) (ea_cons (ev_var rfl) (ea_cons (ev_var rfl) ea_nil)) rfl ⟨_, rfl, by omega⟩ hc (by omega))) fun ds h => ?_).weak fun d h => ?_
    · obtain ⟨x, y, rfl, _⟩ := h
      show 2 ≤ sizeLine
      decide
    · obtain ⟨ds, rfl, x, y, rfl, rfl, _, b2, e, rfl, hb2⟩ := h
      cases e
      refine ⟨_, rfl, fun x hx => ?_⟩
      simp only [List.mem_cons, List.not_mem_nil, or_false] at hx
      rcases hx with rfl | rfl
      · exact ⟨b1, rfl, by omega⟩
      · exact ⟨b2, rfl, by omega⟩
  refine so_forTP htup (fun _ ρ' => ∃ y9, ρ' = [x0, some (.raw (.ref a)), y2, some (.int m), some (bnD C ns), some (.int k), some (.str (bnT ns)), y7, some (.str b1), y9, y10]) ⟨_, rfl⟩ (fun xs hxs i x ρ' hi hJ => ?_) fun _ ρ' ⟨_, e⟩ => ⟨_, _, _, e⟩
  obtain ⟨y9, rfl⟩ := hJ
  obtain ⟨b, rfl, hb⟩ := hxs x (List.mem_of_getElem? hi)
  exact so_said26 h3 h9 dw_tab (tx_str hb) rfl ⟨_, rfl⟩
theorem so_law26 {x0 : Option Dt} (h3 : IsTen K t t.burst 3) (h9 : IsTen K t t.text 9) (hc : cs ≠ []) : So K (DW K a c cs 0) (DW K a c cs 960) [] (r_law26 K c.tb t C) [x0, some (.raw (.ref a)), none, none, none, none, none, none, none, none, none] { rt := Eq (.bl true) } := by
  refine so_seq (M := fun ρ' => ∃ y2 y3 y4 y5 y6 y7 y8 y9, ρ' = [x0, some (.raw (.ref a)), y2, y3, y4, y5, y6, y7, y8, y9, none]) (so_forR (n := 6) (Z := fun i => DW K a c cs (160 * i)) (ea_cons ev_int ea_nil) (by decide) (fun i hi => dw_le (by omega)) (fun i hi => dw_le (by omega)) (fun i ρ' => ∃ y2 y3 y4 y5 y6 y7 y8 y9, ρ' = [x0, some (.raw (.ref a)), y2, y3, y4, y5, y6, y7, y8, y9, none]) ⟨_, _, _, _, _, _, _, _, rfl⟩ (fun ti ρ' hi hJ => ?_) fun ρ' h => h) fun ρ' hM => ?_
  · obtain ⟨y2, y3, y4, y5, y6, y7, y8, y9, rfl⟩ := hJ
    exact so_turn26 (n := 160 * ti) h3 h9 hc (by omega) _ fun _ _ _ _ _ _ _ => ⟨_, _, _, _, _, _, _, _, rfl⟩
  obtain ⟨y2, y3, y4, y5, y6, y7, y8, y9, rfl⟩ := hM
  refine so_seq (M := fun ρ' => ∃ y10, ρ' = [x0, some (.raw (.ref a)), y2, y3, y4, y5, y6, y7, y8, y9, y10]) (so_forT ev_odd26 (fun _ ρ' => ∃ y10, ρ' = [x0, some (.raw (.ref a)), y2, y3, y4, y5, y6, y7, y8, y9, y10]) ⟨_, rfl⟩ (fun i x ρ' hi hJ => ?_) fun ρ' h => h) fun ρ' hM => ?_
  · obtain ⟨y10, rfl⟩ := hJ
    exact so_said26 h3 h9 dw_tab (odd26_ok x (List.mem_of_getElem? hi)) rfl ⟨_, rfl⟩
  · obtain ⟨y10, rfl⟩ := hM
    exact so_retD ev_bl (Sta.Le.refl _) rfl
end
end Bf
namespace Bf
open PySem PySem.Spec PyProof.Rows L2
/-! ### the text -/
def topS (i : Nat) : Stmt := PySem.Challenge.pw_beamframes_k26_whole_texts_of_bursts.main.body.getD i (.Pass ⟨0, 0, 0, 0⟩)
abbrev s_is_whole : Stmt := topS 16
abbrev s_is_numeral : Stmt := topS 17
abbrev s_decimal_of : Stmt := topS 18
abbrev s_need_burst : Stmt := topS 24
abbrev s_is_burst : Stmt := topS 25
abbrev s_is_above_zero : Stmt := topS 26
abbrev s_burst_text : Stmt := topS 28
abbrev s_read_burst : Stmt := topS 29
abbrev s_split_text : Stmt := topS 30
abbrev s_ratio_of_word : Stmt := topS 31
abbrev s__law_begin : Stmt := topS 33
abbrev s__law_next : Stmt := topS 34
abbrev s__law_pick : Stmt := topS 35
abbrev s__law_fault : Stmt := topS 36
abbrev s__law_said : Stmt := topS 37
abbrev s__law_number : Stmt := topS 38
abbrev s__law_ratio : Stmt := topS 39
abbrev s__law_due : Stmt := topS 40
abbrev s__law_bent : Stmt := topS 41
abbrev s_law : Stmt := topS 42
abbrev s_o_read : Stmt := clsSt (topS 21) 1
abbrev s_o_str : Stmt := clsSt (topS 21) 4
theorem sc_is_whole : FnScope ["thing"] ["thing"] (defScope s_is_whole) := ⟨rfl, rfl, rfl, by decide +kernel, rfl, by decide +kernel, by decide +kernel⟩
theorem sc_is_numeral : FnScope ["text", "most"] ["text", "most"] (defScope s_is_numeral) := ⟨rfl, rfl, rfl, by decide +kernel, rfl, by decide +kernel, by decide +kernel⟩
theorem sc_decimal_of : FnScope ["number", "chunks", "left"] ["number"] (defScope s_decimal_of) := ⟨rfl, rfl, rfl, by decide +kernel, rfl, by decide +kernel, by decide +kernel⟩
theorem sc_need_burst : FnScope ["thing"] ["thing"] (defScope s_need_burst) := ⟨rfl, rfl, rfl, by decide +kernel, rfl, by decide +kernel, by decide +kernel⟩
theorem sc_is_burst : FnScope ["thing", "item"] ["thing"] (defScope s_is_burst) := ⟨rfl, rfl, rfl, by decide +kernel, rfl, by decide +kernel, by decide +kernel⟩
theorem sc_is_above_zero : FnScope ["thing"] ["thing"] (defScope s_is_above_zero) := ⟨rfl, rfl, rfl, by decide +kernel, rfl, by decide +kernel, by decide +kernel⟩
theorem sc_burst_text : FnScope ["burst", "item"] ["burst"] (defScope s_burst_text) := ⟨rfl, rfl, rfl, by decide +kernel, rfl, by decide +kernel, by decide +kernel⟩
theorem sc_read_burst : FnScope ["text", "items", "word", "at"] ["text"] (defScope s_read_burst) := ⟨rfl, rfl, rfl, by decide +kernel, rfl, by decide +kernel, by decide +kernel⟩
theorem sc_split_text : FnScope ["text"] ["text"] (defScope s_split_text) := ⟨rfl, rfl, rfl, by decide +kernel, rfl, by decide +kernel, by decide +kernel⟩
theorem sc_ratio_of_word : FnScope ["word", "number"] ["word", "number"] (defScope s_ratio_of_word) := ⟨rfl, rfl, rfl, by decide +kernel, rfl, by decide +kernel, by decide +kernel⟩
theorem sc__law_begin : FnScope ["script"] ["script"] (defScope s__law_begin) := ⟨rfl, rfl, rfl, by decide +kernel, rfl, by decide +kernel, by decide +kernel⟩
theorem sc__law_next : FnScope ["draw", "many", "cell", "cells", "number", "k"] ["draw", "many"] (defScope s__law_next) := ⟨rfl, rfl, rfl, by decide +kernel, rfl, by decide +kernel, by decide +kernel⟩
theorem sc__law_pick : FnScope ["draw", "some"] ["draw", "some"] (defScope s__law_pick) := ⟨rfl, rfl, rfl, by decide +kernel, rfl, by decide +kernel, by decide +kernel⟩
theorem sc__law_fault : FnScope ["e", "kinds"] ["e"] (defScope s__law_fault) := ⟨rfl, rfl, rfl, by decide +kernel, rfl, by decide +kernel, by decide +kernel⟩
theorem sc__law_said : FnScope ["call", "caught", "found", "e"] ["call"] (defScope s__law_said) := ⟨rfl, rfl, rfl, by decide +kernel, rfl, by decide +kernel, by decide +kernel⟩
theorem sc__law_number : FnScope ["word", "sign"] ["word"] (defScope s__law_number) := ⟨rfl, rfl, rfl, by decide +kernel, rfl, by decide +kernel, by decide +kernel⟩
theorem sc__law_ratio : FnScope ["word", "numbers", "part"] ["word"] (defScope s__law_ratio) := ⟨rfl, rfl, rfl, by decide +kernel, rfl, by decide +kernel, by decide +kernel⟩
theorem sc__law_due : FnScope ["wording", "parts", "word", "wrong", "at", "part", "flash", "above", "below"] ["wording"] (defScope s__law_due) := ⟨rfl, rfl, rfl, by decide +kernel, rfl, by decide +kernel, by decide +kernel⟩
theorem sc__law_bent : FnScope ["draw", "wording", "words", "at", "fresh", "way", "rows"] ["draw", "wording"] (defScope s__law_bent) := ⟨rfl, rfl, rfl, by decide +kernel, rfl, by decide +kernel, by decide +kernel⟩
theorem sc_law : FnScope ["script", "draw", "turn", "many", "flash", "k", "wording", "item", "bent", "one", "odd"] ["script"] (defScope s_law) := ⟨rfl, rfl, rfl, by decide +kernel, rfl, by decide +kernel, by decide +kernel⟩
theorem sc_o_read : FnScope ["cls", "text", "num", "bar", "den"] ["cls", "text"] (defScope s_o_read) := ⟨rfl, rfl, rfl, by decide +kernel, rfl, by decide +kernel, by decide +kernel⟩
theorem sc_o_str : FnScope ["self"] ["self"] (defScope s_o_str) := ⟨rfl, rfl, rfl, by decide +kernel, rfl, by decide +kernel, by decide +kernel⟩
abbrev s_rI : Stmt := clsSt (topS 21) 0
abbrev s_rN : Stmt := clsSt (topS 21) 2
abbrev s_rD : Stmt := clsSt (topS 21) 3
theorem sc_rI : FnScope ["self", "num", "den", "shared"] ["self", "num", "den"] (defScope s_rI) := ⟨rfl, rfl, rfl, by decide +kernel, rfl, by decide +kernel, by decide +kernel⟩
abbrev s_req : Stmt := clsSt (topS 21) 5
theorem sc_req : FnScope ["self", "other"] ["self", "other"] (defScope s_req) := ⟨rfl, rfl, rfl, by decide +kernel, rfl, by decide +kernel, by decide +kernel⟩
theorem sc_rN : FnScope ["self"] ["self"] (defScope s_rN) := ⟨rfl, rfl, rfl, by decide +kernel, rfl, by decide +kernel, by decide +kernel⟩
theorem sc_rD : FnScope ["self"] ["self"] (defScope s_rD) := ⟨rfl, rfl, rfl, by decide +kernel, rfl, by decide +kernel, by decide +kernel⟩
structure Adr where
  a_is_whole : Addr
  d_is_whole : FuncData
  a_is_numeral : Addr
  d_is_numeral : FuncData
  a_decimal_of : Addr
  d_decimal_of : FuncData
  a_need_burst : Addr
  d_need_burst : FuncData
  a_is_burst : Addr
  d_is_burst : FuncData
  a_is_above_zero : Addr
  d_is_above_zero : FuncData
  a_burst_text : Addr
  d_burst_text : FuncData
  a_read_burst : Addr
  d_read_burst : FuncData
  a_split_text : Addr
  d_split_text : FuncData
  a_ratio_of_word : Addr
  d_ratio_of_word : FuncData
  a__law_begin : Addr
  d__law_begin : FuncData
  a__law_next : Addr
  d__law_next : FuncData
  a__law_pick : Addr
  d__law_pick : FuncData
  a__law_fault : Addr
  d__law_fault : FuncData
  a__law_said : Addr
  d__law_said : FuncData
  a__law_number : Addr
  d__law_number : FuncData
  a__law_ratio : Addr
  d__law_ratio : FuncData
  a__law_due : Addr
  d__law_due : FuncData
  a__law_bent : Addr
  d__law_bent : FuncData
  a_law : Addr
  d_law : FuncData
  a_o_read : Addr
  d_o_read : FuncData
  a_o_str : Addr
  d_o_str : FuncData
  p_o_read : Addr
  k_law : Addr
  t_law : Addr
  c_BadRatio : Addr
  i_BadRatio : Addr
  c_BadTable : Addr
  i_BadTable : Addr
  c_BadWord : Addr
  i_BadWord : Addr
  c_BadBurst : Addr
  i_BadBurst : Addr
  c_BadReceiver : Addr
  i_BadReceiver : Addr
  c_BadNumber : Addr
  i_BadNumber : Addr
  c_BadPaper : Addr
  i_BadPaper : Addr
  c_BadStyle : Addr
  i_BadStyle : Addr
  c_BadRow : Addr
  i_BadRow : Addr
  c_BadText : Addr
  i_BadText : Addr
  a_req : Addr
  d_req : FuncData
  c_Ratio : Addr
  i_Ratio : Addr
  e_Ratio : FuncData
  pn_Ratio : Addr
  gn_Ratio : Addr
  hn_Ratio : FuncData
  pd_Ratio : Addr
  gd_Ratio : Addr
  hd_Ratio : FuncData
structure Txt (K : PySem.W.Frag) (mg : Str → Option Value) (A : Adr) : Prop where
  b_BadRatio : BadCls PySem.Challenge.pw_beamframes_k26_whole_texts_of_bursts K mg "BadRatio" "given" A.c_BadRatio A.i_BadRatio
  b_BadTable : BadCls PySem.Challenge.pw_beamframes_k26_whole_texts_of_bursts K mg "BadTable" "part" A.c_BadTable A.i_BadTable
  b_BadWord : BadCls PySem.Challenge.pw_beamframes_k26_whole_texts_of_bursts K mg "BadWord" "given" A.c_BadWord A.i_BadWord
  b_BadBurst : BadCls PySem.Challenge.pw_beamframes_k26_whole_texts_of_bursts K mg "BadBurst" "given" A.c_BadBurst A.i_BadBurst
  b_BadReceiver : BadCls PySem.Challenge.pw_beamframes_k26_whole_texts_of_bursts K mg "BadReceiver" "place" A.c_BadReceiver A.i_BadReceiver
  b_BadNumber : BadCls PySem.Challenge.pw_beamframes_k26_whole_texts_of_bursts K mg "BadNumber" "given" A.c_BadNumber A.i_BadNumber
  b_BadPaper : BadCls PySem.Challenge.pw_beamframes_k26_whole_texts_of_bursts K mg "BadPaper" "part" A.c_BadPaper A.i_BadPaper
  b_BadStyle : BadCls PySem.Challenge.pw_beamframes_k26_whole_texts_of_bursts K mg "BadStyle" "given" A.c_BadStyle A.i_BadStyle
  b_BadRow : BadCls PySem.Challenge.pw_beamframes_k26_whole_texts_of_bursts K mg "BadRow" "moment" A.c_BadRow A.i_BadRow
  b_BadText : BadCls PySem.Challenge.pw_beamframes_k26_whole_texts_of_bursts K mg "BadText" "word" A.c_BadText A.i_BadText
  r_Ratio : RatT K mg A.c_Ratio A.i_Ratio A.pn_Ratio A.gn_Ratio A.pd_Ratio A.gd_Ratio
  g_Ratio : RatG K A.c_Ratio A.gn_Ratio A.hn_Ratio A.gd_Ratio A.hd_Ratio
  g_fi : L2.FunD K "__init__" "Ratio.__init__" (defArgs s_rI) (defBody s_rI) (defScope s_rI) [.int 1] [] A.i_Ratio A.e_Ratio
  m_gcd : mg "gcd" = some (.builtin "math.gcd")
  o_eq : RatM K A.c_Ratio "__eq__" "Ratio.__eq__" s_req A.a_req A.d_req
  o_ne : PySem.W.findIn K (.ref A.c_Ratio) "__ne__" = some (some (.builtin "object.__ne__"))
  o_o_read : CmT K A.c_Ratio "read" "Ratio.read" s_o_read A.a_o_read A.d_o_read ["cls", "text"] A.p_o_read
  o_o_str : SmT K A.c_Ratio "__str__" "Ratio.__str__" s_o_str A.a_o_str A.d_o_str ["self"]
  f_is_whole : Cal K mg "is_whole" s_is_whole ["thing"] A.a_is_whole A.d_is_whole
  f_is_numeral : Cal K mg "is_numeral" s_is_numeral ["text", "most"] A.a_is_numeral A.d_is_numeral
  f_decimal_of : Cal K mg "decimal_of" s_decimal_of ["number"] A.a_decimal_of A.d_decimal_of
  f_need_burst : Cal K mg "need_burst" s_need_burst ["thing"] A.a_need_burst A.d_need_burst
  f_is_burst : Cal K mg "is_burst" s_is_burst ["thing"] A.a_is_burst A.d_is_burst
  f_is_above_zero : Cal K mg "is_above_zero" s_is_above_zero ["thing"] A.a_is_above_zero A.d_is_above_zero
  f_burst_text : Cal K mg "burst_text" s_burst_text ["burst"] A.a_burst_text A.d_burst_text
  f_read_burst : Cal K mg "read_burst" s_read_burst ["text"] A.a_read_burst A.d_read_burst
  f_split_text : Cal K mg "split_text" s_split_text ["text"] A.a_split_text A.d_split_text
  f_ratio_of_word : Cal K mg "ratio_of_word" s_ratio_of_word ["word", "number"] A.a_ratio_of_word A.d_ratio_of_word
  f__law_begin : Cal K mg "_law_begin" s__law_begin ["script"] A.a__law_begin A.d__law_begin
  f__law_next : Cal K mg "_law_next" s__law_next ["draw", "many"] A.a__law_next A.d__law_next
  f__law_pick : Cal K mg "_law_pick" s__law_pick ["draw", "some"] A.a__law_pick A.d__law_pick
  f__law_fault : Cal K mg "_law_fault" s__law_fault ["e"] A.a__law_fault A.d__law_fault
  f__law_said : Cal K mg "_law_said" s__law_said ["call"] A.a__law_said A.d__law_said
  f__law_number : Cal K mg "_law_number" s__law_number ["word"] A.a__law_number A.d__law_number
  f__law_ratio : Cal K mg "_law_ratio" s__law_ratio ["word"] A.a__law_ratio A.d__law_ratio
  f__law_due : Cal K mg "_law_due" s__law_due ["wording"] A.a__law_due A.d__law_due
  f__law_bent : Cal K mg "_law_bent" s__law_bent ["draw", "wording"] A.a__law_bent A.d__law_bent
  f_law : Cal K mg "law" s_law ["script"] A.a_law A.d_law
  l_law : FunC K "law" "law" s_law A.a_law A.d_law (.ref A.k_law)
  k_burst_text_burst : BKw A.d_burst_text ["burst"] ["burst"] idL
  k_read_burst_text : BKw A.d_read_burst ["text"] ["text"] idL
  m_all : mg "all" = none
  m_bool : mg "bool" = none
  m_enumerate : mg "enumerate" = none
  m_int : mg "int" = none
  m_isinstance : mg "isinstance" = none
  m_len : mg "len" = none
  m_range : mg "range" = none
  m_str : mg "str" = none
  m_tuple : mg "tuple" = none
  i_BadBurst : IsiC K A.c_BadBurst
  i_BadText : IsiC K A.c_BadText
  q_BadBurst_BadBurst : PySem.W.exmOne K (.ref A.c_BadBurst) (.ref A.c_BadBurst) = some true
  q_BadBurst_BadNumber : PySem.W.exmOne K (.ref A.c_BadBurst) (.ref A.c_BadNumber) = some false
  q_BadBurst_BadPaper : PySem.W.exmOne K (.ref A.c_BadBurst) (.ref A.c_BadPaper) = some false
  q_BadBurst_BadRatio : PySem.W.exmOne K (.ref A.c_BadBurst) (.ref A.c_BadRatio) = some false
  q_BadBurst_BadReceiver : PySem.W.exmOne K (.ref A.c_BadBurst) (.ref A.c_BadReceiver) = some false
  q_BadBurst_BadRow : PySem.W.exmOne K (.ref A.c_BadBurst) (.ref A.c_BadRow) = some false
  q_BadBurst_BadStyle : PySem.W.exmOne K (.ref A.c_BadBurst) (.ref A.c_BadStyle) = some false
  q_BadBurst_BadTable : PySem.W.exmOne K (.ref A.c_BadBurst) (.ref A.c_BadTable) = some false
  q_BadBurst_BadText : PySem.W.exmOne K (.ref A.c_BadBurst) (.ref A.c_BadText) = some false
  q_BadBurst_BadWord : PySem.W.exmOne K (.ref A.c_BadBurst) (.ref A.c_BadWord) = some false
  q_BadText_BadBurst : PySem.W.exmOne K (.ref A.c_BadText) (.ref A.c_BadBurst) = some false
  q_BadText_BadNumber : PySem.W.exmOne K (.ref A.c_BadText) (.ref A.c_BadNumber) = some false
  q_BadText_BadPaper : PySem.W.exmOne K (.ref A.c_BadText) (.ref A.c_BadPaper) = some false
  q_BadText_BadRatio : PySem.W.exmOne K (.ref A.c_BadText) (.ref A.c_BadRatio) = some false
  q_BadText_BadReceiver : PySem.W.exmOne K (.ref A.c_BadText) (.ref A.c_BadReceiver) = some false
  q_BadText_BadRow : PySem.W.exmOne K (.ref A.c_BadText) (.ref A.c_BadRow) = some false
  q_BadText_BadStyle : PySem.W.exmOne K (.ref A.c_BadText) (.ref A.c_BadStyle) = some false
  q_BadText_BadTable : PySem.W.exmOne K (.ref A.c_BadText) (.ref A.c_BadTable) = some false
  q_BadText_BadText : PySem.W.exmOne K (.ref A.c_BadText) (.ref A.c_BadText) = some true
  q_BadText_BadWord : PySem.W.exmOne K (.ref A.c_BadText) (.ref A.c_BadWord) = some false
  y_BadBurst_BadBurst : PySem.W.kitOne K (.ref A.c_BadBurst) (.ref A.c_BadBurst) = some true
  y_BadBurst_BadNumber : PySem.W.kitOne K (.ref A.c_BadBurst) (.ref A.c_BadNumber) = some false
  y_BadBurst_BadPaper : PySem.W.kitOne K (.ref A.c_BadBurst) (.ref A.c_BadPaper) = some false
  y_BadBurst_BadRatio : PySem.W.kitOne K (.ref A.c_BadBurst) (.ref A.c_BadRatio) = some false
  y_BadBurst_BadReceiver : PySem.W.kitOne K (.ref A.c_BadBurst) (.ref A.c_BadReceiver) = some false
  y_BadBurst_BadRow : PySem.W.kitOne K (.ref A.c_BadBurst) (.ref A.c_BadRow) = some false
  y_BadBurst_BadStyle : PySem.W.kitOne K (.ref A.c_BadBurst) (.ref A.c_BadStyle) = some false
  y_BadBurst_BadTable : PySem.W.kitOne K (.ref A.c_BadBurst) (.ref A.c_BadTable) = some false
  y_BadBurst_BadWord : PySem.W.kitOne K (.ref A.c_BadBurst) (.ref A.c_BadWord) = some false
  y_BadText_BadBurst : PySem.W.kitOne K (.ref A.c_BadText) (.ref A.c_BadBurst) = some false
  y_BadText_BadNumber : PySem.W.kitOne K (.ref A.c_BadText) (.ref A.c_BadNumber) = some false
  y_BadText_BadPaper : PySem.W.kitOne K (.ref A.c_BadText) (.ref A.c_BadPaper) = some false
  y_BadText_BadRatio : PySem.W.kitOne K (.ref A.c_BadText) (.ref A.c_BadRatio) = some false
  y_BadText_BadReceiver : PySem.W.kitOne K (.ref A.c_BadText) (.ref A.c_BadReceiver) = some false
  y_BadText_BadRow : PySem.W.kitOne K (.ref A.c_BadText) (.ref A.c_BadRow) = some false
  y_BadText_BadStyle : PySem.W.kitOne K (.ref A.c_BadText) (.ref A.c_BadStyle) = some false
  y_BadText_BadTable : PySem.W.kitOne K (.ref A.c_BadText) (.ref A.c_BadTable) = some false
  y_BadText_BadWord : PySem.W.kitOne K (.ref A.c_BadText) (.ref A.c_BadWord) = some false
  c_CHUNK : ∃ u, mg "CHUNK" = some u ∧ RelV (.int 10000000000000000000000000000000000000000000000000000000000000000) u
  c_CHUNK_WIDTH : ∃ u, mg "CHUNK_WIDTH" = some u ∧ RelV (.int 64) u
  c_MOST_DIGITS : ∃ u, mg "MOST_DIGITS" = some u ∧ RelV (.int 40) u
  c_MOST_ITEMS : ∃ u, mg "MOST_ITEMS" = some u ∧ RelV (.int 63) u
abbrev PG : Program := PySem.Challenge.pw_beamframes_k26_whole_texts_of_bursts
section
variable {P : Program} {w : World} {K : PySem.W.Frag} {mg : Str → Option Value} {base : Heap} {A : Adr}
theorem ok_is_whole (T : Txt K mg A) : GOk PG w K mg base 1 A.a_is_whole A.d_is_whole ["thing"] (p_is_whole K) := by
  refine okF T.f_is_whole.fn sc_is_whole (fun cdv AA out s H E hr hg => ⟨t_is_whole K, ?_, fun S hmu ds hl hp => so_is_whole hmu hp⟩)
  exact (pss_one (ps_ret (pe_and (pe_callB call_isi (by rfl) T.m_isinstance (by first | exact PySem.boot_isinstance | exact PyProof.Rows.boot_isinstance | decide +kernel) (pa_cons (pv 0) (pa_cons (pe_bltn (v := .ty "int") (by rfl) T.m_int (by first | exact PySem.boot_int | decide +kernel) rfl) pa_nil))) (pe_one (pe_not (pe_callB call_isi (by rfl) T.m_isinstance (by first | exact PySem.boot_isinstance | exact PyProof.Rows.boot_isinstance | decide +kernel) (pa_cons (pv 0) (pa_cons (pe_bltn (v := .ty "bool") (by rfl) T.m_bool (by first | exact PySem.boot_bool | decide +kernel) rfl) pa_nil))))))))
theorem ratI (T : Txt K mg A) : RatI PG K mg A.i_Ratio A.e_Ratio A.c_Ratio := by
  refine ⟨fun w base => ?_, ?_, ?_⟩
  · refine okGD T.g_fi sc_rI (fun vs H Q E h => ?_) fun cdv AA out s H vs Q E hr hg h => ⟨t_rat_init K, PSs.nox ?_, rd_rat_init T.r_Ratio h⟩
    · obtain ⟨x, dx, n, m, rfl, _⟩ := h
      rfl
    · exact (pss_cons (ps_if (pt_not (PW.pt (pw_and (pt_val (pe_g (G := (ok_is_whole T)) (hb := T.f_is_whole.bp) (hm := T.f_is_whole.gl) (hk := T.f_is_whole.fn.kp) (hr := hr.mono (by decide)) (hgd := hg) (hx := passL) (ha := (pa_cons (pv 1) pa_nil)))) (pw_and (pt_val (pe_g (G := (ok_is_whole T)) (hb := T.f_is_whole.bp) (hm := T.f_is_whole.gl) (hk := T.f_is_whole.fn.kp) (hr := hr.mono (by decide)) (hgd := hg) (hx := passL) (ha := (pa_cons (pv 2) pa_nil)))) (pw_and (pt_cmpR op_ge (pv 1) pe_int (nomark _)) (pw_and1 (pt_cmpR op_ge (pv 2) pe_int (nomark _)))))))) (pss_one ps_never) pss_nil) (pss_cons (ps_set (i := 3) sc_rI.nd rfl (Or.inl rfl) (pe_callBfun cr_gcd rfl T.m_gcd (pa_cons (pv 1) (pa_cons (pv 2) pa_nil)))) (pss_cons (ps_fld (pv 0) (pe_op op_fdivW (pv 1) (pv 3)) rfl) (pss_one (ps_fld (pv 0) (pe_op op_fdivW (pv 2) (pv 3)) rfl)))))
  · obtain ⟨ds, r, b⟩ := T.g_fi.binds1 (ps := ["self", "num", "den"]) 3 1 (by simp) rfl (fun T kV doc pm an cdv ct us its hu hi => match us, hu, its, hi with | [_, _, _], _, [_], _ => ⟨_, rfl, rfl⟩)
    cases r
    exact b
  · exact T.g_fi.binds1 (ps := ["self", "num", "den"]) 2 0 (by simp) rfl (fun T kV doc pm an cdv ct us its hu hi => match us, hu, its, hi with | [_, _], _, [_], _ => ⟨_, rfl, rfl⟩)
theorem ok_req (T : Txt K mg A) : GOk PG w K mg base 2 A.a_req A.d_req ["self", "other"] (p_req K A.c_Ratio) := by
  refine okR T.o_eq.fn sc_req (fun cdv AA out s H E hr hg => ⟨t_req K A.c_Ratio, ?_, fun S hmu ds d hl hp => so_req T.r_Ratio hp⟩)
  exact (pss_one (ps_ret (pe_and (pe_callB call_isi (by rfl) T.m_isinstance (by first | exact PySem.boot_isinstance | exact PyProof.Rows.boot_isinstance | decide +kernel) (pa_cons (pv 1) (pa_cons (pe_gc rfl ⟨_, T.r_Ratio.gC, rfl⟩) pa_nil))) (pe_and (pe_cmpR op_eq (L2.pe_fld (pv 0) rfl) (L2.pe_fld (pv 1) rfl) (nomark _)) (pe_one (pe_cmpR op_eq (L2.pe_fld (pv 0) rfl) (L2.pe_fld (pv 1) rfl) (nomark _)))))))
theorem ratE (T : Txt K mg A) : RatE PG w K mg base A.c_Ratio A.a_req A.d_req := ⟨ok_req T, T.o_eq.s, T.o_ne, T.o_eq.f, T.r_Ratio.c4, T.o_eq.b⟩
theorem ok_is_numeral (T : Txt K mg A) : GOk PG w K mg base 1 A.a_is_numeral A.d_is_numeral ["text", "most"] (p_is_numeralG K) := by
  refine okR T.f_is_numeral.fn sc_is_numeral (fun cdv AA out s H E hr hg => ⟨t_is_numeral K, ?_, fun S hmu ds d hl hp => so_is_numeralG hp⟩)
  exact (pss_cons (ps_if (PW.pt (pw_or (pt_not (PW.pt (pw_and (pt_val (pe_m0 PySem.F.slot_str_isascii PySem.F.type_str_isascii mt_isascii (pv 0))) (pw_and1 (pt_val (pe_m0 PySem.F.slot_str_isdigit PySem.F.type_str_isdigit mt_isdigit (pv 0))))))) (pw_or1 (pt_cmpR op_gt (pe_callB call_len_str (by rfl) T.m_len (by first | exact PySem.boot_len | exact PyProof.Rows.boot_len | decide +kernel) (pa_cons (pv 0) pa_nil)) (pv 1) (nomark _))))) (pss_one (ps_ret pe_bl)) pss_nil)
      (pss_one (ps_ret (pe_or (pe_cmpR op_eq (pv 0) pe_str (nomark _)) (pe_one (pe_not (pe_m1 PySem.F.slot_str_startswith PySem.F.type_str_startswith mt_startswith (pv 0) pe_str)))))))
theorem ok_decimal_of (T : Txt K mg A) : GOk PG w K mg base 1 A.a_decimal_of A.d_decimal_of ["number"] (p_decimal_of K) := by
  refine okR T.f_decimal_of.fn sc_decimal_of (fun cdv AA out s H E hr hg => ⟨t_decimal_of K, ?_, fun S hmu ds d hl hp => so_decimal_of hmu hp⟩)
  exact (pss_cons (ps_set (i := 1) sc_decimal_of.nd rfl (Or.inl rfl) (pe_lst pa_nil))
      (pss_cons (ps_set (i := 2) sc_decimal_of.nd rfl (Or.inl rfl) (pv 0))
      (pss_cons (ps_while PassesOwn.never (pt_cmpR op_ge (pv 2) (pe_gc rfl T.c_CHUNK) (nomark _)) (pss_cons (ps_expr (pe_bm PySem.F.plainAttrs_list PySem.F.slot_list_append PySem.F.type_list_append mt_append (pv 1) (pa_cons (pe_bm PySem.F.plainAttrs_str PySem.F.slot_str_zfill PySem.F.type_str_zfill mt_zfill (pe_callTy call_strX (by rfl) T.m_str (by first | exact PySem.boot_str | exact PyProof.Rows.boot_str | decide +kernel) (pa_cons (pe_op op_mod (pv 2) (pe_gc rfl T.c_CHUNK)) pa_nil)) (pa_cons (pe_gc rfl T.c_CHUNK_WIDTH) pa_nil)) pa_nil)))
      (pss_one (ps_set (i := 2) sc_decimal_of.nd rfl (Or.inl rfl) (pe_op op_fdivW (pv 2) (pe_gc rfl T.c_CHUNK))))))
      (pss_cons (ps_expr (pe_bm PySem.F.plainAttrs_list PySem.F.slot_list_append PySem.F.type_list_append mt_append (pv 1) (pa_cons (pe_callTy call_strX (by rfl) T.m_str (by first | exact PySem.boot_str | exact PyProof.Rows.boot_str | decide +kernel) (pa_cons (pv 2) pa_nil)) pa_nil)))
      (pss_one (ps_ret (pe_m1 PySem.F.slot_str_join PySem.F.type_str_join mt_join pe_str (pe_revL (pv 1)))))))))
theorem ok_split_text (T : Txt K mg A) : GOk PG w K mg base 1 A.a_split_text A.d_split_text ["text"] (p_split_text K A.c_BadText) := by
  refine okX T.f_split_text.fn sc_split_text (fun cdv AA out s H E hr hg => ⟨t_split_text K A.c_BadText E, ?_, fun S hmu ds o hl hp hw => so_split_text hp hw⟩)
  exact (pss_cons (ps_if (pt_not (pt_val (pe_callB call_isi (by rfl) T.m_isinstance (by first | exact PySem.boot_isinstance | exact PyProof.Rows.boot_isinstance | decide +kernel) (pa_cons (pv 0) (pa_cons (pe_bltn (v := .ty "str") (by rfl) T.m_str (by first | exact PySem.boot_str | decide +kernel) rfl) pa_nil))))) (pss_one (ps_raiseB rfl T.b_BadText hr (takes_of rfl rfl rfl rfl) (pa_cons pe_int pa_nil))) pss_nil)
      (pss_one (ps_ret (pe_m1 PySem.F.slot_str_split PySem.F.type_str_split mt_split (pv 0) pe_str))))
theorem ok__law_begin (T : Txt K mg A) : GOk PG w K mg base 1 A.a__law_begin A.d__law_begin ["script"] (spBT K) := by
  refine okG T.f__law_begin.fn sc__law_begin (fun vs H Q E h => ?_) fun cdv AA out s H vs Q E hr hg h => ⟨t__law_begin K, ?_, ?_⟩
  · obtain ⟨s, ns, T', rfl, _⟩ := h
    rfl
  · exact (pss_one (ps_ret (pe_disp (pps_cons pe_str (pe_op op_catS (pv 0) (pe_lst (pa_cons pe_int pa_nil))) (pps_cons pe_str pe_int (pps_cons pe_str pe_int (pps_cons pe_str pe_int pps_nil)))) (by rfl) (by rfl) (fun z => by cases z) (by decide))))
  · obtain ⟨s, ns, T', rfl, hs, hl, hT, q⟩ := h
    exact rd__law_beginT rfl hs hl hT q
theorem ok__law_next (T : Txt K mg A) : GOk PG w K mg base 1 A.a__law_next A.d__law_next ["draw", "many"] (p__law_next K) := by
  refine okD T.f__law_next.fn sc__law_next rfl (fun cdv AA out s H E hr hg => ⟨t__law_next K, ?_, fun a c cs n ds hc hn hl hp => so__law_next hc hn hp⟩)
  exact (pss_cons (ps_if (pt_cmpR op_gt (pe_dget (hu_of hr) (pv 0) pe_str (fun _ _ => rfl)) pe_int (nomark _)) (pss_cons (ps_asg (pe_tup (pa_cons (pe_dget (hu_of hr) (pv 0) pe_str (fun _ _ => rfl)) (pa_cons (pe_op op_fdivW (pe_dget (hu_of hr) (pv 0) pe_str (fun _ _ => rfl)) (pv 1)) pa_nil))) (pg_tup rfl (pgs_cons (pg_name (i := 2) sc__law_next.nd rfl (Or.inl rfl)) (pgs_cons (pg_sub (pv 0) pe_str (set_dict (hu_of hr))) pgs_nil))))
      (pss_one (ps_ret (pe_op op_mod (pv 2) (pv 1))))) pss_nil)
      (pss_cons (ps_set (i := 3) sc__law_next.nd rfl (Or.inl rfl) (pe_dget (hu_of hr) (pv 0) pe_str (fun _ _ => rfl)))
      (pss_cons (ps_set (i := 2) sc__law_next.nd rfl (Or.inl rfl) (pe_ix ix_seq (pv 3) (pe_op op_mod (pe_dget (hu_of hr) (pv 0) pe_str (fun _ _ => rfl)) (pe_callB call_len_seq (by rfl) T.m_len (by first | exact PySem.boot_len | exact PyProof.Rows.boot_len | decide +kernel) (pa_cons (pv 3) pa_nil))) (fun _ _ => rfl)))
      (pss_cons (ps_asg (pe_op op_add (pe_dget (hu_of hr) (pv 0) pe_str (fun _ _ => rfl)) pe_int) (pg_sub (pv 0) pe_str (set_dict (hu_of hr))))
      (pss_cons (ps_if (PW.pt (pw_and (pt_cmpR op_ge (pv 2) (pe_op op_pow pe_int pe_int) (nomark _)) (pw_and1 (pt_cmpR op_le (pe_dget (hu_of hr) (pv 0) pe_str (fun _ _ => rfl)) (pe_callB call_len_seq (by rfl) T.m_len (by first | exact PySem.boot_len | exact PyProof.Rows.boot_len | decide +kernel) (pa_cons (pv 3) pa_nil)) (nomark _))))) (pss_cons (ps_asg (pe_op op_fdivW (pv 2) (pv 1)) (pg_sub (pv 0) pe_str (set_dict (hu_of hr))))
      (pss_one (ps_ret (pe_op op_mod (pv 2) (pv 1))))) pss_nil)
      (pss_cons (ps_asg (pe_op op_add (pe_dget (hu_of hr) (pv 0) pe_str (fun _ _ => rfl)) pe_int) (pg_sub (pv 0) pe_str (set_dict (hu_of hr))))
      (pss_cons (ps_set (i := 4) sc__law_next.nd rfl (Or.inl rfl) (pe_op op_add (pe_op op_mod (pv 2) pe_int) (pe_op op_mulW (pe_op op_mulW pe_int (pe_dget (hu_of hr) (pv 0) pe_str (fun _ _ => rfl))) (pe_dget (hu_of hr) (pv 0) pe_str (fun _ _ => rfl)))))
      (pss_cons (ps_for PassesOwn.never rfl (pi_tup (pe_tup (pa_cons (pe_dget (hu_of hr) (pv 0) pe_str (fun _ _ => rfl)) (pa_cons (pe_dget (hu_of hr) (pv 0) pe_str (fun _ _ => rfl)) pa_nil)))) (pg_name (i := 5) sc__law_next.nd rfl (Or.inl rfl)) (pss_cons (ps_set (i := 4) sc__law_next.nd rfl (Or.inl rfl) (pe_op op_mod (pe_op op_mulW (pe_op op_add (pe_op op_add (pv 4) (pe_op op_mulW pe_int (pv 5))) pe_int) pe_int) pe_int))
      (pss_one (ps_set (i := 4) sc__law_next.nd rfl (Or.inl rfl) (pe_op op_mod (pe_op op_mulW (pv 4) (pe_op op_add pe_int (pe_op op_mulW pe_int (pe_op op_mod (pv 5) pe_int)))) pe_int)))))
      (pss_one (ps_ret (pe_op op_mod (pe_op op_fdivW (pv 4) pe_int) (pv 1))))))))))))
theorem ten_BadBurst (T : Txt K mg A) : IsTen K ⟨A.c_BadRatio, A.c_BadTable, A.c_BadWord, A.c_BadBurst, A.c_BadReceiver, A.c_BadNumber, A.c_BadPaper, A.c_BadStyle, A.c_BadRow, A.c_BadText⟩ A.c_BadBurst 3 := by
  refine ⟨rfl, fun j D hj h => ?_, exmAny_cons_of T.q_BadBurst_BadRatio (exmAny_cons_of T.q_BadBurst_BadTable (exmAny_cons_of T.q_BadBurst_BadWord (exmAny_cons_of T.q_BadBurst_BadBurst (exmAny_cons_of T.q_BadBurst_BadReceiver (exmAny_cons_of T.q_BadBurst_BadNumber (exmAny_cons_of T.q_BadBurst_BadPaper (exmAny_cons_of T.q_BadBurst_BadStyle (exmAny_cons_of T.q_BadBurst_BadRow (exmAny_cons_of T.q_BadBurst_BadText rfl)))))))))⟩
  match j, hj, h with
  | 0, _, h => cases h; exact T.y_BadBurst_BadRatio
  | 1, _, h => cases h; exact T.y_BadBurst_BadTable
  | 2, _, h => cases h; exact T.y_BadBurst_BadWord
  | 3, _, h => cases h; exact T.y_BadBurst_BadBurst
  | 4, _, h => cases h; exact T.y_BadBurst_BadReceiver
  | 5, _, h => cases h; exact T.y_BadBurst_BadNumber
  | 6, _, h => cases h; exact T.y_BadBurst_BadPaper
  | 7, _, h => cases h; exact T.y_BadBurst_BadStyle
  | 8, _, h => cases h; exact T.y_BadBurst_BadRow
  | j + 9, hj, h => omega
theorem ten_BadText (T : Txt K mg A) : IsTen K ⟨A.c_BadRatio, A.c_BadTable, A.c_BadWord, A.c_BadBurst, A.c_BadReceiver, A.c_BadNumber, A.c_BadPaper, A.c_BadStyle, A.c_BadRow, A.c_BadText⟩ A.c_BadText 9 := by
  refine ⟨rfl, fun j D hj h => ?_, exmAny_cons_of T.q_BadText_BadRatio (exmAny_cons_of T.q_BadText_BadTable (exmAny_cons_of T.q_BadText_BadWord (exmAny_cons_of T.q_BadText_BadBurst (exmAny_cons_of T.q_BadText_BadReceiver (exmAny_cons_of T.q_BadText_BadNumber (exmAny_cons_of T.q_BadText_BadPaper (exmAny_cons_of T.q_BadText_BadStyle (exmAny_cons_of T.q_BadText_BadRow (exmAny_cons_of T.q_BadText_BadText rfl)))))))))⟩
  match j, hj, h with
  | 0, _, h => cases h; exact T.y_BadText_BadRatio
  | 1, _, h => cases h; exact T.y_BadText_BadTable
  | 2, _, h => cases h; exact T.y_BadText_BadWord
  | 3, _, h => cases h; exact T.y_BadText_BadBurst
  | 4, _, h => cases h; exact T.y_BadText_BadReceiver
  | 5, _, h => cases h; exact T.y_BadText_BadNumber
  | 6, _, h => cases h; exact T.y_BadText_BadPaper
  | 7, _, h => cases h; exact T.y_BadText_BadStyle
  | 8, _, h => cases h; exact T.y_BadText_BadRow
  | j + 9, hj, h => omega
theorem ok__law_fault (T : Txt K mg A) : GOk PG w K mg base 1 A.a__law_fault A.d__law_fault ["e"] (p__law_faultG K ⟨A.c_BadRatio, A.c_BadTable, A.c_BadWord, A.c_BadBurst, A.c_BadReceiver, A.c_BadNumber, A.c_BadPaper, A.c_BadStyle, A.c_BadRow, A.c_BadText⟩ [A.c_BadBurst, A.c_BadText] [A.c_BadBurst, A.c_BadNumber, A.c_BadStyle] [A.c_BadTable]) := by
  refine okR T.f__law_fault.fn sc__law_fault (fun cdv AA out s H E hr hg => ⟨t__law_faultG K ⟨A.c_BadRatio, A.c_BadTable, A.c_BadWord, A.c_BadBurst, A.c_BadReceiver, A.c_BadNumber, A.c_BadPaper, A.c_BadStyle, A.c_BadRow, A.c_BadText⟩ [A.c_BadBurst, A.c_BadText] [A.c_BadBurst, A.c_BadNumber, A.c_BadStyle] [A.c_BadTable], ?_, fun S hmu ds d hl hp => so__law_faultG hmu hp⟩)
  exact (pss_cons (ps_set (i := 1) sc__law_fault.nd rfl (Or.inl rfl) (pe_lst (pa_cons (pe_callB (call_isiE (Cs := [A.c_BadBurst, A.c_BadText]) (fun C hC => by simp only [List.mem_cons, List.not_mem_nil, or_false] at hC; rcases hC with rfl | rfl <;> first | exact T.i_BadBurst | exact T.i_BadText)) (by rfl) T.m_isinstance (by first | exact PySem.boot_isinstance | exact PyProof.Rows.boot_isinstance | decide +kernel) (pa_cons (pv 0) (pa_cons (pe_gc rfl ⟨_, T.b_BadRatio.gC, rfl⟩) pa_nil))) (pa_cons (pe_callB (call_isiE (Cs := [A.c_BadBurst, A.c_BadText]) (fun C hC => by simp only [List.mem_cons, List.not_mem_nil, or_false] at hC; rcases hC with rfl | rfl <;> first | exact T.i_BadBurst | exact T.i_BadText)) (by rfl) T.m_isinstance (by first | exact PySem.boot_isinstance | exact PyProof.Rows.boot_isinstance | decide +kernel) (pa_cons (pv 0) (pa_cons (pe_gc rfl ⟨_, T.b_BadWord.gC, rfl⟩) pa_nil))) (pa_cons (pe_callB (call_isiE (Cs := [A.c_BadBurst, A.c_BadText]) (fun C hC => by simp only [List.mem_cons, List.not_mem_nil, or_false] at hC; rcases hC with rfl | rfl <;> first | exact T.i_BadBurst | exact T.i_BadText)) (by rfl) T.m_isinstance (by first | exact PySem.boot_isinstance | exact PyProof.Rows.boot_isinstance | decide +kernel) (pa_cons (pv 0) (pa_cons (pe_gc rfl ⟨_, T.b_BadBurst.gC, rfl⟩) pa_nil))) (pa_cons (pe_callB (call_isiE (Cs := [A.c_BadBurst, A.c_BadText]) (fun C hC => by simp only [List.mem_cons, List.not_mem_nil, or_false] at hC; rcases hC with rfl | rfl <;> first | exact T.i_BadBurst | exact T.i_BadText)) (by rfl) T.m_isinstance (by first | exact PySem.boot_isinstance | exact PyProof.Rows.boot_isinstance | decide +kernel) (pa_cons (pv 0) (pa_cons (pe_gc rfl ⟨_, T.b_BadNumber.gC, rfl⟩) pa_nil))) pa_nil))))))
      (pss_cons (ps_expr (pe_bm PySem.F.plainAttrs_list PySem.F.slot_list_append PySem.F.type_list_append mt_append (pv 1) (pa_cons (pe_callB (call_isiE (Cs := [A.c_BadBurst, A.c_BadText]) (fun C hC => by simp only [List.mem_cons, List.not_mem_nil, or_false] at hC; rcases hC with rfl | rfl <;> first | exact T.i_BadBurst | exact T.i_BadText)) (by rfl) T.m_isinstance (by first | exact PySem.boot_isinstance | exact PyProof.Rows.boot_isinstance | decide +kernel) (pa_cons (pv 0) (pa_cons (pe_gc rfl ⟨_, T.b_BadStyle.gC, rfl⟩) pa_nil))) pa_nil)))
      (pss_cons (ps_if (pt_cmpR op_eq (pe_bm PySem.F.plainAttrs_list PySem.F.slot_list_count PySem.F.type_list_count mt_countF (pv 1) (pa_cons pe_bl pa_nil)) pe_int (nomark _)) (pss_one (ps_ret (pe_tup (pa_cons (pe_ix ix_seq (pe_lst (pa_cons pe_str (pa_cons pe_str (pa_cons pe_str (pa_cons pe_str (pa_cons pe_str pa_nil)))))) (pe_bm PySem.F.plainAttrs_list PySem.F.slot_list_index PySem.F.type_list_index mt_index (pv 1) (pa_cons pe_bl pa_nil)) (fun _ _ => rfl)) (pa_cons (pe_kfld (Cs := [A.c_BadBurst, A.c_BadNumber, A.c_BadStyle]) (fun C hC => by simp only [List.mem_cons, List.not_mem_nil, or_false] at hC; rcases hC with rfl | rfl | rfl <;> first | exact T.b_BadBurst.keepC | exact T.b_BadNumber.keepC | exact T.b_BadStyle.keepC) (pv 0)) pa_nil))))) pss_nil)
      (pss_cons (ps_if (pt_val (pe_callB (call_isiTE (Cs := [A.c_BadBurst, A.c_BadText]) (fun C hC => by simp only [List.mem_cons, List.not_mem_nil, or_false] at hC; rcases hC with rfl | rfl <;> first | exact T.i_BadBurst | exact T.i_BadText)) (by rfl) T.m_isinstance (by first | exact PySem.boot_isinstance | exact PyProof.Rows.boot_isinstance | decide +kernel) (pa_cons (pv 0) (pa_cons (pe_tup (pa_cons (pe_gc rfl ⟨_, T.b_BadTable.gC, rfl⟩) (pa_cons (pe_gc rfl ⟨_, T.b_BadPaper.gC, rfl⟩) pa_nil))) pa_nil)))) (pss_one (ps_ret (pe_tup (pa_cons (pe_ifExp (pt_val (pe_callB (call_isiE (Cs := [A.c_BadBurst, A.c_BadText]) (fun C hC => by simp only [List.mem_cons, List.not_mem_nil, or_false] at hC; rcases hC with rfl | rfl <;> first | exact T.i_BadBurst | exact T.i_BadText)) (by rfl) T.m_isinstance (by first | exact PySem.boot_isinstance | exact PyProof.Rows.boot_isinstance | decide +kernel) (pa_cons (pv 0) (pa_cons (pe_gc rfl ⟨_, T.b_BadTable.gC, rfl⟩) pa_nil)))) pe_str pe_str) (pa_cons (pe_kfld (Cs := [A.c_BadTable]) (fun C hC => by simp only [List.mem_cons, List.not_mem_nil, or_false] at hC; subst hC; exact T.b_BadTable.keepC) (pv 0)) pa_nil))))) pss_nil)
      (pss_cons (ps_if (pt_val (pe_callB (call_isiE (Cs := [A.c_BadBurst, A.c_BadText]) (fun C hC => by simp only [List.mem_cons, List.not_mem_nil, or_false] at hC; rcases hC with rfl | rfl <;> first | exact T.i_BadBurst | exact T.i_BadText)) (by rfl) T.m_isinstance (by first | exact PySem.boot_isinstance | exact PyProof.Rows.boot_isinstance | decide +kernel) (pa_cons (pv 0) (pa_cons (pe_gc rfl ⟨_, T.b_BadReceiver.gC, rfl⟩) pa_nil)))) (pss_one (ps_ret (pe_tup (pa_cons pe_str (pa_cons (pe_kfld (Cs := [A.c_BadReceiver]) (fun C hC => by simp only [List.mem_cons, List.not_mem_nil, or_false] at hC; subst hC; exact T.b_BadReceiver.keepC) (pv 0)) pa_nil))))) pss_nil)
      (pss_one (ps_ret (pe_ifExp (pt_val (pe_callB (call_isiE (Cs := [A.c_BadBurst, A.c_BadText]) (fun C hC => by simp only [List.mem_cons, List.not_mem_nil, or_false] at hC; rcases hC with rfl | rfl <;> first | exact T.i_BadBurst | exact T.i_BadText)) (by rfl) T.m_isinstance (by first | exact PySem.boot_isinstance | exact PyProof.Rows.boot_isinstance | decide +kernel) (pa_cons (pv 0) (pa_cons (pe_gc rfl ⟨_, T.b_BadRow.gC, rfl⟩) pa_nil)))) (pe_tup (pa_cons pe_str (pa_cons (pe_kfld (Cs := [A.c_BadRow]) (fun C hC => by simp only [List.mem_cons, List.not_mem_nil, or_false] at hC; subst hC; exact T.b_BadRow.keepC) (pv 0)) pa_nil))) (pe_tup (pa_cons pe_str (pa_cons (pe_kfld (Cs := [A.c_BadText]) (fun C hC => by simp only [List.mem_cons, List.not_mem_nil, or_false] at hC; subst hC; exact T.b_BadText.keepC) (pv 0)) pa_nil)))))))))))
theorem ok__law_number (T : Txt K mg A) : GOk PG w K mg base 1 A.a__law_number A.d__law_number ["word"] (p__law_number26 K) := by
  refine okR T.f__law_number.fn sc__law_number (fun cdv AA out s H E hr hg => ⟨t__law_number26 K, ?_, fun S hmu ds d hl hp => so__law_number26 hmu hp⟩)
  exact (pss_cons (ps_if (PW.pt (pw_or (pt_not (pt_chain op_le op_le pe_int (pe_callB call_len_str (by rfl) T.m_len (by first | exact PySem.boot_len | exact PyProof.Rows.boot_len | decide +kernel) (pa_cons (pv 0) pa_nil)) pe_int)) (pw_or1 (pt_cmpR (op_neNil hr.units) (pe_lc (own := [("sign", 1)]) (g := (gName 1)) (tt := (tTest (tOp rNotInSg (tVar 1) (tC (.str "0123456789"))))) (te := (tVar 1)) rfl sc__law_number.nd (pi_str (pv 0)) (blkOk_by (own := [("sign", 1)]) (N := ["word", "sign"]) (sc := defScope s__law_number) (by decide +kernel))  (fun _ _ _ _ _ => (pg_name (i := 1) sc__law_number.nd rfl (Or.inl rfl))) (fun _ _ _ _ _ => (pts_one (pt_cmpR op_notIn_sign (pv 1) pe_str (by rfl))))  (fun _ _ _ _ _ => (pv 1))) (pe_lst pa_nil) (nomark _))))) (pss_one (ps_ret (pe_un un_neg pe_int))) pss_nil)
      (pss_one (ps_ret (pe_ifExp (PW.pt (pw_and (pt_cmpR op_gt (pe_callB call_len_str (by rfl) T.m_len (by first | exact PySem.boot_len | exact PyProof.Rows.boot_len | decide +kernel) (pa_cons (pv 0) pa_nil)) pe_int (nomark _)) (pw_and1 (pt_cmpR op_eq (pe_ix ix_seq (pv 0) pe_int (fun _ _ => rfl)) pe_str (nomark _))))) (pe_un un_neg pe_int) (pe_callTy call_int_str (by rfl) T.m_int (by first | exact PySem.boot_int | exact PyProof.Rows.boot_int | decide +kernel) (pa_cons (pv 0) pa_nil))))))
theorem ok_o_str (T : Txt K mg A) : GOk PG w K mg base 2 A.a_o_str A.d_o_str ["self"] (p_o_str K A.c_Ratio) := by
  refine okR T.o_o_str.fn sc_o_str (fun cdv AA out s H E hr hg => ⟨t_o_str K, ?_, fun S hmu ds d hl hp => so_o_str T.r_Ratio hp⟩)
  exact (pss_cons (ps_if (pt_cmpR op_eq (L2.pe_fld (pv 0) rfl) pe_int (nomark _)) (pss_one (ps_ret (pe_joined1 (pe_fmt (pe_g (G := (ok_decimal_of T)) (hb := T.f_decimal_of.bp) (hm := T.f_decimal_of.gl) (hk := T.f_decimal_of.fn.kp) (hr := hr.mono (by decide)) (hgd := hg) (hx := passL) (ha := (pa_cons (L2.pe_fld (pv 0) rfl) pa_nil))))))) pss_nil)
      (pss_one (ps_ret (pe_joined (PJ.cons (pe_fmt (pe_g (G := (ok_decimal_of T)) (hb := T.f_decimal_of.bp) (hm := T.f_decimal_of.gl) (hk := T.f_decimal_of.fn.kp) (hr := hr.mono (by decide)) (hgd := hg) (hx := passL) (ha := (pa_cons (L2.pe_fld (pv 0) rfl) pa_nil)))) (PJ.cons pe_str (PJ.cons (pe_fmt (pe_g (G := (ok_decimal_of T)) (hb := T.f_decimal_of.bp) (hm := T.f_decimal_of.gl) (hk := T.f_decimal_of.fn.kp) (hr := hr.mono (by decide)) (hgd := hg) (hx := passL) (ha := (pa_cons (L2.pe_fld (pv 0) rfl) pa_nil)))) PJ.nil)))))))
theorem ok__law_pick (T : Txt K mg A) : GOk PG w K mg base 2 A.a__law_pick A.d__law_pick ["draw", "some"] (p__law_pick K) := by
  refine okD T.f__law_pick.fn sc__law_pick rfl (fun cdv AA out s H E hr hg => ⟨t__law_pick K, ?_, fun a c cs n ds hc hn hl hp => so__law_pick hc hn hp⟩)
  exact (pss_one (ps_ret (pe_ix ix_seq (pv 1) (pe_g (G := (ok__law_next T)) (hb := T.f__law_next.bp) (hm := T.f__law_next.gl) (hk := T.f__law_next.fn.kp) (hr := hr.mono (by decide)) (hgd := hg) (hx := passL) (ha := (pa_cons (pv 0) (pa_cons (pe_callB call_len_seq (by rfl) T.m_len (by first | exact PySem.boot_len | exact PyProof.Rows.boot_len | decide +kernel) (pa_cons (pv 1) pa_nil)) pa_nil)))) (fun _ _ => rfl))))
theorem ok__law_ratio (T : Txt K mg A) : GOk PG w K mg base 2 A.a__law_ratio A.d__law_ratio ["word"] (p__law_ratio K) := by
  refine okR T.f__law_ratio.fn sc__law_ratio (fun cdv AA out s H E hr hg => ⟨t__law_ratio K, ?_, fun S hmu ds d hl hp => so__law_ratio hmu hp⟩)
  exact (pss_cons (ps_setLc (i := 1) (own := [("part", 2)]) (g := (gName 2)) (tt := tYes) (te := (tCall (p__law_number26 K) [] E0 (tCons (tVar 2) tNil))) rfl sc__law_ratio.nd rfl rfl (sw_true rfl rfl rfl (by decide +kernel)) (pi_list (pe_m1 PySem.F.slot_str_split PySem.F.type_str_split mt_split (pv 0) pe_str)) (blkOk_by (own := [("part", 2)]) (N := ["word", "numbers", "part"]) (sc := defScope s__law_ratio) (by decide +kernel))  (fun _ _ _ _ _ => (pg_name (i := 2) sc__law_ratio.nd rfl (Or.inl rfl))) (fun _ _ _ _ _ => pts_nil)  (fun _ _ _ _ _ => (pe_g (G := (ok__law_number T)) (hb := T.f__law_number.bp) (hm := T.f__law_number.gl) (hk := T.f__law_number.fn.kp) (hr := hr.mono (by decide)) (hgd := hg) (hx := passL) (ha := (pa_cons (pv 2) pa_nil)))))
      (pss_cons (ps_if (PW.pt (pw_or (pt_cmpR op_gt (pe_callB call_len_seq (by rfl) T.m_len (by first | exact PySem.boot_len | exact PyProof.Rows.boot_len | decide +kernel) (pa_cons (pv 1) pa_nil)) pe_int (nomark _)) (pw_or (pt_cmpR op_in_seq (pe_un un_neg pe_int) (pv 1) (by rfl)) (pw_or1 (pt_cmpR (op_eqD hr.units) (pe_slice sl_list (pv 1) (po_some pe_int) po_none) (pe_lst (pa_cons pe_int pa_nil)) (nomark _)))))) (pss_one (ps_ret pe_non)) pss_nil)
      (pss_one (ps_ret (pe_ifExp (pt_cmpR op_eq (pe_callB call_len_seq (by rfl) T.m_len (by first | exact PySem.boot_len | exact PyProof.Rows.boot_len | decide +kernel) (pa_cons (pv 1) pa_nil)) pe_int (nomark _)) (pe_tup (pa_cons (pe_ix ix_seq (pv 1) pe_int (fun _ _ => rfl)) (pa_cons (pe_ix ix_seq (pv 1) pe_int (fun _ _ => rfl)) pa_nil))) (pe_tup (pa_cons (pe_ix ix_seq (pv 1) pe_int (fun _ _ => rfl)) (pa_cons pe_int pa_nil))))))))
theorem ok_is_above_zero (T : Txt K mg A) : GOk PG w K mg base 3 A.a_is_above_zero A.d_is_above_zero ["thing"] (p_is_above_zeroG K A.c_Ratio) := by
  refine okR T.f_is_above_zero.fn sc_is_above_zero (fun cdv AA out s H E hr hg => ⟨t_is_above_zero K A.c_Ratio, ?_, fun S hmu ds d hl hp => so_is_above_zeroG T.r_Ratio hp⟩)
  exact (pss_one (ps_ret (pe_and (pe_callB call_isi (by rfl) T.m_isinstance (by first | exact PySem.boot_isinstance | exact PyProof.Rows.boot_isinstance | decide +kernel) (pa_cons (pv 0) (pa_cons (pe_gc (by rfl) ⟨_, T.r_Ratio.gC, (by rfl)⟩) pa_nil))) (pe_one (pe_cmpR op_gt (pe_num T.r_Ratio T.g_Ratio (hr.mono (by decide)) (pv 0)) pe_int (nomark _))))))
theorem ok__law_bent (T : Txt K mg A) : GOk PG w K mg base 3 A.a__law_bent A.d__law_bent ["draw", "wording"] (p__law_bent26 K) := by
  refine okD T.f__law_bent.fn sc__law_bent rfl (fun cdv AA out s H E hr hg => ⟨t__law_bent26 K, ?_, fun a c cs n ds hc hn hl hp => so__law_bent26 hc hn hp⟩)
  exact (pss_cons (ps_set (i := 2) sc__law_bent.nd rfl (Or.inl rfl) (pe_m1 PySem.F.slot_str_split PySem.F.type_str_split mt_split (pv 1) pe_str))
      (pss_cons (ps_set (i := 3) sc__law_bent.nd rfl (Or.inl rfl) (pe_g (G := (ok__law_next T)) (hb := T.f__law_next.bp) (hm := T.f__law_next.gl) (hk := T.f__law_next.fn.kp) (hr := hr.mono (by decide)) (hgd := hg) (hx := passL) (ha := (pa_cons (pv 0) (pa_cons (pe_op op_add (pe_callB call_len_seq (by rfl) T.m_len (by first | exact PySem.boot_len | exact PyProof.Rows.boot_len | decide +kernel) (pa_cons (pv 2) pa_nil)) pe_int) pa_nil)))))
      (pss_cons (ps_set (i := 4) sc__law_bent.nd rfl (Or.inl rfl) (pe_g (G := (ok__law_pick T)) (hb := T.f__law_pick.bp) (hm := T.f__law_pick.gl) (hk := T.f__law_pick.fn.kp) (hr := hr.mono (by decide)) (hgd := hg) (hx := passL) (ha := (pa_cons (pv 0) (pa_cons (pe_lst (pa_cons pe_str (pa_cons pe_str (pa_cons pe_str (pa_cons pe_str (pa_cons pe_str (pa_cons pe_str (pa_cons (pe_op op_mulS pe_str pe_int) (pa_cons pe_str (pa_cons pe_str (pa_cons pe_str (pa_cons pe_str (pa_cons pe_str pa_nil))))))))))))) pa_nil)))))
      (pss_cons (ps_set (i := 5) sc__law_bent.nd rfl (Or.inl rfl) (pe_g (G := (ok__law_next T)) (hb := T.f__law_next.bp) (hm := T.f__law_next.gl) (hk := T.f__law_next.fn.kp) (hr := hr.mono (by decide)) (hgd := hg) (hx := passL) (ha := (pa_cons (pv 0) (pa_cons pe_int pa_nil)))))
      (pss_cons (ps_if (pt_cmpR op_eq (pv 5) pe_int (nomark _)) (pss_one (ps_ret (pe_op op_add_str (pe_op op_add_str (pe_slice sl_str (pv 1) po_none (po_some (pv 3))) (pe_g (G := (ok__law_pick T)) (hb := T.f__law_pick.bp) (hm := T.f__law_pick.gl) (hk := T.f__law_pick.fn.kp) (hr := hr.mono (by decide)) (hgd := hg) (hx := passL) (ha := (pa_cons (pv 0) (pa_cons (pe_lst (pa_cons pe_str (pa_cons pe_str (pa_cons pe_str (pa_cons pe_str (pa_cons pe_str pa_nil)))))) pa_nil))))) (pe_slice sl_str (pv 1) (po_some (pv 3)) po_none)))) pss_nil)
      (pss_cons (ps_set (i := 6) sc__law_bent.nd rfl (Or.inl rfl) (pe_lst (pa_cons (pe_op op_catS (pe_op op_catS (pe_slice sl_list (pv 2) po_none (po_some (pv 3))) (pe_lst (pa_cons (pv 4) pa_nil))) (pe_slice sl_list (pv 2) (po_some (pv 3)) po_none)) (pa_cons (pe_op op_catS (pe_slice sl_list (pv 2) po_none (po_some (pv 3))) (pe_slice sl_list (pv 2) (po_some (pe_op op_add (pv 3) pe_int)) po_none)) pa_nil))))
      (pss_cons (ps_expr (pe_bm PySem.F.plainAttrs_list PySem.F.slot_list_append PySem.F.type_list_append mt_append (pv 6) (pa_cons (pe_op op_catS (pe_op op_catS (pe_slice sl_list (pv 2) po_none (po_some (pv 3))) (pe_lst (pa_cons (pv 4) pa_nil))) (pe_slice sl_list (pv 2) (po_some (pe_op op_add (pv 3) pe_int)) po_none)) pa_nil)))
      (pss_one (ps_ret (pe_m1 PySem.F.slot_str_join PySem.F.type_str_join mt_join pe_str (pe_ix ix_seq (pv 6) (pe_op op_sub (pv 5) pe_int) (fun _ _ => rfl))))))))))))
theorem ok_o_read (T : Txt K mg A) : GOkN PG w K mg base 4 A.a_o_read A.d_o_read ["cls", "text"] (p_o_read K A.c_BadRatio A.c_Ratio) := by
  refine okXN T.o_o_read.fn sc_o_read (fun cdv AA out s H E hr hg => ⟨t_o_read K A.c_BadRatio A.c_Ratio E, ?_, fun S hmu ds o hl hp hw => so_o_read T.r_Ratio hp hw⟩)
  exact (pss_cons (ps_if (pt_not (pt_val (pe_callB call_isi (by rfl) T.m_isinstance (by first | exact PySem.boot_isinstance | exact PyProof.Rows.boot_isinstance | decide +kernel) (pa_cons (pv 1) (pa_cons (pe_bltn (v := .ty "str") (by rfl) T.m_str (by first | exact PySem.boot_str | decide +kernel) rfl) pa_nil))))) (pss_one (ps_raiseBN rfl T.b_BadRatio (by have hd := room_d hr; exact hd) (L2N.takes_of rfl rfl rfl rfl) (pa_cons (pv 1) pa_nil))) pss_nil)
      (pss_cons (ps_asg (pe_m1 PySem.F.slot_str_partition PySem.F.type_str_partition mt_partition (pv 1) pe_str) (pg_tup rfl (pgs_cons (pg_name (i := 2) sc_o_read.nd rfl (Or.inl rfl)) (pgs_cons (pg_name (i := 3) sc_o_read.nd rfl (Or.inl rfl)) (pgs_cons (pg_name (i := 4) sc_o_read.nd rfl (Or.inl rfl)) pgs_nil)))))
      (pss_cons (ps_if (pt_not (pt_truth (pv 3) (by intro _; rfl))) (pss_one (ps_set (i := 4) sc_o_read.nd rfl (Or.inl rfl) pe_str)) pss_nil)
      (pss_cons (ps_if (PW.pt (pw_or (pt_not (PW.pt (pw_and (pt_val (pe_g (G := (ok_is_numeral T)) (hb := T.f_is_numeral.bp) (hm := T.f_is_numeral.gl) (hk := T.f_is_numeral.fn.kp) (hr := hr.mono (by decide)) (hgd := hg) (hx := passL) (ha := (pa_cons (pv 2) (pa_cons (pe_gc rfl T.c_MOST_DIGITS) pa_nil))))) (pw_and1 (pt_val (pe_g (G := (ok_is_numeral T)) (hb := T.f_is_numeral.bp) (hm := T.f_is_numeral.gl) (hk := T.f_is_numeral.fn.kp) (hr := hr.mono (by decide)) (hgd := hg) (hx := passL) (ha := (pa_cons (pv 4) (pa_cons (pe_gc rfl T.c_MOST_DIGITS) pa_nil))))))))) (pw_or1 (pt_cmpR op_eq (pv 4) pe_str (nomark _))))) (pss_one (ps_raiseBN rfl T.b_BadRatio (by have hd := room_d hr; exact hd) (L2N.takes_of rfl rfl rfl rfl) (pa_cons (pv 1) pa_nil))) pss_nil)
      (pss_one (ps_ret (pe_makeL T.r_Ratio.mK ((ratI T).i _ _) (hr.mono (by decide)) hg rfl (Or.inl rfl) (ratI T).b2 .nil passL (pa_cons (pe_callTy call_int_str (by rfl) T.m_int (by first | exact PySem.boot_int | exact PyProof.Rows.boot_int | decide +kernel) (pa_cons (pv 2) pa_nil)) (pa_cons (pe_callTy call_int_str (by rfl) T.m_int (by first | exact PySem.boot_int | exact PyProof.Rows.boot_int | decide +kernel) (pa_cons (pv 4) pa_nil)) pa_nil)))))))))
theorem ok_is_burst (T : Txt K mg A) : GOk PG w K mg base 4 A.a_is_burst A.d_is_burst ["thing"] (p_is_burstG K A.c_Ratio) := by
  refine okR T.f_is_burst.fn sc_is_burst (fun cdv AA out s H E hr hg => ⟨t_is_burstG K A.c_Ratio, ?_, fun S hmu ds d hl hp => so_is_burstG T.r_Ratio hmu hp⟩)
  exact (pss_cons (ps_if (PW.pt (pw_or (pt_not (pt_val (pe_callB call_isi (by rfl) T.m_isinstance (by first | exact PySem.boot_isinstance | exact PyProof.Rows.boot_isinstance | decide +kernel) (pa_cons (pv 0) (pa_cons (pe_bltn (v := .ty "tuple") (by rfl) T.m_tuple (by first | exact PySem.boot_tuple | decide +kernel) rfl) pa_nil))))) (pw_or (pt_cmpR op_gt (pe_callB call_len_seq (by rfl) T.m_len (by first | exact PySem.boot_len | exact PyProof.Rows.boot_len | decide +kernel) (pa_cons (pv 0) pa_nil)) (pe_gc rfl T.c_MOST_ITEMS) (nomark _)) (pw_or1 (pt_cmpR op_eq (pe_op op_mod (pe_callB call_len_seq (by rfl) T.m_len (by first | exact PySem.boot_len | exact PyProof.Rows.boot_len | decide +kernel) (pa_cons (pv 0) pa_nil)) pe_int) pe_int (nomark _)))))) (pss_one (ps_ret pe_bl)) pss_nil)
      (pss_one (ps_ret (pe_callB (cr_all rfl) (by rfl) T.m_all (by first | exact PySem.boot_all | exact PyProof.Rows.boot_all | decide +kernel) (pa_cons (pe_lc (own := [("item", 1)]) (g := (gName 1)) (tt := tYes) (te := (tCall (p_is_above_zeroG K A.c_Ratio) [] E0 (tCons (tVar 1) tNil))) rfl sc_is_burst.nd (pi_tup (pv 0)) (blkOk_by (own := [("item", 1)]) (N := ["thing", "item"]) (sc := defScope s_is_burst) (by decide +kernel))  (fun _ _ _ _ _ => (pg_name (i := 1) sc_is_burst.nd rfl (Or.inl rfl))) (fun _ _ _ _ _ => pts_nil)  (fun _ _ _ _ _ => (pe_g (G := (ok_is_above_zero T)) (hb := T.f_is_above_zero.bp) (hm := T.f_is_above_zero.gl) (hk := T.f_is_above_zero.fn.kp) (hr := hr.mono (by decide)) (hgd := hg) (hx := passL) (ha := (pa_cons (pv 1) pa_nil))))) pa_nil)))))
theorem ok__law_due (T : Txt K mg A) : GOk PG w K mg base 4 A.a__law_due A.d__law_due ["wording"] (p__law_due26 K A.c_Ratio) := by
  refine okR T.f__law_due.fn sc__law_due (fun cdv AA out s H E hr hg => ⟨t__law_due26 K A.c_Ratio, ?_, fun S hmu ds d hl hp => so__law_due26 hmu hp⟩)
  exact (pss_cons (ps_if (pt_not (pt_val (pe_callB call_isi (by rfl) T.m_isinstance (by first | exact PySem.boot_isinstance | exact PyProof.Rows.boot_isinstance | decide +kernel) (pa_cons (pv 0) (pa_cons (pe_bltn (v := .ty "str") (by rfl) T.m_str (by first | exact PySem.boot_str | decide +kernel) rfl) pa_nil))))) (pss_one (ps_ret (pe_tup (pa_cons pe_str (pa_cons pe_int pa_nil))))) pss_nil)
      (pss_cons (ps_setLc (i := 1) (own := [("word", 2)]) (g := (gName 2)) (tt := tYes) (te := (tCall (p__law_ratio K) [] E0 (tCons (tVar 2) tNil))) rfl sc__law_due.nd rfl rfl (sw_true rfl rfl rfl (by decide +kernel)) (pi_list (pe_m1 PySem.F.slot_str_split PySem.F.type_str_split mt_split (pv 0) pe_str)) (blkOk_by (own := [("word", 2)]) (N := ["wording", "parts", "word", "wrong", "at", "part", "flash", "above", "below"]) (sc := defScope s__law_due) (by decide +kernel))  (fun _ _ _ _ _ => (pg_name (i := 2) sc__law_due.nd rfl (Or.inl rfl))) (fun _ _ _ _ _ => pts_nil)  (fun _ _ _ _ _ => (pe_g (G := (ok__law_ratio T)) (hb := T.f__law_ratio.bp) (hm := T.f__law_ratio.gl) (hk := T.f__law_ratio.fn.kp) (hr := hr.mono (by decide)) (hgd := hg) (hx := passL) (ha := (pa_cons (pv 2) pa_nil)))))
      (pss_cons (ps_setLc (i := 3) (own := [("at", 4), ("part", 5)]) (g := (gTup K 2 (gCons (gName 4) (gCons (gName 5) gNil)))) (tt := (tTest (tOp rIsNo (tVar 5) (tC .non)))) (te := (tOp rAddI (tVar 4) (tC (.int 1)))) rfl sc__law_due.nd rfl rfl (sw_true rfl rfl rfl (by decide +kernel)) (pi_enum rfl T.m_enumerate (pa_cons (pv 1) pa_nil)) (blkOk_by (own := [("at", 4), ("part", 5)]) (N := ["wording", "parts", "word", "wrong", "at", "part", "flash", "above", "below"]) (sc := defScope s__law_due) (by decide +kernel))  (fun _ _ _ _ _ => (pg_tup rfl (pgs_cons (pg_name (i := 4) sc__law_due.nd rfl (Or.inl rfl)) (pgs_cons (pg_name (i := 5) sc__law_due.nd rfl (Or.inl rfl)) pgs_nil)))) (fun _ _ _ _ _ => (pts_one (pt_cmpR op_isN (pv 5) pe_non (nomark _))))  (fun _ _ _ _ _ => (pe_op op_add (pv 4) pe_int)))
      (pss_cons (ps_if (pt_cmpR (op_neNil hr.units) (pv 3) (pe_lst pa_nil) (nomark _)) (pss_one (ps_ret (pe_tup (pa_cons pe_str (pa_cons (pe_ix ix_seq (pv 3) pe_int (fun _ _ => rfl)) pa_nil))))) pss_nil)
      (pss_cons (ps_set (i := 6) sc__law_due.nd rfl (Or.inl rfl) (pe_callTy call_tuple_of (by rfl) T.m_tuple (by first | exact PySem.boot_tuple | exact PyProof.Rows.boot_tuple | decide +kernel) (pa_cons (pe_lc (own := [("above", 7), ("below", 8)]) (g := (gTup K 2 (gCons (gName 7) (gCons (gName 8) gNil)))) (tt := tYes) (te := (tMake A.c_Ratio (spRI A.c_Ratio) [] E0 (tCons (tVar 7) (tCons (tVar 8) tNil)))) rfl sc__law_due.nd (pi_list (pv 1)) (blkOk_by (own := [("above", 7), ("below", 8)]) (N := ["wording", "parts", "word", "wrong", "at", "part", "flash", "above", "below"]) (sc := defScope s__law_due) (by decide +kernel))  (fun _ _ _ _ _ => (pg_tup rfl (pgs_cons (pg_name (i := 7) sc__law_due.nd rfl (Or.inl rfl)) (pgs_cons (pg_name (i := 8) sc__law_due.nd rfl (Or.inl rfl)) pgs_nil)))) (fun _ _ _ _ _ => pts_nil)  (fun _ _ _ _ _ => (pe_mk2 T.r_Ratio (ratI T) (hr.mono (by decide)) hg (pa_cons (pv 7) (pa_cons (pv 8) pa_nil))))) pa_nil)))
      (pss_cons (ps_if (PW.pt (pw_or (pt_cmpR op_eq (pe_op op_mod (pe_callB call_len_seq (by rfl) T.m_len (by first | exact PySem.boot_len | exact PyProof.Rows.boot_len | decide +kernel) (pa_cons (pv 6) pa_nil)) pe_int) pe_int (nomark _)) (pw_or (pt_cmpR op_gt (pe_callB call_len_seq (by rfl) T.m_len (by first | exact PySem.boot_len | exact PyProof.Rows.boot_len | decide +kernel) (pa_cons (pv 6) pa_nil)) pe_int (nomark _)) (pw_or1 (pt_cmpR (op_neNil hr.units) (pe_lc (own := [("above", 7), ("below", 8)]) (g := (gTup K 2 (gCons (gName 7) (gCons (gName 8) gNil)))) (tt := (tTest (tOp rEq (tVar 7) (tC (.int 0))))) (te := (tC (.int 1))) rfl sc__law_due.nd (pi_list (pv 1)) (blkOk_by (own := [("above", 7), ("below", 8)]) (N := ["wording", "parts", "word", "wrong", "at", "part", "flash", "above", "below"]) (sc := defScope s__law_due) (by decide +kernel))  (fun _ _ _ _ _ => (pg_tup rfl (pgs_cons (pg_name (i := 7) sc__law_due.nd rfl (Or.inl rfl)) (pgs_cons (pg_name (i := 8) sc__law_due.nd rfl (Or.inl rfl)) pgs_nil)))) (fun _ _ _ _ _ => (pts_one (pt_cmpR op_eq (pv 7) pe_int (nomark _))))  (fun _ _ _ _ _ => pe_int)) (pe_lst pa_nil) (nomark _)))))) (pss_one (ps_ret (pe_tup (pa_cons pe_str (pa_cons (pv 6) pa_nil))))) pss_nil)
      (pss_one (ps_ret (pe_lst (pa_cons (pv 6) pa_nil))))))))))
theorem ok_need_burst (T : Txt K mg A) : GOk PG w K mg base 5 A.a_need_burst A.d_need_burst ["thing"] (p_need_burstX K A.c_BadBurst A.c_Ratio) := by
  refine okX T.f_need_burst.fn sc_need_burst (fun cdv AA out s H E hr hg => ⟨t_need_burstX K A.c_BadBurst A.c_Ratio E, ?_, fun S hmu ds o hl hp hw => so_need_burstX hp hw⟩)
  exact (pss_cons (ps_if (pt_not (pt_val (pe_g (G := (ok_is_burst T)) (hb := T.f_is_burst.bp) (hm := T.f_is_burst.gl) (hk := T.f_is_burst.fn.kp) (hr := hr.mono (by decide)) (hgd := hg) (hx := passL) (ha := (pa_cons (pv 0) pa_nil))))) (pss_one (ps_raiseB rfl T.b_BadBurst hr (takes_of rfl rfl rfl rfl) (pa_cons (pv 0) pa_nil))) pss_nil)
      (pss_one (ps_ret (pv 0))))
theorem ok_ratio_of_word (T : Txt K mg A) : GOk PG w K mg base 5 A.a_ratio_of_word A.d_ratio_of_word ["word", "number"] (p_ratio_of_word K A.c_BadText A.c_Ratio) := by
  refine okX T.f_ratio_of_word.fn sc_ratio_of_word (fun cdv AA out s H E hr hg => ⟨t_ratio_of_word K A.c_BadRatio A.c_BadText A.c_Ratio E, ?_, fun S hmu ds o hl hp hw => so_ratio_of_word T.b_BadRatio.te hp hw⟩)
  exact (pss_one (L2H.ps_try_onlyX (by rfl) (by rfl) ⟨by rfl, by decide, .inl T.b_BadRatio.gC⟩ (L2H.passesAt_of rfl) (takes_of rfl rfl rfl rfl) (fun W pn xe tk _ _ => (pss_one (ps_ret (pe_cmS (pe_gc (by rfl) ⟨_, T.r_Ratio.gC, (by rfl)⟩) T.o_o_read.r T.o_o_read.c (ok_o_read T) (hr.mono (by decide)) hg T.o_o_read.b (fun σ => L2N.passAt tk σ) (pa_cons (pv 0) pa_nil))))) (fun a oe cls d pn hz hf tkS hot => (pss_one (ps_raiseBH hot T.b_BadText (by have hd := room_d hr; exact hd) tkS (pa_cons (pv 1) pa_nil))))))
theorem ok_burst_text (T : Txt K mg A) : GOk PG w K mg base 6 A.a_burst_text A.d_burst_text ["burst"] (p_burst_text K A.c_Ratio) := by
  refine okX T.f_burst_text.fn sc_burst_text (fun cdv AA out s H E hr hg => ⟨t_burst_text K A.c_BadBurst A.c_Ratio E, ?_, fun S hmu ds o hl hp hw => so_burst_text hmu hp⟩)
  exact (pss_cons (ps_expr (pe_g (G := (ok_need_burst T)) (hb := T.f_need_burst.bp) (hm := T.f_need_burst.gl) (hk := T.f_need_burst.fn.kp) (hr := hr.mono (by decide)) (hgd := hg) (hx := (passes_call (takes_of rfl rfl rfl rfl) (fun _ _ _ _ h => h))) (ha := (pa_cons (pv 0) pa_nil))))
      (pss_one (ps_ret (pe_m1 PySem.F.slot_str_join PySem.F.type_str_join mt_join pe_str (pe_lc (own := [("item", 1)]) (g := (gName 1)) (tt := tYes) (te := (tCB (rStrO A.c_Ratio (p_o_str K A.c_Ratio)) (tCons (tVar 1) tNil))) rfl sc_burst_text.nd (pi_tup (pv 0)) (blkOk_by (own := [("item", 1)]) (N := ["burst", "item"]) (sc := defScope s_burst_text) (by decide +kernel))  (fun _ _ _ _ _ => (pg_name (i := 1) sc_burst_text.nd rfl (Or.inl rfl))) (fun _ _ _ _ _ => pts_nil)  (fun _ _ _ _ _ => (pe_callTy (call_strO (ok_o_str T) T.o_o_str.s T.o_o_str.f T.o_o_str.b (hr.mono (by decide)) hg) (by rfl) T.m_str (by first | exact PySem.boot_str | exact PyProof.Rows.boot_str | decide +kernel) (pa_cons (pv 1) pa_nil))))))))
theorem ok_read_burst (T : Txt K mg A) : GOk PG w K mg base 6 A.a_read_burst A.d_read_burst ["text"] (p_read_burst K A.c_BadText A.c_BadBurst A.c_Ratio) := by
  refine okX T.f_read_burst.fn sc_read_burst (fun cdv AA out s H E hr hg => ⟨t_read_burst K A.c_BadText A.c_BadBurst A.c_Ratio E, ?_, fun S hmu ds o hl hp hw => so_read_burst hmu hp hw⟩)
  exact (pss_cons (ps_lcX (W := E) (i := 1) (own := [("at", 3), ("word", 2)]) (g := (gTup K 2 (gCons (gName 3) (gCons (gName 2) gNil)))) (tt := tYes) (te := (tCall (p_ratio_of_word K A.c_BadText A.c_Ratio) [] E (tCons (tVar 2) (tCons (tOp rAddI (tVar 3) (tC (.int 1))) tNil)))) rfl rfl (takes_of rfl rfl rfl rfl) rfl sc_read_burst.nd rfl rfl (sw_true rfl rfl rfl (by decide +kernel)) (pi_enum rfl T.m_enumerate (pa_cons (pe_g (G := (ok_split_text T)) (hb := T.f_split_text.bp) (hm := T.f_split_text.gl) (hk := T.f_split_text.fn.kp) (hr := hr.mono (by decide)) (hgd := hg) (hx := (passes_call (takes_of rfl rfl rfl rfl) (fun _ _ _ _ h => h))) (ha := (pa_cons (pv 0) pa_nil))) pa_nil)) (blkOk_by (own := [("at", 3), ("word", 2)]) (N := ["text", "items", "word", "at"]) (sc := defScope s_read_burst) (by decide +kernel)) ⟨(fun _ _ _ _ _ => (pg_tup rfl (pgs_cons (pg_name (i := 3) sc_read_burst.nd rfl (Or.inl rfl)) (pgs_cons (pg_name (i := 2) sc_read_burst.nd rfl (Or.inl rfl)) pgs_nil)))), (fun _ _ _ _ _ => pts_nil), (fun _ _ _ _ _ => (pe_g (G := (ok_ratio_of_word T)) (hb := T.f_ratio_of_word.bp) (hm := T.f_ratio_of_word.gl) (hk := T.f_ratio_of_word.fn.kp) (hr := hr.mono (by decide)) (hgd := hg) (hx := passB) (ha := (pa_cons (pv 2) (pa_cons (pe_op op_add (pv 3) pe_int) pa_nil)))))⟩)
      (pss_one (ps_ret (pe_g (G := (ok_need_burst T)) (hb := T.f_need_burst.bp) (hm := T.f_need_burst.gl) (hk := T.f_need_burst.fn.kp) (hr := hr.mono (by decide)) (hgd := hg) (hx := (passes_call (takes_of rfl rfl rfl rfl) (fun _ _ _ _ h => h))) (ha := (pa_cons (pe_callTy call_tuple_of (by rfl) T.m_tuple (by first | exact PySem.boot_tuple | exact PyProof.Rows.boot_tuple | decide +kernel) (pa_cons (pv 1) pa_nil)) pa_nil))))))
theorem gv__law_said (T : Txt K mg A) : ∀ cdv, Gives PG w K mg base 8 ["call", "caught", "found", "e"] "_law_said" "call" (defScope s__law_said) A.a__law_said cdv (defBody s__law_said) (TTs K (RG K ⟨A.c_BadRatio, A.c_BadTable, A.c_BadWord, A.c_BadBurst, A.c_BadReceiver, A.c_BadNumber, A.c_BadPaper, A.c_BadStyle, A.c_BadRow, A.c_BadText⟩ [A.c_BadBurst, A.c_BadText] [A.c_BadBurst, A.c_BadNumber, A.c_BadStyle] [A.c_BadTable])) := by
  intro cdv AA out s H Q f c' q tl hr hg act hc h
  obtain ⟨o, d, hl, hR, hq⟩ := h
  refine ⟨t__law_saidG K ⟨A.c_BadRatio, A.c_BadTable, A.c_BadWord, A.c_BadBurst, A.c_BadReceiver, A.c_BadNumber, A.c_BadPaper, A.c_BadStyle, A.c_BadRow, A.c_BadText⟩ [A.c_BadBurst, A.c_BadText] [A.c_BadBurst, A.c_BadNumber, A.c_BadStyle] [A.c_BadTable] f c' q tl, ?_, ?_⟩
  · exact (pss_cons (ps_asg (pe_tup (pa_cons pe_non (pa_cons pe_non pa_nil))) (pg_tup rfl (pgs_cons (pg_name (i := 1) sc__law_said.nd rfl (Or.inl rfl)) (pgs_cons (pg_name (i := 2) sc__law_said.nd rfl (Or.inl rfl)) pgs_nil))))
      (pss_cons (ps_try_kp (i := 3) (by rfl) (by rfl) (by rfl) sc__law_said.nd (by rfl) (by rfl) (catch_tup (ns := [("BadRatio", Value.ref A.c_BadRatio, (⟨202, 12, 202, 20⟩ : Pos)), ("BadTable", Value.ref A.c_BadTable, (⟨202, 22, 202, 30⟩ : Pos)), ("BadWord", Value.ref A.c_BadWord, (⟨202, 32, 202, 39⟩ : Pos)), ("BadBurst", Value.ref A.c_BadBurst, (⟨202, 41, 202, 49⟩ : Pos)), ("BadReceiver", Value.ref A.c_BadReceiver, (⟨202, 51, 202, 62⟩ : Pos)), ("BadNumber", Value.ref A.c_BadNumber, (⟨202, 64, 202, 73⟩ : Pos)), ("BadPaper", Value.ref A.c_BadPaper, (⟨202, 75, 202, 83⟩ : Pos)), ("BadStyle", Value.ref A.c_BadStyle, (⟨202, 85, 202, 93⟩ : Pos)), ("BadRow", Value.ref A.c_BadRow, (⟨202, 95, 202, 101⟩ : Pos)), ("BadText", Value.ref A.c_BadText, (⟨202, 103, 202, 110⟩ : Pos))]) (by rfl) (by show 10 ≤ sizeLine; decide) (fun p hp => by simp only [List.mem_cons, List.not_mem_nil, or_false] at hp; rcases hp with rfl | rfl | rfl | rfl | rfl | rfl | rfl | rfl | rfl | rfl <;> first | exact ⟨by rfl, T.b_BadRatio.gC, by rfl⟩ | exact ⟨by rfl, T.b_BadTable.gC, by rfl⟩ | exact ⟨by rfl, T.b_BadWord.gC, by rfl⟩ | exact ⟨by rfl, T.b_BadBurst.gC, by rfl⟩ | exact ⟨by rfl, T.b_BadReceiver.gC, by rfl⟩ | exact ⟨by rfl, T.b_BadNumber.gC, by rfl⟩ | exact ⟨by rfl, T.b_BadPaper.gC, by rfl⟩ | exact ⟨by rfl, T.b_BadStyle.gC, by rfl⟩ | exact ⟨by rfl, T.b_BadRow.gC, by rfl⟩ | exact ⟨by rfl, T.b_BadText.gC, by rfl⟩)) takes0 (fun W pn xe tk _ => (pss_one (ps_set (i := 2) sc__law_said.nd rfl (Or.inl rfl) (act pn xe (WE W) _ _ (fun σ => passAt tk σ))))) (fun a oe cls d pn hz hf => (pss_one (ps_set (i := 1) sc__law_said.nd rfl (Or.inl rfl) (pv 3)))))
      (pss_one (ps_ret (pe_ifExp (pt_cmpR op_isN (pv 1) pe_non (nomark _)) (pe_lst (pa_cons (pv 2) pa_nil)) (pe_g (G := (ok__law_fault T)) (hb := T.f__law_fault.bp) (hm := T.f__law_fault.gl) (hk := T.f__law_fault.fn.kp) (hr := hr.mono (by decide)) (hgd := hg) (hx := passL) (ha := (pa_cons (pv 1) pa_nil))))))))
  · refine so__law_saidG hc hl hR _ _ H H ⟨Gr.refl H, Same.refl H, fun _ z => nomatch z⟩ (Same.refl H) (slots_start (.cons (.raw _) .nil)) ⟨fun σ ρ H' g i s' e => ?_, fun v d' H' g i r' e => ?_, fun σ ρ H' g i s' e => (show False from e).elim, fun σ ρ H' g i s' e => (show False from e).elim⟩
    · exact hq _ H' i ((show d = .non from e) ▸ .non)
    · exact hq v H' i ((show d = d' from e) ▸ r')
theorem ok_law (T : Txt K mg A) (TB_law : LamX.TabB base mg A.k_law A.t_law) : GOk PG w K mg base 10 A.a_law A.d_law ["script"] (p_law26 [(A.k_law, A.t_law)] K) := by
  refine okGC T.l_law sc_law (fun vs H Q E h => ?_) fun AA out s H vs Q E hr hg h => ⟨t_law26 K [(A.t_law, "law.<locals>.<lambda>")] ⟨A.c_BadRatio, A.c_BadTable, A.c_BadWord, A.c_BadBurst, A.c_BadReceiver, A.c_BadNumber, A.c_BadPaper, A.c_BadStyle, A.c_BadRow, A.c_BadText⟩ A.c_Ratio, ?_, ?_⟩
  · obtain ⟨s, ns, rfl, _⟩ := h
    rfl
  · exact PSs.nox (pss_cons (ps_set (i := 1) sc_law.nd rfl (Or.inr rfl) (pe_g (G := (ok__law_begin T)) (hb := T.f__law_begin.bp) (hm := T.f__law_begin.gl) (hk := T.f__law_begin.fn.kp) (hr := hr.mono (by decide)) (hgd := hg) (hx := passL) (ha := (pa_cons (pv 0) pa_nil))))
      (pss_cons (ps_for PassesOwn.never rfl (pi_range1 rfl T.m_range (pa_cons pe_int pa_nil)) (pg_name (i := 2) sc_law.nd rfl (Or.inl rfl)) (pss_cons (ps_set (i := 3) sc_law.nd rfl (Or.inl rfl) (pe_g (G := (ok__law_pick T)) (hb := T.f__law_pick.bp) (hm := T.f__law_pick.gl) (hk := T.f__law_pick.fn.kp) (hr := hr.mono (by decide)) (hgd := hg) (hx := passL) (ha := (pa_cons (pv 1) (pa_cons (pe_lst (pa_cons pe_int (pa_cons pe_int (pa_cons pe_int (pa_cons (pe_op op_add (pe_op op_mulW pe_int (pe_g (G := (ok__law_next T)) (hb := T.f__law_next.bp) (hm := T.f__law_next.gl) (hk := T.f__law_next.fn.kp) (hr := hr.mono (by decide)) (hgd := hg) (hx := passL) (ha := (pa_cons (pv 1) (pa_cons pe_int pa_nil))))) pe_int) pa_nil))))) pa_nil)))))
      (pss_cons (ps_set (i := 4) sc_law.nd rfl (Or.inl rfl) (pe_callTy call_tuple_of (by rfl) T.m_tuple (by first | exact PySem.boot_tuple | exact PyProof.Rows.boot_tuple | decide +kernel) (pa_cons (pe_lc (own := [("k", 5)]) (g := (gName 5)) (tt := tYes) (te := (tMake A.c_Ratio (spRI A.c_Ratio) [] E0 (tCons (tOp rAddI (tC (.int 1)) (tCall (p__law_next K) [] E0 (tCons (tVar 1) (tCons (tOp rPowI (tC (.int 10)) (tC (.int 6))) tNil)))) (tCons (tOp rAddI (tC (.int 1)) (tCall (p__law_next K) [] E0 (tCons (tVar 1) (tCons (tC (.int 4)) tNil)))) tNil)))) rfl sc_law.nd (pi_range1 rfl T.m_range (pa_cons (pv 3) pa_nil)) (blkOk_by (own := [("k", 5)]) (N := ["script", "draw", "turn", "many", "flash", "k", "wording", "item", "bent", "one", "odd"]) (sc := defScope s_law) (by decide +kernel))  (fun _ _ _ _ _ => (pg_name (i := 5) sc_law.nd rfl (Or.inl rfl))) (fun _ _ _ _ _ => pts_nil)  (fun _ _ _ _ _ => (pe_mk2 T.r_Ratio (ratI T) (hr.mono (by decide)) hg (pa_cons (pe_op op_add pe_int (pe_g (G := (ok__law_next T)) (hb := T.f__law_next.bp) (hm := T.f__law_next.gl) (hk := T.f__law_next.fn.kp) (hr := hr.mono (by decide)) (hgd := hg) (hx := passL) (ha := (pa_cons (pv 1) (pa_cons (pe_op op_pow pe_int pe_int) pa_nil))))) (pa_cons (pe_op op_add pe_int (pe_g (G := (ok__law_next T)) (hb := T.f__law_next.bp) (hm := T.f__law_next.gl) (hk := T.f__law_next.fn.kp) (hr := hr.mono (by decide)) (hgd := hg) (hx := passL) (ha := (pa_cons (pv 1) (pa_cons pe_int pa_nil))))) pa_nil))))) pa_nil)))
      (pss_cons (ps_set (i := 6) sc_law.nd rfl (Or.inl rfl) (pe_m1 PySem.F.slot_str_join PySem.F.type_str_join mt_join pe_str (pe_lc (own := [("item", 7)]) (g := (gName 7)) (tt := tYes) (te := (tCB (rStrO A.c_Ratio (p_o_str K A.c_Ratio)) (tCons (tVar 7) tNil))) rfl sc_law.nd (pi_tup (pv 4)) (blkOk_by (own := [("item", 7)]) (N := ["script", "draw", "turn", "many", "flash", "k", "wording", "item", "bent", "one", "odd"]) (sc := defScope s_law) (by decide +kernel))  (fun _ _ _ _ _ => (pg_name (i := 7) sc_law.nd rfl (Or.inl rfl))) (fun _ _ _ _ _ => pts_nil)  (fun _ _ _ _ _ => (pe_callTy (call_strO (ok_o_str T) T.o_o_str.s T.o_o_str.f T.o_o_str.b (hr.mono (by decide)) hg) (by rfl) T.m_str (by first | exact PySem.boot_str | exact PyProof.Rows.boot_str | decide +kernel) (pa_cons (pv 7) pa_nil))))))
      (pss_cons (ps_if (PW.pt (pw_or (pt_cmpR op_ne (pe_g (G := (ok_burst_text T)) (hb := T.f_burst_text.bp) (hm := T.f_burst_text.gl) (hk := T.f_burst_text.fn.kp) (hr := hr.mono (by decide)) (hgd := hg) (hx := passL) (ha := (pa_cons (pv 4) pa_nil))) (pv 6) (nomark _)) (pw_or (pt_cmpR op_ne (pe_gw (G := (ok_burst_text T)) (hb := T.k_burst_text_burst) (hgv := kwv) (hm := T.f_burst_text.gl) (hk := T.f_burst_text.fn.kp) (hr := hr.mono (by decide)) (hgd := hg) (hx := passL) (hkw := (pk_cons (pv 4) pk_nil))) (pv 6) (nomark _)) (pw_or1 (pt_cmpR (op_neQ (ratE T) (hr.mono (by decide)) hg) (pe_gw (G := (ok_read_burst T)) (hb := T.k_read_burst_text) (hgv := kwv) (hm := T.f_read_burst.gl) (hk := T.f_read_burst.fn.kp) (hr := hr.mono (by decide)) (hgd := hg) (hx := passL) (hkw := (pk_cons (pv 6) pk_nil))) (pv 4) (nomark _)))))) (pss_one (ps_ret pe_bl)) pss_nil)
      (pss_one (ps_for PassesOwn.never rfl (pi_range1 rfl T.m_range (pa_cons pe_int pa_nil)) (pg_name (i := 5) sc_law.nd rfl (Or.inl rfl)) (pss_cons (ps_set (i := 8) sc_law.nd rfl (Or.inl rfl) (pe_g (G := (ok__law_bent T)) (hb := T.f__law_bent.bp) (hm := T.f__law_bent.gl) (hk := T.f__law_bent.fn.kp) (hr := hr.mono (by decide)) (hgd := hg) (hx := passL) (ha := (pa_cons (pv 1) (pa_cons (pv 6) pa_nil)))))
      (pss_one (ps_for PassesOwn.never rfl (pi_tup (pe_tup (pa_cons (pv 8) (pa_cons (pe_g (G := (ok__law_bent T)) (hb := T.f__law_bent.bp) (hm := T.f__law_bent.gl) (hk := T.f__law_bent.fn.kp) (hr := hr.mono (by decide)) (hgd := hg) (hx := passL) (ha := (pa_cons (pv 1) (pa_cons (pv 8) pa_nil)))) pa_nil)))) (pg_name (i := 9) sc_law.nd rfl (Or.inr rfl)) (pss_one (ps_if (pt_cmpR (op_neA (ratE T) (hr.mono (by decide)) hg) (pe_lamF (T := [(A.t_law, "law.<locals>.<lambda>")]) (P := A.t_law) (c := A.k_law) T.f__law_said.fn T.f__law_said.bp sc__law_said (by rfl) (Or.inl rfl) T.f__law_said.gl (gv__law_said T) TB_law rfl (List.mem_singleton.mpr rfl) (fun p hp _ => by rw [List.mem_singleton.mp hp] <;> rfl) (hr.mono (by decide)) hg (fun _ _ _ _ _ => rfl) (fun f c' AA' out' s' H' E hr hg => (pe_g (G := (ok_read_burst T)) (hb := T.f_read_burst.bp) (hm := T.f_read_burst.gl) (hk := T.f_read_burst.fn.kp) (hr := hr.mono (by decide)) (hgd := hg) (hx := (passes_call (takes_of rfl rfl rfl rfl) (fun _ _ _ _ h => h))) (ha := (pa_cons (pv 9) pa_nil))))) (pe_g (G := (ok__law_due T)) (hb := T.f__law_due.bp) (hm := T.f__law_due.gl) (hk := T.f__law_due.fn.kp) (hr := hr.mono (by decide)) (hgd := hg) (hx := passL) (ha := (pa_cons (pv 9) pa_nil))) (nomark _)) (pss_one (ps_ret pe_bl)) pss_nil))))))))))))
      (pss_cons (ps_for PassesOwn.never rfl (pi_tup (pe_tup (pa_cons pe_non (pa_cons pe_int (pa_cons pe_bl (pa_cons (pe_tup (pa_cons (pe_mk1 T.r_Ratio (ratI T) (hr.mono (by decide)) hg (pa_cons pe_int pa_nil)) pa_nil)) (pa_cons (pe_lst (pa_cons pe_str pa_nil)) (pa_cons pe_dnewK (pa_cons pe_str (pa_cons pe_str (pa_cons pe_str (pa_cons (pe_m1 PySem.F.slot_str_join PySem.F.type_str_join mt_join pe_str (pe_op op_rep (pe_lst (pa_cons pe_str pa_nil)) pe_int)) (pa_cons (pe_m1 PySem.F.slot_str_join PySem.F.type_str_join mt_join pe_str (pe_op op_rep (pe_lst (pa_cons pe_str pa_nil)) pe_int)) pa_nil))))))))))))) (pg_name (i := 10) sc_law.nd rfl (Or.inr rfl)) (pss_one (ps_if (pt_cmpR (op_neA (ratE T) (hr.mono (by decide)) hg) (pe_lamF (T := [(A.t_law, "law.<locals>.<lambda>")]) (P := A.t_law) (c := A.k_law) T.f__law_said.fn T.f__law_said.bp sc__law_said (by rfl) (Or.inl rfl) T.f__law_said.gl (gv__law_said T) TB_law rfl (List.mem_singleton.mpr rfl) (fun p hp _ => by rw [List.mem_singleton.mp hp] <;> rfl) (hr.mono (by decide)) hg (fun _ _ _ _ _ => rfl) (fun f c' AA' out' s' H' E hr hg => (pe_g (G := (ok_read_burst T)) (hb := T.f_read_burst.bp) (hm := T.f_read_burst.gl) (hk := T.f_read_burst.fn.kp) (hr := hr.mono (by decide)) (hgd := hg) (hx := (passes_call (takes_of rfl rfl rfl rfl) (fun _ _ _ _ h => h))) (ha := (pa_cons (pv 10) pa_nil))))) (pe_g (G := (ok__law_due T)) (hb := T.f__law_due.bp) (hm := T.f__law_due.gl) (hk := T.f__law_due.fn.kp) (hr := hr.mono (by decide)) (hgd := hg) (hx := passL) (ha := (pa_cons (pv 10) pa_nil))) (nomark _)) (pss_one (ps_ret pe_bl)) pss_nil)))
      (pss_one (ps_ret pe_bl)))))
  · obtain ⟨s, ns, rfl, hs, hl, hH, q⟩ := h
    refine ⟨.ref s, rfl, s, ns, [(A.t_law, "law.<locals>.<lambda>")], rfl, hs, hl, tabs_nil (q := fun _ => "law.<locals>.<lambda>") hH, fun p c H' g i => ?_⟩
    have i0 := dw_of (n := 0) (Int.le_refl 0) (Int.le_refl 0) (Int.le_refl 0) (Int.le_refl 0) (Int.le_refl 0) H' i
    refine so_law26 (c := ⟨c, [(A.t_law, "law.<locals>.<lambda>")]⟩) (t := ⟨A.c_BadRatio, A.c_BadTable, A.c_BadWord, A.c_BadBurst, A.c_BadReceiver, A.c_BadNumber, A.c_BadPaper, A.c_BadStyle, A.c_BadRow, A.c_BadText⟩) (C := A.c_Ratio) (x0 := some (.raw (.ref s))) (ten_BadBurst T) (ten_BadText T) (by simp) _ _ H' H' ⟨Gr.refl H', dw_le (by decide) H' i0, fun _ z => nomatch z⟩ i0 ((slots_start (N := ["script", "draw", "turn", "many", "flash", "k", "wording", "item", "bent", "one", "odd"]) (.cons (.raw (.ref s)) .nil)).set (v := .ref p) (.raw (.ref p)) 1) ⟨fun _ _ _ _ _ _ z => z.elim, fun v d H2 g2 i2 r e => ?_, fun _ _ _ _ _ _ z => z.elim, fun _ _ _ _ _ _ z => z.elim⟩
    cases e
    obtain rfl := r.blI
    exact q H2
end
end Bf
namespace Bf
open PySem PySem.Spec PyProof.Rows L2
/-- an error of the class at S is what «except S» names -/
theorem exm_self {K : PySem.W.Frag} {S : Addr} (h1 : PySem.W.subIn K (.ref S) (.type "BaseException") = some true) (h2 : PySem.W.isClsIn K S = true) (h3 : PySem.W.typeIn K (.ref S) = some (.type "type")) (h4 : PySem.W.subIn K (.ref S) (.ref S) = some true) : PySem.W.exmOne K (.ref S) (.ref S) = some true := by
  have h2' : (PySem.W.clsIn K S).isSome = true := h2
  have e1 : (PySem.W.subIn K (.ref S) (.type "BaseException") == some true) = true := by rw [h1] <;> rfl
  have e2 : ((PySem.W.clsIn K S).isSome && PySem.W.typeIn K (.ref S) == some (.type "type")) = true := by
    rw [h2', h3] <;> rfl
  show (if (PySem.W.subIn K (.ref S) (.type "BaseException") == some true) = true then (if ((PySem.W.clsIn K S).isSome && PySem.W.typeIn K (.ref S) == some (.type "type")) = true then PySem.W.subIn K (.ref S) (.ref S) else none) else none) = some true
  rw [if_pos e1, if_pos e2]
  exact h4
open PySem.W PySem.Calls PySem.HandSPX in
theorem all_mk {l : PySem.W.OpenLaw} {w : World} {K : PySem.W.Frag} {h : Heap} {mg : Str → Option Value} {fa : Addr} (X : K.In h) (G : h.Ns mainGlobals mg) (hfa : mg "law" = some (.ref fa)) (hl : l.prog = PySem.Challenge.pw_beamframes_k26_whole_texts_of_bursts)
    {f1 f2 f3 f4 f5 f6 f7 f8 f9 f10 f11 f12 f13 f14 f15 f16 f17 f18 f19 f20 f21 f22 : Addr}
    {od1 an1 : Option Addr} {sl1 : Array (Option Value)} {oc1 kV1 dc1 pm1 cd1 ct1 : Value}
    (a1 : PySem.W.nsIn K mainGlobals "is_whole" = some (some (.ref f1))) (l1 : K.lookup f1 = some ⟨oc1, od1, .func (PySem.W.fnOf "is_whole" "is_whole" (defArgs s_is_whole) (defBody s_is_whole) (defScope s_is_whole) .none kV1 dc1 pm1 an1 cd1 ct1), sl1⟩) (c1 : PySem.W.codeIn K cd1 "is_whole" = true) (k1 : PySem.W.keepIn K (.ref f1) = true)
    {od2 an2 : Option Addr} {sl2 : Array (Option Value)} {oc2 kV2 dc2 pm2 cd2 ct2 : Value}
    (a2 : PySem.W.nsIn K mainGlobals "is_numeral" = some (some (.ref f2))) (l2 : K.lookup f2 = some ⟨oc2, od2, .func (PySem.W.fnOf "is_numeral" "is_numeral" (defArgs s_is_numeral) (defBody s_is_numeral) (defScope s_is_numeral) .none kV2 dc2 pm2 an2 cd2 ct2), sl2⟩) (c2 : PySem.W.codeIn K cd2 "is_numeral" = true) (k2 : PySem.W.keepIn K (.ref f2) = true)
    {od3 an3 : Option Addr} {sl3 : Array (Option Value)} {oc3 kV3 dc3 pm3 cd3 ct3 : Value}
    (a3 : PySem.W.nsIn K mainGlobals "decimal_of" = some (some (.ref f3))) (l3 : K.lookup f3 = some ⟨oc3, od3, .func (PySem.W.fnOf "decimal_of" "decimal_of" (defArgs s_decimal_of) (defBody s_decimal_of) (defScope s_decimal_of) .none kV3 dc3 pm3 an3 cd3 ct3), sl3⟩) (c3 : PySem.W.codeIn K cd3 "decimal_of" = true) (k3 : PySem.W.keepIn K (.ref f3) = true)
    {od4 an4 : Option Addr} {sl4 : Array (Option Value)} {oc4 kV4 dc4 pm4 cd4 ct4 : Value}
    (a4 : PySem.W.nsIn K mainGlobals "need_burst" = some (some (.ref f4))) (l4 : K.lookup f4 = some ⟨oc4, od4, .func (PySem.W.fnOf "need_burst" "need_burst" (defArgs s_need_burst) (defBody s_need_burst) (defScope s_need_burst) .none kV4 dc4 pm4 an4 cd4 ct4), sl4⟩) (c4 : PySem.W.codeIn K cd4 "need_burst" = true) (k4 : PySem.W.keepIn K (.ref f4) = true)
    {od5 an5 : Option Addr} {sl5 : Array (Option Value)} {oc5 kV5 dc5 pm5 cd5 ct5 : Value}
    (a5 : PySem.W.nsIn K mainGlobals "is_burst" = some (some (.ref f5))) (l5 : K.lookup f5 = some ⟨oc5, od5, .func (PySem.W.fnOf "is_burst" "is_burst" (defArgs s_is_burst) (defBody s_is_burst) (defScope s_is_burst) .none kV5 dc5 pm5 an5 cd5 ct5), sl5⟩) (c5 : PySem.W.codeIn K cd5 "is_burst" = true) (k5 : PySem.W.keepIn K (.ref f5) = true)
    {od6 an6 : Option Addr} {sl6 : Array (Option Value)} {oc6 kV6 dc6 pm6 cd6 ct6 : Value}
    (a6 : PySem.W.nsIn K mainGlobals "is_above_zero" = some (some (.ref f6))) (l6 : K.lookup f6 = some ⟨oc6, od6, .func (PySem.W.fnOf "is_above_zero" "is_above_zero" (defArgs s_is_above_zero) (defBody s_is_above_zero) (defScope s_is_above_zero) .none kV6 dc6 pm6 an6 cd6 ct6), sl6⟩) (c6 : PySem.W.codeIn K cd6 "is_above_zero" = true) (k6 : PySem.W.keepIn K (.ref f6) = true)
    {od7 an7 : Option Addr} {sl7 : Array (Option Value)} {oc7 kV7 dc7 pm7 cd7 ct7 : Value}
    (a7 : PySem.W.nsIn K mainGlobals "burst_text" = some (some (.ref f7))) (l7 : K.lookup f7 = some ⟨oc7, od7, .func (PySem.W.fnOf "burst_text" "burst_text" (defArgs s_burst_text) (defBody s_burst_text) (defScope s_burst_text) .none kV7 dc7 pm7 an7 cd7 ct7), sl7⟩) (c7 : PySem.W.codeIn K cd7 "burst_text" = true) (k7 : PySem.W.keepIn K (.ref f7) = true)
    {od8 an8 : Option Addr} {sl8 : Array (Option Value)} {oc8 kV8 dc8 pm8 cd8 ct8 : Value}
    (a8 : PySem.W.nsIn K mainGlobals "read_burst" = some (some (.ref f8))) (l8 : K.lookup f8 = some ⟨oc8, od8, .func (PySem.W.fnOf "read_burst" "read_burst" (defArgs s_read_burst) (defBody s_read_burst) (defScope s_read_burst) .none kV8 dc8 pm8 an8 cd8 ct8), sl8⟩) (c8 : PySem.W.codeIn K cd8 "read_burst" = true) (k8 : PySem.W.keepIn K (.ref f8) = true)
    {od9 an9 : Option Addr} {sl9 : Array (Option Value)} {oc9 kV9 dc9 pm9 cd9 ct9 : Value}
    (a9 : PySem.W.nsIn K mainGlobals "split_text" = some (some (.ref f9))) (l9 : K.lookup f9 = some ⟨oc9, od9, .func (PySem.W.fnOf "split_text" "split_text" (defArgs s_split_text) (defBody s_split_text) (defScope s_split_text) .none kV9 dc9 pm9 an9 cd9 ct9), sl9⟩) (c9 : PySem.W.codeIn K cd9 "split_text" = true) (k9 : PySem.W.keepIn K (.ref f9) = true)
    {od10 an10 : Option Addr} {sl10 : Array (Option Value)} {oc10 kV10 dc10 pm10 cd10 ct10 : Value}
    (a10 : PySem.W.nsIn K mainGlobals "ratio_of_word" = some (some (.ref f10))) (l10 : K.lookup f10 = some ⟨oc10, od10, .func (PySem.W.fnOf "ratio_of_word" "ratio_of_word" (defArgs s_ratio_of_word) (defBody s_ratio_of_word) (defScope s_ratio_of_word) .none kV10 dc10 pm10 an10 cd10 ct10), sl10⟩) (c10 : PySem.W.codeIn K cd10 "ratio_of_word" = true) (k10 : PySem.W.keepIn K (.ref f10) = true)
    {od11 an11 : Option Addr} {sl11 : Array (Option Value)} {oc11 kV11 dc11 pm11 cd11 ct11 : Value}
    (a11 : PySem.W.nsIn K mainGlobals "_law_begin" = some (some (.ref f11))) (l11 : K.lookup f11 = some ⟨oc11, od11, .func (PySem.W.fnOf "_law_begin" "_law_begin" (defArgs s__law_begin) (defBody s__law_begin) (defScope s__law_begin) .none kV11 dc11 pm11 an11 cd11 ct11), sl11⟩) (c11 : PySem.W.codeIn K cd11 "_law_begin" = true) (k11 : PySem.W.keepIn K (.ref f11) = true)
    {od12 an12 : Option Addr} {sl12 : Array (Option Value)} {oc12 kV12 dc12 pm12 cd12 ct12 : Value}
    (a12 : PySem.W.nsIn K mainGlobals "_law_next" = some (some (.ref f12))) (l12 : K.lookup f12 = some ⟨oc12, od12, .func (PySem.W.fnOf "_law_next" "_law_next" (defArgs s__law_next) (defBody s__law_next) (defScope s__law_next) .none kV12 dc12 pm12 an12 cd12 ct12), sl12⟩) (c12 : PySem.W.codeIn K cd12 "_law_next" = true) (k12 : PySem.W.keepIn K (.ref f12) = true)
    {od13 an13 : Option Addr} {sl13 : Array (Option Value)} {oc13 kV13 dc13 pm13 cd13 ct13 : Value}
    (a13 : PySem.W.nsIn K mainGlobals "_law_pick" = some (some (.ref f13))) (l13 : K.lookup f13 = some ⟨oc13, od13, .func (PySem.W.fnOf "_law_pick" "_law_pick" (defArgs s__law_pick) (defBody s__law_pick) (defScope s__law_pick) .none kV13 dc13 pm13 an13 cd13 ct13), sl13⟩) (c13 : PySem.W.codeIn K cd13 "_law_pick" = true) (k13 : PySem.W.keepIn K (.ref f13) = true)
    {od14 an14 : Option Addr} {sl14 : Array (Option Value)} {oc14 kV14 dc14 pm14 cd14 ct14 : Value}
    (a14 : PySem.W.nsIn K mainGlobals "_law_fault" = some (some (.ref f14))) (l14 : K.lookup f14 = some ⟨oc14, od14, .func (PySem.W.fnOf "_law_fault" "_law_fault" (defArgs s__law_fault) (defBody s__law_fault) (defScope s__law_fault) .none kV14 dc14 pm14 an14 cd14 ct14), sl14⟩) (c14 : PySem.W.codeIn K cd14 "_law_fault" = true) (k14 : PySem.W.keepIn K (.ref f14) = true)
    {od15 an15 : Option Addr} {sl15 : Array (Option Value)} {oc15 kV15 dc15 pm15 cd15 ct15 : Value}
    (a15 : PySem.W.nsIn K mainGlobals "_law_said" = some (some (.ref f15))) (l15 : K.lookup f15 = some ⟨oc15, od15, .func (PySem.W.fnOf "_law_said" "_law_said" (defArgs s__law_said) (defBody s__law_said) (defScope s__law_said) .none kV15 dc15 pm15 an15 cd15 ct15), sl15⟩) (c15 : PySem.W.codeIn K cd15 "_law_said" = true) (k15 : PySem.W.keepIn K (.ref f15) = true)
    {od16 an16 : Option Addr} {sl16 : Array (Option Value)} {oc16 kV16 dc16 pm16 cd16 ct16 : Value}
    (a16 : PySem.W.nsIn K mainGlobals "_law_number" = some (some (.ref f16))) (l16 : K.lookup f16 = some ⟨oc16, od16, .func (PySem.W.fnOf "_law_number" "_law_number" (defArgs s__law_number) (defBody s__law_number) (defScope s__law_number) .none kV16 dc16 pm16 an16 cd16 ct16), sl16⟩) (c16 : PySem.W.codeIn K cd16 "_law_number" = true) (k16 : PySem.W.keepIn K (.ref f16) = true)
    {od17 an17 : Option Addr} {sl17 : Array (Option Value)} {oc17 kV17 dc17 pm17 cd17 ct17 : Value}
    (a17 : PySem.W.nsIn K mainGlobals "_law_ratio" = some (some (.ref f17))) (l17 : K.lookup f17 = some ⟨oc17, od17, .func (PySem.W.fnOf "_law_ratio" "_law_ratio" (defArgs s__law_ratio) (defBody s__law_ratio) (defScope s__law_ratio) .none kV17 dc17 pm17 an17 cd17 ct17), sl17⟩) (c17 : PySem.W.codeIn K cd17 "_law_ratio" = true) (k17 : PySem.W.keepIn K (.ref f17) = true)
    {od18 an18 : Option Addr} {sl18 : Array (Option Value)} {oc18 kV18 dc18 pm18 cd18 ct18 : Value}
    (a18 : PySem.W.nsIn K mainGlobals "_law_due" = some (some (.ref f18))) (l18 : K.lookup f18 = some ⟨oc18, od18, .func (PySem.W.fnOf "_law_due" "_law_due" (defArgs s__law_due) (defBody s__law_due) (defScope s__law_due) .none kV18 dc18 pm18 an18 cd18 ct18), sl18⟩) (c18 : PySem.W.codeIn K cd18 "_law_due" = true) (k18 : PySem.W.keepIn K (.ref f18) = true)
    {od19 an19 : Option Addr} {sl19 : Array (Option Value)} {oc19 kV19 dc19 pm19 cd19 ct19 : Value}
    (a19 : PySem.W.nsIn K mainGlobals "_law_bent" = some (some (.ref f19))) (l19 : K.lookup f19 = some ⟨oc19, od19, .func (PySem.W.fnOf "_law_bent" "_law_bent" (defArgs s__law_bent) (defBody s__law_bent) (defScope s__law_bent) .none kV19 dc19 pm19 an19 cd19 ct19), sl19⟩) (c19 : PySem.W.codeIn K cd19 "_law_bent" = true) (k19 : PySem.W.keepIn K (.ref f19) = true)
    {od20 an20 : Option Addr} {sl20 : Array (Option Value)} {oc20 kV20 dc20 pm20 cd20 ct20 : Value}
    (a20 : PySem.W.nsIn K mainGlobals "law" = some (some (.ref f20))) (l20 : K.lookup f20 = some ⟨oc20, od20, .func (PySem.W.fnOf "law" "law" (defArgs s_law) (defBody s_law) (defScope s_law) .none kV20 dc20 pm20 an20 cd20 ct20), sl20⟩) (c20 : PySem.W.codeIn K cd20 "law" = true) (k20 : PySem.W.keepIn K (.ref f20) = true)
    {od21 an21 : Option Addr} {sl21 : Array (Option Value)} {oc21 kV21 dc21 pm21 cd21 ct21 : Value}
     (l21 : K.lookup f21 = some ⟨oc21, od21, .func (PySem.W.fnOf "read" "Ratio.read" (defArgs s_o_read) (defBody s_o_read) (defScope s_o_read) .none kV21 dc21 pm21 an21 cd21 ct21), sl21⟩) (c21 : PySem.W.codeIn K cd21 "Ratio.read" = true) (k21 : PySem.W.keepIn K (.ref f21) = true)
    {od22 an22 : Option Addr} {sl22 : Array (Option Value)} {oc22 kV22 dc22 pm22 cd22 ct22 : Value}
     (l22 : K.lookup f22 = some ⟨oc22, od22, .func (PySem.W.fnOf "__str__" "Ratio.__str__" (defArgs s_o_str) (defBody s_o_str) (defScope s_o_str) .none kV22 dc22 pm22 an22 cd22 ct22), sl22⟩) (c22 : PySem.W.codeIn K cd22 "Ratio.__str__" = true) (k22 : PySem.W.keepIn K (.ref f22) = true)
    (z1 : PySem.W.nsIn K mainGlobals "all" = some none)
    (z2 : PySem.W.nsIn K mainGlobals "bool" = some none)
    (z3 : PySem.W.nsIn K mainGlobals "enumerate" = some none)
    (z4 : PySem.W.nsIn K mainGlobals "int" = some none)
    (z5 : PySem.W.nsIn K mainGlobals "isinstance" = some none)
    (z6 : PySem.W.nsIn K mainGlobals "len" = some none)
    (z7 : PySem.W.nsIn K mainGlobals "range" = some none)
    (z8 : PySem.W.nsIn K mainGlobals "str" = some none)
    (z9 : PySem.W.nsIn K mainGlobals "tuple" = some none)
    {q1 : Tok} (v1 : PySem.W.nsIn K mainGlobals "CHUNK" = some (some (.int 10000000000000000000000000000000000000000000000000000000000000000 q1)))
    {q2 : Tok} (v2 : PySem.W.nsIn K mainGlobals "CHUNK_WIDTH" = some (some (.int 64 q2)))
    {q3 : Tok} (v3 : PySem.W.nsIn K mainGlobals "MOST_DIGITS" = some (some (.int 40 q3)))
    {q4 : Tok} (v4 : PySem.W.nsIn K mainGlobals "MOST_ITEMS" = some (some (.int 63 q4)))
    {C1 fI1 cc1 cda1 B1_1 xN1 : Addr} {xnm1 xqn1 fl1 : Str} {xbs1 : List Value} {xsn1 : List Str} {xsub1 : List Value} {xab1 : Bool} {xcol1 : Option Bool} {xdd1 : Option Addr} {xm10 xm11 xm12 xm13 xm15 : Option Value}
    {xoc1 xcl1 xkl1 xdo1 xpm1 xct1 : Value} {xod1 xcd1 xkd1 xan1 : Option Addr} {xos1 xcs1 xks1 : Array (Option Value)} {xvs1 : Array Value} {xtf1 : Tok}
    (xa1 : PySem.W.nsIn K mainGlobals "BadRatio" = some (some (.ref C1))) (xb1 : K.lookup C1 = some (excClassObj xnm1 xqn1 C1 xN1 xbs1 [.ref B1_1, .type "ValueError", .type "Exception", .type "BaseException", .type "object"] true xsn1 xsub1 xab1 xcol1 xdd1 xm10 xm11 xm12 xm13 xm15 "ValueError.__new__"))
    (xc1 : PySem.W.findIn K (.ref C1) "__setattr__" = some (some (.builtin "object.__setattr__"))) (xd1 : PySem.W.findIn K (.ref C1) "__getattribute__" = some (some (.builtin "BaseException.__getattribute__"))) (xe1 : PySem.W.findIn K (.ref C1) "__getattr__" = some none) (xf1 : PySem.W.findIn K (.ref C1) "given" = some none)
    (xg1 : PySem.W.findIn K (.ref C1) "__init__" = some (some (.ref fI1))) (xh1 : PySem.W.typeIn K (.ref fI1) = some (.type "function"))
    (xi1 : K.lookup fI1 = some ⟨xoc1, xod1, .func (fnX "__init__" "BadRatio.__init__" (xA "given" ⟨7, 17, 7, 21⟩ ⟨7, 23, 7, 28⟩) (xB "given" "this is no ratio that may stand here" (fun n => match n with | 1 => ⟨8, 8, 8, 13⟩ | 2 => ⟨8, 8, 8, 15⟩ | 3 => ⟨8, 8, 8, 24⟩ | 4 => ⟨8, 25, 8, 63⟩ | 5 => ⟨8, 8, 8, 64⟩ | 6 => ⟨8, 8, 8, 64⟩ | 7 => ⟨9, 8, 9, 12⟩ | 8 => ⟨9, 8, 9, 18⟩ | 9 => ⟨9, 21, 9, 26⟩ | 10 => ⟨9, 8, 9, 26⟩ | _ => ⟨0, 0, 0, 0⟩)) (xS "given") [("__class__", cc1)] .none .none xdo1 xpm1 xan1 (.ref cda1) xct1), xos1⟩)
    (xj1 : PySem.W.codeIn K (.ref cda1) "BadRatio.__init__" = true) (xk1 : K.lookup cc1 = some ⟨xcl1, xcd1, .cell (some (.ref C1)), xcs1⟩) (xl1 : K.lookup cda1 = some ⟨xkl1, xkd1, .fields xvs1, xks1⟩) (xw1 : xvs1[2]? = some (.str fl1 xtf1)) (xx1 : ((PySem.Challenge.pw_beamframes_k26_whole_texts_of_bursts.main.file : Str) == fl1) = true)
    (xo1 : PySem.W.keepIn K (.ref C1) = true) (xp1 : PySem.W.subIn K (.ref C1) (.type "BaseException") = some true) (xq1 : PySem.W.typeIn K (.ref C1) = some (.type "type")) (xr1 : PySem.W.hasDictIn K C1 = true) (xs1 : PySem.W.isClsIn K C1 = true) (xt1 : PySem.W.subIn K (.ref C1) (.ref C1) = some true)
    (xu1 : PySem.W.subIn K (.ref C1) (.type "ValueError") = some true) (xv1 : PySem.W.mroIn K C1 (.ref C1) = some true) (xy1 : ks_superIn K C1 C1 "__init__" = some (some (.builtin "ValueError.__init__"))) (xz1 : PySem.W.nsIn K cStatics "thirdparty.any" = some none)
    {C2 fI2 cc2 cda2 B2_1 xN2 : Addr} {xnm2 xqn2 fl2 : Str} {xbs2 : List Value} {xsn2 : List Str} {xsub2 : List Value} {xab2 : Bool} {xcol2 : Option Bool} {xdd2 : Option Addr} {xm20 xm21 xm22 xm23 xm25 : Option Value}
    {xoc2 xcl2 xkl2 xdo2 xpm2 xct2 : Value} {xod2 xcd2 xkd2 xan2 : Option Addr} {xos2 xcs2 xks2 : Array (Option Value)} {xvs2 : Array Value} {xtf2 : Tok}
    (xa2 : PySem.W.nsIn K mainGlobals "BadTable" = some (some (.ref C2))) (xb2 : K.lookup C2 = some (excClassObj xnm2 xqn2 C2 xN2 xbs2 [.ref B2_1, .type "ValueError", .type "Exception", .type "BaseException", .type "object"] true xsn2 xsub2 xab2 xcol2 xdd2 xm20 xm21 xm22 xm23 xm25 "ValueError.__new__"))
    (xc2 : PySem.W.findIn K (.ref C2) "__setattr__" = some (some (.builtin "object.__setattr__"))) (xd2 : PySem.W.findIn K (.ref C2) "__getattribute__" = some (some (.builtin "BaseException.__getattribute__"))) (xe2 : PySem.W.findIn K (.ref C2) "__getattr__" = some none) (xf2 : PySem.W.findIn K (.ref C2) "part" = some none)
    (xg2 : PySem.W.findIn K (.ref C2) "__init__" = some (some (.ref fI2))) (xh2 : PySem.W.typeIn K (.ref fI2) = some (.type "function"))
    (xi2 : K.lookup fI2 = some ⟨xoc2, xod2, .func (fnX "__init__" "BadTable.__init__" (xA "part" ⟨12, 17, 12, 21⟩ ⟨12, 23, 12, 27⟩) (xB "part" "a part of the table is not as described" (fun n => match n with | 1 => ⟨13, 8, 13, 13⟩ | 2 => ⟨13, 8, 13, 15⟩ | 3 => ⟨13, 8, 13, 24⟩ | 4 => ⟨13, 25, 13, 66⟩ | 5 => ⟨13, 8, 13, 67⟩ | 6 => ⟨13, 8, 13, 67⟩ | 7 => ⟨14, 8, 14, 12⟩ | 8 => ⟨14, 8, 14, 17⟩ | 9 => ⟨14, 20, 14, 24⟩ | 10 => ⟨14, 8, 14, 24⟩ | _ => ⟨0, 0, 0, 0⟩)) (xS "part") [("__class__", cc2)] .none .none xdo2 xpm2 xan2 (.ref cda2) xct2), xos2⟩)
    (xj2 : PySem.W.codeIn K (.ref cda2) "BadTable.__init__" = true) (xk2 : K.lookup cc2 = some ⟨xcl2, xcd2, .cell (some (.ref C2)), xcs2⟩) (xl2 : K.lookup cda2 = some ⟨xkl2, xkd2, .fields xvs2, xks2⟩) (xw2 : xvs2[2]? = some (.str fl2 xtf2)) (xx2 : ((PySem.Challenge.pw_beamframes_k26_whole_texts_of_bursts.main.file : Str) == fl2) = true)
    (xo2 : PySem.W.keepIn K (.ref C2) = true) (xp2 : PySem.W.subIn K (.ref C2) (.type "BaseException") = some true) (xq2 : PySem.W.typeIn K (.ref C2) = some (.type "type")) (xr2 : PySem.W.hasDictIn K C2 = true) (xs2 : PySem.W.isClsIn K C2 = true) (xt2 : PySem.W.subIn K (.ref C2) (.ref C2) = some true)
    (xu2 : PySem.W.subIn K (.ref C2) (.type "ValueError") = some true) (xv2 : PySem.W.mroIn K C2 (.ref C2) = some true) (xy2 : ks_superIn K C2 C2 "__init__" = some (some (.builtin "ValueError.__init__"))) (xz2 : PySem.W.nsIn K cStatics "thirdparty.any" = some none)
    {C3 fI3 cc3 cda3 B3_1 xN3 : Addr} {xnm3 xqn3 fl3 : Str} {xbs3 : List Value} {xsn3 : List Str} {xsub3 : List Value} {xab3 : Bool} {xcol3 : Option Bool} {xdd3 : Option Addr} {xm30 xm31 xm32 xm33 xm35 : Option Value}
    {xoc3 xcl3 xkl3 xdo3 xpm3 xct3 : Value} {xod3 xcd3 xkd3 xan3 : Option Addr} {xos3 xcs3 xks3 : Array (Option Value)} {xvs3 : Array Value} {xtf3 : Tok}
    (xa3 : PySem.W.nsIn K mainGlobals "BadWord" = some (some (.ref C3))) (xb3 : K.lookup C3 = some (excClassObj xnm3 xqn3 C3 xN3 xbs3 [.ref B3_1, .type "ValueError", .type "Exception", .type "BaseException", .type "object"] true xsn3 xsub3 xab3 xcol3 xdd3 xm30 xm31 xm32 xm33 xm35 "ValueError.__new__"))
    (xc3 : PySem.W.findIn K (.ref C3) "__setattr__" = some (some (.builtin "object.__setattr__"))) (xd3 : PySem.W.findIn K (.ref C3) "__getattribute__" = some (some (.builtin "BaseException.__getattribute__"))) (xe3 : PySem.W.findIn K (.ref C3) "__getattr__" = some none) (xf3 : PySem.W.findIn K (.ref C3) "given" = some none)
    (xg3 : PySem.W.findIn K (.ref C3) "__init__" = some (some (.ref fI3))) (xh3 : PySem.W.typeIn K (.ref fI3) = some (.type "function"))
    (xi3 : K.lookup fI3 = some ⟨xoc3, xod3, .func (fnX "__init__" "BadWord.__init__" (xA "given" ⟨17, 17, 17, 21⟩ ⟨17, 23, 17, 28⟩) (xB "given" "this is no word for the table" (fun n => match n with | 1 => ⟨18, 8, 18, 13⟩ | 2 => ⟨18, 8, 18, 15⟩ | 3 => ⟨18, 8, 18, 24⟩ | 4 => ⟨18, 25, 18, 56⟩ | 5 => ⟨18, 8, 18, 57⟩ | 6 => ⟨18, 8, 18, 57⟩ | 7 => ⟨19, 8, 19, 12⟩ | 8 => ⟨19, 8, 19, 18⟩ | 9 => ⟨19, 21, 19, 26⟩ | 10 => ⟨19, 8, 19, 26⟩ | _ => ⟨0, 0, 0, 0⟩)) (xS "given") [("__class__", cc3)] .none .none xdo3 xpm3 xan3 (.ref cda3) xct3), xos3⟩)
    (xj3 : PySem.W.codeIn K (.ref cda3) "BadWord.__init__" = true) (xk3 : K.lookup cc3 = some ⟨xcl3, xcd3, .cell (some (.ref C3)), xcs3⟩) (xl3 : K.lookup cda3 = some ⟨xkl3, xkd3, .fields xvs3, xks3⟩) (xw3 : xvs3[2]? = some (.str fl3 xtf3)) (xx3 : ((PySem.Challenge.pw_beamframes_k26_whole_texts_of_bursts.main.file : Str) == fl3) = true)
    (xo3 : PySem.W.keepIn K (.ref C3) = true) (xp3 : PySem.W.subIn K (.ref C3) (.type "BaseException") = some true) (xq3 : PySem.W.typeIn K (.ref C3) = some (.type "type")) (xr3 : PySem.W.hasDictIn K C3 = true) (xs3 : PySem.W.isClsIn K C3 = true) (xt3 : PySem.W.subIn K (.ref C3) (.ref C3) = some true)
    (xu3 : PySem.W.subIn K (.ref C3) (.type "ValueError") = some true) (xv3 : PySem.W.mroIn K C3 (.ref C3) = some true) (xy3 : ks_superIn K C3 C3 "__init__" = some (some (.builtin "ValueError.__init__"))) (xz3 : PySem.W.nsIn K cStatics "thirdparty.any" = some none)
    {C4 fI4 cc4 cda4 B4_1 xN4 : Addr} {xnm4 xqn4 fl4 : Str} {xbs4 : List Value} {xsn4 : List Str} {xsub4 : List Value} {xab4 : Bool} {xcol4 : Option Bool} {xdd4 : Option Addr} {xm40 xm41 xm42 xm43 xm45 : Option Value}
    {xoc4 xcl4 xkl4 xdo4 xpm4 xct4 : Value} {xod4 xcd4 xkd4 xan4 : Option Addr} {xos4 xcs4 xks4 : Array (Option Value)} {xvs4 : Array Value} {xtf4 : Tok}
    (xa4 : PySem.W.nsIn K mainGlobals "BadBurst" = some (some (.ref C4))) (xb4 : K.lookup C4 = some (excClassObj xnm4 xqn4 C4 xN4 xbs4 [.ref B4_1, .type "ValueError", .type "Exception", .type "BaseException", .type "object"] true xsn4 xsub4 xab4 xcol4 xdd4 xm40 xm41 xm42 xm43 xm45 "ValueError.__new__"))
    (xc4 : PySem.W.findIn K (.ref C4) "__setattr__" = some (some (.builtin "object.__setattr__"))) (xd4 : PySem.W.findIn K (.ref C4) "__getattribute__" = some (some (.builtin "BaseException.__getattribute__"))) (xe4 : PySem.W.findIn K (.ref C4) "__getattr__" = some none) (xf4 : PySem.W.findIn K (.ref C4) "given" = some none)
    (xg4 : PySem.W.findIn K (.ref C4) "__init__" = some (some (.ref fI4))) (xh4 : PySem.W.typeIn K (.ref fI4) = some (.type "function"))
    (xi4 : K.lookup fI4 = some ⟨xoc4, xod4, .func (fnX "__init__" "BadBurst.__init__" (xA "given" ⟨22, 17, 22, 21⟩ ⟨22, 23, 22, 28⟩) (xB "given" "this is no burst" (fun n => match n with | 1 => ⟨23, 8, 23, 13⟩ | 2 => ⟨23, 8, 23, 15⟩ | 3 => ⟨23, 8, 23, 24⟩ | 4 => ⟨23, 25, 23, 43⟩ | 5 => ⟨23, 8, 23, 44⟩ | 6 => ⟨23, 8, 23, 44⟩ | 7 => ⟨24, 8, 24, 12⟩ | 8 => ⟨24, 8, 24, 18⟩ | 9 => ⟨24, 21, 24, 26⟩ | 10 => ⟨24, 8, 24, 26⟩ | _ => ⟨0, 0, 0, 0⟩)) (xS "given") [("__class__", cc4)] .none .none xdo4 xpm4 xan4 (.ref cda4) xct4), xos4⟩)
    (xj4 : PySem.W.codeIn K (.ref cda4) "BadBurst.__init__" = true) (xk4 : K.lookup cc4 = some ⟨xcl4, xcd4, .cell (some (.ref C4)), xcs4⟩) (xl4 : K.lookup cda4 = some ⟨xkl4, xkd4, .fields xvs4, xks4⟩) (xw4 : xvs4[2]? = some (.str fl4 xtf4)) (xx4 : ((PySem.Challenge.pw_beamframes_k26_whole_texts_of_bursts.main.file : Str) == fl4) = true)
    (xo4 : PySem.W.keepIn K (.ref C4) = true) (xp4 : PySem.W.subIn K (.ref C4) (.type "BaseException") = some true) (xq4 : PySem.W.typeIn K (.ref C4) = some (.type "type")) (xr4 : PySem.W.hasDictIn K C4 = true) (xs4 : PySem.W.isClsIn K C4 = true) (xt4 : PySem.W.subIn K (.ref C4) (.ref C4) = some true)
    (xu4 : PySem.W.subIn K (.ref C4) (.type "ValueError") = some true) (xv4 : PySem.W.mroIn K C4 (.ref C4) = some true) (xy4 : ks_superIn K C4 C4 "__init__" = some (some (.builtin "ValueError.__init__"))) (xz4 : PySem.W.nsIn K cStatics "thirdparty.any" = some none)
    {C5 fI5 cc5 cda5 B5_1 xN5 : Addr} {xnm5 xqn5 fl5 : Str} {xbs5 : List Value} {xsn5 : List Str} {xsub5 : List Value} {xab5 : Bool} {xcol5 : Option Bool} {xdd5 : Option Addr} {xm50 xm51 xm52 xm53 xm55 : Option Value}
    {xoc5 xcl5 xkl5 xdo5 xpm5 xct5 : Value} {xod5 xcd5 xkd5 xan5 : Option Addr} {xos5 xcs5 xks5 : Array (Option Value)} {xvs5 : Array Value} {xtf5 : Tok}
    (xa5 : PySem.W.nsIn K mainGlobals "BadReceiver" = some (some (.ref C5))) (xb5 : K.lookup C5 = some (excClassObj xnm5 xqn5 C5 xN5 xbs5 [.ref B5_1, .type "ValueError", .type "Exception", .type "BaseException", .type "object"] true xsn5 xsub5 xab5 xcol5 xdd5 xm50 xm51 xm52 xm53 xm55 "ValueError.__new__"))
    (xc5 : PySem.W.findIn K (.ref C5) "__setattr__" = some (some (.builtin "object.__setattr__"))) (xd5 : PySem.W.findIn K (.ref C5) "__getattribute__" = some (some (.builtin "BaseException.__getattribute__"))) (xe5 : PySem.W.findIn K (.ref C5) "__getattr__" = some none) (xf5 : PySem.W.findIn K (.ref C5) "place" = some none)
    (xg5 : PySem.W.findIn K (.ref C5) "__init__" = some (some (.ref fI5))) (xh5 : PySem.W.typeIn K (.ref fI5) = some (.type "function"))
    (xi5 : K.lookup fI5 = some ⟨xoc5, xod5, .func (fnX "__init__" "BadReceiver.__init__" (xA "place" ⟨27, 17, 27, 21⟩ ⟨27, 23, 27, 28⟩) (xB "place" "the receiver is not as described" (fun n => match n with | 1 => ⟨28, 8, 28, 13⟩ | 2 => ⟨28, 8, 28, 15⟩ | 3 => ⟨28, 8, 28, 24⟩ | 4 => ⟨28, 25, 28, 59⟩ | 5 => ⟨28, 8, 28, 60⟩ | 6 => ⟨28, 8, 28, 60⟩ | 7 => ⟨29, 8, 29, 12⟩ | 8 => ⟨29, 8, 29, 18⟩ | 9 => ⟨29, 21, 29, 26⟩ | 10 => ⟨29, 8, 29, 26⟩ | _ => ⟨0, 0, 0, 0⟩)) (xS "place") [("__class__", cc5)] .none .none xdo5 xpm5 xan5 (.ref cda5) xct5), xos5⟩)
    (xj5 : PySem.W.codeIn K (.ref cda5) "BadReceiver.__init__" = true) (xk5 : K.lookup cc5 = some ⟨xcl5, xcd5, .cell (some (.ref C5)), xcs5⟩) (xl5 : K.lookup cda5 = some ⟨xkl5, xkd5, .fields xvs5, xks5⟩) (xw5 : xvs5[2]? = some (.str fl5 xtf5)) (xx5 : ((PySem.Challenge.pw_beamframes_k26_whole_texts_of_bursts.main.file : Str) == fl5) = true)
    (xo5 : PySem.W.keepIn K (.ref C5) = true) (xp5 : PySem.W.subIn K (.ref C5) (.type "BaseException") = some true) (xq5 : PySem.W.typeIn K (.ref C5) = some (.type "type")) (xr5 : PySem.W.hasDictIn K C5 = true) (xs5 : PySem.W.isClsIn K C5 = true) (xt5 : PySem.W.subIn K (.ref C5) (.ref C5) = some true)
    (xu5 : PySem.W.subIn K (.ref C5) (.type "ValueError") = some true) (xv5 : PySem.W.mroIn K C5 (.ref C5) = some true) (xy5 : ks_superIn K C5 C5 "__init__" = some (some (.builtin "ValueError.__init__"))) (xz5 : PySem.W.nsIn K cStatics "thirdparty.any" = some none)
    {C6 fI6 cc6 cda6 B6_1 xN6 : Addr} {xnm6 xqn6 fl6 : Str} {xbs6 : List Value} {xsn6 : List Str} {xsub6 : List Value} {xab6 : Bool} {xcol6 : Option Bool} {xdd6 : Option Addr} {xm60 xm61 xm62 xm63 xm65 : Option Value}
    {xoc6 xcl6 xkl6 xdo6 xpm6 xct6 : Value} {xod6 xcd6 xkd6 xan6 : Option Addr} {xos6 xcs6 xks6 : Array (Option Value)} {xvs6 : Array Value} {xtf6 : Tok}
    (xa6 : PySem.W.nsIn K mainGlobals "BadNumber" = some (some (.ref C6))) (xb6 : K.lookup C6 = some (excClassObj xnm6 xqn6 C6 xN6 xbs6 [.ref B6_1, .type "ValueError", .type "Exception", .type "BaseException", .type "object"] true xsn6 xsub6 xab6 xcol6 xdd6 xm60 xm61 xm62 xm63 xm65 "ValueError.__new__"))
    (xc6 : PySem.W.findIn K (.ref C6) "__setattr__" = some (some (.builtin "object.__setattr__"))) (xd6 : PySem.W.findIn K (.ref C6) "__getattribute__" = some (some (.builtin "BaseException.__getattribute__"))) (xe6 : PySem.W.findIn K (.ref C6) "__getattr__" = some none) (xf6 : PySem.W.findIn K (.ref C6) "given" = some none)
    (xg6 : PySem.W.findIn K (.ref C6) "__init__" = some (some (.ref fI6))) (xh6 : PySem.W.typeIn K (.ref fI6) = some (.type "function"))
    (xi6 : K.lookup fI6 = some ⟨xoc6, xod6, .func (fnX "__init__" "BadNumber.__init__" (xA "given" ⟨32, 17, 32, 21⟩ ⟨32, 23, 32, 28⟩) (xB "given" "this is no number that may stand here" (fun n => match n with | 1 => ⟨33, 8, 33, 13⟩ | 2 => ⟨33, 8, 33, 15⟩ | 3 => ⟨33, 8, 33, 24⟩ | 4 => ⟨33, 25, 33, 64⟩ | 5 => ⟨33, 8, 33, 65⟩ | 6 => ⟨33, 8, 33, 65⟩ | 7 => ⟨34, 8, 34, 12⟩ | 8 => ⟨34, 8, 34, 18⟩ | 9 => ⟨34, 21, 34, 26⟩ | 10 => ⟨34, 8, 34, 26⟩ | _ => ⟨0, 0, 0, 0⟩)) (xS "given") [("__class__", cc6)] .none .none xdo6 xpm6 xan6 (.ref cda6) xct6), xos6⟩)
    (xj6 : PySem.W.codeIn K (.ref cda6) "BadNumber.__init__" = true) (xk6 : K.lookup cc6 = some ⟨xcl6, xcd6, .cell (some (.ref C6)), xcs6⟩) (xl6 : K.lookup cda6 = some ⟨xkl6, xkd6, .fields xvs6, xks6⟩) (xw6 : xvs6[2]? = some (.str fl6 xtf6)) (xx6 : ((PySem.Challenge.pw_beamframes_k26_whole_texts_of_bursts.main.file : Str) == fl6) = true)
    (xo6 : PySem.W.keepIn K (.ref C6) = true) (xp6 : PySem.W.subIn K (.ref C6) (.type "BaseException") = some true) (xq6 : PySem.W.typeIn K (.ref C6) = some (.type "type")) (xr6 : PySem.W.hasDictIn K C6 = true) (xs6 : PySem.W.isClsIn K C6 = true) (xt6 : PySem.W.subIn K (.ref C6) (.ref C6) = some true)
    (xu6 : PySem.W.subIn K (.ref C6) (.type "ValueError") = some true) (xv6 : PySem.W.mroIn K C6 (.ref C6) = some true) (xy6 : ks_superIn K C6 C6 "__init__" = some (some (.builtin "ValueError.__init__"))) (xz6 : PySem.W.nsIn K cStatics "thirdparty.any" = some none)
    {C7 fI7 cc7 cda7 B7_1 xN7 : Addr} {xnm7 xqn7 fl7 : Str} {xbs7 : List Value} {xsn7 : List Str} {xsub7 : List Value} {xab7 : Bool} {xcol7 : Option Bool} {xdd7 : Option Addr} {xm70 xm71 xm72 xm73 xm75 : Option Value}
    {xoc7 xcl7 xkl7 xdo7 xpm7 xct7 : Value} {xod7 xcd7 xkd7 xan7 : Option Addr} {xos7 xcs7 xks7 : Array (Option Value)} {xvs7 : Array Value} {xtf7 : Tok}
    (xa7 : PySem.W.nsIn K mainGlobals "BadPaper" = some (some (.ref C7))) (xb7 : K.lookup C7 = some (excClassObj xnm7 xqn7 C7 xN7 xbs7 [.ref B7_1, .type "ValueError", .type "Exception", .type "BaseException", .type "object"] true xsn7 xsub7 xab7 xcol7 xdd7 xm70 xm71 xm72 xm73 xm75 "ValueError.__new__"))
    (xc7 : PySem.W.findIn K (.ref C7) "__setattr__" = some (some (.builtin "object.__setattr__"))) (xd7 : PySem.W.findIn K (.ref C7) "__getattribute__" = some (some (.builtin "BaseException.__getattribute__"))) (xe7 : PySem.W.findIn K (.ref C7) "__getattr__" = some none) (xf7 : PySem.W.findIn K (.ref C7) "part" = some none)
    (xg7 : PySem.W.findIn K (.ref C7) "__init__" = some (some (.ref fI7))) (xh7 : PySem.W.typeIn K (.ref fI7) = some (.type "function"))
    (xi7 : K.lookup fI7 = some ⟨xoc7, xod7, .func (fnX "__init__" "BadPaper.__init__" (xA "part" ⟨37, 17, 37, 21⟩ ⟨37, 23, 37, 27⟩) (xB "part" "a part of the paper does not hold" (fun n => match n with | 1 => ⟨38, 8, 38, 13⟩ | 2 => ⟨38, 8, 38, 15⟩ | 3 => ⟨38, 8, 38, 24⟩ | 4 => ⟨38, 25, 38, 60⟩ | 5 => ⟨38, 8, 38, 61⟩ | 6 => ⟨38, 8, 38, 61⟩ | 7 => ⟨39, 8, 39, 12⟩ | 8 => ⟨39, 8, 39, 17⟩ | 9 => ⟨39, 20, 39, 24⟩ | 10 => ⟨39, 8, 39, 24⟩ | _ => ⟨0, 0, 0, 0⟩)) (xS "part") [("__class__", cc7)] .none .none xdo7 xpm7 xan7 (.ref cda7) xct7), xos7⟩)
    (xj7 : PySem.W.codeIn K (.ref cda7) "BadPaper.__init__" = true) (xk7 : K.lookup cc7 = some ⟨xcl7, xcd7, .cell (some (.ref C7)), xcs7⟩) (xl7 : K.lookup cda7 = some ⟨xkl7, xkd7, .fields xvs7, xks7⟩) (xw7 : xvs7[2]? = some (.str fl7 xtf7)) (xx7 : ((PySem.Challenge.pw_beamframes_k26_whole_texts_of_bursts.main.file : Str) == fl7) = true)
    (xo7 : PySem.W.keepIn K (.ref C7) = true) (xp7 : PySem.W.subIn K (.ref C7) (.type "BaseException") = some true) (xq7 : PySem.W.typeIn K (.ref C7) = some (.type "type")) (xr7 : PySem.W.hasDictIn K C7 = true) (xs7 : PySem.W.isClsIn K C7 = true) (xt7 : PySem.W.subIn K (.ref C7) (.ref C7) = some true)
    (xu7 : PySem.W.subIn K (.ref C7) (.type "ValueError") = some true) (xv7 : PySem.W.mroIn K C7 (.ref C7) = some true) (xy7 : ks_superIn K C7 C7 "__init__" = some (some (.builtin "ValueError.__init__"))) (xz7 : PySem.W.nsIn K cStatics "thirdparty.any" = some none)
    {C8 fI8 cc8 cda8 B8_1 xN8 : Addr} {xnm8 xqn8 fl8 : Str} {xbs8 : List Value} {xsn8 : List Str} {xsub8 : List Value} {xab8 : Bool} {xcol8 : Option Bool} {xdd8 : Option Addr} {xm80 xm81 xm82 xm83 xm85 : Option Value}
    {xoc8 xcl8 xkl8 xdo8 xpm8 xct8 : Value} {xod8 xcd8 xkd8 xan8 : Option Addr} {xos8 xcs8 xks8 : Array (Option Value)} {xvs8 : Array Value} {xtf8 : Tok}
    (xa8 : PySem.W.nsIn K mainGlobals "BadStyle" = some (some (.ref C8))) (xb8 : K.lookup C8 = some (excClassObj xnm8 xqn8 C8 xN8 xbs8 [.ref B8_1, .type "ValueError", .type "Exception", .type "BaseException", .type "object"] true xsn8 xsub8 xab8 xcol8 xdd8 xm80 xm81 xm82 xm83 xm85 "ValueError.__new__"))
    (xc8 : PySem.W.findIn K (.ref C8) "__setattr__" = some (some (.builtin "object.__setattr__"))) (xd8 : PySem.W.findIn K (.ref C8) "__getattribute__" = some (some (.builtin "BaseException.__getattribute__"))) (xe8 : PySem.W.findIn K (.ref C8) "__getattr__" = some none) (xf8 : PySem.W.findIn K (.ref C8) "given" = some none)
    (xg8 : PySem.W.findIn K (.ref C8) "__init__" = some (some (.ref fI8))) (xh8 : PySem.W.typeIn K (.ref fI8) = some (.type "function"))
    (xi8 : K.lookup fI8 = some ⟨xoc8, xod8, .func (fnX "__init__" "BadStyle.__init__" (xA "given" ⟨42, 17, 42, 21⟩ ⟨42, 23, 42, 28⟩) (xB "given" "this is no style" (fun n => match n with | 1 => ⟨43, 8, 43, 13⟩ | 2 => ⟨43, 8, 43, 15⟩ | 3 => ⟨43, 8, 43, 24⟩ | 4 => ⟨43, 25, 43, 43⟩ | 5 => ⟨43, 8, 43, 44⟩ | 6 => ⟨43, 8, 43, 44⟩ | 7 => ⟨44, 8, 44, 12⟩ | 8 => ⟨44, 8, 44, 18⟩ | 9 => ⟨44, 21, 44, 26⟩ | 10 => ⟨44, 8, 44, 26⟩ | _ => ⟨0, 0, 0, 0⟩)) (xS "given") [("__class__", cc8)] .none .none xdo8 xpm8 xan8 (.ref cda8) xct8), xos8⟩)
    (xj8 : PySem.W.codeIn K (.ref cda8) "BadStyle.__init__" = true) (xk8 : K.lookup cc8 = some ⟨xcl8, xcd8, .cell (some (.ref C8)), xcs8⟩) (xl8 : K.lookup cda8 = some ⟨xkl8, xkd8, .fields xvs8, xks8⟩) (xw8 : xvs8[2]? = some (.str fl8 xtf8)) (xx8 : ((PySem.Challenge.pw_beamframes_k26_whole_texts_of_bursts.main.file : Str) == fl8) = true)
    (xo8 : PySem.W.keepIn K (.ref C8) = true) (xp8 : PySem.W.subIn K (.ref C8) (.type "BaseException") = some true) (xq8 : PySem.W.typeIn K (.ref C8) = some (.type "type")) (xr8 : PySem.W.hasDictIn K C8 = true) (xs8 : PySem.W.isClsIn K C8 = true) (xt8 : PySem.W.subIn K (.ref C8) (.ref C8) = some true)
    (xu8 : PySem.W.subIn K (.ref C8) (.type "ValueError") = some true) (xv8 : PySem.W.mroIn K C8 (.ref C8) = some true) (xy8 : ks_superIn K C8 C8 "__init__" = some (some (.builtin "ValueError.__init__"))) (xz8 : PySem.W.nsIn K cStatics "thirdparty.any" = some none)
    {C9 fI9 cc9 cda9 B9_1 xN9 : Addr} {xnm9 xqn9 fl9 : Str} {xbs9 : List Value} {xsn9 : List Str} {xsub9 : List Value} {xab9 : Bool} {xcol9 : Option Bool} {xdd9 : Option Addr} {xm90 xm91 xm92 xm93 xm95 : Option Value}
    {xoc9 xcl9 xkl9 xdo9 xpm9 xct9 : Value} {xod9 xcd9 xkd9 xan9 : Option Addr} {xos9 xcs9 xks9 : Array (Option Value)} {xvs9 : Array Value} {xtf9 : Tok}
    (xa9 : PySem.W.nsIn K mainGlobals "BadRow" = some (some (.ref C9))) (xb9 : K.lookup C9 = some (excClassObj xnm9 xqn9 C9 xN9 xbs9 [.ref B9_1, .type "ValueError", .type "Exception", .type "BaseException", .type "object"] true xsn9 xsub9 xab9 xcol9 xdd9 xm90 xm91 xm92 xm93 xm95 "ValueError.__new__"))
    (xc9 : PySem.W.findIn K (.ref C9) "__setattr__" = some (some (.builtin "object.__setattr__"))) (xd9 : PySem.W.findIn K (.ref C9) "__getattribute__" = some (some (.builtin "BaseException.__getattribute__"))) (xe9 : PySem.W.findIn K (.ref C9) "__getattr__" = some none) (xf9 : PySem.W.findIn K (.ref C9) "moment" = some none)
    (xg9 : PySem.W.findIn K (.ref C9) "__init__" = some (some (.ref fI9))) (xh9 : PySem.W.typeIn K (.ref fI9) = some (.type "function"))
    (xi9 : K.lookup fI9 = some ⟨xoc9, xod9, .func (fnX "__init__" "BadRow.__init__" (xA "moment" ⟨47, 17, 47, 21⟩ ⟨47, 23, 47, 29⟩) (xB "moment" "the row is not as described" (fun n => match n with | 1 => ⟨48, 8, 48, 13⟩ | 2 => ⟨48, 8, 48, 15⟩ | 3 => ⟨48, 8, 48, 24⟩ | 4 => ⟨48, 25, 48, 54⟩ | 5 => ⟨48, 8, 48, 55⟩ | 6 => ⟨48, 8, 48, 55⟩ | 7 => ⟨49, 8, 49, 12⟩ | 8 => ⟨49, 8, 49, 19⟩ | 9 => ⟨49, 22, 49, 28⟩ | 10 => ⟨49, 8, 49, 28⟩ | _ => ⟨0, 0, 0, 0⟩)) (xS "moment") [("__class__", cc9)] .none .none xdo9 xpm9 xan9 (.ref cda9) xct9), xos9⟩)
    (xj9 : PySem.W.codeIn K (.ref cda9) "BadRow.__init__" = true) (xk9 : K.lookup cc9 = some ⟨xcl9, xcd9, .cell (some (.ref C9)), xcs9⟩) (xl9 : K.lookup cda9 = some ⟨xkl9, xkd9, .fields xvs9, xks9⟩) (xw9 : xvs9[2]? = some (.str fl9 xtf9)) (xx9 : ((PySem.Challenge.pw_beamframes_k26_whole_texts_of_bursts.main.file : Str) == fl9) = true)
    (xo9 : PySem.W.keepIn K (.ref C9) = true) (xp9 : PySem.W.subIn K (.ref C9) (.type "BaseException") = some true) (xq9 : PySem.W.typeIn K (.ref C9) = some (.type "type")) (xr9 : PySem.W.hasDictIn K C9 = true) (xs9 : PySem.W.isClsIn K C9 = true) (xt9 : PySem.W.subIn K (.ref C9) (.ref C9) = some true)
    (xu9 : PySem.W.subIn K (.ref C9) (.type "ValueError") = some true) (xv9 : PySem.W.mroIn K C9 (.ref C9) = some true) (xy9 : ks_superIn K C9 C9 "__init__" = some (some (.builtin "ValueError.__init__"))) (xz9 : PySem.W.nsIn K cStatics "thirdparty.any" = some none)
    {C10 fI10 cc10 cda10 B10_1 xN10 : Addr} {xnm10 xqn10 fl10 : Str} {xbs10 : List Value} {xsn10 : List Str} {xsub10 : List Value} {xab10 : Bool} {xcol10 : Option Bool} {xdd10 : Option Addr} {xm100 xm101 xm102 xm103 xm105 : Option Value}
    {xoc10 xcl10 xkl10 xdo10 xpm10 xct10 : Value} {xod10 xcd10 xkd10 xan10 : Option Addr} {xos10 xcs10 xks10 : Array (Option Value)} {xvs10 : Array Value} {xtf10 : Tok}
    (xa10 : PySem.W.nsIn K mainGlobals "BadText" = some (some (.ref C10))) (xb10 : K.lookup C10 = some (excClassObj xnm10 xqn10 C10 xN10 xbs10 [.ref B10_1, .type "ValueError", .type "Exception", .type "BaseException", .type "object"] true xsn10 xsub10 xab10 xcol10 xdd10 xm100 xm101 xm102 xm103 xm105 "ValueError.__new__"))
    (xc10 : PySem.W.findIn K (.ref C10) "__setattr__" = some (some (.builtin "object.__setattr__"))) (xd10 : PySem.W.findIn K (.ref C10) "__getattribute__" = some (some (.builtin "BaseException.__getattribute__"))) (xe10 : PySem.W.findIn K (.ref C10) "__getattr__" = some none) (xf10 : PySem.W.findIn K (.ref C10) "word" = some none)
    (xg10 : PySem.W.findIn K (.ref C10) "__init__" = some (some (.ref fI10))) (xh10 : PySem.W.typeIn K (.ref fI10) = some (.type "function"))
    (xi10 : K.lookup fI10 = some ⟨xoc10, xod10, .func (fnX "__init__" "BadText.__init__" (xA "word" ⟨52, 17, 52, 21⟩ ⟨52, 23, 52, 27⟩) (xB "word" "a word of the text cannot stand there, or is missing" (fun n => match n with | 1 => ⟨53, 8, 53, 13⟩ | 2 => ⟨53, 8, 53, 15⟩ | 3 => ⟨53, 8, 53, 24⟩ | 4 => ⟨53, 25, 53, 79⟩ | 5 => ⟨53, 8, 53, 80⟩ | 6 => ⟨53, 8, 53, 80⟩ | 7 => ⟨54, 8, 54, 12⟩ | 8 => ⟨54, 8, 54, 17⟩ | 9 => ⟨54, 20, 54, 24⟩ | 10 => ⟨54, 8, 54, 24⟩ | _ => ⟨0, 0, 0, 0⟩)) (xS "word") [("__class__", cc10)] .none .none xdo10 xpm10 xan10 (.ref cda10) xct10), xos10⟩)
    (xj10 : PySem.W.codeIn K (.ref cda10) "BadText.__init__" = true) (xk10 : K.lookup cc10 = some ⟨xcl10, xcd10, .cell (some (.ref C10)), xcs10⟩) (xl10 : K.lookup cda10 = some ⟨xkl10, xkd10, .fields xvs10, xks10⟩) (xw10 : xvs10[2]? = some (.str fl10 xtf10)) (xx10 : ((PySem.Challenge.pw_beamframes_k26_whole_texts_of_bursts.main.file : Str) == fl10) = true)
    (xo10 : PySem.W.keepIn K (.ref C10) = true) (xp10 : PySem.W.subIn K (.ref C10) (.type "BaseException") = some true) (xq10 : PySem.W.typeIn K (.ref C10) = some (.type "type")) (xr10 : PySem.W.hasDictIn K C10 = true) (xs10 : PySem.W.isClsIn K C10 = true) (xt10 : PySem.W.subIn K (.ref C10) (.ref C10) = some true)
    (xu10 : PySem.W.subIn K (.ref C10) (.type "ValueError") = some true) (xv10 : PySem.W.mroIn K C10 (.ref C10) = some true) (xy10 : ks_superIn K C10 C10 "__init__" = some (some (.builtin "ValueError.__init__"))) (xz10 : PySem.W.nsIn K cStatics "thirdparty.any" = some none)
    (zsup : PySem.W.nsIn K mainGlobals "super" = some none)
    {rg_eq : Addr} {ro_eq rk_eq rc_eq rpm_eq ru_eq rt_eq : Value} {rd_eq ra_eq : Option Addr} {rs_eq : Array (Option Value)}
    {PR21 : Addr} {rrc21 : List Value}
    {RC rfI rp_n rg_n rp_d rg_d rdT : Addr} {rr_n rr_d : List Value} {rdo : Value} {rdd : Option Addr} {rdq : Tok} {rdn : Nat} {rds : Array (Option Value)}
    {ro_n rk_n rc_n rpm_n ru_n rt_n : Value} {rd_n ra_n : Option Addr} {rs_n : Array (Option Value)}
    {ro_d rk_d rc_d rpm_d ru_d rt_d : Value} {rd_d ra_d : Option Addr} {rs_d : Array (Option Value)}
    {ro_i rk_i rc_i rpm_i ru_i rt_i : Value} {rd_i ra_i : Option Addr} {rs_i : Array (Option Value)}
    (rq_a : PySem.W.nsIn K mainGlobals "Ratio" = some (some (.ref RC)))
    (rq_b : PySem.W.plainGet K RC Str.empty = true)
    (rq_c : PySem.W.hasDictIn K RC = true)
    (rq_d : PySem.W.plainOver K RC = true)
    (rq_e : PySem.W.findIn K (.ref RC) "__setattr__" = some (some (.builtin "object.__setattr__")))
    (rq_f : PySem.W.makesIn K RC = true)
    (rq_g : PySem.W.findIn K (.ref RC) "__init__" = some (some (.ref rfI)))
    (rq_h : PySem.W.isFn K (.ref rfI) = true)
    (rq_i : PySem.W.keepIn K (.ref RC) = true)
    (rq_n1 : PySem.W.findIn K (.ref RC) "num" = some (some (.ref rp_n)))
    (rq_n2 : PySem.W.specialIn K (.ref rp_n) "__get__" = some (some (.builtin "property.__get__")))
    (rq_n3 : PySem.W.takesIn K (.ref rp_n) = some true)
    (rq_n4 : PySem.W.recIn K rp_n "property" = some (.ref rg_n :: rr_n))
    (rq_n5 : PySem.W.findIn K (.ref RC) "_num" = some none)
    (rq_n6 : K.lookup rg_n = some ⟨ro_n, rd_n, .func (PySem.W.fnOf "num" "Ratio.num" (defArgs s_rN) (defBody s_rN) (defScope s_rN) .none rk_n rc_n rpm_n ra_n ru_n rt_n), rs_n⟩)
    (rq_n7 : PySem.W.codeIn K ru_n "Ratio.num" = true)
    (rq_d1 : PySem.W.findIn K (.ref RC) "den" = some (some (.ref rp_d)))
    (rq_d2 : PySem.W.specialIn K (.ref rp_d) "__get__" = some (some (.builtin "property.__get__")))
    (rq_d3 : PySem.W.takesIn K (.ref rp_d) = some true)
    (rq_d4 : PySem.W.recIn K rp_d "property" = some (.ref rg_d :: rr_d))
    (rq_d5 : PySem.W.findIn K (.ref RC) "_den" = some none)
    (rq_d6 : K.lookup rg_d = some ⟨ro_d, rd_d, .func (PySem.W.fnOf "den" "Ratio.den" (defArgs s_rD) (defBody s_rD) (defScope s_rD) .none rk_d rc_d rpm_d ra_d ru_d rt_d), rs_d⟩)
    (rq_d7 : PySem.W.codeIn K ru_d "Ratio.den" = true)
    (rq_j : PySem.W.findIn K (.ref RC) "__class__" = some (some (.builtin "object.__class__")))
    (rq_k : PySem.W.specialIn K (.builtin "object.__class__") "__get__" = some (some (.builtin "getset_descriptor.__get__")))
    (rq_l : PySem.W.takesIn K (.builtin "object.__class__") = some true)
    (rq_m : PySem.W.mroIn K RC (.type "object") = some true)
    (rq_noNoneType : PySem.W.kitOne K (.type "NoneType") (.ref RC) = some false)
    (rq_nobool : PySem.W.kitOne K (.type "bool") (.ref RC) = some false)
    (rq_noint : PySem.W.kitOne K (.type "int") (.ref RC) = some false)
    (rq_nostr : PySem.W.kitOne K (.type "str") (.ref RC) = some false)
    (rq_nolist : PySem.W.kitOne K (.type "list") (.ref RC) = some false)
    (rq_notuple : PySem.W.kitOne K (.type "tuple") (.ref RC) = some false)
    (rq_nodict : PySem.W.kitOne K (.type "dict") (.ref RC) = some false)
    (rq_si : PySem.W.kitOne K (.ref RC) (.ref RC) = some true)
    (rq_stbool : PySem.W.kitOne K (.ref RC) (.type "bool") = some false)
    (rq_stint : PySem.W.kitOne K (.ref RC) (.type "int") = some false)
    (rq_ststr : PySem.W.kitOne K (.ref RC) (.type "str") = some false)
    (rq_stlist : PySem.W.kitOne K (.ref RC) (.type "list") = some false)
    (rq_sttuple : PySem.W.kitOne K (.ref RC) (.type "tuple") = some false)
    (rq_fi : K.lookup rfI = some ⟨ro_i, rd_i, .func (PySem.W.fnOf "__init__" "Ratio.__init__" (defArgs s_rI) (defBody s_rI) (defScope s_rI) (.ref rdT) rk_i rc_i rpm_i ra_i ru_i rt_i), rs_i⟩)
    (rq_fc : PySem.W.codeIn K ru_i "Ratio.__init__" = true)
    (rq_fk : PySem.W.keepIn K (.ref rfI) = true)
    (rq_ft : K.lookup rdT = some ⟨rdo, rdd, .seq [.int 1 rdq].toArray rdn, rds⟩)
    (rq_gc : PySem.W.nsIn K mainGlobals "gcd" = some (some (.builtin "math.gcd")))
    (rq_oeq1 : PySem.W.findIn K (.ref RC) "__eq__" = some (some (.ref rg_eq)))
    (rq_oeq2 : PySem.W.isFn K (.ref rg_eq) = true)
    (rq_oeq3 : K.lookup rg_eq = some ⟨ro_eq, rd_eq, .func (PySem.W.fnOf "__eq__" "Ratio.__eq__" (defArgs s_req) (defBody s_req) (defScope s_req) .none rk_eq rc_eq rpm_eq ra_eq ru_eq rt_eq), rs_eq⟩)
    (rq_oeq4 : PySem.W.codeIn K ru_eq "Ratio.__eq__" = true)
    (rq_oeq5 : PySem.W.keepIn K (.ref rg_eq) = true)
    (rq_mo_read1 : PySem.W.readsIn K RC (.type "type") = true)
    (rq_mo_read2 : PySem.W.specialIn K (.ref RC) "__getattribute__" = some (some (.builtin "type.__getattribute__")))
    (rq_mo_read3 : PySem.W.findCls K (.ref RC) (.type "type") "read" = some (.get (.builtin "classmethod.__get__") (.ref PR21) .none (.ref RC)))
    (rq_mo_read4 : PySem.W.recIn K PR21 "classmethod" = some (.ref f21 :: rrc21))
    (rq_mo_read5 : PySem.W.fnIn K f21 = true)
    (rq_mo_str1 : PySem.W.findIn K (.ref RC) "__str__" = some (some (.ref f22)))
    (rq_mo_str2 : PySem.W.isFn K (.ref f22) = true)
    (rq_one : PySem.W.findIn K (.ref RC) "__ne__" = some (some (.builtin "object.__ne__")))
    (xca_4 : PySem.W.findIn K (.ref C4) "__class__" = some (some (.builtin "object.__class__")))
    (xob_4 : PySem.W.mroIn K C4 (.type "object") = some true)
    (xca_10 : PySem.W.findIn K (.ref C10) "__class__" = some (some (.builtin "object.__class__")))
    (xob_10 : PySem.W.mroIn K C10 (.type "object") = some true)
    (xisg1 : PySem.W.specialIn K (.builtin "object.__class__") "__get__" = some (some (.builtin "getset_descriptor.__get__")))
    (xisg2 : PySem.W.takesIn K (.builtin "object.__class__") = some true)
    (xq_4_4 : PySem.W.exmOne K (.ref C4) (.ref C4) = some true)
    (xq_4_6 : PySem.W.exmOne K (.ref C4) (.ref C6) = some false)
    (xq_4_7 : PySem.W.exmOne K (.ref C4) (.ref C7) = some false)
    (xq_4_1 : PySem.W.exmOne K (.ref C4) (.ref C1) = some false)
    (xq_4_5 : PySem.W.exmOne K (.ref C4) (.ref C5) = some false)
    (xq_4_9 : PySem.W.exmOne K (.ref C4) (.ref C9) = some false)
    (xq_4_8 : PySem.W.exmOne K (.ref C4) (.ref C8) = some false)
    (xq_4_2 : PySem.W.exmOne K (.ref C4) (.ref C2) = some false)
    (xq_4_10 : PySem.W.exmOne K (.ref C4) (.ref C10) = some false)
    (xq_4_3 : PySem.W.exmOne K (.ref C4) (.ref C3) = some false)
    (xy_4_4 : PySem.W.kitOne K (.ref C4) (.ref C4) = some true)
    (xy_4_6 : PySem.W.kitOne K (.ref C4) (.ref C6) = some false)
    (xy_4_7 : PySem.W.kitOne K (.ref C4) (.ref C7) = some false)
    (xy_4_1 : PySem.W.kitOne K (.ref C4) (.ref C1) = some false)
    (xy_4_5 : PySem.W.kitOne K (.ref C4) (.ref C5) = some false)
    (xy_4_9 : PySem.W.kitOne K (.ref C4) (.ref C9) = some false)
    (xy_4_8 : PySem.W.kitOne K (.ref C4) (.ref C8) = some false)
    (xy_4_2 : PySem.W.kitOne K (.ref C4) (.ref C2) = some false)
    (xy_4_3 : PySem.W.kitOne K (.ref C4) (.ref C3) = some false)
    (xq_10_4 : PySem.W.exmOne K (.ref C10) (.ref C4) = some false)
    (xq_10_6 : PySem.W.exmOne K (.ref C10) (.ref C6) = some false)
    (xq_10_7 : PySem.W.exmOne K (.ref C10) (.ref C7) = some false)
    (xq_10_1 : PySem.W.exmOne K (.ref C10) (.ref C1) = some false)
    (xq_10_5 : PySem.W.exmOne K (.ref C10) (.ref C5) = some false)
    (xq_10_9 : PySem.W.exmOne K (.ref C10) (.ref C9) = some false)
    (xq_10_8 : PySem.W.exmOne K (.ref C10) (.ref C8) = some false)
    (xq_10_2 : PySem.W.exmOne K (.ref C10) (.ref C2) = some false)
    (xq_10_10 : PySem.W.exmOne K (.ref C10) (.ref C10) = some true)
    (xq_10_3 : PySem.W.exmOne K (.ref C10) (.ref C3) = some false)
    (xy_10_4 : PySem.W.kitOne K (.ref C10) (.ref C4) = some false)
    (xy_10_6 : PySem.W.kitOne K (.ref C10) (.ref C6) = some false)
    (xy_10_7 : PySem.W.kitOne K (.ref C10) (.ref C7) = some false)
    (xy_10_1 : PySem.W.kitOne K (.ref C10) (.ref C1) = some false)
    (xy_10_5 : PySem.W.kitOne K (.ref C10) (.ref C5) = some false)
    (xy_10_9 : PySem.W.kitOne K (.ref C10) (.ref C9) = some false)
    (xy_10_8 : PySem.W.kitOne K (.ref C10) (.ref C8) = some false)
    (xy_10_2 : PySem.W.kitOne K (.ref C10) (.ref C2) = some false)
    (xy_10_3 : PySem.W.kitOne K (.ref C10) (.ref C3) = some false)
    {KL20 PL20 : Addr} (tbk20 : cd20 = .ref KL20) (tbt20 : h.get? PL20 = some (PySem.W.tabObj #[])) (tbc20 : PySem.W.codeHdIn K KL20 PL20 = true) (tbn20 : K.lookup PL20 = none)
    : ∃ (fd : FuncData) (cs : List (Addr × Addr)), (∀ p ∈ cs, h.get? p.2 = some tabO) ∧ (∀ p ∈ cs, K.lookup p.2 = none) ∧ (∀ p ∈ cs, PySem.W.CodeHd h p.1 p.2) ∧ (∀ (s : Shared) (v : Value), BindsTo s fd ⟨[v], []⟩ [("script", v)]) ∧ ∀ base : Heap, K.In base → base.Ns mainGlobals mg → (∀ p ∈ cs, LamX.TabB base mg p.1 p.2) → GOk l.prog w K mg base 10 fa fd ["script"] (spLawT cs K) := by
  have e := hfa.symm.trans (PySem.W.mg_of X G a20)
  obtain rfl : f20 = fa := by cases e; rfl
  subst tbk20
  have T : Txt K mg ⟨f1, (PySem.W.fnOf "is_whole" "is_whole" (defArgs s_is_whole) (defBody s_is_whole) (defScope s_is_whole) .none kV1 dc1 pm1 an1 cd1 ct1), f2, (PySem.W.fnOf "is_numeral" "is_numeral" (defArgs s_is_numeral) (defBody s_is_numeral) (defScope s_is_numeral) .none kV2 dc2 pm2 an2 cd2 ct2), f3, (PySem.W.fnOf "decimal_of" "decimal_of" (defArgs s_decimal_of) (defBody s_decimal_of) (defScope s_decimal_of) .none kV3 dc3 pm3 an3 cd3 ct3), f4, (PySem.W.fnOf "need_burst" "need_burst" (defArgs s_need_burst) (defBody s_need_burst) (defScope s_need_burst) .none kV4 dc4 pm4 an4 cd4 ct4), f5, (PySem.W.fnOf "is_burst" "is_burst" (defArgs s_is_burst) (defBody s_is_burst) (defScope s_is_burst) .none kV5 dc5 pm5 an5 cd5 ct5), f6, (PySem.W.fnOf "is_above_zero" "is_above_zero" (defArgs s_is_above_zero) (defBody s_is_above_zero) (defScope s_is_above_zero) .none kV6 dc6 pm6 an6 cd6 ct6), f7, (PySem.W.fnOf "burst_text" "burst_text" (defArgs s_burst_text) (defBody s_burst_text) (defScope s_burst_text) .none kV7 dc7 pm7 an7 cd7 ct7), f8, (PySem.W.fnOf "read_burst" "read_burst" (defArgs s_read_burst) (defBody s_read_burst) (defScope s_read_burst) .none kV8 dc8 pm8 an8 cd8 ct8), f9, (PySem.W.fnOf "split_text" "split_text" (defArgs s_split_text) (defBody s_split_text) (defScope s_split_text) .none kV9 dc9 pm9 an9 cd9 ct9), f10, (PySem.W.fnOf "ratio_of_word" "ratio_of_word" (defArgs s_ratio_of_word) (defBody s_ratio_of_word) (defScope s_ratio_of_word) .none kV10 dc10 pm10 an10 cd10 ct10), f11, (PySem.W.fnOf "_law_begin" "_law_begin" (defArgs s__law_begin) (defBody s__law_begin) (defScope s__law_begin) .none kV11 dc11 pm11 an11 cd11 ct11), f12, (PySem.W.fnOf "_law_next" "_law_next" (defArgs s__law_next) (defBody s__law_next) (defScope s__law_next) .none kV12 dc12 pm12 an12 cd12 ct12), f13, (PySem.W.fnOf "_law_pick" "_law_pick" (defArgs s__law_pick) (defBody s__law_pick) (defScope s__law_pick) .none kV13 dc13 pm13 an13 cd13 ct13), f14, (PySem.W.fnOf "_law_fault" "_law_fault" (defArgs s__law_fault) (defBody s__law_fault) (defScope s__law_fault) .none kV14 dc14 pm14 an14 cd14 ct14), f15, (PySem.W.fnOf "_law_said" "_law_said" (defArgs s__law_said) (defBody s__law_said) (defScope s__law_said) .none kV15 dc15 pm15 an15 cd15 ct15), f16, (PySem.W.fnOf "_law_number" "_law_number" (defArgs s__law_number) (defBody s__law_number) (defScope s__law_number) .none kV16 dc16 pm16 an16 cd16 ct16), f17, (PySem.W.fnOf "_law_ratio" "_law_ratio" (defArgs s__law_ratio) (defBody s__law_ratio) (defScope s__law_ratio) .none kV17 dc17 pm17 an17 cd17 ct17), f18, (PySem.W.fnOf "_law_due" "_law_due" (defArgs s__law_due) (defBody s__law_due) (defScope s__law_due) .none kV18 dc18 pm18 an18 cd18 ct18), f19, (PySem.W.fnOf "_law_bent" "_law_bent" (defArgs s__law_bent) (defBody s__law_bent) (defScope s__law_bent) .none kV19 dc19 pm19 an19 cd19 ct19), f20, (PySem.W.fnOf "law" "law" (defArgs s_law) (defBody s_law) (defScope s_law) .none kV20 dc20 pm20 an20 (.ref KL20) ct20), f21, (PySem.W.fnOf "read" "Ratio.read" (defArgs s_o_read) (defBody s_o_read) (defScope s_o_read) .none kV21 dc21 pm21 an21 cd21 ct21), f22, (PySem.W.fnOf "__str__" "Ratio.__str__" (defArgs s_o_str) (defBody s_o_str) (defScope s_o_str) .none kV22 dc22 pm22 an22 cd22 ct22), PR21, KL20, PL20, C1, fI1, C2, fI2, C3, fI3, C4, fI4, C5, fI5, C6, fI6, C7, fI7, C8, fI8, C9, fI9, C10, fI10, rg_eq, (PySem.W.fnOf "__eq__" "Ratio.__eq__" (defArgs s_req) (defBody s_req) (defScope s_req) .none rk_eq rc_eq rpm_eq ra_eq ru_eq rt_eq), RC, rfI, (PySem.W.fnOf "__init__" "Ratio.__init__" (defArgs s_rI) (defBody s_rI) (defScope s_rI) (.ref rdT) rk_i rc_i rpm_i ra_i ru_i rt_i), rp_n, rg_n, (PySem.W.fnOf "num" "Ratio.num" (defArgs s_rN) (defBody s_rN) (defScope s_rN) .none rk_n rc_n rpm_n ra_n ru_n rt_n), rp_d, rg_d, (PySem.W.fnOf "den" "Ratio.den" (defArgs s_rD) (defBody s_rD) (defScope s_rD) .none rk_d rc_d rpm_d ra_d ru_d rt_d)⟩ := {
    r_Ratio := { cl := ⟨rq_b, rq_c, rq_d, rq_e⟩, mK := ⟨rq_f, rq_g, rq_h, rq_i⟩, pn := ⟨rq_n1, rq_n2, rq_n3, ⟨_, rq_n4⟩⟩, pd := ⟨rq_d1, rq_d2, rq_d3, ⟨_, rq_d4⟩⟩, an := rq_n5, ad := rq_d5, gC := PySem.W.mg_of X G rq_a, c1 := rq_j, c2 := rq_k, c3 := rq_l, c4 := rq_m, no := (by intro T hT; simp only [List.mem_cons, List.not_mem_nil, or_false] at hT; rcases hT with rfl | rfl | rfl | rfl | rfl | rfl | rfl <;> assumption), si := rq_si, sT := (by intro T hT; simp only [List.mem_cons, List.not_mem_nil, or_false] at hT; rcases hT with rfl | rfl | rfl | rfl | rfl <;> assumption) }
    g_Ratio := { n := fun P w mg base => L2.fn_getter rq_n6 rq_n7 sc_rN rfl rfl ⟨rq_b, rq_c, rq_d, rq_e⟩ rq_n5, d := fun P w mg base => L2.fn_getter rq_d6 rq_d7 sc_rD rfl rfl ⟨rq_b, rq_c, rq_d, rq_e⟩ rq_d5, bn := L2.Binds.all fun us hl => match us, hl with | [_], _ => rfl, bd := L2.Binds.all fun us hl => match us, hl with | [_], _ => rfl }
    g_fi := ⟨⟨_, _, _, _, _, _, _, _, _, _, rfl, rq_fi, rq_fc, .inr ⟨by simp, _, _, [.int 1 rdq], _, rfl, rq_ft, rfl, .cons ⟨_, rfl⟩ .nil⟩, .inl rfl⟩, rq_fk⟩
    m_gcd := PySem.W.mg_of X G rq_gc
    o_eq := ⟨fun_mk (st := s_req) rq_oeq3 rq_oeq4 rq_oeq5, rq_oeq1, rq_oeq2, L2.Binds.all fun us hl => match us, hl with | [_, _], _ => rfl⟩
    o_ne := rq_one
    b_BadRatio := { T := { cls := ⟨_, _, _, _, _, _, _, _, _, _, _, _, _, _, _, xb1, rfl⟩, sa := xc1, noN := xf1, iC := xg1, tC := xh1, sup := xy1, sub := xu1, self := xv1, st := xz1, fn := ⟨_, _, _, _, _, _, _, _, _, _, _, _, _, _, _, _, _, (fun n => match n with | 1 => ⟨8, 8, 8, 13⟩ | 2 => ⟨8, 8, 8, 15⟩ | 3 => ⟨8, 8, 8, 24⟩ | 4 => ⟨8, 25, 8, 63⟩ | 5 => ⟨8, 8, 8, 64⟩ | 6 => ⟨8, 8, 8, 64⟩ | 7 => ⟨9, 8, 9, 12⟩ | 8 => ⟨9, 8, 9, 18⟩ | 9 => ⟨9, 21, 9, 26⟩ | 10 => ⟨9, 8, 9, 26⟩ | _ => ⟨0, 0, 0, 0⟩), _, _, _, _, _, xi1, xj1, xk1, xl1, xw1, xx1, (fun env => ⟨_, rfl⟩), (fun s a b => .of_eq rfl)⟩ }, gC := PySem.W.mg_of X G xa1, kC := xo1, exC := xp1, tyC := xq1, ga := xd1, gg := xe1, hdC := xr1, te := exm_self xp1 xs1 xq1 xt1, ms := PySem.W.mg_none_of X G zsup, top := by rfl, fn := by decide }
    b_BadTable := { T := { cls := ⟨_, _, _, _, _, _, _, _, _, _, _, _, _, _, _, xb2, rfl⟩, sa := xc2, noN := xf2, iC := xg2, tC := xh2, sup := xy2, sub := xu2, self := xv2, st := xz2, fn := ⟨_, _, _, _, _, _, _, _, _, _, _, _, _, _, _, _, _, (fun n => match n with | 1 => ⟨13, 8, 13, 13⟩ | 2 => ⟨13, 8, 13, 15⟩ | 3 => ⟨13, 8, 13, 24⟩ | 4 => ⟨13, 25, 13, 66⟩ | 5 => ⟨13, 8, 13, 67⟩ | 6 => ⟨13, 8, 13, 67⟩ | 7 => ⟨14, 8, 14, 12⟩ | 8 => ⟨14, 8, 14, 17⟩ | 9 => ⟨14, 20, 14, 24⟩ | 10 => ⟨14, 8, 14, 24⟩ | _ => ⟨0, 0, 0, 0⟩), _, _, _, _, _, xi2, xj2, xk2, xl2, xw2, xx2, (fun env => ⟨_, rfl⟩), (fun s a b => .of_eq rfl)⟩ }, gC := PySem.W.mg_of X G xa2, kC := xo2, exC := xp2, tyC := xq2, ga := xd2, gg := xe2, hdC := xr2, te := exm_self xp2 xs2 xq2 xt2, ms := PySem.W.mg_none_of X G zsup, top := by rfl, fn := by decide }
    b_BadWord := { T := { cls := ⟨_, _, _, _, _, _, _, _, _, _, _, _, _, _, _, xb3, rfl⟩, sa := xc3, noN := xf3, iC := xg3, tC := xh3, sup := xy3, sub := xu3, self := xv3, st := xz3, fn := ⟨_, _, _, _, _, _, _, _, _, _, _, _, _, _, _, _, _, (fun n => match n with | 1 => ⟨18, 8, 18, 13⟩ | 2 => ⟨18, 8, 18, 15⟩ | 3 => ⟨18, 8, 18, 24⟩ | 4 => ⟨18, 25, 18, 56⟩ | 5 => ⟨18, 8, 18, 57⟩ | 6 => ⟨18, 8, 18, 57⟩ | 7 => ⟨19, 8, 19, 12⟩ | 8 => ⟨19, 8, 19, 18⟩ | 9 => ⟨19, 21, 19, 26⟩ | 10 => ⟨19, 8, 19, 26⟩ | _ => ⟨0, 0, 0, 0⟩), _, _, _, _, _, xi3, xj3, xk3, xl3, xw3, xx3, (fun env => ⟨_, rfl⟩), (fun s a b => .of_eq rfl)⟩ }, gC := PySem.W.mg_of X G xa3, kC := xo3, exC := xp3, tyC := xq3, ga := xd3, gg := xe3, hdC := xr3, te := exm_self xp3 xs3 xq3 xt3, ms := PySem.W.mg_none_of X G zsup, top := by rfl, fn := by decide }
    b_BadBurst := { T := { cls := ⟨_, _, _, _, _, _, _, _, _, _, _, _, _, _, _, xb4, rfl⟩, sa := xc4, noN := xf4, iC := xg4, tC := xh4, sup := xy4, sub := xu4, self := xv4, st := xz4, fn := ⟨_, _, _, _, _, _, _, _, _, _, _, _, _, _, _, _, _, (fun n => match n with | 1 => ⟨23, 8, 23, 13⟩ | 2 => ⟨23, 8, 23, 15⟩ | 3 => ⟨23, 8, 23, 24⟩ | 4 => ⟨23, 25, 23, 43⟩ | 5 => ⟨23, 8, 23, 44⟩ | 6 => ⟨23, 8, 23, 44⟩ | 7 => ⟨24, 8, 24, 12⟩ | 8 => ⟨24, 8, 24, 18⟩ | 9 => ⟨24, 21, 24, 26⟩ | 10 => ⟨24, 8, 24, 26⟩ | _ => ⟨0, 0, 0, 0⟩), _, _, _, _, _, xi4, xj4, xk4, xl4, xw4, xx4, (fun env => ⟨_, rfl⟩), (fun s a b => .of_eq rfl)⟩ }, gC := PySem.W.mg_of X G xa4, kC := xo4, exC := xp4, tyC := xq4, ga := xd4, gg := xe4, hdC := xr4, te := exm_self xp4 xs4 xq4 xt4, ms := PySem.W.mg_none_of X G zsup, top := by rfl, fn := by decide }
    b_BadReceiver := { T := { cls := ⟨_, _, _, _, _, _, _, _, _, _, _, _, _, _, _, xb5, rfl⟩, sa := xc5, noN := xf5, iC := xg5, tC := xh5, sup := xy5, sub := xu5, self := xv5, st := xz5, fn := ⟨_, _, _, _, _, _, _, _, _, _, _, _, _, _, _, _, _, (fun n => match n with | 1 => ⟨28, 8, 28, 13⟩ | 2 => ⟨28, 8, 28, 15⟩ | 3 => ⟨28, 8, 28, 24⟩ | 4 => ⟨28, 25, 28, 59⟩ | 5 => ⟨28, 8, 28, 60⟩ | 6 => ⟨28, 8, 28, 60⟩ | 7 => ⟨29, 8, 29, 12⟩ | 8 => ⟨29, 8, 29, 18⟩ | 9 => ⟨29, 21, 29, 26⟩ | 10 => ⟨29, 8, 29, 26⟩ | _ => ⟨0, 0, 0, 0⟩), _, _, _, _, _, xi5, xj5, xk5, xl5, xw5, xx5, (fun env => ⟨_, rfl⟩), (fun s a b => .of_eq rfl)⟩ }, gC := PySem.W.mg_of X G xa5, kC := xo5, exC := xp5, tyC := xq5, ga := xd5, gg := xe5, hdC := xr5, te := exm_self xp5 xs5 xq5 xt5, ms := PySem.W.mg_none_of X G zsup, top := by rfl, fn := by decide }
    b_BadNumber := { T := { cls := ⟨_, _, _, _, _, _, _, _, _, _, _, _, _, _, _, xb6, rfl⟩, sa := xc6, noN := xf6, iC := xg6, tC := xh6, sup := xy6, sub := xu6, self := xv6, st := xz6, fn := ⟨_, _, _, _, _, _, _, _, _, _, _, _, _, _, _, _, _, (fun n => match n with | 1 => ⟨33, 8, 33, 13⟩ | 2 => ⟨33, 8, 33, 15⟩ | 3 => ⟨33, 8, 33, 24⟩ | 4 => ⟨33, 25, 33, 64⟩ | 5 => ⟨33, 8, 33, 65⟩ | 6 => ⟨33, 8, 33, 65⟩ | 7 => ⟨34, 8, 34, 12⟩ | 8 => ⟨34, 8, 34, 18⟩ | 9 => ⟨34, 21, 34, 26⟩ | 10 => ⟨34, 8, 34, 26⟩ | _ => ⟨0, 0, 0, 0⟩), _, _, _, _, _, xi6, xj6, xk6, xl6, xw6, xx6, (fun env => ⟨_, rfl⟩), (fun s a b => .of_eq rfl)⟩ }, gC := PySem.W.mg_of X G xa6, kC := xo6, exC := xp6, tyC := xq6, ga := xd6, gg := xe6, hdC := xr6, te := exm_self xp6 xs6 xq6 xt6, ms := PySem.W.mg_none_of X G zsup, top := by rfl, fn := by decide }
    b_BadPaper := { T := { cls := ⟨_, _, _, _, _, _, _, _, _, _, _, _, _, _, _, xb7, rfl⟩, sa := xc7, noN := xf7, iC := xg7, tC := xh7, sup := xy7, sub := xu7, self := xv7, st := xz7, fn := ⟨_, _, _, _, _, _, _, _, _, _, _, _, _, _, _, _, _, (fun n => match n with | 1 => ⟨38, 8, 38, 13⟩ | 2 => ⟨38, 8, 38, 15⟩ | 3 => ⟨38, 8, 38, 24⟩ | 4 => ⟨38, 25, 38, 60⟩ | 5 => ⟨38, 8, 38, 61⟩ | 6 => ⟨38, 8, 38, 61⟩ | 7 => ⟨39, 8, 39, 12⟩ | 8 => ⟨39, 8, 39, 17⟩ | 9 => ⟨39, 20, 39, 24⟩ | 10 => ⟨39, 8, 39, 24⟩ | _ => ⟨0, 0, 0, 0⟩), _, _, _, _, _, xi7, xj7, xk7, xl7, xw7, xx7, (fun env => ⟨_, rfl⟩), (fun s a b => .of_eq rfl)⟩ }, gC := PySem.W.mg_of X G xa7, kC := xo7, exC := xp7, tyC := xq7, ga := xd7, gg := xe7, hdC := xr7, te := exm_self xp7 xs7 xq7 xt7, ms := PySem.W.mg_none_of X G zsup, top := by rfl, fn := by decide }
    b_BadStyle := { T := { cls := ⟨_, _, _, _, _, _, _, _, _, _, _, _, _, _, _, xb8, rfl⟩, sa := xc8, noN := xf8, iC := xg8, tC := xh8, sup := xy8, sub := xu8, self := xv8, st := xz8, fn := ⟨_, _, _, _, _, _, _, _, _, _, _, _, _, _, _, _, _, (fun n => match n with | 1 => ⟨43, 8, 43, 13⟩ | 2 => ⟨43, 8, 43, 15⟩ | 3 => ⟨43, 8, 43, 24⟩ | 4 => ⟨43, 25, 43, 43⟩ | 5 => ⟨43, 8, 43, 44⟩ | 6 => ⟨43, 8, 43, 44⟩ | 7 => ⟨44, 8, 44, 12⟩ | 8 => ⟨44, 8, 44, 18⟩ | 9 => ⟨44, 21, 44, 26⟩ | 10 => ⟨44, 8, 44, 26⟩ | _ => ⟨0, 0, 0, 0⟩), _, _, _, _, _, xi8, xj8, xk8, xl8, xw8, xx8, (fun env => ⟨_, rfl⟩), (fun s a b => .of_eq rfl)⟩ }, gC := PySem.W.mg_of X G xa8, kC := xo8, exC := xp8, tyC := xq8, ga := xd8, gg := xe8, hdC := xr8, te := exm_self xp8 xs8 xq8 xt8, ms := PySem.W.mg_none_of X G zsup, top := by rfl, fn := by decide }
    b_BadRow := { T := { cls := ⟨_, _, _, _, _, _, _, _, _, _, _, _, _, _, _, xb9, rfl⟩, sa := xc9, noN := xf9, iC := xg9, tC := xh9, sup := xy9, sub := xu9, self := xv9, st := xz9, fn := ⟨_, _, _, _, _, _, _, _, _, _, _, _, _, _, _, _, _, (fun n => match n with | 1 => ⟨48, 8, 48, 13⟩ | 2 => ⟨48, 8, 48, 15⟩ | 3 => ⟨48, 8, 48, 24⟩ | 4 => ⟨48, 25, 48, 54⟩ | 5 => ⟨48, 8, 48, 55⟩ | 6 => ⟨48, 8, 48, 55⟩ | 7 => ⟨49, 8, 49, 12⟩ | 8 => ⟨49, 8, 49, 19⟩ | 9 => ⟨49, 22, 49, 28⟩ | 10 => ⟨49, 8, 49, 28⟩ | _ => ⟨0, 0, 0, 0⟩), _, _, _, _, _, xi9, xj9, xk9, xl9, xw9, xx9, (fun env => ⟨_, rfl⟩), (fun s a b => .of_eq rfl)⟩ }, gC := PySem.W.mg_of X G xa9, kC := xo9, exC := xp9, tyC := xq9, ga := xd9, gg := xe9, hdC := xr9, te := exm_self xp9 xs9 xq9 xt9, ms := PySem.W.mg_none_of X G zsup, top := by rfl, fn := by decide }
    b_BadText := { T := { cls := ⟨_, _, _, _, _, _, _, _, _, _, _, _, _, _, _, xb10, rfl⟩, sa := xc10, noN := xf10, iC := xg10, tC := xh10, sup := xy10, sub := xu10, self := xv10, st := xz10, fn := ⟨_, _, _, _, _, _, _, _, _, _, _, _, _, _, _, _, _, (fun n => match n with | 1 => ⟨53, 8, 53, 13⟩ | 2 => ⟨53, 8, 53, 15⟩ | 3 => ⟨53, 8, 53, 24⟩ | 4 => ⟨53, 25, 53, 79⟩ | 5 => ⟨53, 8, 53, 80⟩ | 6 => ⟨53, 8, 53, 80⟩ | 7 => ⟨54, 8, 54, 12⟩ | 8 => ⟨54, 8, 54, 17⟩ | 9 => ⟨54, 20, 54, 24⟩ | 10 => ⟨54, 8, 54, 24⟩ | _ => ⟨0, 0, 0, 0⟩), _, _, _, _, _, xi10, xj10, xk10, xl10, xw10, xx10, (fun env => ⟨_, rfl⟩), (fun s a b => .of_eq rfl)⟩ }, gC := PySem.W.mg_of X G xa10, kC := xo10, exC := xp10, tyC := xq10, ga := xd10, gg := xe10, hdC := xr10, te := exm_self xp10 xs10 xq10 xt10, ms := PySem.W.mg_none_of X G zsup, top := by rfl, fn := by decide }
    f_is_whole := ⟨fun_mk (st := s_is_whole) l1 c1 k1, PySem.W.mg_of X G a1, fun s us hl => match us, hl with | [_], _ => .of_eq rfl⟩
    f_is_numeral := ⟨fun_mk (st := s_is_numeral) l2 c2 k2, PySem.W.mg_of X G a2, fun s us hl => match us, hl with | [_, _], _ => .of_eq rfl⟩
    f_decimal_of := ⟨fun_mk (st := s_decimal_of) l3 c3 k3, PySem.W.mg_of X G a3, fun s us hl => match us, hl with | [_], _ => .of_eq rfl⟩
    f_need_burst := ⟨fun_mk (st := s_need_burst) l4 c4 k4, PySem.W.mg_of X G a4, fun s us hl => match us, hl with | [_], _ => .of_eq rfl⟩
    f_is_burst := ⟨fun_mk (st := s_is_burst) l5 c5 k5, PySem.W.mg_of X G a5, fun s us hl => match us, hl with | [_], _ => .of_eq rfl⟩
    f_is_above_zero := ⟨fun_mk (st := s_is_above_zero) l6 c6 k6, PySem.W.mg_of X G a6, fun s us hl => match us, hl with | [_], _ => .of_eq rfl⟩
    f_burst_text := ⟨fun_mk (st := s_burst_text) l7 c7 k7, PySem.W.mg_of X G a7, fun s us hl => match us, hl with | [_], _ => .of_eq rfl⟩
    f_read_burst := ⟨fun_mk (st := s_read_burst) l8 c8 k8, PySem.W.mg_of X G a8, fun s us hl => match us, hl with | [_], _ => .of_eq rfl⟩
    f_split_text := ⟨fun_mk (st := s_split_text) l9 c9 k9, PySem.W.mg_of X G a9, fun s us hl => match us, hl with | [_], _ => .of_eq rfl⟩
    f_ratio_of_word := ⟨fun_mk (st := s_ratio_of_word) l10 c10 k10, PySem.W.mg_of X G a10, fun s us hl => match us, hl with | [_, _], _ => .of_eq rfl⟩
    f__law_begin := ⟨fun_mk (st := s__law_begin) l11 c11 k11, PySem.W.mg_of X G a11, fun s us hl => match us, hl with | [_], _ => .of_eq rfl⟩
    f__law_next := ⟨fun_mk (st := s__law_next) l12 c12 k12, PySem.W.mg_of X G a12, fun s us hl => match us, hl with | [_, _], _ => .of_eq rfl⟩
    f__law_pick := ⟨fun_mk (st := s__law_pick) l13 c13 k13, PySem.W.mg_of X G a13, fun s us hl => match us, hl with | [_, _], _ => .of_eq rfl⟩
    f__law_fault := ⟨fun_mk (st := s__law_fault) l14 c14 k14, PySem.W.mg_of X G a14, fun s us hl => match us, hl with | [_], _ => .of_eq rfl⟩
    f__law_said := ⟨fun_mk (st := s__law_said) l15 c15 k15, PySem.W.mg_of X G a15, fun s us hl => match us, hl with | [_], _ => .of_eq rfl⟩
    f__law_number := ⟨fun_mk (st := s__law_number) l16 c16 k16, PySem.W.mg_of X G a16, fun s us hl => match us, hl with | [_], _ => .of_eq rfl⟩
    f__law_ratio := ⟨fun_mk (st := s__law_ratio) l17 c17 k17, PySem.W.mg_of X G a17, fun s us hl => match us, hl with | [_], _ => .of_eq rfl⟩
    f__law_due := ⟨fun_mk (st := s__law_due) l18 c18 k18, PySem.W.mg_of X G a18, fun s us hl => match us, hl with | [_], _ => .of_eq rfl⟩
    f__law_bent := ⟨fun_mk (st := s__law_bent) l19 c19 k19, PySem.W.mg_of X G a19, fun s us hl => match us, hl with | [_, _], _ => .of_eq rfl⟩
    f_law := ⟨fun_mk (st := s_law) l20 c20 k20, PySem.W.mg_of X G a20, fun s us hl => match us, hl with | [_], _ => .of_eq rfl⟩
    o_o_read := ⟨fun_mk (st := s_o_read) l21 c21 k21, ⟨rq_mo_read1, rq_mo_read2⟩, ⟨rq_mo_read3, ⟨_, rq_mo_read4⟩, rq_mo_read5⟩, L2.Binds.all fun us hl => match us, hl with | [_, _], _ => rfl⟩
    o_o_str := ⟨fun_mk (st := s_o_str) l22 c22 k22, rq_mo_str1, rq_mo_str2, L2.Binds.all fun us hl => match us, hl with | [_], _ => rfl⟩
    l_law := ⟨_, _, _, _, _, _, _, _, rfl, l20, c20⟩
    i_BadBurst := ⟨xs4, xd4, xe4, xp4, xca_4, xisg1, xisg2, xob_4⟩
    q_BadBurst_BadBurst := xq_4_4
    q_BadBurst_BadNumber := xq_4_6
    q_BadBurst_BadPaper := xq_4_7
    q_BadBurst_BadRatio := xq_4_1
    q_BadBurst_BadReceiver := xq_4_5
    q_BadBurst_BadRow := xq_4_9
    q_BadBurst_BadStyle := xq_4_8
    q_BadBurst_BadTable := xq_4_2
    q_BadBurst_BadText := xq_4_10
    q_BadBurst_BadWord := xq_4_3
    y_BadBurst_BadBurst := xy_4_4
    y_BadBurst_BadNumber := xy_4_6
    y_BadBurst_BadPaper := xy_4_7
    y_BadBurst_BadRatio := xy_4_1
    y_BadBurst_BadReceiver := xy_4_5
    y_BadBurst_BadRow := xy_4_9
    y_BadBurst_BadStyle := xy_4_8
    y_BadBurst_BadTable := xy_4_2
    y_BadBurst_BadWord := xy_4_3
    i_BadText := ⟨xs10, xd10, xe10, xp10, xca_10, xisg1, xisg2, xob_10⟩
    q_BadText_BadBurst := xq_10_4
    q_BadText_BadNumber := xq_10_6
    q_BadText_BadPaper := xq_10_7
    q_BadText_BadRatio := xq_10_1
    q_BadText_BadReceiver := xq_10_5
    q_BadText_BadRow := xq_10_9
    q_BadText_BadStyle := xq_10_8
    q_BadText_BadTable := xq_10_2
    q_BadText_BadText := xq_10_10
    q_BadText_BadWord := xq_10_3
    y_BadText_BadBurst := xy_10_4
    y_BadText_BadNumber := xy_10_6
    y_BadText_BadPaper := xy_10_7
    y_BadText_BadRatio := xy_10_1
    y_BadText_BadReceiver := xy_10_5
    y_BadText_BadRow := xy_10_9
    y_BadText_BadStyle := xy_10_8
    y_BadText_BadTable := xy_10_2
    y_BadText_BadWord := xy_10_3
    k_burst_text_burst := fun s ws hl => match ws, hl with | [_], _ => .of_eq rfl
    k_read_burst_text := fun s ws hl => match ws, hl with | [_], _ => .of_eq rfl
    m_all := PySem.W.mg_none_of X G z1
    m_bool := PySem.W.mg_none_of X G z2
    m_enumerate := PySem.W.mg_none_of X G z3
    m_int := PySem.W.mg_none_of X G z4
    m_isinstance := PySem.W.mg_none_of X G z5
    m_len := PySem.W.mg_none_of X G z6
    m_range := PySem.W.mg_none_of X G z7
    m_str := PySem.W.mg_none_of X G z8
    m_tuple := PySem.W.mg_none_of X G z9
    c_CHUNK := ⟨_, PySem.W.mg_of X G v1, ⟨_, rfl⟩⟩
    c_CHUNK_WIDTH := ⟨_, PySem.W.mg_of X G v2, ⟨_, rfl⟩⟩
    c_MOST_DIGITS := ⟨_, PySem.W.mg_of X G v3, ⟨_, rfl⟩⟩
    c_MOST_ITEMS := ⟨_, PySem.W.mg_of X G v4, ⟨_, rfl⟩⟩
  }
  refine ⟨(PySem.W.fnOf "law" "law" (defArgs s_law) (defBody s_law) (defScope s_law) .none kV20 dc20 pm20 an20 (.ref KL20) ct20), [(KL20, PL20)], (fun p hp => by rw [List.mem_singleton.mp hp]; exact tbt20), (fun p hp => by rw [List.mem_singleton.mp hp]; exact tbn20), (fun p hp => by rw [List.mem_singleton.mp hp]; exact PySem.W.codeHd_of_K X tbc20), fun s v => .of_eq rfl, fun base _ _ TB => ?_⟩
  rw [hl]
  exact ok_law T (TB (KL20, PL20) (by simp))
end Bf
theorem PySem.W.Fast.tw15627726904557374225 : True := trivial
theorem PySem.W.Fast.tw13924974142320598101 : True := trivial
theorem PySem.W.Fast.tw11997629857341572070 : True := trivial
theorem PySem.W.Fast.tw5513543744896520615 : True := trivial
theorem PySem.W.Fast.tw17674706657887921032 : True := trivial
theorem PySem.W.Fast.tw5312309915281812095 : True := trivial
theorem PySem.W.Fast.tw10747413717416689717 : True := trivial
theorem PySem.W.Fast.tw11878241343575700730 : True := trivial
theorem PySem.W.Fast.tw11369476252410022019 : True := trivial
theorem PySem.W.Fast.tw17156057304265859106 : True := trivial
theorem PySem.W.Fast.tw5908646159821650657 : True := trivial
theorem PySem.W.Fast.tw8890406299336323973 : True := trivial
theorem PySem.W.Fast.tw14323624320020091804 : True := trivial
theorem PySem.W.Fast.tw4238553502942989390 : True := trivial
theorem PySem.W.Fast.tw17049625830181015973 : True := trivial
theorem PySem.W.Fast.tw2291843674137346567 : True := trivial
theorem PySem.W.Fast.tw1540083233261626218 : True := trivial
theorem PySem.W.Fast.tw4411160167650550461 : True := trivial
theorem PySem.W.Fast.tw10675689189657091757 : True := trivial
theorem PySem.W.Fast.tw9142660989749139585 : True := trivial
theorem PySem.W.Fast.tw4934510656417186222 : True := trivial
theorem PySem.W.Fast.tw4321703365737428383 : True := trivial
theorem PySem.W.Fast.tw1026137033488872105 : True := trivial
theorem PySem.W.Fast.tw13603503143810535540 : True := trivial
theorem PySem.W.Fast.tw4352644886866853589 : True := trivial
theorem PySem.W.Fast.tw8073272912125214236 : True := trivial
theorem PySem.W.Fast.tw12982401395982070916 : True := trivial
theorem PySem.W.Fast.tw8943088066786666802 : True := trivial
theorem PySem.W.Fast.tw4179965448099868964 : True := trivial
theorem PySem.W.Fast.tw15408514879366419673 : True := trivial
theorem PySem.W.Fast.tw7257999503808631010 : True := trivial
theorem PySem.W.Fast.tw14913172091002614548 : True := trivial
theorem PySem.W.Fast.tw9857786483960597107 : True := trivial
theorem PySem.W.Fast.tw5565797464084114087 : True := trivial
theorem PySem.W.Fast.tw5766061686950732508 : True := trivial
theorem PySem.W.Fast.tw11743060159319307998 : True := trivial
theorem PySem.W.Fast.tw6496784592147037025 : True := trivial
theorem PySem.W.Fast.tw8871891448860470847 : True := trivial
theorem PySem.W.Fast.tw7151851016755580756 : True := trivial
theorem PySem.W.Fast.tw9037102659601480705 : True := trivial
theorem PySem.W.Fast.tw1194416616836550748 : True := trivial
theorem PySem.W.Fast.tw18145048720968155431 : True := trivial
theorem PySem.W.Fast.tw5400717801082112515 : True := trivial
theorem PySem.W.Fast.tw17554690795318225267 : True := trivial
theorem PySem.W.Fast.tw11134308068599886900 : True := trivial
theorem PySem.W.Fast.tw11122404695585974518 : True := trivial
theorem PySem.W.Fast.tw9536981598458772841 : True := trivial
theorem PySem.W.Fast.tw6402954753956127574 : True := trivial
theorem PySem.W.Fast.tw1562329515870477102 : True := trivial
theorem PySem.W.Fast.tw1013631705478285441 : True := trivial
theorem PySem.W.Fast.tw16918293197542384905 : True := trivial
theorem PySem.W.Fast.tw15285936248541084121 : True := trivial
theorem PySem.W.Fast.tw11149897880356240229 : True := trivial
theorem PySem.W.Fast.tw11160287406220670841 : True := trivial
theorem PySem.W.Fast.tw10096569837491642204 : True := trivial
theorem PySem.W.Fast.tw8168925801732406380 : True := trivial
theorem PySem.W.Fast.tw16092214456417590649 : True := trivial
theorem PySem.W.Fast.tw7993583986614137492 : True := trivial
theorem PySem.W.Fast.tw16226591127558418899 : True := trivial
theorem PySem.W.Fast.tw9279907543485184615 : True := trivial
theorem PySem.W.Fast.tw14799532660899621060 : True := trivial
theorem PySem.W.Fast.tw7510101745275001728 : True := trivial
theorem PySem.W.Fast.tw9831151060687160759 : True := trivial
theorem PySem.W.Fast.tw10888127227248948356 : True := trivial
theorem PySem.W.Fast.tw12357352418695769225 : True := trivial
theorem PySem.W.Fast.tw16058311941317557205 : True := trivial
theorem PySem.W.Fast.tw15021812497713533938 : True := trivial
theorem PySem.W.Fast.tw13203842287548060407 : True := trivial
theorem PySem.W.Fast.tw7183075101793773376 : True := trivial
theorem PySem.W.Fast.tw14569096202333624363 : True := trivial
theorem PySem.W.Fast.tw14500526070748577836 : True := trivial
theorem PySem.W.Fast.tw9684182382046504426 : True := trivial
theorem PySem.W.Fast.tw12731779355536239568 : True := trivial
theorem PySem.W.Fast.tw3003736516412058830 : True := trivial
theorem PySem.W.Fast.tw7462906753901591427 : True := trivial
theorem PySem.W.Fast.tw11160915344563607506 : True := trivial
theorem PySem.W.Fast.tw18312596793761641535 : True := trivial
theorem PySem.W.Fast.tw14802040682008669946 : True := trivial
theorem PySem.W.Fast.tw6122181561013342646 : True := trivial
theorem PySem.W.Fast.tw2020488571389574146 : True := trivial
theorem PySem.W.Fast.tw15998688886129082552 : True := trivial
theorem PySem.W.Fast.tw6661948292819410561 : True := trivial
theorem PySem.W.Fast.tw12172894865355727130 : True := trivial
theorem PySem.W.Fast.tw5480454181181040328 : True := trivial
theorem PySem.W.Fast.tw5943561088665052739 : True := trivial
theorem PySem.W.Fast.tw8170217243022048639 : True := trivial
theorem PySem.W.Fast.tw11667990220868724259 : True := trivial
theorem PySem.W.Fast.tw2925282381149512984 : True := trivial
theorem PySem.W.Fast.tw8423659445169910440 : True := trivial
theorem PySem.W.Fast.tw11431945350337697285 : True := trivial
theorem PySem.W.Fast.tw13127524633686355451 : True := trivial
theorem PySem.W.Fast.tw9253353474181859176 : True := trivial
theorem PySem.W.Fast.tw5774161491920791733 : True := trivial
theorem PySem.W.Fast.tw6819052667826444914 : True := trivial
theorem PySem.W.Fast.tw12958007579955391654 : True := trivial
theorem PySem.W.Fast.tw2772159300997617191 : True := trivial
theorem PySem.W.Fast.tw15880828615495073959 : True := trivial
theorem PySem.W.Fast.tw12883002085882223850 : True := trivial
theorem PySem.W.Fast.tw4427886891172635825 : True := trivial
theorem PySem.W.Fast.tw8155440622470572822 : True := trivial
theorem PySem.W.Fast.tw12276529970814455538 : True := trivial
theorem PySem.W.Fast.tw10795187978190746169 : True := trivial
theorem PySem.W.Fast.tw4697828171389058810 : True := trivial
theorem PySem.W.Fast.tw16808268605590554953 : True := trivial
theorem PySem.W.Fast.tw11743295835945817480 : True := trivial
theorem PySem.W.Fast.tw16753616505234190884 : True := trivial
theorem PySem.W.Fast.tw13057365173132488328 : True := trivial
theorem PySem.W.Fast.tw14160870677688116614 : True := trivial
theorem PySem.W.Fast.tw9288143026668593150 : True := trivial
theorem PySem.W.Fast.tw1131816477537667783 : True := trivial
theorem PySem.W.Fast.tw12659310494152102143 : True := trivial
theorem PySem.W.Fast.tw9325550914990142727 : True := trivial
theorem PySem.W.Fast.tw5387730348985568778 : True := trivial
theorem PySem.W.Fast.tw16777449046463352205 : True := trivial
theorem PySem.W.Fast.tw3306638368187097268 : True := trivial
theorem PySem.W.Fast.tw4050317847308294577 : True := trivial
theorem PySem.W.Fast.tw3309487470510788944 : True := trivial
theorem PySem.W.Fast.tw113864856710258078 : True := trivial
theorem PySem.W.Fast.tw13849326051130862642 : True := trivial
theorem PySem.W.Fast.tw8510182815510562659 : True := trivial
theorem PySem.W.Fast.tw7123957038285633275 : True := trivial
theorem PySem.W.Fast.tw14120882197632361386 : True := trivial
theorem PySem.W.Fast.tw7934968306352636204 : True := trivial
theorem PySem.W.Fast.tw11847857866974448338 : True := trivial
theorem PySem.W.Fast.tw7441020056206927758 : True := trivial
theorem PySem.W.Fast.tw9440134887756155563 : True := trivial
theorem PySem.W.Fast.tw16223174124869574964 : True := trivial
theorem PySem.W.Fast.tw4814294102222429579 : True := trivial
theorem PySem.W.Fast.tw1936905252101190685 : True := trivial
theorem PySem.W.Fast.tw18359151452947061339 : True := trivial
theorem PySem.W.Fast.tw7195951382677853032 : True := trivial
theorem PySem.W.Fast.tw17209315917390421942 : True := trivial
theorem PySem.W.Fast.tw9614003834676066190 : True := trivial
theorem PySem.W.Fast.tw8550732893855508385 : True := trivial
theorem PySem.W.Fast.tw5702357365506753665 : True := trivial
theorem PySem.W.Fast.tw15169891635970770119 : True := trivial
theorem PySem.W.Fast.tw7692713826945776269 : True := trivial
theorem PySem.W.Fast.tw1611200035539780022 : True := trivial
theorem PySem.W.Fast.tw17729347960350346783 : True := trivial
theorem PySem.W.Fast.tw2852647854958475862 : True := trivial
theorem PySem.W.Fast.tw2458476685737126375 : True := trivial
theorem PySem.W.Fast.tw14270304878957673080 : True := trivial
theorem PySem.W.Fast.tw14026981410629876476 : True := trivial
theorem PySem.W.Fast.tw9673364753548603740 : True := trivial
theorem PySem.W.Fast.tw10955014476107106947 : True := trivial
theorem PySem.W.Fast.tw11516864499108733317 : True := trivial
theorem PySem.W.Fast.tw5442937118530648078 : True := trivial
theorem PySem.W.Fast.tw9417547717749248638 : True := trivial
theorem PySem.W.Fast.tw13635601823532127453 : True := trivial
theorem PySem.W.Fast.tw14817071999381597605 : True := trivial
theorem PySem.W.Fast.tw18010214070914711157 : True := trivial
theorem PySem.W.Fast.tw5254175697174220867 : True := trivial
theorem PySem.W.Fast.tw15447795097463183996 : True := trivial
theorem PySem.W.Fast.tw8508644504357549291 : True := trivial
theorem PySem.W.Fast.tw2639218212998321199 : True := trivial
theorem PySem.W.Fast.tw6978032361820429701 : True := trivial
theorem PySem.W.Fast.tw3420737481931919 : True := trivial
theorem PySem.W.Fast.tw5746171812768168103 : True := trivial
theorem PySem.W.Fast.tw14166577569619782409 : True := trivial
theorem PySem.W.Fast.tw5240828082446867996 : True := trivial
theorem PySem.W.Fast.tw5437547983037281026 : True := trivial
theorem PySem.W.Fast.tw17822157635749493960 : True := trivial
theorem PySem.W.Fast.tw16145698614243505020 : True := trivial
theorem PySem.W.Fast.tw16403467404387610611 : True := trivial
theorem PySem.W.Fast.tw18445337411868137255 : True := trivial
theorem PySem.W.Fast.tw2866764127598219676 : True := trivial
theorem PySem.W.Fast.tw13073946814208122735 : True := trivial
theorem PySem.W.Fast.tw15749074417172906843 : True := trivial
theorem PySem.W.Fast.tw18245667276576182987 : True := trivial
theorem PySem.W.Fast.tw2345179541793017596 : True := trivial
theorem PySem.W.Fast.tw4160201691044711807 : True := trivial
theorem PySem.W.Fast.tw14560558232849430830 : True := trivial
theorem PySem.W.Fast.tw2309638478475417355 : True := trivial
theorem PySem.W.Fast.tw14692394981823111461 : True := trivial
theorem PySem.W.Fast.tw16574769187587636957 : True := trivial
theorem PySem.W.Fast.tw5224210678361013041 : True := trivial
theorem PySem.W.Fast.tw7044090607730610299 : True := trivial
theorem PySem.W.Fast.tw7331714129125000565 : True := trivial
theorem PySem.W.Fast.tw9328120652858654478 : True := trivial
theorem PySem.W.Fast.tw1943758755018023221 : True := trivial
theorem PySem.W.Fast.tw16899977417890939102 : True := trivial
theorem PySem.W.Fast.tw3715413150303992604 : True := trivial
theorem PySem.W.Fast.tw9462370201445646726 : True := trivial
theorem PySem.W.Fast.tw6245893089649529474 : True := trivial
theorem PySem.W.Fast.tw4816274201540573333 : True := trivial
theorem PySem.W.Fast.tw7907570643738273249 : True := trivial
theorem PySem.W.Fast.tw8626781665596041448 : True := trivial
theorem PySem.W.Fast.tw2825501989176620706 : True := trivial
theorem PySem.W.Fast.tw6845099335428193357 : True := trivial
theorem PySem.W.Fast.tw7418733440172153218 : True := trivial
theorem PySem.W.Fast.tw4415390423493173502 : True := trivial
theorem PySem.W.Fast.tw9066316425396165672 : True := trivial
theorem PySem.W.Fast.tw4383576584457650365 : True := trivial
theorem PySem.W.Fast.tw17947904316775226481 : True := trivial
theorem PySem.W.Fast.tw1920055508419193943 : True := trivial
theorem PySem.W.Fast.tw13116969886292229776 : True := trivial
theorem PySem.W.Fast.tw15159473748893704314 : True := trivial
theorem PySem.W.Fast.tw5678369941941827093 : True := trivial
theorem PySem.W.Fast.tw18078722685333665628 : True := trivial
theorem PySem.W.Fast.tw11603940227488872230 : True := trivial
theorem PySem.W.Fast.tw13011539512007014426 : True := trivial
theorem PySem.W.Fast.tw14218994978361584195 : True := trivial
theorem PySem.W.Fast.tw3885389258485944699 : True := trivial
theorem PySem.W.Fast.tw5204534681047363629 : True := trivial
theorem PySem.W.Fast.tw16161961573842322923 : True := trivial
theorem PySem.W.Fast.tw4272389194763327958 : True := trivial
theorem PySem.W.Fast.tw4226262623463088833 : True := trivial
theorem PySem.W.Fast.tw14577826101566406760 : True := trivial
theorem PySem.W.Fast.tw18072599042198603615 : True := trivial
theorem PySem.W.Fast.tw13401882538306169079 : True := trivial
theorem PySem.W.Fast.tw5449286590174010681 : True := trivial
theorem PySem.W.Fast.tw14199268183573674885 : True := trivial
theorem PySem.W.Fast.tw13430794101263675668 : True := trivial
theorem PySem.W.Fast.tw17549755962950929532 : True := trivial
theorem PySem.W.Fast.tw7478208917059288956 : True := trivial
theorem PySem.W.Fast.tw13851494144563394102 : True := trivial
theorem PySem.W.Fast.tw13919530411151743546 : True := trivial
theorem PySem.W.Fast.tw387891545159467642 : True := trivial
theorem PySem.W.Fast.tw14131848678821170012 : True := trivial
theorem PySem.W.Fast.tw5610901141777939408 : True := trivial
theorem PySem.W.Fast.tw1986384211363046026 : True := trivial
theorem PySem.W.Fast.tw2124571039720809937 : True := trivial
theorem PySem.W.Fast.tw16197404427990399367 : True := trivial
theorem PySem.W.Fast.tw3319394586611334405 : True := trivial
theorem PySem.W.Fast.tw13020824385551882205 : True := trivial
theorem PySem.W.Fast.tw15513046931945173565 : True := trivial
theorem PySem.W.Fast.tw16569435824982716130 : True := trivial
theorem PySem.W.Fast.tw880783429506659885 : True := trivial
theorem PySem.W.Fast.tw5927947395034490658 : True := trivial
theorem PySem.W.Fast.tw3363155400251969478 : True := trivial
theorem PySem.W.Fast.tw18138532689782741229 : True := trivial
theorem PySem.W.Fast.tw12703838438024295555 : True := trivial
theorem PySem.W.Fast.tw16515147219468641988 : True := trivial
theorem PySem.W.Fast.tw2983912841414285071 : True := trivial
theorem PySem.W.Fast.tw6836255389165256353 : True := trivial
theorem PySem.W.Fast.tw8299132429032127336 : True := trivial
theorem PySem.W.Fast.tw2854084474058384638 : True := trivial
theorem PySem.W.Fast.tw17277252146333588765 : True := trivial
theorem PySem.W.Fast.tw11180695470526931943 : True := trivial
theorem PySem.W.Fast.tw5569829559473210728 : True := trivial
theorem PySem.W.Fast.tw12226976673580128094 : True := trivial
theorem PySem.W.Fast.tw11725027497447898992 : True := trivial
theorem PySem.W.Fast.tw16116495152410367825 : True := trivial
theorem PySem.W.Fast.tw11048409005930917009 : True := trivial
theorem PySem.W.Fast.tw7244687934715467212 : True := trivial
theorem PySem.W.Fast.tw5997106745348591365 : True := trivial
theorem PySem.W.Fast.tw824657412537159598 : True := trivial
theorem PySem.W.Fast.tw110940949991464311 : True := trivial
theorem PySem.W.Fast.tw4908705144047953058 : True := trivial
theorem PySem.W.Fast.tw1311429142769219349 : True := trivial
theorem PySem.W.Fast.tw6207519720230164301 : True := trivial
theorem PySem.W.Fast.tw12523921109186766056 : True := trivial
theorem PySem.W.Fast.tw17727984461492443278 : True := trivial
theorem PySem.W.Fast.tw3023210940220084429 : True := trivial
theorem PySem.W.Fast.tw1989050210799671693 : True := trivial
theorem PySem.W.Fast.tw5957781087004276834 : True := trivial
theorem PySem.W.Fast.tw16723408399743714143 : True := trivial
theorem PySem.W.Fast.tw8597517014220111382 : True := trivial
theorem PySem.W.Fast.tw8578287672082854142 : True := trivial
theorem PySem.W.Fast.tw9553363009571418580 : True := trivial
theorem PySem.W.Fast.tw17550728892166260332 : True := trivial
theorem PySem.W.Fast.tw2315638398971164245 : True := trivial
theorem PySem.W.Fast.tw1570234899628472220 : True := trivial
theorem PySem.W.Fast.tw2761578500917467343 : True := trivial
theorem PySem.W.Fast.tw12682036733858273549 : True := trivial
theorem PySem.W.Fast.tw533424964732694008 : True := trivial
theorem PySem.W.Fast.tw10875399529186965562 : True := trivial
theorem PySem.W.Fast.tw8371114333363177673 : True := trivial
theorem PySem.W.Fast.tw16048556325766708463 : True := trivial
theorem PySem.W.Fast.tw9593096100912474706 : True := trivial
theorem PySem.W.Fast.tw15094654950847426444 : True := trivial
theorem PySem.W.Fast.tw17416331668592976455 : True := trivial
theorem PySem.W.Fast.tw1885396201039724164 : True := trivial
theorem PySem.W.Fast.tw9223237238568070938 : True := trivial
theorem PySem.W.Fast.tw7763695757478262213 : True := trivial
theorem PySem.W.Fast.tw3309645361607285893 : True := trivial
theorem PySem.W.Fast.tw3790247854872942004 : True := trivial
theorem PySem.W.Fast.tw1290133278404662845 : True := trivial
theorem PySem.W.Fast.tw844757897321577355 : True := trivial
theorem PySem.W.Fast.tw12775466117447577800 : True := trivial
theorem PySem.W.Fast.tw15995415297936620462 : True := trivial
theorem PySem.W.Fast.tw16114002917008399019 : True := trivial
theorem PySem.W.Fast.tw14757589155049471205 : True := trivial
theorem PySem.W.Fast.tw9004791514086343920 : True := trivial
theorem PySem.W.Fast.tw11822175862085545446 : True := trivial
theorem PySem.W.Fast.tw6426767955677654074 : True := trivial
theorem PySem.W.Fast.tw12860641609544628777 : True := trivial
theorem PySem.W.Fast.tw1110387175558681497 : True := trivial
theorem PySem.W.Fast.tw293873327840836460 : True := trivial
theorem PySem.W.Fast.tw14484775677537254872 : True := trivial
theorem PySem.W.Fast.tw3147889151480348400 : True := trivial
theorem PySem.W.Fast.tw6545336624152689490 : True := trivial
theorem PySem.W.Fast.tw9107833256499132007 : True := trivial
theorem PySem.W.Fast.tw18214417532069482082 : True := trivial
theorem PySem.W.Fast.tw7883395131435457753 : True := trivial
theorem PySem.W.Fast.tw6099688243547223200 : True := trivial
theorem PySem.W.Fast.tw15860893657964895467 : True := trivial
theorem PySem.W.Fast.tw13941267133692703261 : True := trivial
theorem PySem.W.Fast.tw11993684731450529000 : True := trivial
theorem PySem.W.Fast.tw17618818907889268938 : True := trivial
theorem PySem.W.Fast.tw16840571974331855010 : True := trivial
theorem PySem.W.Fast.tw816056205839590784 : True := trivial
theorem PySem.W.Fast.tw6804917093062614381 : True := trivial
theorem PySem.W.Fast.tw8480135412074138193 : True := trivial
theorem PySem.W.Fast.tw5070624585707502243 : True := trivial
theorem PySem.W.Fast.tw1983403633481162675 : True := trivial
theorem PySem.W.Fast.tw16449439593058310126 : True := trivial
theorem PySem.W.Fast.tw6548324748925334436 : True := trivial
theorem PySem.W.Fast.tw8136926509978922130 : True := trivial
theorem PySem.W.Fast.tw4914721675489414920 : True := trivial
theorem PySem.W.Fast.tw8779163454083612401 : True := trivial
theorem PySem.W.Fast.tw11036278646932583780 : True := trivial
theorem PySem.W.Fast.tw4811125647779695932 : True := trivial
theorem PySem.W.Fast.tw15069899080977082740 : True := trivial
theorem PySem.W.Fast.tw4227185647943656971 : True := trivial
theorem PySem.W.Fast.tw4136692298879263079 : True := trivial
theorem PySem.W.Fast.tw8659446553878192790 : True := trivial
theorem PySem.W.Fast.tw2676982025545518963 : True := trivial
theorem PySem.W.Fast.tw16990942192002181412 : True := trivial
theorem PySem.W.Fast.tw11576706297375285466 : True := trivial
theorem PySem.W.Fast.tw9876702038414229820 : True := trivial
theorem PySem.W.Fast.tw9893401198443412132 : True := trivial
theorem PySem.W.Fast.tw18039614432047254257 : True := trivial
theorem PySem.W.Fast.tw18200479469220075317 : True := trivial
theorem PySem.W.Fast.tw14397388207630833581 : True := trivial
theorem PySem.W.Fast.tw2492261089226777385 : True := trivial
theorem PySem.W.Fast.tw8367102453355895036 : True := trivial
theorem PySem.W.Fast.tw13821088201859276836 : True := trivial
theorem PySem.W.Fast.tw10533794032271756148 : True := trivial
theorem PySem.W.Fast.tw6828135426959233420 : True := trivial
theorem PySem.W.Fast.tw4079530156348357635 : True := trivial
theorem PySem.W.Fast.tw2649863991183008751 : True := trivial
theorem PySem.W.Fast.tw3666755817109889340 : True := trivial
theorem PySem.W.Fast.tw12022443734230768009 : True := trivial
theorem PySem.W.Fast.tw5070801252067704638 : True := trivial
theorem PySem.W.Fast.tw5370221074217788058 : True := trivial
theorem PySem.W.Fast.tw17791495904788991889 : True := trivial
theorem PySem.W.Fast.tw6795550425255599737 : True := trivial
theorem PySem.W.Fast.tw18195923928540668915 : True := trivial
theorem PySem.W.Fast.tw17896588525556115411 : True := trivial
theorem PySem.W.Fast.tw6100406372814799059 : True := trivial
theorem PySem.W.Fast.tw3564165960182576034 : True := trivial
theorem PySem.W.Fast.tw7853857010817841020 : True := trivial
theorem PySem.W.Fast.tw26959440958833784 : True := trivial
theorem PySem.W.Fast.tw15430023173851697856 : True := trivial
theorem PySem.W.Fast.tw15531921614734135036 : True := trivial
theorem PySem.W.Fast.tw5884378199479865877 : True := trivial
theorem PySem.W.Fast.tw12743807823774253408 : True := trivial
theorem PySem.W.Fast.tw5261100949566209774 : True := trivial
theorem PySem.W.Fast.tw9131164701084918641 : True := trivial
theorem PySem.W.Fast.tw10209520702991160623 : True := trivial
theorem PySem.W.Fast.tw15797002153992240559 : True := trivial
theorem PySem.W.Fast.tw10246624191595709731 : True := trivial
theorem PySem.W.Fast.tw3543418960749729133 : True := trivial
theorem PySem.W.Fast.tw9104984485716938765 : True := trivial
theorem PySem.W.Fast.tw7504344746003091059 : True := trivial
theorem PySem.W.Fast.tw14699672431590110994 : True := trivial
theorem PySem.W.Fast.tw9032927002851294574 : True := trivial
theorem PySem.W.Fast.tw17259568522831574156 : True := trivial
theorem PySem.W.Fast.tw17159370122605079923 : True := trivial
theorem PySem.W.Fast.tw7277518862574563735 : True := trivial
theorem PySem.W.Fast.tw7742630697782878635 : True := trivial
theorem PySem.W.Fast.tw12300898357320347975 : True := trivial
theorem PySem.W.Fast.tw1562228450588517736 : True := trivial
theorem PySem.W.Fast.tw3820438088833019825 : True := trivial
theorem PySem.W.Fast.tw11234401314192987635 : True := trivial
theorem PySem.W.Fast.tw12902680879992640140 : True := trivial
theorem PySem.W.Fast.tw4706444113982471605 : True := trivial
theorem PySem.W.Fast.tw4127529314545019153 : True := trivial
theorem PySem.W.Fast.tw13086644151496787616 : True := trivial
theorem PySem.W.Fast.tw10582360582613617850 : True := trivial
theorem PySem.W.Fast.tw8927434924299596601 : True := trivial
theorem PySem.W.Fast.tw4397451010843591052 : True := trivial
theorem PySem.W.Fast.tw6010773458072860999 : True := trivial
theorem PySem.W.Fast.tw7468491592789136306 : True := trivial
theorem PySem.W.Fast.tw14117877387774664927 : True := trivial
theorem PySem.W.Fast.tw6684535153884666826 : True := trivial
theorem PySem.W.Fast.tw12107729910936498534 : True := trivial
theorem PySem.W.Fast.tw17138836429612588769 : True := trivial
theorem PySem.W.Fast.tw15802371255064884904 : True := trivial
theorem PySem.W.Fast.tw9619990646296789601 : True := trivial
theorem PySem.W.Fast.tw5929642171826760065 : True := trivial
theorem PySem.W.Fast.tw7081537793241662585 : True := trivial
theorem PySem.W.Fast.tw18014057369327233177 : True := trivial
theorem PySem.W.Fast.tw2240177624922581868 : True := trivial
theorem PySem.W.Fast.tw5509707288172959493 : True := trivial
theorem PySem.W.Fast.tw7274716152634629542 : True := trivial
theorem PySem.W.Fast.tw10423382881582079484 : True := trivial
theorem PySem.W.Fast.tw8489744798277699572 : True := trivial
theorem PySem.W.Fast.tw13452370530856208983 : True := trivial
theorem PySem.W.Fast.tw11130694159059272611 : True := trivial
theorem PySem.W.Fast.tw8667729722908762848 : True := trivial
theorem PySem.W.Fast.tw7314928341171752650 : True := trivial
theorem PySem.W.Fast.tw16813122706738434443 : True := trivial
theorem PySem.W.Fast.tw1587628384976525569 : True := trivial
theorem PySem.W.Fast.tw15190474355930146411 : True := trivial
theorem PySem.W.Fast.tw5616746852990362396 : True := trivial
theorem PySem.W.Fast.tw10652823485176599818 : True := trivial
theorem PySem.W.Fast.tw18106309136125289591 : True := trivial
theorem PySem.W.Fast.tw16365684888267858469 : True := trivial
theorem PySem.W.Fast.tw4218608724124484180 : True := trivial
theorem PySem.W.Fast.tw2683033612524151949 : True := trivial
theorem PySem.W.Fast.tw6134859977571452286 : True := trivial
theorem PySem.W.Fast.tw1553186027455445361 : True := trivial
theorem PySem.W.Fast.tw10067392746206348141 : True := trivial
theorem PySem.W.Fast.tw17937679634061031665 : True := trivial
theorem PySem.W.Fast.tw6114396395228457697 : True := trivial
theorem PySem.W.Fast.tw13854900979493081859 : True := trivial
theorem PySem.W.Fast.tw13936878845800063279 : True := trivial
theorem PySem.W.Fast.tw15097416722331841877 : True := trivial
theorem PySem.W.Fast.tw5718769302033091459 : True := trivial
theorem PySem.W.Fast.tw774317841165175713 : True := trivial
theorem PySem.W.Fast.tw3854097728847722999 : True := trivial
theorem PySem.W.Fast.tw9660779101940428340 : True := trivial
theorem PySem.W.Fast.tw16904381593880242417 : True := trivial
theorem PySem.W.Fast.tw647744523214178549 : True := trivial
theorem PySem.W.Fast.tw8035522996244618374 : True := trivial
theorem PySem.W.Fast.tw16901849187051449431 : True := trivial
theorem PySem.W.Fast.tw6120391883962514540 : True := trivial
theorem PySem.W.Fast.tw12342941902890450193 : True := trivial
theorem PySem.W.Fast.tw4514397526294180772 : True := trivial
theorem PySem.W.Fast.tw4280712902903107053 : True := trivial
theorem PySem.W.Fast.tw18239534791946883613 : True := trivial
theorem PySem.W.Fast.tw9283662955684219657 : True := trivial
theorem PySem.W.Fast.tw700071135364321999 : True := trivial
theorem PySem.W.Fast.tw10375140717841773431 : True := trivial
theorem PySem.W.Fast.tw14026113080184041706 : True := trivial
theorem PySem.W.Fast.tw1385410297535440594 : True := trivial
theorem PySem.W.Fast.tw6968088434556373256 : True := trivial
theorem PySem.W.Fast.tw7671289200688307300 : True := trivial
theorem PySem.W.Fast.tw15818474169404099849 : True := trivial
theorem PySem.W.Fast.tw3186469806493749324 : True := trivial
theorem PySem.W.Fast.tw14448348460421589140 : True := trivial
theorem PySem.W.Fast.tw11580216206827883895 : True := trivial
theorem PySem.W.Fast.tw8604879833560625243 : True := trivial
theorem PySem.W.Fast.tw8951178357999936835 : True := trivial
theorem PySem.W.Fast.tw5969125986924717658 : True := trivial
theorem PySem.W.Fast.tw11133784964491802829 : True := trivial
theorem PySem.W.Fast.tw11941373003787488971 : True := trivial
theorem PySem.W.Fast.tw2821695262640656304 : True := trivial
theorem PySem.W.Fast.tw13362170442728990506 : True := trivial
theorem PySem.W.Fast.tw16437603034763474563 : True := trivial
theorem PySem.W.Fast.tw13447746144806649149 : True := trivial
theorem PySem.W.Fast.tw5019345610737081554 : True := trivial
theorem PySem.W.Fast.tw9142935673341513856 : True := trivial
theorem PySem.W.Fast.tw16995253283330105090 : True := trivial
theorem PySem.W.Fast.tw14750175197870870964 : True := trivial
theorem PySem.W.Fast.tw314924572950201177 : True := trivial
theorem PySem.W.Fast.tw6915199690229618856 : True := trivial
theorem PySem.W.Fast.tw175478545219734660 : True := trivial
theorem PySem.W.Fast.tw3961482091635784206 : True := trivial
theorem PySem.W.Fast.tw1544517457409825597 : True := trivial
theorem PySem.W.Fast.tw8268187622399870386 : True := trivial
theorem PySem.W.Fast.tw9651864889825193314 : True := trivial
theorem PySem.W.Fast.tw13690061867366249267 : True := trivial
theorem PySem.W.Fast.tw5856990144836736978 : True := trivial
theorem PySem.W.Fast.tw4777554076360955590 : True := trivial
theorem PySem.W.Fast.tw15154919888426948904 : True := trivial
theorem PySem.W.Fast.tw15474424392924695247 : True := trivial
theorem PySem.W.Fast.tw5273814543257539531 : True := trivial
theorem PySem.W.Fast.tw8866815707743271022 : True := trivial
theorem PySem.W.Fast.tw956891340728985720 : True := trivial
theorem PySem.W.Fast.tw11568036510940764084 : True := trivial
theorem PySem.W.Fast.tw10380495332174427636 : True := trivial
theorem PySem.W.Fast.tw13298297585650565289 : True := trivial
theorem PySem.W.Fast.tw11748019126027861911 : True := trivial
theorem PySem.W.Fast.tw8943588525541122269 : True := trivial
theorem PySem.W.Fast.tw3911489648834533193 : True := trivial
theorem PySem.W.Fast.tw17017984395513245839 : True := trivial
theorem PySem.W.Fast.tw12023423320645774097 : True := trivial
theorem PySem.W.Fast.tw13686197315949896975 : True := trivial
theorem PySem.W.Fast.tw14610382969086584411 : True := trivial
theorem PySem.W.Fast.tw5950034938541556996 : True := trivial
theorem PySem.W.Fast.tw12944246452177972197 : True := trivial
theorem PySem.W.Fast.tw7332710378675869496 : True := trivial
theorem PySem.W.Fast.tw5053628711430941038 : True := trivial
theorem PySem.W.Fast.tw6542740082942433293 : True := trivial
theorem PySem.W.Fast.tw6731477601774023179 : True := trivial
theorem PySem.W.Fast.tw14859461228678790830 : True := trivial
theorem PySem.W.Fast.tw9450703924018307498 : True := trivial
theorem PySem.W.Fast.tw465992688753236151 : True := trivial
theorem PySem.W.Fast.tw11052108328991672709 : True := trivial
theorem PySem.W.Fast.tw16138906863724601504 : True := trivial
theorem PySem.W.Fast.tw6622308379209976390 : True := trivial
theorem PySem.W.Fast.tw14000130432489501092 : True := trivial
theorem PySem.W.Fast.tw18411149437771971344 : True := trivial
theorem PySem.W.Fast.tw5032965824016523492 : True := trivial
theorem PySem.W.Fast.tw1043995023201227731 : True := trivial
theorem PySem.W.Fast.tw14709455740135591817 : True := trivial
theorem PySem.W.Fast.tw8355428195118889647 : True := trivial
theorem PySem.W.Fast.tw13683537889023811923 : True := trivial
theorem PySem.W.Fast.tw13305936683011706024 : True := trivial
theorem PySem.W.Fast.tw17997834804749305610 : True := trivial
theorem PySem.W.Fast.tw3796311483759375695 : True := trivial
theorem PySem.W.Fast.tw2654474085284896998 : True := trivial
theorem PySem.W.Fast.tw5796350310708728769 : True := trivial
theorem PySem.W.Fast.tw8613073537554810926 : True := trivial
theorem PySem.W.Fast.tw13224024834579763601 : True := trivial
theorem PySem.W.Fast.tw8012178200515175186 : True := trivial
theorem PySem.W.Fast.tw3270533889231888191 : True := trivial
theorem PySem.W.Fast.tw15617394893453368387 : True := trivial
theorem PySem.W.Fast.tw18366071646690120795 : True := trivial
theorem PySem.W.Fast.tw13114772074963684361 : True := trivial
theorem PySem.W.Fast.tw7503442984483473184 : True := trivial
theorem PySem.W.Fast.tw17310097415045729886 : True := trivial
theorem PySem.W.Fast.tw13213851406699508428 : True := trivial
theorem PySem.W.Fast.tw16315100448341455182 : True := trivial
theorem PySem.W.Fast.tw12624672797310500247 : True := trivial
theorem PySem.W.Fast.tw2184167239573840532 : True := trivial
theorem PySem.W.Fast.tw10418656267871378057 : True := trivial
theorem PySem.W.Fast.tw11689134095840791345 : True := trivial
theorem PySem.W.Fast.tw13254276184420759805 : True := trivial
theorem PySem.W.Fast.tw11414276416563334987 : True := trivial
theorem PySem.W.Fast.tw11206711307966947731 : True := trivial
theorem PySem.W.Fast.tw11146694998484817819 : True := trivial
theorem PySem.W.Fast.tw6784418716936611946 : True := trivial
theorem PySem.W.Fast.tw4400380892546471238 : True := trivial
theorem PySem.W.Fast.tw15515475949536768571 : True := trivial
theorem PySem.W.Fast.tw3204740576737720026 : True := trivial
theorem PySem.W.Fast.tw15223482916235026066 : True := trivial
theorem PySem.W.Fast.tw4180425778099433660 : True := trivial
theorem PySem.W.Fast.tw8819545604064193146 : True := trivial
theorem PySem.W.Fast.tw13473442484310099992 : True := trivial
theorem PySem.W.Fast.tw7247700898390136000 : True := trivial
theorem PySem.W.Fast.tw9950025317435981684 : True := trivial
theorem PySem.W.Fast.tw2039927681610102711 : True := trivial
theorem PySem.W.Fast.tw13097305681810252247 : True := trivial
theorem PySem.W.Fast.tw12844573613146239760 : True := trivial
theorem PySem.W.Fast.tw11922362002976865536 : True := trivial
theorem PySem.W.Fast.tw15448081332100064126 : True := trivial
theorem PySem.W.Fast.tw10204265779582523089 : True := trivial
theorem PySem.W.Fast.tw9836564556181482646 : True := trivial
theorem PySem.W.Fast.tw3017512600800847531 : True := trivial
theorem PySem.W.Fast.tw3814737836380029 : True := trivial
theorem PySem.W.Fast.tw6616662135859259746 : True := trivial
theorem PySem.W.Fast.tw15785051028787322445 : True := trivial
theorem PySem.W.Fast.tw8229844891745656134 : True := trivial
theorem PySem.W.Fast.tw12554215737106160498 : True := trivial
theorem PySem.W.Fast.tw16320959168849963463 : True := trivial
theorem PySem.W.Fast.tw7008305176886885363 : True := trivial
theorem PySem.W.Fast.tw14796749917971329263 : True := trivial
theorem PySem.W.Fast.tw2164842320218122611 : True := trivial
theorem PySem.W.Fast.tw13290837090797025425 : True := trivial
theorem PySem.W.Fast.tw15950405197747756830 : True := trivial
theorem PySem.W.Fast.tw14224460371924408641 : True := trivial
theorem PySem.W.Fast.tw7942249440887512884 : True := trivial
theorem PySem.W.Fast.tw2496331781437954865 : True := trivial
theorem PySem.W.Fast.tw11805298304330364985 : True := trivial
theorem PySem.W.Fast.tw9524614245808319300 : True := trivial
theorem PySem.W.Fast.tw16342965543110826059 : True := trivial
theorem PySem.W.Fast.tw8271992189361925986 : True := trivial
theorem PySem.W.Fast.tw12891734437983059983 : True := trivial
theorem PySem.W.Fast.tw13006920422603102330 : True := trivial
theorem PySem.W.Fast.tw6003297229704618546 : True := trivial
theorem PySem.W.Fast.tw9120901957449341616 : True := trivial
theorem PySem.W.Fast.tw15790193011821992881 : True := trivial
theorem PySem.W.Fast.tw17393487506272835491 : True := trivial
theorem PySem.W.Fast.tw2455765019774346896 : True := trivial
theorem PySem.W.Fast.tw6643406445729735082 : True := trivial
theorem PySem.W.Fast.tw3395294575648718454 : True := trivial
theorem PySem.W.Fast.tw6928914849400209104 : True := trivial
theorem PySem.W.Fast.tw3409851135677064085 : True := trivial
theorem PySem.W.Fast.tw12501030113323490908 : True := trivial
theorem PySem.W.Fast.tw5906819523799117185 : True := trivial
theorem PySem.W.Fast.tw13274052907480337537 : True := trivial
theorem PySem.W.Fast.tw1957948506879031467 : True := trivial
theorem PySem.W.Fast.tw6552123617313808703 : True := trivial
theorem PySem.W.Fast.tw16262423682615798476 : True := trivial
theorem PySem.W.Fast.tw11692400553758412427 : True := trivial
theorem PySem.W.Fast.tw11304551944138349375 : True := trivial
theorem PySem.W.Fast.tw5737766205049370067 : True := trivial
theorem PySem.W.Fast.tw11131932419583089267 : True := trivial
theorem PySem.W.Fast.tw11012230664531926510 : True := trivial
theorem PySem.W.Fast.tw17165258365854743286 : True := trivial
theorem PySem.W.Fast.tw10552915471351926820 : True := trivial
theorem PySem.W.Fast.tw910273133234358671 : True := trivial
theorem PySem.W.Fast.tw17898281570580437563 : True := trivial
theorem PySem.W.Fast.tw17236080396835743421 : True := trivial
theorem PySem.W.Fast.tw112057444762113821 : True := trivial
theorem PySem.W.Fast.tw196187552106630870 : True := trivial
theorem PySem.W.Fast.tw9161517487602892979 : True := trivial
theorem PySem.W.Fast.tw4032383713128082039 : True := trivial
theorem PySem.W.Fast.tw16570160852669503744 : True := trivial
theorem PySem.W.Fast.tw13394257023287692822 : True := trivial
theorem PySem.W.Fast.tw6043861340102054704 : True := trivial
theorem PySem.W.Fast.tw13107320951669854437 : True := trivial
theorem PySem.W.Fast.tw13497801945617895928 : True := trivial
theorem PySem.W.Fast.tw2291329575995809848 : True := trivial
theorem PySem.W.Fast.tw8239451644129562160 : True := trivial
theorem PySem.W.Fast.tw10535521462169642175 : True := trivial
theorem PySem.W.Fast.tw3423629772146334866 : True := trivial
theorem PySem.W.Fast.tw13708098978375010583 : True := trivial
theorem PySem.W.Fast.tw5052673586911095187 : True := trivial
theorem PySem.W.Fast.tw7351673459397479048 : True := trivial
theorem PySem.W.Fast.tw4491227983523562690 : True := trivial
theorem PySem.W.Fast.tw4182963918767066433 : True := trivial
theorem PySem.W.Fast.tw18229886064987607568 : True := trivial
theorem PySem.W.Fast.tw7898465594871268492 : True := trivial
theorem PySem.W.Fast.tw7250724019007014241 : True := trivial
theorem PySem.W.Fast.tw1613430164405885114 : True := trivial
theorem PySem.W.Fast.tw12401033721068485327 : True := trivial
theorem PySem.W.Fast.tw1148331613454251481 : True := trivial
theorem PySem.W.Fast.tw6659753771756753916 : True := trivial
theorem PySem.W.Fast.tw8611218920955383619 : True := trivial
theorem PySem.W.Fast.tw13080105683072574356 : True := trivial
theorem PySem.W.Fast.tw463723806080185639 : True := trivial
theorem PySem.W.Fast.tw6219353760588731962 : True := trivial
theorem PySem.W.Fast.tw15389709167738667600 : True := trivial
theorem PySem.W.Fast.tw13481819150619499311 : True := trivial
theorem PySem.W.Fast.tw15332630772547942736 : True := trivial
theorem PySem.W.Fast.tw12118122423833361408 : True := trivial
theorem PySem.W.Fast.tw2793644278886816741 : True := trivial
theorem PySem.W.Fast.tw3267533463489458380 : True := trivial
theorem PySem.W.Fast.tw13007718019700025013 : True := trivial
theorem PySem.W.Fast.tw11612629915883635526 : True := trivial
theorem PySem.W.Fast.tw8936126697208045689 : True := trivial
theorem PySem.W.Fast.tw17474167529635324540 : True := trivial
theorem PySem.W.Fast.tw13249942821199639171 : True := trivial
theorem PySem.W.Fast.tw12316745616643113155 : True := trivial
theorem PySem.W.Fast.tw16690862322462124065 : True := trivial
theorem PySem.W.Fast.tw14163446126178631971 : True := trivial
theorem PySem.W.Fast.tw1289734343328537438 : True := trivial
theorem PySem.W.Fast.tw7793869209622451155 : True := trivial
theorem PySem.W.Fast.tw1130083840325477124 : True := trivial
theorem PySem.W.Fast.tw11544133550656601570 : True := trivial
theorem PySem.W.Fast.tw458600447740235640 : True := trivial
theorem PySem.W.Fast.tw13281803000712362135 : True := trivial
theorem PySem.W.Fast.tw7149635060279941777 : True := trivial
theorem PySem.W.Fast.tw3391077436154011362 : True := trivial
theorem PySem.W.Fast.tw2675251799886115285 : True := trivial
theorem PySem.W.Fast.tw4834554274084301840 : True := trivial
theorem PySem.W.Fast.tw3742483187429439474 : True := trivial
theorem PySem.W.Fast.tw13575568940718509463 : True := trivial
theorem PySem.W.Fast.tw8584701114969275773 : True := trivial
theorem PySem.W.Fast.tw8071637788296092996 : True := trivial
theorem PySem.W.Fast.tw16797422729821074876 : True := trivial
theorem PySem.W.Fast.tw13948469437869324578 : True := trivial
theorem PySem.W.Fast.tw1314980237026509717 : True := trivial
theorem PySem.W.Fast.tw6279502601243722965 : True := trivial
theorem PySem.W.Fast.tw865935942396421191 : True := trivial
theorem PySem.W.Fast.tw4201300857537957533 : True := trivial
theorem PySem.W.Fast.tw549498090687230804 : True := trivial
theorem PySem.W.Fast.tw17860220552718669730 : True := trivial
theorem PySem.W.Fast.tw10492042011803064320 : True := trivial
theorem PySem.W.Fast.tw9720651016678083940 : True := trivial
theorem PySem.W.Fast.tw3914721997985503133 : True := trivial
theorem PySem.W.Fast.tw17818589711582648641 : True := trivial
theorem PySem.W.Fast.tw1193591609758552779 : True := trivial
theorem PySem.W.Fast.tw3918851341782935590 : True := trivial
theorem PySem.W.Fast.tw15076007681263107750 : True := trivial
theorem PySem.W.Fast.tw2490582629340543622 : True := trivial
theorem PySem.W.Fast.tw1547973006917367265 : True := trivial
theorem PySem.W.Fast.tw13112139295771809745 : True := trivial
theorem PySem.W.Fast.tw18161318222279599221 : True := trivial
theorem PySem.W.Fast.tw4925512897014721116 : True := trivial
theorem PySem.W.Fast.tw1130142834352868779 : True := trivial
theorem PySem.W.Fast.tw15421083885367146501 : True := trivial
theorem PySem.W.Fast.tw7755466827770341110 : True := trivial
theorem PySem.W.Fast.tw6605105077616469476 : True := trivial
theorem PySem.W.Fast.tw11545941628007062390 : True := trivial
theorem PySem.W.Fast.tw8277117874001932045 : True := trivial
theorem PySem.W.Fast.tw17605243388019124239 : True := trivial
theorem PySem.W.Fast.tw18136503058064816955 : True := trivial
theorem PySem.W.Fast.tw18341445130387418367 : True := trivial
theorem PySem.W.Fast.tw5838622874074372886 : True := trivial
theorem PySem.W.Fast.tw2710358515750096589 : True := trivial
theorem PySem.W.Fast.tw980101251703723114 : True := trivial
theorem PySem.W.Fast.tw15382069288606175904 : True := trivial
theorem PySem.W.Fast.tw3607198284363045768 : True := trivial
theorem PySem.W.Fast.tw11808666289915936579 : True := trivial
theorem PySem.W.Fast.tw16282473974426717646 : True := trivial
theorem PySem.W.Fast.tw12656699337601442855 : True := trivial
theorem PySem.W.Fast.tw10393328493582781471 : True := trivial
theorem PySem.W.Fast.tw16166307680593189098 : True := trivial
theorem PySem.W.Fast.tw13749522140888821032 : True := trivial
theorem PySem.W.Fast.tw1611497646090580946 : True := trivial
theorem PySem.W.Fast.tw3140441002323857335 : True := trivial
theorem PySem.W.Fast.tw1403513775563256889 : True := trivial
theorem PySem.W.Fast.tw16983121800001976453 : True := trivial
theorem PySem.W.Fast.tw3908766939402790596 : True := trivial
theorem PySem.W.Fast.tw12609613177458947050 : True := trivial
theorem PySem.W.Fast.tw16205999628266675441 : True := trivial
theorem PySem.W.Fast.tw17796214063771443120 : True := trivial
theorem PySem.W.Fast.tw6891252665903299920 : True := trivial
theorem PySem.W.Fast.tw9069703263837925985 : True := trivial
theorem PySem.W.Fast.tw2245535581318286427 : True := trivial
theorem PySem.W.Fast.tw9367508389549962409 : True := trivial
theorem PySem.W.Fast.tw3269679605074248574 : True := trivial
theorem PySem.W.Fast.tw6365259065530876816 : True := trivial
theorem PySem.W.Fast.tw17505341022171655918 : True := trivial
theorem PySem.W.Fast.tw2787133722462030291 : True := trivial
theorem PySem.W.Fast.tw16134167170272725806 : True := trivial
theorem PySem.W.Fast.tw4810160951353304419 : True := trivial
open PySem PySem.W PyProof.Rows
set_option maxHeartbeats 0 in
theorem PySem.Challenge.cw_beamframes_k26_whole_texts_of_bursts_holds : PySem.Challenge.rw_beamframes_k26_whole_texts_of_bursts.Holds := by
  w_on; o_law; k_head; (case hw => w_witness2)
  k_fill
  refine Bf.walk_gT (l := PySem.Challenge.rw_beamframes_k26_whole_texts_of_bursts) (n := 63) (k := 10) (x := "script") (sp := Bf.spLawT) rfl (by decide) rfl ⟨rfl, by decide, by decide⟩ (fun w h Y => PySem.W.km_in_of Y) ?F (fun _ _ _ a ns hl hH hS => ⟨a, ns, rfl, hS, hl, hH, fun _ => rfl⟩)
  case F =>
    intro w mg fa h Y KX G hmg
    refine' Bf.all_mk KX G hmg rfl ?a1 ?l1 ?c1 ?k1 ?a2 ?l2 ?c2 ?k2 ?a3 ?l3 ?c3 ?k3 ?a4 ?l4 ?c4 ?k4 ?a5 ?l5 ?c5 ?k5 ?a6 ?l6 ?c6 ?k6 ?a7 ?l7 ?c7 ?k7 ?a8 ?l8 ?c8 ?k8 ?a9 ?l9 ?c9 ?k9 ?a10 ?l10 ?c10 ?k10 ?a11 ?l11 ?c11 ?k11 ?a12 ?l12 ?c12 ?k12 ?a13 ?l13 ?c13 ?k13 ?a14 ?l14 ?c14 ?k14 ?a15 ?l15 ?c15 ?k15 ?a16 ?l16 ?c16 ?k16 ?a17 ?l17 ?c17 ?k17 ?a18 ?l18 ?c18 ?k18 ?a19 ?l19 ?c19 ?k19 ?a20 ?l20 ?c20 ?k20 ?l21 ?c21 ?k21 ?l22 ?c22 ?k22 ?z1 ?z2 ?z3 ?z4 ?z5 ?z6 ?z7 ?z8 ?z9 ?v1 ?v2 ?v3 ?v4 ?xa1 ?xb1 ?xc1 ?xd1 ?xe1 ?xf1 ?xg1 ?xh1 ?xi1 ?xj1 ?xk1 ?xl1 ?xw1 ?xx1 ?xo1 ?xp1 ?xq1 ?xr1 ?xs1 ?xt1 ?xu1 ?xv1 ?xy1 ?xz1 ?xa2 ?xb2 ?xc2 ?xd2 ?xe2 ?xf2 ?xg2 ?xh2 ?xi2 ?xj2 ?xk2 ?xl2 ?xw2 ?xx2 ?xo2 ?xp2 ?xq2 ?xr2 ?xs2 ?xt2 ?xu2 ?xv2 ?xy2 ?xz2 ?xa3 ?xb3 ?xc3 ?xd3 ?xe3 ?xf3 ?xg3 ?xh3 ?xi3 ?xj3 ?xk3 ?xl3 ?xw3 ?xx3 ?xo3 ?xp3 ?xq3 ?xr3 ?xs3 ?xt3 ?xu3 ?xv3 ?xy3 ?xz3 ?xa4 ?xb4 ?xc4 ?xd4 ?xe4 ?xf4 ?xg4 ?xh4 ?xi4 ?xj4 ?xk4 ?xl4 ?xw4 ?xx4 ?xo4 ?xp4 ?xq4 ?xr4 ?xs4 ?xt4 ?xu4 ?xv4 ?xy4 ?xz4 ?xa5 ?xb5 ?xc5 ?xd5 ?xe5 ?xf5 ?xg5 ?xh5 ?xi5 ?xj5 ?xk5 ?xl5 ?xw5 ?xx5 ?xo5 ?xp5 ?xq5 ?xr5 ?xs5 ?xt5 ?xu5 ?xv5 ?xy5 ?xz5 ?xa6 ?xb6 ?xc6 ?xd6 ?xe6 ?xf6 ?xg6 ?xh6 ?xi6 ?xj6 ?xk6 ?xl6 ?xw6 ?xx6 ?xo6 ?xp6 ?xq6 ?xr6 ?xs6 ?xt6 ?xu6 ?xv6 ?xy6 ?xz6 ?xa7 ?xb7 ?xc7 ?xd7 ?xe7 ?xf7 ?xg7 ?xh7 ?xi7 ?xj7 ?xk7 ?xl7 ?xw7 ?xx7 ?xo7 ?xp7 ?xq7 ?xr7 ?xs7 ?xt7 ?xu7 ?xv7 ?xy7 ?xz7 ?xa8 ?xb8 ?xc8 ?xd8 ?xe8 ?xf8 ?xg8 ?xh8 ?xi8 ?xj8 ?xk8 ?xl8 ?xw8 ?xx8 ?xo8 ?xp8 ?xq8 ?xr8 ?xs8 ?xt8 ?xu8 ?xv8 ?xy8 ?xz8 ?xa9 ?xb9 ?xc9 ?xd9 ?xe9 ?xf9 ?xg9 ?xh9 ?xi9 ?xj9 ?xk9 ?xl9 ?xw9 ?xx9 ?xo9 ?xp9 ?xq9 ?xr9 ?xs9 ?xt9 ?xu9 ?xv9 ?xy9 ?xz9 ?xa10 ?xb10 ?xc10 ?xd10 ?xe10 ?xf10 ?xg10 ?xh10 ?xi10 ?xj10 ?xk10 ?xl10 ?xw10 ?xx10 ?xo10 ?xp10 ?xq10 ?xr10 ?xs10 ?xt10 ?xu10 ?xv10 ?xy10 ?xz10 ?zsup ?rq_a ?rq_b ?rq_c ?rq_d ?rq_e ?rq_f ?rq_g ?rq_h ?rq_i ?rq_n1 ?rq_n2 ?rq_n3 ?rq_n4 ?rq_n5 ?rq_n6 ?rq_n7 ?rq_d1 ?rq_d2 ?rq_d3 ?rq_d4 ?rq_d5 ?rq_d6 ?rq_d7 ?rq_j ?rq_k ?rq_l ?rq_m ?rq_noNoneType ?rq_nobool ?rq_noint ?rq_nostr ?rq_nolist ?rq_notuple ?rq_nodict ?rq_si ?rq_stbool ?rq_stint ?rq_ststr ?rq_stlist ?rq_sttuple ?rq_fi ?rq_fc ?rq_fk ?rq_ft ?rq_gc ?rq_oeq1 ?rq_oeq2 ?rq_oeq3 ?rq_oeq4 ?rq_oeq5 ?rq_mo_read1 ?rq_mo_read2 ?rq_mo_read3 ?rq_mo_read4 ?rq_mo_read5 ?rq_mo_str1 ?rq_mo_str2 ?rq_one ?xca_4 ?xob_4 ?xca_10 ?xob_10 ?xisg1 ?xisg2 ?xq_4_4 ?xq_4_6 ?xq_4_7 ?xq_4_1 ?xq_4_5 ?xq_4_9 ?xq_4_8 ?xq_4_2 ?xq_4_10 ?xq_4_3 ?xy_4_4 ?xy_4_6 ?xy_4_7 ?xy_4_1 ?xy_4_5 ?xy_4_9 ?xy_4_8 ?xy_4_2 ?xy_4_3 ?xq_10_4 ?xq_10_6 ?xq_10_7 ?xq_10_1 ?xq_10_5 ?xq_10_9 ?xq_10_8 ?xq_10_2 ?xq_10_10 ?xq_10_3 ?xy_10_4 ?xy_10_6 ?xy_10_7 ?xy_10_1 ?xy_10_5 ?xy_10_9 ?xy_10_8 ?xy_10_2 ?xy_10_3 ?tbk20 ?tbt20 ?tbc20 ?tbn20
    (case a1 => k_is); (case l1 => k_is); (case c1 => k_is); (case k1 => k_is); (case a2 => k_is); (case l2 => k_is)
    (case c2 => k_is); (case k2 => k_is); (case a3 => k_is); (case l3 => k_is); (case c3 => k_is); (case k3 => k_is)
    (case a4 => k_is); (case l4 => k_is); (case c4 => k_is); (case k4 => k_is); (case a5 => k_is); (case l5 => k_is)
    (case c5 => k_is); (case k5 => k_is); (case a6 => k_is); (case l6 => k_is); (case c6 => k_is); (case k6 => k_is)
    (case a7 => k_is); (case l7 => k_is); (case c7 => k_is); (case k7 => k_is); (case a8 => k_is); (case l8 => k_is)
    (case c8 => k_is); (case k8 => k_is); (case a9 => k_is); (case l9 => k_is); (case c9 => k_is); (case k9 => k_is)
    (case a10 => k_is); (case l10 => k_is); (case c10 => k_is); (case k10 => k_is); (case a11 => k_is); (case l11 => k_is)
    (case c11 => k_is); (case k11 => k_is); (case a12 => k_is); (case l12 => k_is); (case c12 => k_is); (case k12 => k_is)
    (case a13 => k_is); (case l13 => k_is); (case c13 => k_is); (case k13 => k_is); (case a14 => k_is); (case l14 => k_is)
    (case c14 => k_is); (case k14 => k_is); (case a15 => k_is); (case l15 => k_is); (case c15 => k_is); (case k15 => k_is)
    (case a16 => k_is); (case l16 => k_is); (case c16 => k_is); (case k16 => k_is); (case a17 => k_is); (case l17 => k_is)
    (case c17 => k_is); (case k17 => k_is); (case a18 => k_is); (case l18 => k_is); (case c18 => k_is); (case k18 => k_is)
    (case a19 => k_is); (case l19 => k_is); (case c19 => k_is); (case k19 => k_is); (case a20 => k_is); (case l20 => k_is)
    (case c20 => k_is); (case k20 => k_is); (case z1 => k_is); (case z2 => k_is); (case z3 => k_is); (case z4 => k_is)
    (case z5 => k_is); (case z6 => k_is); (case z7 => k_is); (case z8 => k_is); (case z9 => k_is); (case v1 => k_is)
    (case v2 => k_is); (case v3 => k_is); (case v4 => k_is); (case xa1 => first | k_is | rfl | decide +kernel); (case xb1 => first | k_is | rfl | decide +kernel); (case xc1 => first | k_is | rfl | decide +kernel)
    (case xd1 => first | k_is | rfl | decide +kernel); (case xe1 => first | k_is | rfl | decide +kernel); (case xf1 => first | k_is | rfl | decide +kernel); (case xg1 => first | k_is | rfl | decide +kernel); (case xh1 => first | k_is | rfl | decide +kernel); (case xi1 => first | k_is | rfl | decide +kernel)
    (case xj1 => first | k_is | rfl | decide +kernel); (case xk1 => first | k_is | rfl | decide +kernel); (case xl1 => first | k_is | rfl | decide +kernel); (case xw1 => first | k_is | rfl | decide +kernel); (case xx1 => first | k_is | rfl | decide +kernel); (case xo1 => first | k_is | rfl | decide +kernel)
    (case xp1 => first | k_is | rfl | decide +kernel); (case xq1 => first | k_is | rfl | decide +kernel); (case xr1 => first | k_is | rfl | decide +kernel); (case xs1 => first | k_is | rfl | decide +kernel); (case xt1 => first | k_is | rfl | decide +kernel); (case xu1 => first | k_is | rfl | decide +kernel)
    (case xv1 => first | k_is | rfl | decide +kernel); (case xy1 => first | k_is | rfl | decide +kernel); (case xz1 => first | k_is | rfl | decide +kernel); (case xa2 => first | k_is | rfl | decide +kernel); (case xb2 => first | k_is | rfl | decide +kernel); (case xc2 => first | k_is | rfl | decide +kernel)
    (case xd2 => first | k_is | rfl | decide +kernel); (case xe2 => first | k_is | rfl | decide +kernel); (case xf2 => first | k_is | rfl | decide +kernel); (case xg2 => first | k_is | rfl | decide +kernel); (case xh2 => first | k_is | rfl | decide +kernel); (case xi2 => first | k_is | rfl | decide +kernel)
    (case xj2 => first | k_is | rfl | decide +kernel); (case xk2 => first | k_is | rfl | decide +kernel); (case xl2 => first | k_is | rfl | decide +kernel); (case xw2 => first | k_is | rfl | decide +kernel); (case xx2 => first | k_is | rfl | decide +kernel); (case xo2 => first | k_is | rfl | decide +kernel)
    (case xp2 => first | k_is | rfl | decide +kernel); (case xq2 => first | k_is | rfl | decide +kernel); (case xr2 => first | k_is | rfl | decide +kernel); (case xs2 => first | k_is | rfl | decide +kernel); (case xt2 => first | k_is | rfl | decide +kernel); (case xu2 => first | k_is | rfl | decide +kernel)
    (case xv2 => first | k_is | rfl | decide +kernel); (case xy2 => first | k_is | rfl | decide +kernel); (case xz2 => first | k_is | rfl | decide +kernel); (case xa3 => first | k_is | rfl | decide +kernel); (case xb3 => first | k_is | rfl | decide +kernel); (case xc3 => first | k_is | rfl | decide +kernel)
    (case xd3 => first | k_is | rfl | decide +kernel); (case xe3 => first | k_is | rfl | decide +kernel); (case xf3 => first | k_is | rfl | decide +kernel); (case xg3 => first | k_is | rfl | decide +kernel); (case xh3 => first | k_is | rfl | decide +kernel); (case xi3 => first | k_is | rfl | decide +kernel)
    (case xj3 => first | k_is | rfl | decide +kernel); (case xk3 => first | k_is | rfl | decide +kernel); (case xl3 => first | k_is | rfl | decide +kernel); (case xw3 => first | k_is | rfl | decide +kernel); (case xx3 => first | k_is | rfl | decide +kernel); (case xo3 => first | k_is | rfl | decide +kernel)
    (case xp3 => first | k_is | rfl | decide +kernel); (case xq3 => first | k_is | rfl | decide +kernel); (case xr3 => first | k_is | rfl | decide +kernel); (case xs3 => first | k_is | rfl | decide +kernel); (case xt3 => first | k_is | rfl | decide +kernel); (case xu3 => first | k_is | rfl | decide +kernel)
    (case xv3 => first | k_is | rfl | decide +kernel); (case xy3 => first | k_is | rfl | decide +kernel); (case xz3 => first | k_is | rfl | decide +kernel); (case xa4 => first | k_is | rfl | decide +kernel); (case xb4 => first | k_is | rfl | decide +kernel); (case xc4 => first | k_is | rfl | decide +kernel)
    (case xd4 => first | k_is | rfl | decide +kernel); (case xe4 => first | k_is | rfl | decide +kernel); (case xf4 => first | k_is | rfl | decide +kernel); (case xg4 => first | k_is | rfl | decide +kernel); (case xh4 => first | k_is | rfl | decide +kernel); (case xi4 => first | k_is | rfl | decide +kernel)
    (case xj4 => first | k_is | rfl | decide +kernel); (case xk4 => first | k_is | rfl | decide +kernel); (case xl4 => first | k_is | rfl | decide +kernel); (case xw4 => first | k_is | rfl | decide +kernel); (case xx4 => first | k_is | rfl | decide +kernel); (case xo4 => first | k_is | rfl | decide +kernel)
    (case xp4 => first | k_is | rfl | decide +kernel); (case xq4 => first | k_is | rfl | decide +kernel); (case xr4 => first | k_is | rfl | decide +kernel); (case xs4 => first | k_is | rfl | decide +kernel); (case xt4 => first | k_is | rfl | decide +kernel); (case xu4 => first | k_is | rfl | decide +kernel)
    (case xv4 => first | k_is | rfl | decide +kernel); (case xy4 => first | k_is | rfl | decide +kernel); (case xz4 => first | k_is | rfl | decide +kernel); (case xa5 => first | k_is | rfl | decide +kernel); (case xb5 => first | k_is | rfl | decide +kernel); (case xc5 => first | k_is | rfl | decide +kernel)
    (case xd5 => first | k_is | rfl | decide +kernel); (case xe5 => first | k_is | rfl | decide +kernel); (case xf5 => first | k_is | rfl | decide +kernel); (case xg5 => first | k_is | rfl | decide +kernel); (case xh5 => first | k_is | rfl | decide +kernel); (case xi5 => first | k_is | rfl | decide +kernel)
    (case xj5 => first | k_is | rfl | decide +kernel); (case xk5 => first | k_is | rfl | decide +kernel); (case xl5 => first | k_is | rfl | decide +kernel); (case xw5 => first | k_is | rfl | decide +kernel); (case xx5 => first | k_is | rfl | decide +kernel); (case xo5 => first | k_is | rfl | decide +kernel)
    (case xp5 => first | k_is | rfl | decide +kernel); (case xq5 => first | k_is | rfl | decide +kernel); (case xr5 => first | k_is | rfl | decide +kernel); (case xs5 => first | k_is | rfl | decide +kernel); (case xt5 => first | k_is | rfl | decide +kernel); (case xu5 => first | k_is | rfl | decide +kernel)
    (case xv5 => first | k_is | rfl | decide +kernel); (case xy5 => first | k_is | rfl | decide +kernel); (case xz5 => first | k_is | rfl | decide +kernel); (case xa6 => first | k_is | rfl | decide +kernel); (case xb6 => first | k_is | rfl | decide +kernel); (case xc6 => first | k_is | rfl | decide +kernel)
    (case xd6 => first | k_is | rfl | decide +kernel); (case xe6 => first | k_is | rfl | decide +kernel); (case xf6 => first | k_is | rfl | decide +kernel); (case xg6 => first | k_is | rfl | decide +kernel); (case xh6 => first | k_is | rfl | decide +kernel); (case xi6 => first | k_is | rfl | decide +kernel)
    (case xj6 => first | k_is | rfl | decide +kernel); (case xk6 => first | k_is | rfl | decide +kernel); (case xl6 => first | k_is | rfl | decide +kernel); (case xw6 => first | k_is | rfl | decide +kernel); (case xx6 => first | k_is | rfl | decide +kernel); (case xo6 => first | k_is | rfl | decide +kernel)
    (case xp6 => first | k_is | rfl | decide +kernel); (case xq6 => first | k_is | rfl | decide +kernel); (case xr6 => first | k_is | rfl | decide +kernel); (case xs6 => first | k_is | rfl | decide +kernel); (case xt6 => first | k_is | rfl | decide +kernel); (case xu6 => first | k_is | rfl | decide +kernel)
    (case xv6 => first | k_is | rfl | decide +kernel); (case xy6 => first | k_is | rfl | decide +kernel); (case xz6 => first | k_is | rfl | decide +kernel); (case xa7 => first | k_is | rfl | decide +kernel); (case xb7 => first | k_is | rfl | decide +kernel); (case xc7 => first | k_is | rfl | decide +kernel)
    (case xd7 => first | k_is | rfl | decide +kernel); (case xe7 => first | k_is | rfl | decide +kernel); (case xf7 => first | k_is | rfl | decide +kernel); (case xg7 => first | k_is | rfl | decide +kernel); (case xh7 => first | k_is | rfl | decide +kernel); (case xi7 => first | k_is | rfl | decide +kernel)
    (case xj7 => first | k_is | rfl | decide +kernel); (case xk7 => first | k_is | rfl | decide +kernel); (case xl7 => first | k_is | rfl | decide +kernel); (case xw7 => first | k_is | rfl | decide +kernel); (case xx7 => first | k_is | rfl | decide +kernel); (case xo7 => first | k_is | rfl | decide +kernel)
    (case xp7 => first | k_is | rfl | decide +kernel); (case xq7 => first | k_is | rfl | decide +kernel); (case xr7 => first | k_is | rfl | decide +kernel); (case xs7 => first | k_is | rfl | decide +kernel); (case xt7 => first | k_is | rfl | decide +kernel); (case xu7 => first | k_is | rfl | decide +kernel)
    (case xv7 => first | k_is | rfl | decide +kernel); (case xy7 => first | k_is | rfl | decide +kernel); (case xz7 => first | k_is | rfl | decide +kernel); (case xa8 => first | k_is | rfl | decide +kernel); (case xb8 => first | k_is | rfl | decide +kernel); (case xc8 => first | k_is | rfl | decide +kernel)
    (case xd8 => first | k_is | rfl | decide +kernel); (case xe8 => first | k_is | rfl | decide +kernel); (case xf8 => first | k_is | rfl | decide +kernel); (case xg8 => first | k_is | rfl | decide +kernel); (case xh8 => first | k_is | rfl | decide +kernel); (case xi8 => first | k_is | rfl | decide +kernel)
    (case xj8 => first | k_is | rfl | decide +kernel); (case xk8 => first | k_is | rfl | decide +kernel); (case xl8 => first | k_is | rfl | decide +kernel); (case xw8 => first | k_is | rfl | decide +kernel); (case xx8 => first | k_is | rfl | decide +kernel); (case xo8 => first | k_is | rfl | decide +kernel)
    (case xp8 => first | k_is | rfl | decide +kernel); (case xq8 => first | k_is | rfl | decide +kernel); (case xr8 => first | k_is | rfl | decide +kernel); (case xs8 => first | k_is | rfl | decide +kernel); (case xt8 => first | k_is | rfl | decide +kernel); (case xu8 => first | k_is | rfl | decide +kernel)
    (case xv8 => first | k_is | rfl | decide +kernel); (case xy8 => first | k_is | rfl | decide +kernel); (case xz8 => first | k_is | rfl | decide +kernel); (case xa9 => first | k_is | rfl | decide +kernel); (case xb9 => first | k_is | rfl | decide +kernel); (case xc9 => first | k_is | rfl | decide +kernel)
    (case xd9 => first | k_is | rfl | decide +kernel); (case xe9 => first | k_is | rfl | decide +kernel); (case xf9 => first | k_is | rfl | decide +kernel); (case xg9 => first | k_is | rfl | decide +kernel); (case xh9 => first | k_is | rfl | decide +kernel); (case xi9 => first | k_is | rfl | decide +kernel)
    (case xj9 => first | k_is | rfl | decide +kernel); (case xk9 => first | k_is | rfl | decide +kernel); (case xl9 => first | k_is | rfl | decide +kernel); (case xw9 => first | k_is | rfl | decide +kernel); (case xx9 => first | k_is | rfl | decide +kernel); (case xo9 => first | k_is | rfl | decide +kernel)
    (case xp9 => first | k_is | rfl | decide +kernel); (case xq9 => first | k_is | rfl | decide +kernel); (case xr9 => first | k_is | rfl | decide +kernel); (case xs9 => first | k_is | rfl | decide +kernel); (case xt9 => first | k_is | rfl | decide +kernel); (case xu9 => first | k_is | rfl | decide +kernel)
    (case xv9 => first | k_is | rfl | decide +kernel); (case xy9 => first | k_is | rfl | decide +kernel); (case xz9 => first | k_is | rfl | decide +kernel); (case xa10 => first | k_is | rfl | decide +kernel); (case xb10 => first | k_is | rfl | decide +kernel); (case xc10 => first | k_is | rfl | decide +kernel)
    (case xd10 => first | k_is | rfl | decide +kernel); (case xe10 => first | k_is | rfl | decide +kernel); (case xf10 => first | k_is | rfl | decide +kernel); (case xg10 => first | k_is | rfl | decide +kernel); (case xh10 => first | k_is | rfl | decide +kernel); (case xi10 => first | k_is | rfl | decide +kernel)
    (case xj10 => first | k_is | rfl | decide +kernel); (case xk10 => first | k_is | rfl | decide +kernel); (case xl10 => first | k_is | rfl | decide +kernel); (case xw10 => first | k_is | rfl | decide +kernel); (case xx10 => first | k_is | rfl | decide +kernel); (case xo10 => first | k_is | rfl | decide +kernel)
    (case xp10 => first | k_is | rfl | decide +kernel); (case xq10 => first | k_is | rfl | decide +kernel); (case xr10 => first | k_is | rfl | decide +kernel); (case xs10 => first | k_is | rfl | decide +kernel); (case xt10 => first | k_is | rfl | decide +kernel); (case xu10 => first | k_is | rfl | decide +kernel)
    (case xv10 => first | k_is | rfl | decide +kernel); (case xy10 => first | k_is | rfl | decide +kernel); (case xz10 => first | k_is | rfl | decide +kernel); (case zsup => k_is); (case rq_a => first | k_is | rfl | decide +kernel); (case rq_b => first | k_is | rfl | decide +kernel)
    (case rq_c => first | k_is | rfl | decide +kernel); (case rq_d => first | k_is | rfl | decide +kernel); (case rq_e => first | k_is | rfl | decide +kernel); (case rq_f => first | k_is | rfl | decide +kernel); (case rq_g => first | k_is | rfl | decide +kernel); (case rq_h => first | k_is | rfl | decide +kernel)
    (case rq_i => first | k_is | rfl | decide +kernel); (case rq_n1 => first | k_is | rfl | decide +kernel); (case rq_n2 => first | k_is | rfl | decide +kernel); (case rq_n3 => first | k_is | rfl | decide +kernel); (case rq_n4 => first | k_is | rfl | decide +kernel); (case rq_n5 => first | k_is | rfl | decide +kernel)
    (case rq_n6 => first | k_is | rfl | decide +kernel); (case rq_n7 => first | k_is | rfl | decide +kernel); (case rq_d1 => first | k_is | rfl | decide +kernel); (case rq_d2 => first | k_is | rfl | decide +kernel); (case rq_d3 => first | k_is | rfl | decide +kernel); (case rq_d4 => first | k_is | rfl | decide +kernel)
    (case rq_d5 => first | k_is | rfl | decide +kernel); (case rq_d6 => first | k_is | rfl | decide +kernel); (case rq_d7 => first | k_is | rfl | decide +kernel); (case rq_j => first | k_is | rfl | decide +kernel); (case rq_k => first | k_is | rfl | decide +kernel); (case rq_l => first | k_is | rfl | decide +kernel)
    (case rq_m => first | k_is | rfl | decide +kernel); (case rq_noNoneType => first | k_is | rfl | decide +kernel); (case rq_nobool => first | k_is | rfl | decide +kernel); (case rq_noint => first | k_is | rfl | decide +kernel); (case rq_nostr => first | k_is | rfl | decide +kernel); (case rq_nolist => first | k_is | rfl | decide +kernel)
    (case rq_notuple => first | k_is | rfl | decide +kernel); (case rq_nodict => first | k_is | rfl | decide +kernel); (case rq_si => first | k_is | rfl | decide +kernel); (case rq_stbool => first | k_is | rfl | decide +kernel); (case rq_stint => first | k_is | rfl | decide +kernel); (case rq_ststr => first | k_is | rfl | decide +kernel)
    (case rq_stlist => first | k_is | rfl | decide +kernel); (case rq_sttuple => first | k_is | rfl | decide +kernel); (case rq_fi => first | k_is | rfl | decide +kernel); (case rq_fc => first | k_is | rfl | decide +kernel); (case rq_fk => first | k_is | rfl | decide +kernel); (case rq_ft => first | k_is | rfl | decide +kernel)
    (case rq_gc => first | k_is | rfl | decide +kernel); (case rq_oeq1 => first | k_is | rfl | decide +kernel); (case rq_oeq2 => first | k_is | rfl | decide +kernel); (case rq_oeq3 => first | k_is | rfl | decide +kernel); (case rq_oeq4 => first | k_is | rfl | decide +kernel); (case rq_oeq5 => first | k_is | rfl | decide +kernel)
    (case rq_mo_read1 => first | k_is | rfl | decide +kernel); (case rq_mo_read2 => first | k_is | rfl | decide +kernel); (case rq_mo_read3 => first | k_is | rfl | decide +kernel); (case rq_mo_read4 => first | k_is | rfl | decide +kernel); (case rq_mo_read5 => first | k_is | rfl | decide +kernel); (case rq_mo_str1 => first | k_is | rfl | decide +kernel)
    (case rq_mo_str2 => first | k_is | rfl | decide +kernel); (case rq_one => first | k_is | rfl | decide +kernel); (case xca_4 => first | k_is | rfl | decide +kernel); (case xob_4 => first | k_is | rfl | decide +kernel); (case xca_10 => first | k_is | rfl | decide +kernel); (case xob_10 => first | k_is | rfl | decide +kernel)
    (case xisg1 => first | k_is | rfl | decide +kernel); (case xisg2 => first | k_is | rfl | decide +kernel); (case xq_4_4 => first | k_is | rfl | decide +kernel); (case xq_4_6 => first | k_is | rfl | decide +kernel); (case xq_4_7 => first | k_is | rfl | decide +kernel); (case xq_4_1 => first | k_is | rfl | decide +kernel)
    (case xq_4_5 => first | k_is | rfl | decide +kernel); (case xq_4_9 => first | k_is | rfl | decide +kernel); (case xq_4_8 => first | k_is | rfl | decide +kernel); (case xq_4_2 => first | k_is | rfl | decide +kernel); (case xq_4_10 => first | k_is | rfl | decide +kernel); (case xq_4_3 => first | k_is | rfl | decide +kernel)
    (case xy_4_4 => first | k_is | rfl | decide +kernel); (case xy_4_6 => first | k_is | rfl | decide +kernel); (case xy_4_7 => first | k_is | rfl | decide +kernel); (case xy_4_1 => first | k_is | rfl | decide +kernel); (case xy_4_5 => first | k_is | rfl | decide +kernel); (case xy_4_9 => first | k_is | rfl | decide +kernel)
    (case xy_4_8 => first | k_is | rfl | decide +kernel); (case xy_4_2 => first | k_is | rfl | decide +kernel); (case xy_4_3 => first | k_is | rfl | decide +kernel); (case xq_10_4 => first | k_is | rfl | decide +kernel); (case xq_10_6 => first | k_is | rfl | decide +kernel); (case xq_10_7 => first | k_is | rfl | decide +kernel)
    (case xq_10_1 => first | k_is | rfl | decide +kernel); (case xq_10_5 => first | k_is | rfl | decide +kernel); (case xq_10_9 => first | k_is | rfl | decide +kernel); (case xq_10_8 => first | k_is | rfl | decide +kernel); (case xq_10_2 => first | k_is | rfl | decide +kernel); (case xq_10_10 => first | k_is | rfl | decide +kernel)
    (case xq_10_3 => first | k_is | rfl | decide +kernel); (case xy_10_4 => first | k_is | rfl | decide +kernel); (case xy_10_6 => first | k_is | rfl | decide +kernel); (case xy_10_7 => first | k_is | rfl | decide +kernel); (case xy_10_1 => first | k_is | rfl | decide +kernel); (case xy_10_5 => first | k_is | rfl | decide +kernel)
    (case xy_10_9 => first | k_is | rfl | decide +kernel); (case xy_10_8 => first | k_is | rfl | decide +kernel); (case xy_10_2 => first | k_is | rfl | decide +kernel); (case xy_10_3 => first | k_is | rfl | decide +kernel); (case l21 => k_is); (case c21 => k_is)
    (case k21 => k_is); (case l22 => k_is); (case c22 => k_is); (case k22 => k_is)
    (case tbk20 => rfl); (case tbt20 => exact PySem.W.km_tabs_of Y _ (by first | exact List.mem_cons_self | simp)); (case tbc20 => first | rfl | decide +kernel); (case tbn20 => first | rfl | decide +kernel)
