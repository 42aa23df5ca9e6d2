import PyProof.Rows.All
import Wide.All
import OpenK.AllK
import Wide.FinOn
import KE.KExcSuper
import HandS.Exc
import HandS.ForSpec
import HandS.ForMost
import HandS.ForExc
import HandS.Star
import HandS.IsInst
import HandS.TupAny
import HandS.Style
import HandS.Wide
import HandS.RaiseMore
import HandS.Zip
import HandS.TupMul
import HandS.TryMany
import PyProof.NeKinds
import KE.KDictKeyed
import KE.KDictLaw
import HandS.TupLen
import KE.KDictPairs
import HandS.Walk
import HandS.Iter
import PyProof.Draws
import KE.KRevSl
import PySem.Challenge.RW_beamframes_k05_whole_frames
set_option Elab.async false
set_option linter.all false
set_option maxRecDepth 100000
set_option maxHeartbeats 4000000
namespace Bf
open PySem PySem.Spec PySem.W PySem.Calls PyProof.Rows PySem.HandSPX
/-! ## Own errors: super().__init__('..'); self.f = v -/
def xA (f : Str) (p1 p2 : Pos) : Arguments := { posonlyargs := [], args := [{ arg := "self", annotation := none, pos := p1 }, { arg := f, annotation := none, pos := p2 }], vararg := none, kwonlyargs := [], kw_defaults := [], kwarg := none, defaults := [] }
def xB (f t : Str) (q : Nat → Pos) : List Stmt := [.Expr (.Call (.Attribute (.Call (.Name "super" (q 1)) [] [] (q 2)) "__init__" (q 3)) [.Constant (.str t) 0 (q 4)] [] (q 5)) (q 6), .Assign [.Attribute (.Name "self" (q 7)) f (q 8)] (.Name f (q 9)) (q 10)]
def xS (f : Str) : Scope := { kind := .function, names := [("self", .local), (f, .local), ("__class__", .free), ("super", .globalImplicit)], isGenerator := false, isCoroutine := false, more := [] }
/-- where the call stands in the file plays no part -/
def xCall (t : Str) (q : Nat → Pos) : Prop := ∀ env : Env, ∃ pl : Sem Bool, eval (.Call (.Attribute (.Call (.Name "super" (q 1)) [] [] (q 2)) "__init__" (q 3)) [.Constant (.str t) 0 (q 4)] [] (q 5)) env = (do
  let ov ← attributeBase (.Call (.Name "super" (q 1)) [] [] (q 2)) "__init__" env (eval (.Call (.Name "super" (q 1)) [] [] (q 2)) env)
  standAt (q 3).atName
  let (f, first) ← holding [ov] (getMethod ov "__init__" pl)
  callWith (q 5) f first (backTo (q 5) (starEach [.Constant (.str t) 0 (q 4)] env)) [])
structure BadTxt (prog : Program) (K : Frag) (f : Str) (C fI : Addr) : Prop where
  cls : ∃ nm q N bs bm sn sub ab col dd k0 k1 k2 k3 k5, K.lookup C = some (excClassObj nm q C N bs bm true sn sub ab col dd k0 k1 k2 k3 k5 "ValueError.__new__") ∧ refsVE bm = true
  sa : findIn K (.ref C) "__setattr__" = some (some (.builtin "object.__setattr__"))
  noN : findIn K (.ref C) f = some none
  iC : findIn K (.ref C) "__init__" = some (some (.ref fI))
  tC : typeIn K (.ref fI) = some (.type "function")
  sup : ks_superIn K C C "__init__" = some (some (.builtin "ValueError.__init__"))
  sub : subIn K (.ref C) (.type "ValueError") = some true
  self : mroIn K C (.ref C) = some true
  st : nsIn K cStatics "thirdparty.any" = some none
  fn : ∃ (oc ccl cl : Value) (od cdd cld : Option Addr) (doc pm ct : Value) (an : Option Addr) (osl ccs csl : Array (Option Value)) (qual t : Str) (p1 p2 : Pos) (q : Nat → Pos) (cc cda : Addr) (vs : Array Value) (file : Str) (tf : Tok),
    K.lookup fI = some ⟨oc, od, .func (fnX "__init__" qual (xA f p1 p2) (xB f t q) (xS f) [("__class__", cc)] .none .none doc pm an (.ref cda) ct), osl⟩ ∧ codeIn K (.ref cda) qual = true ∧ K.lookup cc = some ⟨cl, cld, .cell (some (.ref C)), csl⟩ ∧
    K.lookup cda = some ⟨ccl, cdd, .fields vs, ccs⟩ ∧ vs[2]? = some (.str file tf) ∧ ((prog.main.file : Str) == file) = true ∧ xCall t q ∧
    ∀ (s : Shared) (a b : Value), BindsTo s (fnX "__init__" qual (xA f p1 p2) (xB f t q) (xS f) [("__class__", cc)] .none .none doc pm an (.ref cda) ct) ⟨[a, b], []⟩ [(("self" : Str), a), (f, b)]
structure BadEnd (h h' : Heap) (f : Str) (x C dx t1 : Addr) (v : Value) : Prop where
  keep : ∀ b o, b ≠ x → h.get? b = some o → h'.get? b = some o
  obj : h'.get? x = some { cls := .ref C, dict := some dx, data := .fields #[.ref t1, .none, .none, .none, .bool false, .none] }
  dbig : h.objs.size ≤ dx
  dne : dx ≠ x
  ns : h'.Ns1 dx (fun y => if y = f then some v else none)
section
variable {prog : Program} {w : World} {A : Around} {E : Value → Shared → Prop} {R : Result → Shared → Prop} {s : Shared} {K : Frag} {mg mb : Str → Option Value} {C fI : Addr} {f : Str}
theorem bad_init (T : BadTxt prog K f C fI) {x t0 : Addr} {v : Value} (X : K.In s.heap) (hlim : s.heap.NoLimit) (hg : s.heap.Ns mainGlobals mg) (hb : s.heap.Ns builtinsNs mb) (hms : mg "super" = none) (hbs : mb "super" = some (.type "super"))
    (htop : (prog.main.scope.names.lookup ("super" : Str)).isSome = false) (hfn : f ≠ "self" ∧ f ≠ "super" ∧ f ≠ "__class__" ∧ f ≠ "__debug__") (hx : s.heap.get? x = some (excO C t0)) (hnx : K.lookup x = none) (hroom : A.depth < recursionLimit)
    (hq : ∀ h' tk dx t1, BadEnd s.heap h' f x C dx t1 v → R (.ok (.ret .none)) { s with heap := h', toks := tk }) :
    codeAny (model prog w) A (.call (.ref fI) ⟨[.ref x, v], []⟩) R s := by
  obtain ⟨oc, ccl, cl, od, cdd, cld, doc, pm, ct, an, osl, ccs, csl, qual, t, p1, p2, q, cc, cda, vs, file, tf, ho, hcd, hcell, hcode, hvs, hfile, hcall, hbind⟩ := T.fn
  obtain ⟨nm, qn, N, bs, bm, sn, sub, ab, col, dd, k0, k1, k2, k3, k5, hC, hbm⟩ := T.cls
  have hcl : clsIn K C = some { name := nm, bases := bs, mro := .ref C :: bm, ns := N, qualname := qn, hasDict := true, slotNames := sn, subclasses := sub, abstract := ab, collection := col, hasDel := false } := by unfold clsIn; rw [hC] <;> rfl
  obtain ⟨n1, n2, n3, n4⟩ := hfn
  have l1 : (xS f).names.lookup ("self" : Str) = some .local := by simp [xS, List.lookup]
  have l2 : (xS f).names.lookup f = some .local := by
    have : (f == ("self" : Str)) = false := by simpa using n1
    simp [xS, List.lookup, this]
  have l3 : (xS f).names.lookup ("__class__" : Str) = some .free := by
    have e1 : (("__class__" : Str) == f) = false := by simpa using n3.symm
    have e2 : (("__class__" : Str) == "self") = false := by decide
    simp [xS, List.lookup, e1, e2]
  have l4 : (xS f).names.lookup ("super" : Str) = some .globalImplicit := by
    have e1 : (("super" : Str) == f) = false := by simpa using n2.symm
    have e2 : (("super" : Str) == "self") = false := by decide
    have e3 : (("super" : Str) == "__class__") = false := by decide
    simp [xS, List.lookup, e1, e2, e3]
  refine ks_codeAny_call_defAt (fd := fnX "__init__" qual (xA f p1 p2) (xB f t q) (xS f) [("__class__", cc)] .none .none doc pm an (.ref cda) ct) (body := xB f t q) (binds := [(("self" : Str), .ref x), (f, v)]) hroom (X _ _ ho) rfl hlim (codeRec_of X hcd) rfl (hbind _ _ _) (by simp [xS]) (by simp [l1, l2]) (fun h₁ hns k => ?_) rfl rfl rfl
  have X₁ : K.In h₁ := X.keeps k
  have hx₁ := k _ _ hx
  have hC₁ := X₁ _ _ hC
  have m1 : (fun y => List.lookup y [(("self" : Str), Value.ref x), (f, v)].reverse) "self" = some (.ref x) := by
    have : (("self" : Str) == f) = false := by simpa using n1.symm
    simp [List.lookup, this]
  have m2 : (fun y => List.lookup y [(("self" : Str), Value.ref x), (f, v)].reverse) f = some v := by simp [List.lookup]
  have hxL : s.heap.objs.size ≠ x := Nat.ne_of_gt (Heap.lt_size hx)
  -- super()
  obtain ⟨pl, he⟩ := hcall (callEnv (fnX "__init__" qual (xA f p1 p2) (xB f t q) (xS f) [("__class__", cc)] .none .none doc pm an (.ref cda) ct) s.heap.objs.size fI)
  refine ks_wpAt_execs_cons (ks_wpAt_Expr_any (ks_wpAt_MethodCall ?_ he))
  refine ks_wpAt_super_base (f := fI) (cc := cda) (ar := { arg := "self", annotation := none, pos := p1 }) l4 l3 (by decide) rfl (X₁ _ _ ho) rfl rfl rfl (X₁ _ _ hcode) rfl hvs hfile htop ?_
  refine ks_loadName_global rfl l4 (loadGlobal_builtin (hg.keeps k) hms (hb.keeps k) hbs ⟨rfl, ?_⟩)
  refine wpAny_loadName_free rfl l3 rfl ⟨_, X₁ _ _ hcell, rfl⟩ ?_
  refine wpAny_loadName_local rfl l1 hns m1 ?_
  refine ks_wpAny_isType_cls hC₁ rfl ⟨rfl, ?_⟩
  refine ks_wpAny_call_super hC₁ rfl hx₁ rfl (fun c e => nomatch e) (looks_mroIn X₁ T.self) (fun h₂ e k2 => ?_)
  have X₂ : K.In h₂ := X₁.keeps k2
  -- .__init__
  have hne : x ≠ C := fun z => by rw [z, hC] at hnx; cases hnx
  have hsup : alongIn K "__init__" (((Value.ref C :: bm).dropWhile (· != .ref C)).drop 1) = some (some (.builtin "ValueError.__init__")) := by
    have := T.sup
    unfold ks_superIn at this
    rw [hcl] at this
    exact this
  have I2 : InstAt h₂ x (excO C t0) C none := ⟨k2 _ _ hx₁, rfl, rfl, trivial⟩
  refine kxs_getMethod kxs_ValueError e (looks_opaque X₂ T.st) (l₀ := Value.ref C :: bm) (fun A Q E s k q => wpAny_bind ((looks_clsIn X₂ hcl) A _ E s k (wpAny_pure q))) rfl X₂ hsup (I2.type.andThen (looks_subIn X₂ T.sub)) hne (by decide) ?_
  have k3 : ∀ b o, h₂.get? b = some o → (h₂.push (kxs_mw "ValueError.__init__" x)).get? b = some o := fun b o e => Heap.get?_push_of_some _ e
  have hu : (h₂.push (kxs_mw "ValueError.__init__" x)).get? h₂.objs.size = some (kxs_mw "ValueError.__init__" x) := Heap.get?_push_at rfl rfl
  refine kxs_callWith (i := "ValueError.__init__") (x := x) rfl ?_
  refine evalArgs_plain ?_
  refine spliced_more (Calls.Constant_str (spliced_none ⟨hu, ?_⟩)) rfl
  have hx₃ : (h₂.push (kxs_mw "ValueError.__init__" x)).get? x = some (excObj C t0 none .none) := k3 _ _ (k2 _ _ hx₁)
  have hC₃ := X₂.keeps k3 _ _ hC
  refine wpAny_call (codeAny_of_tree ?_)
  show wpAny _ _ (callAny (.ref h₂.objs.size) ⟨[.str t _], []⟩) _ _ _
  simp only [callAny]
  refine wpAny_bind (wpAny_load hu ?_)
  simp only [kxs_mw, show (Value.type "method-wrapper" == Value.type "method" || Value.type "method-wrapper" == Value.type "builtin_function_or_method" || Value.type "method-wrapper" == Value.type "method-wrapper") = true by decide, if_true]
  refine KFB.if_so (by decide) ?_
  refine wpAny_bind (check_bound_init PySem.F.excBase_ValueError.toExcCallFacts hC₃ hx₃ rfl ?_)
  refine wpAny_bind (wpAny_pure (wpAny_pure ?_))
  refine ⟨plainId_quiet PySem.F.excBase_ValueError.init.plain _, codeAny_builtin PySem.F.excBase_ValueError.initEntry ?_⟩
  refine exc_init_tree (cls := .ref C) (t0 := t0) (dv := none) (c2 := .none) (c3 := .none) (b4 := .bool false) hx₃ (by rw [sizeLine_eq]; show 1 ≤ 16777216; decide) fun h₄ k4 e4 t4 => ?_
  have up : ∀ b o, b ≠ x → h₁.get? b = some o → h₄.get? b = some o := fun b o hb e => k4 _ _ hb (k3 _ _ (k2 _ _ e))
  have X₄ : K.In h₄ := fun a o e => up a o (fun z => by rw [z, hnx] at e; cases e) (X₁ a o e)
  have hns₄ := hns.at (h' := h₄) fun o e => up _ _ hxL e
  -- self.f = v
  show _root_.PySem.wpAt _ _ _ (execs _ _) _ _ _
  refine ks_wpAt_execs_cons (ks_wpAt_Assign_Attr (wpAt_of_wpAny ?_))
  refine wpAny_Name (wpAny_loadName_local rfl l2 hns₄ m2 ?_) (by simpa using n4)
  refine wpAny_Name (wpAny_loadName_local rfl l1 hns₄ m1 ?_) (by decide)
  refine set_plain X₄ (ox := excO C (h₂.push (kxs_mw "ValueError.__init__" x)).objs.size) (od := none) ⟨e4, rfl, rfl, trivial⟩ T.sa ?_
  refine exc_osa X₄ e4 hcl (show refsVE (.ref C :: bm) = true from hbm) rfl T.noN (fun h₅ tk₅ dx k₅ dn dne hx₅ hn₅ => ?_)
  show _root_.PySem.wpAt _ _ _ (execs [] _) _ _ _
  refine wpAt_of_wpAny (wpAny_execs_nil (hq h₅ tk₅ dx (h₂.push (kxs_mw "ValueError.__init__" x)).objs.size ⟨fun b o hb e => k₅ b o hb (up b o hb (k b o e)), hx₅, Nat.le_of_lt (Nat.lt_of_lt_of_le hns₄.lt dn), dne, hn₅⟩))
end
end Bf
namespace Bf
open PySem PySem.Spec PySem.W PySem.Calls PyProof.Rows PySem.HandSPX
/-- a made error: new, its dict holds its field -/
structure BadMade (h h' : Heap) (f : Str) (e C d : Addr) (v : Value) : Prop where
  keep : ∀ b o, h.get? b = some o → h'.get? b = some o
  new : h.objs.size ≤ e
  obj : ∃ t1 : Addr, h'.get? e = some { cls := .ref C, dict := some d, data := .fields #[.ref t1, .none, .none, .none, .bool false, .none] }
  dbig : h.objs.size ≤ d
  dne : d ≠ e
  ns : h'.Ns1 d (fun y => if y = f then some v else none)
section
variable {prog : Program} {w : World} {A : Around} {R : Result → Shared → Prop} {s : Shared} {K : Frag} {mg mb : Str → Option Value} {C fI : Addr} {f : Str}
theorem bad_made (T : BadTxt prog K f C fI) {v : Value} (X : K.In s.heap) (hlim : s.heap.NoLimit) (hg : s.heap.Ns mainGlobals mg) (hb : s.heap.Ns builtinsNs mb) (hms : mg "super" = none) (hbs : mb "super" = some (.type "super"))
    (htop : (prog.main.scope.names.lookup ("super" : Str)).isSome = false) (hfn : f ≠ "self" ∧ f ≠ "super" ∧ f ≠ "__class__" ∧ f ≠ "__debug__") (hroom : A.depth + 1 < recursionLimit)
    (hq : ∀ h' tk e d, BadMade s.heap h' f e C d v → R (.ok (.ret (.ref e))) { s with heap := h', toks := tk }) : codeAny (model prog w) A (.call (.ref C) ⟨[v], []⟩) R s := by
  obtain ⟨nm, qn, N, bs, bm, sn, sub, ab, col, dd, k0, k1, k2, k3, k5, hC, hbm⟩ := T.cls
  obtain ⟨hp, g, dr, tk, os⟩ := s
  have k : ∀ b o, hp.get? b = some o → ((hp.push (kdv_tup [v])).push (excO C hp.objs.size)).get? b = some o := fun b o e => Heap.get?_push_of_some _ (Heap.get?_push_of_some _ e)
  have hget : ((hp.push (kdv_tup [v])).push (excO C hp.objs.size)).get? (hp.objs.size + 1) = some (excO C hp.objs.size) := by heap_get
  have hnx : K.lookup (hp.objs.size + 1) = none := by
    cases e : K.lookup (hp.objs.size + 1) with
    | none => rfl
    | some o => exact absurd (Nat.lt_of_succ_lt (Heap.lt_size (show hp.get? (hp.objs.size + 1) = some o from X _ _ e))) (Nat.lt_irrefl _)
  refine call_own PySem.F.excBase_ValueError (fun Y => refsVE_contains Y bm hbm) (X _ _ hC) (looks_findIn X T.iC) (fun self => bind_fn X self T.tC) (by rw [sizeLine_eq]; show 1 ≤ 16777216; decide) ?_
  refine bad_init (s := ⟨(hp.push (kdv_tup [v])).push (excO C hp.objs.size), g, dr, tk, os⟩) T (X.keeps k) (hlim.keeps k) (hg.keeps k) (hb.keeps k) hms hbs htop hfn hget hnx hroom fun h' tk' dx t1 M => ?_
  have old : ∀ b o, hp.get? b = some o → h'.get? b = some o := fun b o e => M.keep b o (Nat.ne_of_lt (Nat.lt_succ_of_lt (Heap.lt_size e))) (k b o e)
  have z : hp.objs.size ≤ dx := by
    have q := M.dbig
    first
      | (rw [show (Shared.heap ⟨(hp.push (kdv_tup [v])).push (excO C hp.objs.size), g, dr, tk, os⟩) = (hp.push (kdv_tup [v])).push (excO C hp.objs.size) from rfl, Heap.size_push, Heap.size_push] at q; omega)
      | (simp only [Heap.size_push] at q; omega)
  exact ⟨rfl, hq h' tk' (hp.objs.size + 1) dx ⟨old, Nat.le_succ _, ⟨t1, M.obj⟩, z, M.dne, M.ns⟩⟩
end
end Bf
/-! Data over the hand layer: a def's body read over plain data, the heap out of sight. -/
namespace Bf
open PySem PySem.Spec PyProof.Rows L2

/-! ### A. defs that are called where no guard runs (for repr) -/
structure GOk (P : Program) (w : World) (K : PySem.W.Frag) (mg : Str → Option Value) (base : Heap) (k : Nat) (f : Addr) (fd : FuncData) (ps : List Str) (sp : Sp) : Prop where
  len : ∀ vs H Q E, sp vs H Q E → vs.length = ps.length
  go : ∀ (A : Around) (out : List Env) (s : Shared) (H : Hp) (args : Args) (us : List Value) (vs : List V) (Q : VK) (E : XK),
    Room k A → A.guards = some [] → Env0 P w K mg base A out s H → BindsTo s fd args (ps.zip us) → Vals vs us → sp vs H Q E →
    codeAny (model P w) A (.call (.ref f) args) (CR (L2.CX P w) out P w H s Q E) s
section
variable {P : Program} {w : World} {K : PySem.W.Frag} {mg : Str → Option Value} {base : Heap}
theorem GOk.up {j k : Nat} {f : Addr} {fd : FuncData} {ps : List Str} {sp : Sp} (G : GOk P w K mg base j f fd ps sp) (h : j ≤ k) : GOk P w K mg base k f fd ps sp :=
  ⟨G.len, fun A out s H args us vs Q E r => G.go A out s H args us vs Q E (r.mono h)⟩
/-- a def by its body -/
theorem okG {x qual : Str} {st : Stmt} {f : Addr} {fd : FuncData} {N ps : List Str} {k : Nat} {sp : Sp} (F : Fun K x qual st f fd) (S : FnScope N ps (defScope st)) (len : ∀ vs H Q E, sp vs H Q E → vs.length = ps.length)
    (hb : ∀ (cdv : Value) (A : Around) (out : List Env) (s : Shared) (H : Hp) (vs : List V) (Q : VK) (E : XK), Room k (A.deeper (envOfC qual (defScope st) s.heap.objs.size f cdv)) → A.guards = some [] → sp vs H Q E →
      ∃ t, PSs (cxOf (L2.CX P w) P w K mg base N qual (defScope st) f cdv A out s H E) (defBody st) t ∧ t { nx := fun _ H' => Q .non H', rt := Q } (start N vs) H) :
    GOk P w K mg base (k + 1) f fd ps sp := by
  obtain ⟨oc, od, kV, doc, pm, an, cdv, ct, osl, rfl, lk, hcd⟩ := F.ex
  refine ⟨len, fun A out s H args us vs Q E hr hgd e0 hbi r hsp => ?_⟩
  refine StX.run_bnd lk hcd S hr e0 (G := fun xs H2 => xs = vs ∧ H2 = H) (fun A' Ex Q' h => ?_) fun s2 H2 xs ⟨ex, eH⟩ hr' => ?_
  · exact hbi _ _ _ _ (h s H vs us e0 Un.refl rfl (fun _ _ z => z) r (len _ _ _ _ hsp) ⟨rfl, rfl⟩)
  · subst ex eH
    exact hb cdv A out s2 _ _ Q E hr' hgd hsp
end
/-- how a def's arguments bind: all by place -/
def BPos (fd : FuncData) (ps : List Str) : Prop := ∀ (s : Shared) (us : List Value), us.length = ps.length → BindsTo s fd ⟨us, []⟩ (ps.zip us)
/-- all by name, in the order ks -/
def BKw (fd : FuncData) (ps ks : List Str) (g : List Value → List Value) : Prop := ∀ (s : Shared) (ws : List Value), ws.length = ks.length → BindsTo s fd ⟨[], ks.zip ws⟩ (ps.zip (g ws))
section
variable {X : Cx} {k : Nat} {f : Addr} {fd : FuncData} {ps ks : List Str} {sp : Sp} {E : XK} {x : Str} {p pos : Pos} {e : Expr} {es : List Expr} {kws : List Keyword} {t : TA}
theorem run_g {pins : List (Addr × Obj)} {σ : L2.St} {H : Hp} {s : Shared} {Q : VK} {args : Args} {us : List Value} {vs : List V} (G : GOk X.prog X.w X.K X.mg X.base k f fd ps sp) (hr : Room k X.A) (hgd : X.A.guards = some []) (hx : Passes (L2.CX X.prog X.w) X E)
    (I : Inv X pins σ H s) (hb : BindsTo s fd args (ps.zip us)) (r : Vals vs us) (h : sp vs H Q E) : wpAny (model X.prog X.w) X.A (call (.ref f) args.pos args.kw) (EP X pins σ Q) X.xe s := by
  refine wpAny_call (codeAny_mono (G.go X.A X.stack s H args us vs Q E hr hgd I.env0 hb r h) fun r' s' hq => ?_)
  match r', hq with
  | .error er, hq => exact hx pins σ H s er s' I hq
  | .ok (.ret u), hq => exact I.after hq
  | .ok .next, hq => exact hq.elim
  | .ok .brk, hq => exact hq.elim
  | .ok .cont, hq => exact hq.elim
/-- f(e, ..) -/
theorem pe_g (G : GOk X.prog X.w X.K X.mg X.base k f fd ps sp) (hb : BPos fd ps) (hm : X.mg x = some (.ref f)) (hk : PySem.W.keepIn X.K (.ref f) = true) (hr : Room k X.A) (hgd : X.A.guards = some []) (hx : Passes (L2.CX X.prog X.w) X E) (ha : PA X (e :: es) t)
    (hg : Gl X x := by rfl) (hdb : (x == ("__debug__" : Str)) = false := by decide) (he : starEach (e :: es) X.env = (false, eval e X.env) :: starEach es X.env := by rfl) (hpl : (backTo pos (starEach es X.env)).any (·.1) = false := by rfl) :
    PE X (.Call (.Name x p) (e :: es) [] pos) (tCall sp [] E t) := by
  refine ⟨fun pins s σ H Q I h => wpAny_Call_Name_kw (ld_glob I hg hm ?_ hdb)⟩
  refine PySem.W.callWith_K (h₀ := X.base) I.ok.mod.kin hk (thn (ha.run pos pins s σ H _ I h) fun us s1 ⟨vs, H1, I1, r, q⟩ => ⟨I1.kIn, ?_⟩) he hpl
  have q : sp (vs ++ []) H1 Q E := q
  rw [List.append_nil] at q
  exact run_g (args := ⟨us, []⟩) G hr hgd hx I1 (hb s1 us (r.length.symm.trans (G.len _ _ _ _ q))) r q
/-- f() -/
theorem pe_g0 (G : GOk X.prog X.w X.K X.mg X.base k f fd [] sp) (hb : BPos fd []) (hm : X.mg x = some (.ref f)) (hk : PySem.W.keepIn X.K (.ref f) = true) (hr : Room k X.A) (hgd : X.A.guards = some []) (hx : Passes (L2.CX X.prog X.w) X E)
    (hg : Gl X x := by rfl) (hdb : (x == ("__debug__" : Str)) = false := by decide) : PE X (.Call (.Name x p) [] [] pos) (tCall sp [] E tNil) := by
  refine ⟨fun pins s σ H Q I h => wpAny_Call_Name_kw (ld_glob I hg hm ?_ hdb)⟩
  exact PySem.W.callWith_K0 I.kIn hk (run_g (args := ⟨[], []⟩) G hr hgd hx I (hb s [] rfl) .nil h)
/-- f(k = v, ..), all by name: gV puts the values in the parameters' order -/
def tCallW (sp : Sp) (n : Nat) (gV : List V → List V) (E : XK) (t : TA) : TE := fun σ H Q => t σ H fun zs H1 => zs.length = n ∧ sp (gV zs) H1 Q E
theorem pe_gw {g : List Value → List Value} {gV : List V → List V} (G : GOk X.prog X.w X.K X.mg X.base k f fd ps sp) (hb : BKw fd ps ks g) (hgv : ∀ {vs us}, Vals vs us → vs.length = ks.length → Vals (gV vs) (g us)) (hm : X.mg x = some (.ref f)) (hk : PySem.W.keepIn X.K (.ref f) = true)
    (hr : Room k X.A) (hgd : X.A.guards = some []) (hx : Passes (L2.CX X.prog X.w) X E) (hkw : PK X kws t) (hg : Gl X x := by rfl)
    (hall : (backToKw pos (keywordEach kws X.env)).all (·.1.isSome) = true := by rfl) (hks : (backToKw pos (keywordEach kws X.env)).filterMap (·.1) = ks := by rfl) (hdb : (x == ("__debug__" : Str)) = false := by decide)
    (hpl : ((backTo pos (starEach [] X.env)).any (·.1) || (backToKw pos (keywordEach kws X.env)).any (·.1.isNone)) = false := by rfl) :
    PE X (.Call (.Name x p) [] kws pos) (tCallW sp ks.length gV E t) := by
  refine ⟨fun pins s σ H Q I h => wpAny_Call_Name_kw (ld_glob I hg hm ?_ hdb)⟩
  refine PySem.W.callWith_KW0 (h₀ := X.base) I.ok.mod.kin hk hall ?_ hpl
  refine thn (hkw.run pos pins s σ H _ I h) fun ws s2 ⟨zs, H2, I2, rz, ln, q2⟩ => ⟨I2.kIn, ?_⟩
  rw [hks]
  exact run_g (args := ⟨[], ks.zip ws⟩) G hr hgd hx I2 (hb s2 ws (rz.length.symm.trans ln)) (hgv rz ln) q2
end

/-! ### B. plain data -/
inductive Dt where
  | non | bl (b : Bool) | int (i : Int) | str (x : Str) | lst (xs : List Dt) | tup (xs : List Dt)
  /-- an empty dict -/
  | dic
  /-- an instance: its class, its fields -/
  | ins (C : Addr) (ns : List Str) (xs : List Dt)
  /-- any value, by itself -/
  | raw (v : V)
  /-- the list at p -/
  | lat (p : Addr) (xs : List Dt)
  /-- an error that was caught or made: its class, its field -/
  | err (C : Addr) (f : Str) (d : Dt)
  /-- a dict by its keys (tuples) and its values -/
  | dct (ks xs : List Dt)
/-- an error as an object: its class, its dict -/
def ErrO (cls : Value) (d : Option Addr) (a : Addr) : HO := .ext fun h => ∃ oe : Obj, h.get? a = some oe ∧ Zc cls d oe ∧ ∃ vs, oe.data = .fields vs

mutual
/-- hash(d), d without texts -/
def hKey : Dt → Int
  | .non => reduceHash 0xFCA86420
  | .bl b => hashInt (if b = true then 1 else 0)
  | .int i => hashInt i
  | .tup xs => reduceHash (Builtin.Tuple.tupleHashOf (hKeys xs))
  | _ => 0
def hKeys : List Dt → List Int
  | [] => []
  | x :: xs => hKey x :: hKeys xs
end
def ents : List Dt → List Addr → List Value → List DictEntry
  | k :: ks, a :: as, u :: us => ⟨hKey k, .ref a, u⟩ :: ents ks as us
  | _, _, _ => []
/-- a dict as an object: its keys (as data, and where they stand), its values -/
def DicO (ks : List Dt) (as : List Addr) (vs : List V) (d : Addr) : HO := .ext fun h => (d == sysModules) = false ∧ ∃ (o : Obj) (es : Array DictEntry) (ep : Nat) (us : List Value), h.get? d = some o ∧ o.ExactDict ∧ o.data = .dict es ep ∧ Vals vs us ∧ es.toList = ents ks as us
/-- dicts with ints and texts as keys that hold something are no data -/
def dob : HO → Bool
  | .dK (_ :: _) => false
  | _ => true
/-- data stay -/
def Gr (H H' : Hp) : Prop := ∀ a o, H a = some o → dob o = true → H' a = some o
theorem Gr.refl (H : Hp) : Gr H H := fun _ _ h _ => h
theorem Gr.trans {H H1 H2 : Hp} (a : Gr H H1) (b : Gr H1 H2) : Gr H H2 := fun c o h d => b c o (a c o h d) d
theorem _root_.L2.Same.gr {H H' : Hp} (s : Same H H') : Gr H H' := fun c o h _ => s c o h
theorem same_new {H : Hp} {p : Addr} {o : HO} (h : H p = none) : Same H (upd H p o) := fun b x e => by
  rw [upd_ne (ne_of_none e h)]
  exact e
theorem Gr.sqL {K : PySem.W.Frag} {H H' : Hp} {a : Addr} {xs : List V} (g : Gr H H') (h : SqL K H a xs) : SqL K H' a xs := by
  rcases h with (h | ⟨o, h⟩) | h
  · exact .inl (.inl (g _ _ h rfl))
  · exact .inl (.inr ⟨o, g _ _ h rfl⟩)
  · exact .inr h
theorem Gr.sqT {K : PySem.W.Frag} {H H' : Hp} {a : Addr} {xs : List V} (g : Gr H H') (h : SqT K H a xs) : SqT K H' a xs := by
  rcases h with (h | ⟨o, h⟩) | h
  · exact .inl (.inl (g _ _ h rfl))
  · exact .inl (.inr ⟨o, g _ _ h rfl⟩)
  · exact .inr h

mutual
inductive Rep (K : PySem.W.Frag) (H : Hp) : V → Dt → Prop
  | non : Rep K H .non .non
  | bl (b : Bool) : Rep K H (.bl b) (.bl b)
  | int (i : Int) : Rep K H (.int i) (.int i)
  | str (x : Str) : Rep K H (.str x) (.str x)
  | lst {a : Addr} {vs : List V} {ds : List Dt} : SqL K H a vs → RepA K H vs ds → Rep K H (.ref a) (.lst ds)
  | tup {a : Addr} {vs : List V} {ds : List Dt} : SqT K H a vs → RepA K H vs ds → Rep K H (.ref a) (.tup ds)
  | dic {a : Addr} : H a = some (.dK []) → Rep K H (.ref a) .dic
  | ins {a C dx : Addr} {ns : List Str} {vs : List V} {ds : List Dt} : H a = some (.ins C dx (ns.zip vs)) → RepA K H vs ds → Rep K H (.ref a) (.ins C ns ds)
  | raw (v : V) : Rep K H v (.raw v)
  | lat {p : Addr} {vs : List V} {ds : List Dt} : H p = some (.lst vs) → RepA K H vs ds → Rep K H (.ref p) (.lat p ds)
  | err {a C dd : Addr} {f : Str} {v : V} {d : Dt} : H a = some (ErrO (.ref C) (some dd) a) → H dd = some (.xd [(f, v)]) → Rep K H v d → Rep K H (.ref a) (.err C f d)
  | dct {a : Addr} {as : List Addr} {vs : List V} {ks ds : List Dt} : H a = some (DicO ks as vs a) → RepA K H (as.map V.ref) ks → RepA K H vs ds → Rep K H (.ref a) (.dct ks ds)
inductive RepA (K : PySem.W.Frag) (H : Hp) : List V → List Dt → Prop
  | nil : RepA K H [] []
  | cons {v : V} {vs : List V} {d : Dt} {ds : List Dt} : Rep K H v d → RepA K H vs ds → RepA K H (v :: vs) (d :: ds)
end
section
variable {K : PySem.W.Frag} {H H' : Hp}
mutual
theorem Rep.mono (g : Gr H H') : ∀ {v : V} {d : Dt}, Rep K H v d → Rep K H' v d
  | _, _, .non => .non
  | _, _, .bl b => .bl b
  | _, _, .int i => .int i
  | _, _, .str x => .str x
  | _, _, .lst h r => .lst (g.sqL h) (r.mono g)
  | _, _, .tup h r => .tup (g.sqT h) (r.mono g)
  | _, _, .dic h => .dic (g _ _ h rfl)
  | _, _, .ins h r => .ins (g _ _ h rfl) (r.mono g)
  | _, _, .raw v => .raw v
  | _, _, .lat h r => .lat (g _ _ h rfl) (r.mono g)
  | _, _, .err h1 h2 r => .err (g _ _ h1 rfl) (g _ _ h2 rfl) (r.mono g)
  | _, _, .dct h r1 r2 => .dct (g _ _ h rfl) (r1.mono g) (r2.mono g)
theorem RepA.mono (g : Gr H H') : ∀ {vs : List V} {ds : List Dt}, RepA K H vs ds → RepA K H' vs ds
  | _, _, .nil => .nil
  | _, _, .cons h r => .cons (h.mono g) (r.mono g)
end
theorem RepA.len : ∀ {vs : List V} {ds : List Dt}, RepA K H vs ds → vs.length = ds.length
  | _, _, .nil => rfl
  | _, _, .cons _ r => congrArg (· + 1) r.len
theorem RepA.at_ : ∀ {vs : List V} {ds : List Dt} {i : Nat} {d : Dt}, RepA K H vs ds → ds[i]? = some d → ∃ v, vs[i]? = some v ∧ Rep K H v d
  | _, _, _, _, .nil, h => by simp at h
  | _, _, 0, _, .cons r _, h => ⟨_, rfl, by simp at h; exact h ▸ r⟩
  | _, _, i + 1, d, .cons _ r, h => by
    obtain ⟨v, e, q⟩ := RepA.at_ (i := i) (d := d) r (by simpa using h)
    exact ⟨v, by simpa using e, q⟩
theorem RepA.ta : ∀ {vs : List V} {ds : List Dt} {i : Nat} {v : V}, RepA K H vs ds → vs[i]? = some v → ∃ d, ds[i]? = some d ∧ Rep K H v d
  | _, _, _, _, .nil, h => by simp at h
  | _, _, 0, _, .cons r _, h => ⟨_, rfl, by simp at h; exact h ▸ r⟩
  | _, _, i + 1, v, .cons _ r, h => by
    obtain ⟨d, e, q⟩ := RepA.ta (i := i) (v := v) r (by simpa using h)
    exact ⟨d, by simpa using e, q⟩
theorem RepA.app : ∀ {vs ws : List V} {ds es : List Dt}, RepA K H vs ds → RepA K H ws es → RepA K H (vs ++ ws) (ds ++ es)
  | _, _, _, _, .nil, s => s
  | _, _, _, _, .cons h r, s => .cons h (r.app s)
theorem RepA.take : ∀ {vs : List V} {ds : List Dt} (n : Nat), RepA K H vs ds → RepA K H (vs.take n) (ds.take n)
  | _, _, 0, _ => .nil
  | _, _, _ + 1, .nil => .nil
  | _, _, n + 1, .cons h r => .cons h (r.take n)
theorem RepA.drop : ∀ {vs : List V} {ds : List Dt} (n : Nat), RepA K H vs ds → RepA K H (vs.drop n) (ds.drop n)
  | _, _, 0, r => r
  | _, _, _ + 1, .nil => .nil
  | _, _, n + 1, .cons _ r => r.drop n
theorem RepA.bls : ∀ {vs : List V} {bs : List Bool}, RepA K H vs (bs.map Dt.bl) → vs = bs.map V.bl
  | _, [], .nil => rfl
  | _, _ :: _, .cons (.bl _) r => congrArg _ r.bls
theorem RepA.ints : ∀ {vs : List V} {ns : List Int}, RepA K H vs (ns.map Dt.int) → vs = ns.map V.int
  | _, [], .nil => rfl
  | _, _ :: _, .cons (.int _) r => congrArg _ r.ints
theorem Rep.tupI {v : V} {ds : List Dt} (h : Rep K H v (.tup ds)) : ∃ a vs, v = .ref a ∧ SqT K H a vs ∧ RepA K H vs ds := by
  cases h with
  | tup h r => exact ⟨_, _, rfl, h, r⟩
theorem Rep.latI {v : V} {p : Addr} {ds : List Dt} (h : Rep K H v (.lat p ds)) : v = .ref p ∧ ∃ vs, H p = some (.lst vs) ∧ RepA K H vs ds := by
  cases h with
  | lat h r => exact ⟨rfl, _, h, r⟩
theorem Rep.latL {v : V} {p : Addr} {ds : List Dt} (h : Rep K H v (.lat p ds)) : Rep K H v (.lst ds) := by
  obtain ⟨rfl, vs, h, r⟩ := h.latI
  exact .lst (SqL.of h) r
theorem Rep.lstI {v : V} {ds : List Dt} (h : Rep K H v (.lst ds)) : ∃ a vs, v = .ref a ∧ SqL K H a vs ∧ RepA K H vs ds := by
  cases h with
  | lst h r => exact ⟨_, _, rfl, h, r⟩
theorem Rep.intI {v : V} {i : Int} (h : Rep K H v (.int i)) : v = .int i := by cases h <;> rfl
theorem Rep.blI {v : V} {b : Bool} (h : Rep K H v (.bl b)) : v = .bl b := by cases h <;> rfl
theorem Rep.strI {v : V} {x : Str} (h : Rep K H v (.str x)) : v = .str x := by cases h <;> rfl
theorem Rep.rawI {v u : V} (h : Rep K H v (.raw u)) : v = u := by cases h <;> rfl
end

/-- what holds of the heap all along -/
structure Sta where
  I : Hp → Prop
  st : ∀ {H H' : Hp}, I H → Same H H' → I H'
/-- the slots' data -/
structure Slots (K : PySem.W.Frag) (H : Hp) (σ : L2.St) (ρ : List (Option Dt)) : Prop where
  len : σ.length = ρ.length
  val : ∀ (i : Nat) (d : Dt), ρ[i]? = some (some d) → ∃ v, σ[i]? = some (some v) ∧ Rep K H v d
section
variable {K : PySem.W.Frag} {H H' : Hp} {σ : L2.St} {ρ : List (Option Dt)}
theorem Slots.mono (s : Slots K H σ ρ) (g : Gr H H') : Slots K H' σ ρ := ⟨s.len, fun i d h => let ⟨v, e, r⟩ := s.val i d h; ⟨v, e, r.mono g⟩⟩
theorem Slots.set (s : Slots K H σ ρ) {v : V} {d : Dt} (r : Rep K H v d) (j : Nat) : Slots K H (σ.set j (some v)) (ρ.set j (some d)) := by
  refine ⟨by rw [List.length_set, List.length_set, s.len], fun i e h => ?_⟩
  by_cases hj : j = i
  · subst hj
    by_cases hl : j < ρ.length
    · rw [List.getElem?_set_self hl] at h
      cases h
      exact ⟨v, List.getElem?_set_self (by rw [s.len]; exact hl), r⟩
    · rw [List.getElem?_eq_none (by rw [List.length_set]; omega)] at h
      cases h
  · rw [List.getElem?_set_ne hj] at h
    obtain ⟨u, hu, q⟩ := s.val i e h
    exact ⟨u, by rw [List.getElem?_set_ne hj]; exact hu, q⟩
/-- a slot whose data are forgotten -/
theorem Slots.lose (s : Slots K H σ ρ) {ν : Option V} (j : Nat) : Slots K H (σ.set j ν) (ρ.set j none) := by
  refine ⟨by rw [List.length_set, List.length_set, s.len], fun i e h => ?_⟩
  by_cases hj : j = i
  · subst hj
    by_cases hl : j < ρ.length
    · rw [List.getElem?_set_self hl] at h
      cases h
    · rw [List.getElem?_eq_none (by rw [List.length_set]; omega)] at h
      cases h
  · rw [List.getElem?_set_ne hj] at h
    obtain ⟨u, hu, q⟩ := s.val i e h
    exact ⟨u, by rw [List.getElem?_set_ne hj]; exact hu, q⟩
def wipeD (ρ : List (Option Dt)) : List Nat → List (Option Dt)
  | [] => ρ
  | v :: vs => (wipeD ρ vs).set v none
theorem Slots.wipe (s : Slots K H σ ρ) : ∀ vs : List Nat, Slots K H (L2.wipe σ vs) (wipeD ρ vs)
  | [] => s
  | v :: vs => (s.wipe vs).lose v
end

/-! ### C. what an expression comes to -/
section
variable (K : PySem.W.Frag) (S S' : Sta)
def Ev (ρ : List (Option Dt)) (te : TE) (Φ : Dt → Prop) : Prop := ∀ (σ : L2.St) (H : Hp), S.I H → Slots K H σ ρ → ∀ Q : VK, (∀ v d H', Gr H H' → S'.I H' → Rep K H' v d → Φ d → Q v H') → te σ H Q
def EvT (ρ : List (Option Dt)) (tt : TT) (Φ : Bool → Prop) : Prop := ∀ (σ : L2.St) (H : Hp), S.I H → Slots K H σ ρ → ∀ Q : Bool → Hp → Prop, (∀ b H', Gr H H' → S'.I H' → Φ b → Q b H') → tt σ H Q
def EvA (ρ : List (Option Dt)) (ta : TA) (Φ : List Dt → Prop) : Prop := ∀ (σ : L2.St) (H : Hp), S.I H → Slots K H σ ρ → ∀ Q : List V → Hp → Prop, (∀ vs ds H', Gr H H' → S'.I H' → RepA K H' vs ds → Φ ds → Q vs H') → ta σ H Q
def EvO (ρ : List (Option Dt)) (to : TO) (Φ : Option Int → Prop) : Prop := ∀ (σ : L2.St) (H : Hp), S.I H → Slots K H σ ρ → ∀ Q : Option Int → Hp → Prop, (∀ o H', Gr H H' → S'.I H' → Φ o → Q o H') → to σ H Q
end
section
variable (K : PySem.W.Frag) (S : Sta)
/-- a two-place operation over data -/
def Rv2 (r : R2) (x y : Dt) (Φ : Dt → Prop) : Prop := ∀ (H : Hp) (v u : V), S.I H → Rep K H v x → Rep K H u y → ∀ Q : VK, (∀ v' d H', Gr H H' → S.I H' → Rep K H' v' d → Φ d → Q v' H') → r v u H Q
def RvC (r : List V → Hp → VK → Prop) (xs : List Dt) (Φ : Dt → Prop) : Prop := ∀ (H : Hp) (vs : List V), S.I H → RepA K H vs xs → ∀ Q : VK, (∀ v' d H', Gr H H' → S.I H' → Rep K H' v' d → Φ d → Q v' H') → r vs H Q
end
section
variable {K : PySem.W.Frag} {S S1 S2 S3 : Sta} {ρ : List (Option Dt)} {ta tb te : TE} {t u : TT} {Φ Ψ Θ : Dt → Prop} {x y z d : Dt}
theorem Ev.weak (h : Ev K S S1 ρ te Φ) (w : ∀ d, Φ d → Ψ d) : Ev K S S1 ρ te Ψ := fun σ H i s Q q => h σ H i s Q fun v d H' g i' r p => q v d H' g i' r (w d p)
theorem EvT.weak {Φ Ψ : Bool → Prop} (h : EvT K S S1 ρ t Φ) (w : ∀ d, Φ d → Ψ d) : EvT K S S1 ρ t Ψ := fun σ H i s Q q => h σ H i s Q fun v H' g i' p => q v H' g i' (w v p)
theorem Ev.to (h : Ev K S S1 ρ te (Eq x)) (e : x = y) : Ev K S S1 ρ te (Eq y) := e ▸ h
theorem EvT.to {a b : Bool} (h : EvT K S S1 ρ t (Eq a)) (e : a = b) : EvT K S S1 ρ t (Eq b) := e ▸ h
theorem ev_var {i : Nat} (h : ρ[i]? = some (some d)) : Ev K S S ρ (tVar i) (Eq d) := fun σ H hi s Q q => by
  obtain ⟨v, e, r⟩ := s.val i d h
  exact ⟨v, e, q v d H (Gr.refl H) hi r rfl⟩
theorem ev_lat {p : Addr} {xs : List Dt} (h : Ev K S S1 ρ te (Eq (.lat p xs))) : Ev K S S1 ρ te (Eq (.lst xs)) := fun σ H i s Q q => h σ H i s Q fun v d H' g i' r e => q v _ H' g i' ((show Dt.lat p xs = d from e) ▸ r).latL rfl
theorem ev_int {i : Int} : Ev K S S ρ (tC (.int i)) (Eq (.int i)) := fun σ H hi s Q q => q _ _ H (Gr.refl H) hi (.int i) rfl
theorem ev_bl {b : Bool} : Ev K S S ρ (tC (.bl b)) (Eq (.bl b)) := fun σ H hi s Q q => q _ _ H (Gr.refl H) hi (.bl b) rfl
theorem ev_non : Ev K S S ρ (tC .non) (Eq .non) := fun σ H hi s Q q => q _ _ H (Gr.refl H) hi .non rfl
theorem ev_str {x : Str} : Ev K S S ρ (tC (.str x)) (Eq (.str x)) := fun σ H hi s Q q => q _ _ H (Gr.refl H) hi (.str x) rfl
theorem ev_raw {v : V} : Ev K S S ρ (tC v) (Eq (.raw v)) := fun σ H hi s Q q => q _ _ H (Gr.refl H) hi (.raw v) rfl
theorem ev_opP {r : R2} (ha : Ev K S S1 ρ ta Φ) (hb : Ev K S1 S2 ρ tb Ψ) (hr : ∀ x y, Φ x → Ψ y → Rv2 K S2 r x y Θ) : Ev K S S2 ρ (tOp r ta tb) Θ := fun σ H i s Q q =>
  ha σ H i s _ fun v x H1 g1 i1 r1 p1 => hb σ H1 i1 (s.mono g1) _ fun u y H2 g2 i2 r2 p2 => hr x y p1 p2 H2 v u i2 (r1.mono g2) r2 Q fun v' d H3 g3 i3 r3 p3 => q v' d H3 ((g1.trans g2).trans g3) i3 r3 p3
theorem ev_op {r : R2} (ha : Ev K S S1 ρ ta (Eq x)) (hb : Ev K S1 S2 ρ tb (Eq y)) (hr : Rv2 K S2 r x y Θ) : Ev K S S2 ρ (tOp r ta tb) Θ := ev_opP ha hb fun _ _ e1 e2 => e1 ▸ e2 ▸ hr
theorem ev_un {r : V → Hp → VK → Prop} (ha : Ev K S S1 ρ ta (Eq x)) (hr : ∀ (H : Hp) (v : V), S1.I H → Rep K H v x → ∀ Q : VK, (∀ v' d H', Gr H H' → S1.I H' → Rep K H' v' d → Θ d → Q v' H') → r v H Q) : Ev K S S1 ρ (tUn r ta) Θ := fun σ H i s Q q =>
  ha σ H i s _ fun v x' H1 g1 i1 r1 p1 => hr H1 v i1 (p1 ▸ r1) Q fun v' d H3 g3 i3 r3 p3 => q v' d H3 (g1.trans g3) i3 r3 p3
/-! operations that hand back a plain value and leave the heap -/
theorem rv_at {r : R2} (h : ∀ H v u, S.I H → Rep K H v x → Rep K H u y → ∀ Q : VK, (∀ v', Rep K H v' z → Q v' H) → r v u H Q) : Rv2 K S r x y (Eq z) := fun H v u i r1 r2 Q q =>
  h H v u i r1 r2 Q fun v' r' => q v' z H (Gr.refl H) i r' rfl
theorem rv_I0 {g : Int → Int → V} {i j : Int} (hz : ∀ H, Rep K H (g i j) z) : Rv2 K S (rI0 g) (.int i) (.int j) (Eq z) := rv_at fun H v u _ r1 r2 Q q => ⟨i, j, r1.intI, r2.intI, q _ (hz H)⟩
theorem rv_I {C : Int → Int → Prop} {g : Int → Int → V} {i j : Int} (hc : C i j) (hz : ∀ H, Rep K H (g i j) z) : Rv2 K S (rI C g) (.int i) (.int j) (Eq z) := rv_at fun H v u _ r1 r2 Q q => ⟨i, j, r1.intI, r2.intI, hc, q _ (hz H)⟩
theorem rv_ii {g : Int → Int → Int} {i j : Int} : Rv2 K S (rI0 fun a b => .int (g a b)) (.int i) (.int j) (Eq (.int (g i j))) := rv_I0 fun _ => .int _
theorem rv_iic {C : Int → Int → Prop} {g : Int → Int → Int} {i j : Int} (hc : C i j) : Rv2 K S (rI C fun a b => .int (g a b)) (.int i) (.int j) (Eq (.int (g i j))) := rv_I hc fun _ => .int _
theorem rv_ib {g : Int → Int → Bool} {i j : Int} : Rv2 K S (rI0 fun a b => .bl (g a b)) (.int i) (.int j) (Eq (.bl (g i j))) := rv_I0 fun _ => .bl _
theorem rv_eqI {i j : Int} : Rv2 K S rEq (.int i) (.int j) (Eq (.bl (decide (i = j)))) := rv_at fun H v u _ r1 r2 Q q => by
  obtain rfl := r1.intI; obtain rfl := r2.intI
  exact ⟨rfl, by rw [show decide (V.int i = V.int j) = decide (i = j) by by_cases e : i = j <;> simp [e]]; exact q _ (.bl _)⟩
theorem rv_neI {i j : Int} : Rv2 K S rNe (.int i) (.int j) (Eq (.bl (!decide (i = j)))) := rv_at fun H v u _ r1 r2 Q q => by
  obtain rfl := r1.intI; obtain rfl := r2.intI
  exact ⟨rfl, by rw [show decide (V.int i = V.int j) = decide (i = j) by by_cases e : i = j <;> simp [e]]; exact q _ (.bl _)⟩
theorem rv_eqS {i j : Str} : Rv2 K S rEq (.str i) (.str j) (Eq (.bl (decide (i = j)))) := rv_at fun H v u _ r1 r2 Q q => by
  obtain rfl := r1.strI; obtain rfl := r2.strI
  exact ⟨rfl, by rw [show decide (V.str i = V.str j) = decide (i = j) by by_cases e : i = j <;> simp [e]]; exact q _ (.bl _)⟩
theorem rv_neS {i j : Str} : Rv2 K S rNe (.str i) (.str j) (Eq (.bl (!decide (i = j)))) := rv_at fun H v u _ r1 r2 Q q => by
  obtain rfl := r1.strI; obtain rfl := r2.strI
  exact ⟨rfl, by rw [show decide (V.str i = V.str j) = decide (i = j) by by_cases e : i = j <;> simp [e]]; exact q _ (.bl _)⟩
/-- is None -/
def Dt.isNon : Dt → Bool
  | .non => true
  | .raw .non => true
  | _ => false
theorem Rep.isNon {H : Hp} {v : V} (r : Rep K H v d) : decide (v = .non) = d.isNon := by
  cases r with
  | raw v => cases v <;> rfl
  | _ => rfl
theorem rv_isN : Rv2 K S (fun x y H Q => y = .non ∧ Q (.bl (decide (x = .non))) H) d .non (Eq (.bl d.isNon)) := rv_at fun H v u _ r1 r2 Q q => by
  refine ⟨by cases r2; rfl, ?_⟩
  rw [r1.isNon]
  exact q _ (.bl _)
theorem rv_notN : Rv2 K S (fun x y H Q => y = .non ∧ Q (.bl (!decide (x = .non))) H) d .non (Eq (.bl (!d.isNon))) := rv_at fun H v u _ r1 r2 Q q => by
  refine ⟨by cases r2; rfl, ?_⟩
  rw [r1.isNon]
  exact q _ (.bl _)
theorem rv_isB {a b : Bool} : Rv2 K S rIsB (.bl a) (.bl b) (Eq (.bl (decide (a = b)))) := rv_at fun H v u _ r1 r2 Q q => ⟨a, b, r1.blI, r2.blI, q _ (.bl _)⟩
theorem rv_notB {a b : Bool} : Rv2 K S rNotB (.bl a) (.bl b) (Eq (.bl (!decide (a = b)))) := rv_at fun H v u _ r1 r2 Q q => ⟨a, b, r1.blI, r2.blI, q _ (.bl _)⟩

/-! argument lists, displays -/
theorem ea_nil : EvA K S S ρ tNil (Eq []) := fun σ H i s Q q => q _ _ H (Gr.refl H) i .nil rfl
theorem ea_consP {tr : TA} {Φl : List Dt → Prop} (ha : Ev K S S1 ρ ta Φ) (hr : EvA K S1 S2 ρ tr Φl) : EvA K S S2 ρ (tCons ta tr) (fun l => ∃ d ds, l = d :: ds ∧ Φ d ∧ Φl ds) := fun σ H i s Q q =>
  ha σ H i s _ fun v d H1 g1 i1 r1 p1 => hr σ H1 i1 (s.mono g1) _ fun vs ds H2 g2 i2 r2 p2 => q _ _ H2 (g1.trans g2) i2 (.cons (r1.mono g2) r2) ⟨d, ds, rfl, p1, p2⟩
theorem ea_cons {tr : TA} {ds : List Dt} (ha : Ev K S S1 ρ ta (Eq d)) (hr : EvA K S1 S2 ρ tr (Eq ds)) : EvA K S S2 ρ (tCons ta tr) (Eq (d :: ds)) := fun σ H i s Q q =>
  ha σ H i s _ fun v d' H1 g1 i1 r1 p1 => hr σ H1 i1 (s.mono g1) _ fun vs ds' H2 g2 i2 r2 p2 => q _ _ H2 (g1.trans g2) i2 (.cons (p1 ▸ r1.mono g2) (p2 ▸ r2)) rfl
theorem ea_starT {tr : TA} {xs ds : List Dt} (ha : Ev K S S1 ρ ta (Eq (.tup xs))) (hr : EvA K S1 S2 ρ tr (Eq ds)) : EvA K S S2 ρ (StX.tStar K ta tr) (Eq (xs ++ ds)) := fun σ H i s Q q =>
  ha σ H i s _ fun v d' H1 g1 i1 r1 p1 => by
    subst p1
    obtain ⟨a, vs, rfl, h, ra⟩ := r1.tupI
    exact ⟨a, vs, rfl, .inl h, hr σ H1 i1 (s.mono g1) _ fun us ds' H2 g2 i2 r2 p2 => q _ _ H2 (g1.trans g2) i2 ((ra.mono g2).app (p2 ▸ r2)) rfl⟩
theorem ev_tupP {t : TA} {Φl : List Dt → Prop} (h : EvA K S S1 ρ t Φl) (hz : ∀ ds, Φl ds → ds.length ≤ sizeLine) : Ev K S S1 ρ (tTup t) (fun d => ∃ ds, d = .tup ds ∧ Φl ds) := fun σ H i s Q q =>
  h σ H i s _ fun vs ds H1 g1 i1 r1 p1 => ⟨by rw [r1.len]; exact hz ds p1, fun p hp => q _ _ _ (g1.trans (same_new hp).gr) (S1.st i1 (same_new hp)) (.tup (SqT.of upd_same) (r1.mono (same_new hp).gr)) ⟨ds, rfl, p1⟩⟩
theorem ev_lstP {t : TA} {Φl : List Dt → Prop} (h : EvA K S S1 ρ t Φl) (hz : ∀ ds, Φl ds → ds.length ≤ sizeLine) : Ev K S S1 ρ (tLst t) (fun d => ∃ ds, d = .lst ds ∧ Φl ds) := fun σ H i s Q q =>
  h σ H i s _ fun vs ds H1 g1 i1 r1 p1 => ⟨by rw [r1.len]; exact hz ds p1, fun p hp => q _ _ _ (g1.trans (same_new hp).gr) (S1.st i1 (same_new hp)) (.lst (SqL.of upd_same) (r1.mono (same_new hp).gr)) ⟨ds, rfl, p1⟩⟩
theorem ev_tup {t : TA} {ds : List Dt} (h : EvA K S S1 ρ t (Eq ds)) (hz : ds.length ≤ sizeLine) : Ev K S S1 ρ (tTup t) (Eq (.tup ds)) := (ev_tupP h fun _ e => e ▸ hz).weak fun _ ⟨_, e, e'⟩ => e ▸ e' ▸ rfl
theorem ev_lst {t : TA} {ds : List Dt} (h : EvA K S S1 ρ t (Eq ds)) (hz : ds.length ≤ sizeLine) : Ev K S S1 ρ (tLst t) (Eq (.lst ds)) := (ev_lstP h fun _ e => e ▸ hz).weak fun _ ⟨_, e, e'⟩ => e ▸ e' ▸ rfl
theorem ev_dic : Ev K S S ρ tDNewK (Eq .dic) := fun σ H i s Q q p hp => q _ _ _ (same_new hp).gr (S.st i (same_new hp)) (.dic upd_same) rfl

/-! calls -/
/-- a def over data: from ds (n of them, such that pre) it hands back f ds and leaves all else -/
def spF (K : PySem.W.Frag) (n : Nat) (pre : List Dt → Prop) (f : List Dt → Dt) : Sp := fun vs H Q _ => ∃ ds, RepA K H vs ds ∧ ds.length = n ∧ pre ds ∧ ∀ v H', Same H H' → Rep K H' v (f ds) → Q v H'
theorem ev_callF {t : TA} {ds : List Dt} {n : Nat} {pre : List Dt → Prop} {f : List Dt → Dt} {E : XK} (ha : EvA K S S1 ρ t (Eq ds)) (hn : ds.length = n) (hp : pre ds) : Ev K S S1 ρ (tCall (spF K n pre f) [] E t) (Eq (f ds)) := fun σ H i s Q q =>
  ha σ H i s _ fun vs ds' H1 g1 i1 r1 p1 => by
    subst p1
    rw [List.append_nil]
    exact ⟨ds, r1, hn, hp, fun v H2 sm r => q v _ H2 (g1.trans sm.gr) (S1.st i1 sm) r rfl⟩
theorem ev_callW {t : TA} {ds es : List Dt} {n m : Nat} {gV : List V → List V} {pre : List Dt → Prop} {f : List Dt → Dt} {E : XK} (ha : EvA K S S1 ρ t (Eq es)) (hm : es.length = m) (hg : ∀ H vs, RepA K H vs es → RepA K H (gV vs) ds) (hn : ds.length = n) (hp : pre ds) :
    Ev K S S1 ρ (tCallW (spF K n pre f) m gV E t) (Eq (f ds)) := fun σ H i s Q q =>
  ha σ H i s _ fun vs ds' H1 g1 i1 r1 p1 => by
    subst p1
    exact ⟨r1.len.trans hm, ds, hg _ _ r1, hn, hp, fun v H2 sm r => q v _ H2 (g1.trans sm.gr) (S1.st i1 sm) r rfl⟩
theorem ev_cbP {r : List V → Hp → VK → Prop} {t : TA} {Φl : List Dt → Prop} (ha : EvA K S S1 ρ t Φl) (hr : ∀ ds, Φl ds → RvC K S1 r ds Θ) : Ev K S S1 ρ (tCB r t) Θ := fun σ H i s Q q =>
  ha σ H i s _ fun vs ds' H1 g1 i1 r1 p1 => hr ds' p1 H1 vs i1 r1 Q fun v' d H3 g3 i3 r3 p3 => q v' d H3 (g1.trans g3) i3 r3 p3
theorem ev_cb {r : List V → Hp → VK → Prop} {t : TA} {ds : List Dt} (ha : EvA K S S1 ρ t (Eq ds)) (hr : RvC K S1 r ds Θ) : Ev K S S1 ρ (tCB r t) Θ := ev_cbP ha fun _ e => e ▸ hr
theorem rc_at {r : List V → Hp → VK → Prop} {xs : List Dt} (h : ∀ H vs, S.I H → RepA K H vs xs → ∀ Q : VK, (∀ v', Rep K H v' z → Q v' H) → r vs H Q) : RvC K S r xs (Eq z) := fun H vs i r1 Q q => h H vs i r1 Q fun v' r' => q v' z H (Gr.refl H) i r' rfl
theorem RepA.oneI {H : Hp} {vs : List V} (r : RepA K H vs [d]) : ∃ v, vs = [v] ∧ Rep K H v d := by
  cases r with
  | cons h r => cases r; exact ⟨_, rfl, h⟩
theorem RepA.twoI {H : Hp} {vs : List V} (r : RepA K H vs [x, y]) : ∃ v u, vs = [v, u] ∧ Rep K H v x ∧ Rep K H u y := by
  cases r with
  | cons h r => obtain ⟨u, rfl, q⟩ := r.oneI; exact ⟨_, _, rfl, h, q⟩
def rLen (K : PySem.W.Frag) : List V → Hp → VK → Prop := fun xs H Q => ∃ p ys, xs = [.ref p] ∧ (SqL K H p ys ∨ SqT K H p ys) ∧ Q (.int ys.length) H
theorem rc_lenT {xs : List Dt} : RvC K S (rLen K) [.tup xs] (Eq (.int xs.length)) := rc_at fun H vs i r Q q => by
  obtain ⟨v, rfl, r1⟩ := r.oneI
  obtain ⟨a, us, rfl, h, ra⟩ := r1.tupI
  exact ⟨a, us, rfl, .inr h, by rw [ra.len]; exact q _ (.int _)⟩
theorem rc_lenL {xs : List Dt} : RvC K S (rLen K) [.lst xs] (Eq (.int xs.length)) := rc_at fun H vs i r Q q => by
  obtain ⟨v, rfl, r1⟩ := r.oneI
  obtain ⟨a, us, rfl, h, ra⟩ := r1.lstI
  exact ⟨a, us, rfl, .inl h, by rw [ra.len]; exact q _ (.int _)⟩
theorem rc_all {bs : List Bool} : RvC K S (rAll K) [.lst (bs.map Dt.bl)] (Eq (.bl (bs.all id))) := rc_at fun H vs i r Q q => by
  obtain ⟨v, rfl, r1⟩ := r.oneI
  obtain ⟨a, us, rfl, h, ra⟩ := r1.lstI
  exact ⟨a, bs, rfl, by rw [← ra.bls]; exact h, q _ (.bl _)⟩

/-! subscripts, slices, joined tuples -/
theorem atI_rep {H : Hp} {vs : List V} {ds : List Dt} {i : Int} (r : RepA K H vs ds) (h : atI ds i = some d) : ∃ v, atI vs i = some v ∧ Rep K H v d := by
  unfold atI at h ⊢
  rw [r.len]
  cases e : ixN ds.length i with
  | none => rw [e] at h; cases h
  | some j =>
    rw [e] at h
    exact r.at_ h
theorem rv_ixT {xs : List Dt} {i : Int} (h : atI xs i = some d) : Rv2 K S (rIxT K) (.tup xs) (.int i) (Eq d) := rv_at fun H v u _ r1 r2 Q q => by
  obtain ⟨a, us, rfl, ht, ra⟩ := r1.tupI
  obtain rfl := r2.intI
  obtain ⟨v, e, rv⟩ := atI_rep ra h
  exact ⟨a, us, i, v, rfl, rfl, ht, e, q v rv⟩
theorem rv_ixL {xs : List Dt} {i : Int} (h : atI xs i = some d) : Rv2 K S (rIxL K) (.lst xs) (.int i) (Eq d) := rv_at fun H v u _ r1 r2 Q q => by
  obtain ⟨a, us, rfl, ht, ra⟩ := r1.lstI
  obtain rfl := r2.intI
  obtain ⟨v, e, rv⟩ := atI_rep ra h
  exact ⟨a, us, i, v, rfl, rfl, ht, e, q v rv⟩
theorem rv_ixSL {xs : List Dt} {i : Int} (h : atI xs i = some d) : Rv2 K S (rIx K) (.lst xs) (.int i) (Eq d) := fun H v u hi r1 r2 Q q => .inl (rv_ixL h H v u hi r1 r2 Q q)
theorem rv_ixST {xs : List Dt} {i : Int} (h : atI xs i = some d) : Rv2 K S (rIx K) (.tup xs) (.int i) (Eq d) := fun H v u hi r1 r2 Q q => .inr (.inl (rv_ixT h H v u hi r1 r2 Q q))
/-- a part of a sequence -/
def cutD (xs : List Dt) (lo hi : Option Int) : List Dt := (xs.drop (HT.sIx xs.length 0 lo)).take (HT.sIx xs.length xs.length hi - HT.sIx xs.length 0 lo)
theorem cut_rep {H : Hp} {vs : List V} {ds : List Dt} (r : RepA K H vs ds) (lo hi : Option Int) : RepA K H (cutV vs lo hi) (cutD ds lo hi) := by
  unfold cutV cutD
  rw [r.len]
  exact (r.drop _).take _
theorem eo_none : EvO K S S ρ tNoPart (Eq none) := fun σ H i s Q q => q _ H (Gr.refl H) i rfl
theorem eo_some {i : Int} (h : Ev K S S1 ρ te (Eq (.int i))) : EvO K S S1 ρ (tPart te) (Eq (some i)) := fun σ H hi s Q q => h σ H hi s _ fun v d H1 g1 i1 r1 p1 => by
  subst p1
  exact ⟨i, r1.intI, q _ H1 g1 i1 rfl⟩
theorem cutD_whole {xs : List Dt} {lo hi : Option Int} (h : HT.sIx xs.length 0 lo = 0 ∧ HT.sIx xs.length xs.length hi = xs.length) : cutD xs lo hi = xs := by
  unfold cutD
  rw [h.1, h.2, Nat.sub_zero, List.drop_zero, List.take_length]
theorem ev_slT {tl th : TO} {xs : List Dt} {lo hi : Option Int} (ha : Ev K S S1 ρ te (Eq (.tup xs))) (hl : EvO K S1 S2 ρ tl (Eq lo)) (hh : EvO K S2 S3 ρ th (Eq hi)) : Ev K S S3 ρ (tSl (rSlA K) te tl th) (Eq (.tup (cutD xs lo hi))) := fun σ H i s Q q =>
  ha σ H i s _ fun v d' H1 g1 i1 r1 p1 => hl σ H1 i1 (s.mono g1) _ fun l H2 g2 i2 p2 => hh σ H2 i2 (s.mono (g1.trans g2)) _ fun u H3 g3 i3 p3 => by
    subst p1 p2 p3
    obtain ⟨a, vs, rfl, h, ra⟩ := r1.tupI
    have g23 := g2.trans g3
    refine ⟨a, vs, rfl, g23.sqT h, fun hw => ?_, fun hw p hp => ?_⟩
    · rw [ra.len] at hw
      refine q _ _ H3 (g1.trans g23) i3 (.tup (g23.sqT h) ?_) rfl
      rw [cutD_whole hw]
      exact ra.mono g23
    · exact q _ _ _ ((g1.trans g23).trans (same_new hp).gr) (S3.st i3 (same_new hp)) (.tup (SqT.of upd_same) ((cut_rep (ra.mono g23) lo hi).mono (same_new hp).gr)) rfl
theorem ev_slL {tl th : TO} {xs : List Dt} {lo hi : Option Int} (ha : Ev K S S1 ρ te (Eq (.lst xs))) (hl : EvO K S1 S2 ρ tl (Eq lo)) (hh : EvO K S2 S3 ρ th (Eq hi)) : Ev K S S3 ρ (tSl (rSlL K) te tl th) (Eq (.lst (cutD xs lo hi))) := fun σ H i s Q q =>
  ha σ H i s _ fun v d' H1 g1 i1 r1 p1 => hl σ H1 i1 (s.mono g1) _ fun l H2 g2 i2 p2 => hh σ H2 i2 (s.mono (g1.trans g2)) _ fun u H3 g3 i3 p3 => by
    subst p1 p2 p3
    obtain ⟨a, vs, rfl, h, ra⟩ := r1.lstI
    have g23 := g2.trans g3
    exact ⟨a, vs, rfl, g23.sqL h, fun p hp => q _ _ _ ((g1.trans g23).trans (same_new hp).gr) (S3.st i3 (same_new hp)) (.lst (SqL.of upd_same) ((cut_rep (ra.mono g23) lo hi).mono (same_new hp).gr)) rfl⟩
theorem rv_catT {xs ys : List Dt} (hz : xs.length + ys.length ≤ sizeLine) : Rv2 K S (rCatA K) (.tup xs) (.tup ys) (Eq (.tup (xs ++ ys))) := fun H v u i r1 r2 Q q => by
  obtain ⟨a, vs, rfl, h1, ra⟩ := r1.tupI
  obtain ⟨b, us, rfl, h2, rb⟩ := r2.tupI
  refine ⟨a, b, vs, us, rfl, rfl, h1, h2, by rw [ra.len, rb.len]; exact hz, fun e => ?_, fun _ e => ?_, fun _ _ p hp => ?_⟩
  · subst e
    cases ra
    exact q _ _ H (Gr.refl H) i (.tup h2 rb) rfl
  · subst e
    cases rb
    exact q _ _ H (Gr.refl H) i (.tup h1 ra) (by rw [List.append_nil])
  · exact q _ _ _ (same_new hp).gr (S.st i (same_new hp)) (.tup (SqT.of upd_same) ((ra.app rb).mono (same_new hp).gr)) rfl

/-! choices -/
theorem ev_if {b : Bool} (ht : EvT K S S1 ρ t (Eq b)) (ha : b = true → Ev K S1 S2 ρ ta Φ) (hb : b = false → Ev K S1 S2 ρ tb Φ) : Ev K S S2 ρ (tIf t ta tb) Φ := fun σ H i s Q q =>
  ht σ H i s _ fun c H1 g1 i1 p1 => by
    subst p1
    cases b with
    | true => rw [if_pos rfl]; exact ha rfl σ H1 i1 (s.mono g1) Q fun v d H2 g2 => q v d H2 (g1.trans g2)
    | false => rw [if_neg Bool.false_ne_true]; exact hb rfl σ H1 i1 (s.mono g1) Q fun v d H2 g2 => q v d H2 (g1.trans g2)
theorem ev_and {a b : Bool} (ha : Ev K S S1 ρ ta (Eq (.bl a))) (hb : a = true → Ev K S1 S1 ρ tb (Eq (.bl b))) : Ev K S S1 ρ (tAndV ta tb) (Eq (.bl (a && b))) := fun σ H i s Q q =>
  ha σ H i s _ fun v d H1 g1 i1 r1 p1 => by
    subst p1
    refine ⟨a, r1.blI, ?_⟩
    cases a with
    | true => rw [if_pos rfl]; exact hb rfl σ H1 i1 (s.mono g1) Q fun v d H2 g2 => q v d H2 (g1.trans g2)
    | false => rw [if_neg Bool.false_ne_true]; exact q _ _ H1 g1 i1 (.bl _) rfl
theorem ev_or {a b : Bool} (ha : Ev K S S1 ρ ta (Eq (.bl a))) (hb : a = false → Ev K S1 S1 ρ tb (Eq (.bl b))) : Ev K S S1 ρ (tOrV ta tb) (Eq (.bl (a || b))) := fun σ H i s Q q =>
  ha σ H i s _ fun v d H1 g1 i1 r1 p1 => by
    subst p1
    refine ⟨a, r1.blI, ?_⟩
    cases a with
    | false => rw [if_neg Bool.false_ne_true]; exact hb rfl σ H1 i1 (s.mono g1) Q fun v d H2 g2 => q v d H2 (g1.trans g2)
    | true => rw [if_pos rfl]; exact q _ _ H1 g1 i1 (.bl _) rfl
theorem ev_not {a : Bool} (ha : Ev K S S1 ρ ta (Eq (.bl a))) : Ev K S S1 ρ (tNotV ta) (Eq (.bl (!a))) := fun σ H i s Q q =>
  ha σ H i s _ fun v d H1 g1 i1 r1 p1 => by
    subst p1
    exact ⟨a, r1.blI, q _ _ H1 g1 i1 (.bl _) rfl⟩
theorem et_B {a : Bool} (ha : Ev K S S1 ρ ta (Eq (.bl a))) : EvT K S S1 ρ (tB ta) (Eq a) := fun σ H i s Q q => ha σ H i s _ fun v d H1 g1 i1 r1 p1 => by
  subst p1
  exact ⟨a, r1.blI, q _ H1 g1 i1 rfl⟩
theorem et_test {a : Bool} (ha : Ev K S S1 ρ ta (Eq (.bl a))) : EvT K S S1 ρ (tTest ta) (Eq a) := fun σ H i s Q q => ha σ H i s _ fun v d H1 g1 i1 r1 p1 => by
  subst p1
  exact ⟨a, r1.blI, q _ H1 g1 i1 rfl⟩
theorem et_BP {Φb : Bool → Prop} (ha : Ev K S S1 ρ ta (fun d => ∃ b, d = .bl b ∧ Φb b)) : EvT K S S1 ρ (tB ta) Φb := fun σ H i s Q q => ha σ H i s _ fun v d H1 g1 i1 r1 p1 => by
  obtain ⟨b, rfl, p⟩ := p1
  exact ⟨b, r1.blI, q _ H1 g1 i1 p⟩
theorem et_testP {Φb : Bool → Prop} (ha : Ev K S S1 ρ ta (fun d => ∃ b, d = .bl b ∧ Φb b)) : EvT K S S1 ρ (tTest ta) Φb := fun σ H i s Q q => ha σ H i s _ fun v d H1 g1 i1 r1 p1 => by
  obtain ⟨b, rfl, p⟩ := p1
  exact ⟨b, r1.blI, q _ H1 g1 i1 p⟩
theorem et_and {a b : Bool} (ha : EvT K S S1 ρ t (Eq a)) (hb : a = true → EvT K S1 S1 ρ u (Eq b)) : EvT K S S1 ρ (tAnd t u) (Eq (a && b)) := fun σ H i s Q q => ha σ H i s _ fun c H1 g1 i1 p1 => by
  subst p1
  cases a with
  | true => rw [if_pos rfl]; exact hb rfl σ H1 i1 (s.mono g1) Q fun v H2 g2 => q v H2 (g1.trans g2)
  | false => rw [if_neg Bool.false_ne_true]; exact q _ H1 g1 i1 rfl
theorem et_or {a b : Bool} (ha : EvT K S S1 ρ t (Eq a)) (hb : a = false → EvT K S1 S1 ρ u (Eq b)) : EvT K S S1 ρ (tOr t u) (Eq (a || b)) := fun σ H i s Q q => ha σ H i s _ fun c H1 g1 i1 p1 => by
  subst p1
  cases a with
  | false => rw [if_neg Bool.false_ne_true]; exact hb rfl σ H1 i1 (s.mono g1) Q fun v H2 g2 => q v H2 (g1.trans g2)
  | true => rw [if_pos rfl]; exact q _ H1 g1 i1 rfl
theorem et_not {a : Bool} (ha : EvT K S S1 ρ t (Eq a)) : EvT K S S1 ρ (tNot t) (Eq (!a)) := fun σ H i s Q q => ha σ H i s _ fun c H1 g1 i1 p1 => by
  subst p1
  exact q _ H1 g1 i1 rfl
theorem et_yes : EvT K S S ρ tYes (Eq true) := fun σ H i s Q q => q _ H (Gr.refl H) i rfl
/-- a < b < c over ints -/
theorem ev_chain {g g' : Int → Int → Bool} {tc : TE} {i j l : Int} (ha : Ev K S S1 ρ ta (Eq (.int i))) (hb : Ev K S1 S2 ρ tb (Eq (.int j))) (hc : Ev K S2 S2 ρ tc (Eq (.int l))) :
    Ev K S S2 ρ (tChain (rI0 fun a b => .bl (g a b)) (rI0 fun a b => .bl (g' a b)) ta tb tc) (Eq (.bl (g i j && g' j l))) := fun σ H hi s Q q =>
  ha σ H hi s _ fun v d H1 g1 i1 r1 p1 => hb σ H1 i1 (s.mono g1) _ fun u d2 H2 g2 i2 r2 p2 => by
    subst p1 p2
    refine ⟨i, j, (r1.mono g2).intI, r2.intI, g i j, rfl, ?_⟩
    cases e : g i j with
    | true =>
      rw [if_pos rfl]
      exact hc σ H2 i2 (s.mono (g1.trans g2)) _ fun w d3 H3 g3 i3 r3 p3 => by
        subst p3
        exact ⟨j, l, (r2.mono g3).intI, r3.intI, q _ _ H3 ((g1.trans g2).trans g3) i3 (.bl _) (by rw [e, Bool.true_and])⟩
    | false =>
      rw [if_neg Bool.false_ne_true]
      exact q _ _ H2 (g1.trans g2) i2 (.bl _) (by rw [e, Bool.false_and])
end
end Bf
namespace Bf
open PySem PySem.Spec PyProof.Rows L2

/-! ### D. statements over data -/
structure Po where
  nx : List (Option Dt) → Prop := fun _ => False
  rt : Dt → Prop := fun _ => False
  bk : List (Option Dt) → Prop := fun _ => False
  ct : List (Option Dt) → Prop := fun _ => False
structure Ft (K : PySem.W.Frag) (S : Sta) (P : Po) (D : Ends) (H : Hp) : Prop where
  nx : ∀ (σ : L2.St) ρ H', Gr H H' → S.I H' → Slots K H' σ ρ → P.nx ρ → D.nx σ H'
  rt : ∀ v d H', Gr H H' → S.I H' → Rep K H' v d → P.rt d → D.rt v H'
  bk : ∀ (σ : L2.St) ρ H', Gr H H' → S.I H' → Slots K H' σ ρ → P.bk ρ → D.bk σ H'
  ct : ∀ (σ : L2.St) ρ H', Gr H H' → S.I H' → Slots K H' σ ρ → P.ct ρ → D.ct σ H'
/-- what holds at first holds at last -/
def Sta.Le (S SF : Sta) : Prop := ∀ H, S.I H → SF.I H
theorem Sta.Le.refl (S : Sta) : S.Le S := fun _ h => h
theorem Sta.Le.trans {S S1 S2 : Sta} (a : S.Le S1) (b : S1.Le S2) : S.Le S2 := fun H h => b H (a H h)
/-- from what holds at the base B on: the lists in L are newer than B and may be changed -/
structure Bs (SB : Sta) (L : List Addr) (B H : Hp) : Prop where
  gr : Gr B H
  i : SB.I B
  new : ∀ p ∈ L, B p = none
theorem Bs.up {SB : Sta} {L : List Addr} {B H H' : Hp} (b : Bs SB L B H) (g : Gr H H') : Bs SB L B H' := ⟨b.gr.trans g, b.i, b.new⟩
/-- S holds at first, SB at the base, SF at last -/
def Sg (K : PySem.W.Frag) (S SB SF : Sta) (L : List Addr) (ts : TS) (ρ : List (Option Dt)) (P : Po) : Prop := ∀ (D : Ends) (σ : L2.St) (B H : Hp), Bs SB L B H → S.I H → Slots K H σ ρ → Ft K SF P D B → ts D σ H
abbrev So (K : PySem.W.Frag) (S SF : Sta) (L : List Addr) (ts : TS) (ρ : List (Option Dt)) (P : Po) : Prop := Sg K S SF SF L ts ρ P
section
variable {K : PySem.W.Frag} {S S1 S2 SB SF : Sta} {L : List Addr} {ρ : List (Option Dt)} {P : Po} {ta tb te tl : TE} {c : TT} {t u w : TS} {Φ Ψ Θ : Dt → Prop} {x y z d : Dt} {D : Ends} {H H' : Hp}
theorem Ft.mono (f : Ft K SF P D H) (g : Gr H H') : Ft K SF P D H' := ⟨fun σ ρ H2 g2 => f.nx σ ρ H2 (g.trans g2), fun v d H2 g2 => f.rt v d H2 (g.trans g2), fun σ ρ H2 g2 => f.bk σ ρ H2 (g.trans g2), fun σ ρ H2 g2 => f.ct σ ρ H2 (g.trans g2)⟩
theorem Ft.le (f : Ft K SF P D H) (l : S.Le SF) : Ft K S P D H := ⟨fun σ ρ H2 g2 i2 => f.nx σ ρ H2 g2 (l _ i2), fun v d H2 g2 i2 => f.rt v d H2 g2 (l _ i2), fun σ ρ H2 g2 i2 => f.bk σ ρ H2 g2 (l _ i2), fun σ ρ H2 g2 i2 => f.ct σ ρ H2 g2 (l _ i2)⟩
theorem so_next (l : S.Le SF) (h : P.nx ρ) : Sg K S SB SF L tNext ρ P := fun D σ B H b i s f => f.nx σ ρ H b.gr (l _ i) s h
theorem so_break (l : S.Le SF) (h : P.bk ρ) : Sg K S SB SF L tBreak ρ P := fun D σ B H b i s f => f.bk σ ρ H b.gr (l _ i) s h
theorem so_cont (l : S.Le SF) (h : P.ct ρ) : Sg K S SB SF L tCont ρ P := fun D σ B H b i s f => f.ct σ ρ H b.gr (l _ i) s h
/-- a statement, then the rest -/
theorem so_seq {M : List (Option Dt) → Prop} (h1 : Sg K S SB SF L t ρ { P with nx := M }) (h2 : ∀ ρ', M ρ' → So K SF SF [] u ρ' P) : Sg K S SB SF L (tSeq t u) ρ P := fun D σ B H b i s f =>
  h1 { D with nx := u D } σ B H b i s ⟨fun σ' ρ' H' g i' s' m => h2 ρ' m D σ' H' H' ⟨Gr.refl H', i', fun _ z => nomatch z⟩ i' s' (f.mono g), f.rt, f.bk, f.ct⟩
/-- a statement that leaves what holds and the loose lists, in the middle -/
theorem so_mid {M : List (Option Dt) → Prop} (l : S.Le SF) (h1 : So K S S [] t ρ { P with nx := M }) (h2 : ∀ ρ', M ρ' → Sg K S SB SF L u ρ' P) : Sg K S SB SF L (tSeq t u) ρ P := fun D σ B H b i s f =>
  h1 { D with nx := u D } σ H H ⟨Gr.refl H, i, fun _ z => nomatch z⟩ i s ⟨fun σ' ρ' H' g i' s' m => h2 ρ' m D σ' B H' (b.up g) i' s' f, ((f.mono b.gr).le l).rt, ((f.mono b.gr).le l).bk, ((f.mono b.gr).le l).ct⟩
theorem so_le (l : S.Le S1) (h : Sg K S1 SB SF L t ρ P) : Sg K S SB SF L t ρ P := fun D σ B H b i s f => h D σ B H b (l _ i) s f
/-- a statement, then the rest, the loose lists kept -/
theorem so_seqG {M : List (Option Dt) → Prop} (l : S1.Le SF) (h1 : Sg K S SB S1 L t ρ { P with nx := M }) (h2 : ∀ ρ', M ρ' → Sg K S1 SB SF L u ρ' P) : Sg K S SB SF L (tSeq t u) ρ P := fun D σ B H b i s f =>
  h1 { D with nx := u D } σ B H b i s ⟨fun σ' ρ' H' g i' s' m => h2 ρ' m D σ' B H' ⟨g, b.i, b.new⟩ i' s' f, (f.le l).rt, (f.le l).bk, (f.le l).ct⟩
/-- nothing is loose any more -/
theorem so_fast (h : Sg K S SB SF [] t ρ P) : Sg K S SB SF L t ρ P := fun D σ B H b i s f => h D σ B H ⟨b.gr, b.i, fun _ z => nomatch z⟩ i s f
theorem so_skip (h : Sg K S SB SF L w ρ P) : Sg K S SB SF L (tSeq tNext w) ρ P := fun D σ B H b i s f => h D σ B H b i s f
theorem so_assoc (h : Sg K S SB SF L (tSeq t (tSeq u w)) ρ P) : Sg K S SB SF L (tSeq (tSeq t u) w) ρ P := fun D σ B H b i s f => h D σ B H b i s f
theorem so_brk1 (l : S.Le SF) (h : P.bk ρ) : Sg K S SB SF L (tSeq tBreak w) ρ P := fun D σ B H b i s f => f.bk σ ρ H b.gr (l _ i) s h
theorem so_cont1 (l : S.Le SF) (h : P.ct ρ) : Sg K S SB SF L (tSeq tCont w) ρ P := fun D σ B H b i s f => f.ct σ ρ H b.gr (l _ i) s h
theorem so_ret (h : Ev K S S1 ρ te Φ) (l : S1.Le SF) (q : ∀ d, Φ d → P.rt d) : Sg K S SB SF L (tRet te) ρ P := fun D σ B H b i s f => h σ H i s _ fun v d H1 g1 i1 r1 p1 => f.rt v d H1 (b.gr.trans g1) (l _ i1) r1 (q d p1)
theorem so_retD (h : Ev K S S1 ρ te (Eq d)) (l : S1.Le SF) (q : P.rt d) : Sg K S SB SF L (tRet te) ρ P := so_ret h l fun _ e => e ▸ q
theorem so_ret1 (h : Ev K S S1 ρ te Φ) (l : S1.Le SF) (q : ∀ d, Φ d → P.rt d) : Sg K S SB SF L (tSeq (tRet te) w) ρ P := fun D σ B H b i s f => h σ H i s _ fun v d H1 g1 i1 r1 p1 => f.rt v d H1 (b.gr.trans g1) (l _ i1) r1 (q d p1)
theorem so_ret1D (h : Ev K S S1 ρ te (Eq d)) (l : S1.Le SF) (q : P.rt d) : Sg K S SB SF L (tSeq (tRet te) w) ρ P := so_ret1 h l fun _ e => e ▸ q
theorem so_retN (l : S.Le SF) (q : P.rt .non) : Sg K S SB SF L tRetN ρ P := fun D σ B H b i s f => f.rt _ _ H b.gr (l _ i) .non q
/-- x = e -/
theorem so_set {j : Nat} (h : Ev K S S1 ρ te Φ) (q : ∀ d, Φ d → Sg K S1 SB SF L w (ρ.set j (some d)) P) : Sg K S SB SF L (tSeq (tAsg te (gName j)) w) ρ P := fun D σ B H b i s f =>
  h σ H i s _ fun v d H1 g1 i1 r1 p1 => q d p1 D _ B H1 (b.up g1) i1 ((s.mono g1).set r1 j) f
theorem so_setD {j : Nat} (h : Ev K S S1 ρ te (Eq d)) (q : Sg K S1 SB SF L w (ρ.set j (some d)) P) : Sg K S SB SF L (tSeq (tAsg te (gName j)) w) ρ P := so_set h fun _ e => e ▸ q
theorem so_set0 {j : Nat} (h : Ev K S S1 ρ te Φ) (l : S1.Le SF) (q : ∀ d, Φ d → P.nx (ρ.set j (some d))) : Sg K S SB SF L (tAsg te (gName j)) ρ P := fun D σ B H b i s f =>
  h σ H i s _ fun v d H1 g1 i1 r1 p1 => f.nx _ _ H1 (b.gr.trans g1) (l _ i1) ((s.mono g1).set r1 j) (q d p1)
theorem so_set0D {j : Nat} (h : Ev K S S1 ρ te (Eq d)) (l : S1.Le SF) (q : P.nx (ρ.set j (some d))) : Sg K S SB SF L (tAsg te (gName j)) ρ P := so_set0 h l fun _ e => e ▸ q
theorem so_drop (h : Ev K S S1 ρ te Φ) (q : Sg K S1 SB SF L w ρ P) : Sg K S SB SF L (tSeq (tDrop te) w) ρ P := fun D σ B H b i s f => h σ H i s _ fun v d H1 g1 i1 r1 p1 => q D σ B H1 (b.up g1) i1 (s.mono g1) f
theorem so_if {Φb : Bool → Prop} (h : EvT K S S1 ρ c Φb) (h1 : Φb true → Sg K S1 SB SF L (tSeq t w) ρ P) (h2 : Φb false → Sg K S1 SB SF L (tSeq u w) ρ P) : Sg K S SB SF L (tSeq (tIfS c t u) w) ρ P := fun D σ B H b i s f => h σ H i s _ fun k H1 g1 i1 p1 => by
  cases k with
  | true => rw [if_pos rfl]; exact h1 p1 D σ B H1 (b.up g1) i1 (s.mono g1) f
  | false => rw [if_neg Bool.false_ne_true]; exact h2 p1 D σ B H1 (b.up g1) i1 (s.mono g1) f
theorem so_if0 {Φb : Bool → Prop} (h : EvT K S S1 ρ c Φb) (h1 : Φb true → Sg K S1 SB SF L t ρ P) (h2 : Φb false → Sg K S1 SB SF L u ρ P) : Sg K S SB SF L (tIfS c t u) ρ P := fun D σ B H b i s f => h σ H i s _ fun k H1 g1 i1 p1 => by
  cases k with
  | true => rw [if_pos rfl]; exact h1 p1 D σ B H1 (b.up g1) i1 (s.mono g1) f
  | false => rw [if_neg Bool.false_ne_true]; exact h2 p1 D σ B H1 (b.up g1) i1 (s.mono g1) f
theorem so_ifD {k : Bool} (h : EvT K S S1 ρ c (Eq k)) (h1 : k = true → Sg K S1 SB SF L (tSeq t w) ρ P) (h2 : k = false → Sg K S1 SB SF L (tSeq u w) ρ P) : Sg K S SB SF L (tSeq (tIfS c t u) w) ρ P := so_if h h1 h2
theorem so_ifT (h : EvT K S S1 ρ c (Eq true)) (h1 : Sg K S1 SB SF L (tSeq t w) ρ P) : Sg K S SB SF L (tSeq (tIfS c t u) w) ρ P := so_if h (fun _ => h1) fun e => nomatch e
theorem so_ifF (h : EvT K S S1 ρ c (Eq false)) (h1 : Sg K S1 SB SF L (tSeq u w) ρ P) : Sg K S SB SF L (tSeq (tIfS c t u) w) ρ P := so_if h (fun e => nomatch e) fun _ => h1
theorem so_if0T (h : EvT K S S1 ρ c (Eq true)) (h1 : Sg K S1 SB SF L t ρ P) : Sg K S SB SF L (tIfS c t u) ρ P := so_if0 h (fun _ => h1) fun e => nomatch e
theorem so_if0F (h : EvT K S S1 ρ c (Eq false)) (h1 : Sg K S1 SB SF L u ρ P) : Sg K S SB SF L (tIfS c t u) ρ P := so_if0 h (fun e => nomatch e) fun _ => h1
theorem so_par {i j : Nat} {ta : TA} {Φl : List Dt → Prop} (h : EvA K S S1 ρ ta Φl) (hl : ∀ l, Φl l → l.length = 2) (q : ∀ a b, Φl [a, b] → Sg K S1 SB SF L w ((ρ.set i (some a)).set j (some b)) P) : Sg K S SB SF L (tSeq (tPar i j ta) w) ρ P := fun D σ B H b hi s f =>
  h σ H hi s _ fun vs ds H1 g1 i1 r1 p1 => by
    match ds, hl ds p1, r1, p1 with
    | [x, y], _, r1, p1 =>
      obtain ⟨v, u, rfl, ra, rb⟩ := r1.twoI
      exact ⟨v, u, rfl, q x y p1 D _ B H1 (b.up g1) i1 (((s.mono g1).set ra i).set rb j) f⟩
/-- a, b, .. = e -/
def gNames : List Nat → TGs
  | [] => gNil
  | i :: is => gCons (gName i) (gNames is)
def setAll (ρ : List (Option Dt)) : List Nat → List Dt → List (Option Dt)
  | i :: is, d :: ds => setAll (ρ.set i (some d)) is ds
  | _, _ => ρ
theorem names_run {Q : L2.St → Hp → Prop} : ∀ {is : List Nat} {vs : List V} {ds : List Dt} {σ : L2.St} {ρ : List (Option Dt)}, Slots K H σ ρ → RepA K H vs ds → ds.length = is.length → (∀ σ', Slots K H σ' (setAll ρ is ds) → Q σ' H) → gNames is vs σ H Q
  | [], _, _, σ, ρ, s, .nil, _, q => ⟨rfl, q σ s⟩
  | i :: is, _, _, σ, ρ, s, .cons (v := v) (vs := vs) (d := d) (ds := ds) r ra, hl, q => ⟨v, vs, rfl, names_run (is := is) (s.set r i) ra (by simpa using hl) q⟩
  | [], _, _, _, _, _, .cons _ _, hl, _ => by simp at hl
  | _ :: _, _, _, _, _, _, .nil, hl, _ => by simp at hl
theorem so_unp {n : Nat} {g : TGs} {is : List Nat} {xs : List Dt} (h : Ev K S S1 ρ te (Eq (.tup xs))) (hg : g = gNames is) (hn : xs.length = n) (hi : xs.length = is.length) (q : Sg K S1 SB SF L w (setAll ρ is xs) P) : Sg K S SB SF L (tSeq (tAsg te (gTup K n g)) w) ρ P := fun D σ B H b i s f =>
  h σ H i s _ fun v d H1 g1 i1 r1 p1 => by
    subst p1 hg
    obtain ⟨a, vs, rfl, ht, ra⟩ := r1.tupI
    exact ⟨a, vs, rfl, ht, ra.len.trans hn, names_run (s.mono g1) ra hi fun σ' s' => q D σ' B H1 (b.up g1) i1 s' f⟩

/-! loops -/
theorem so_forT {j : Nat} {xs : List Dt} (h : Ev K S S ρ tl (Eq (.tup xs))) (J : Nat → List (Option Dt) → Prop) (h0 : J 0 ρ)
    (hs : ∀ i x ρ', xs[i]? = some x → J i ρ' → So K S S [] t (ρ'.set j (some x)) { P with nx := J (i + 1), ct := J (i + 1), bk := P.nx }) (hd : ∀ ρ', J xs.length ρ' → P.nx ρ') : Sg K S SB S L (tFor (iTup K tl) (gName j) t) ρ P := fun D σ B H b i s f0 =>
  have f := f0.mono b.gr
  h σ H i s _ fun v d H1 g1 i1 r1 p1 => by
    subst p1
    obtain ⟨a, vs, rfl, ht, ra⟩ := r1.tupI
    refine ⟨a, rfl, ⟨vs, ht⟩, for_tup (K := K) (a := a) (xs := vs) (fun n σ' H' => Gr H1 H' ∧ S.I H' ∧ ∃ ρ', Slots K H' σ' ρ' ∧ J n ρ') ⟨Gr.refl H1, i1, ρ, s.mono g1, h0⟩ (fun n σ' H' _ p => p.1.sqT ht) (fun n x σ' H' hx p => ?_) fun σ' H' p => ?_⟩
    · obtain ⟨g2, i2, ρ', s2, jn⟩ := p
      obtain ⟨d, hd', rd⟩ := ra.ta hx
      refine hs n d ρ' hd' jn _ _ H' H' ⟨Gr.refl H', i2, fun _ z => nomatch z⟩ i2 (s2.set (rd.mono g2) j) ⟨fun σ3 ρ3 H3 g3 i3 s3 q => ⟨g2.trans g3, i3, ρ3, s3, q⟩, fun v3 d3 H3 g3 => f.rt v3 d3 H3 ((g1.trans g2).trans g3), fun σ3 ρ3 H3 g3 i3 s3 q => f.nx σ3 ρ3 H3 ((g1.trans g2).trans g3) i3 s3 q, fun σ3 ρ3 H3 g3 i3 s3 q => ⟨g2.trans g3, i3, ρ3, s3, q⟩⟩
    · obtain ⟨g2, i2, ρ', s2, jn⟩ := p
      rw [ra.len] at jn
      exact f.nx σ' ρ' H' (g1.trans g2) i2 s2 (hd ρ' jn)
theorem so_forL {j : Nat} {xs : List Dt} (h : Ev K S S ρ tl (Eq (.lst xs))) (J : Nat → List (Option Dt) → Prop) (h0 : J 0 ρ)
    (hs : ∀ i x ρ', xs[i]? = some x → J i ρ' → So K S S [] t (ρ'.set j (some x)) { P with nx := J (i + 1), ct := J (i + 1), bk := P.nx }) (hd : ∀ ρ', J xs.length ρ' → P.nx ρ') : Sg K S SB S L (tFor (iList K tl) (gName j) t) ρ P := fun D σ B H b i s f0 =>
  have f := f0.mono b.gr
  h σ H i s _ fun v d H1 g1 i1 r1 p1 => by
    subst p1
    obtain ⟨a, vs, rfl, ht, ra⟩ := r1.lstI
    refine ⟨a, rfl, ⟨vs, ht⟩, for_list (K := K) (a := a) (xs := vs) (fun n σ' H' => Gr H1 H' ∧ S.I H' ∧ ∃ ρ', Slots K H' σ' ρ' ∧ J n ρ') ⟨Gr.refl H1, i1, ρ, s.mono g1, h0⟩ (fun n σ' H' _ p => p.1.sqL ht) (fun n x σ' H' hx p => ?_) fun σ' H' p => ?_⟩
    · obtain ⟨g2, i2, ρ', s2, jn⟩ := p
      obtain ⟨d, hd', rd⟩ := ra.ta hx
      refine hs n d ρ' hd' jn _ _ H' H' ⟨Gr.refl H', i2, fun _ z => nomatch z⟩ i2 (s2.set (rd.mono g2) j) ⟨fun σ3 ρ3 H3 g3 i3 s3 q => ⟨g2.trans g3, i3, ρ3, s3, q⟩, fun v3 d3 H3 g3 => f.rt v3 d3 H3 ((g1.trans g2).trans g3), fun σ3 ρ3 H3 g3 i3 s3 q => f.nx σ3 ρ3 H3 ((g1.trans g2).trans g3) i3 s3 q, fun σ3 ρ3 H3 g3 i3 s3 q => ⟨g2.trans g3, i3, ρ3, s3, q⟩⟩
    · obtain ⟨g2, i2, ρ', s2, jn⟩ := p
      rw [ra.len] at jn
      exact f.nx σ' ρ' H' (g1.trans g2) i2 s2 (hd ρ' jn)
/-- for i in range(n): what holds may turn with each round (Z) -/
theorem so_forR {j n : Nat} {ta : TA} {Z : Nat → Sta} (h : EvA K S (Z 0) ρ ta (Eq [.int n])) (hn : n < 2 ^ 62) (hz : ∀ i, i ≤ n → (Z i).Le SF) (hup : ∀ i, i < n → (Z i).Le (Z (i + 1))) (J : Nat → List (Option Dt) → Prop) (h0 : J 0 ρ)
    (hs : ∀ (i : Nat) ρ', i < n → J i ρ' → So K (Z i) (Z (i + 1)) [] t (ρ'.set j (some (.int i))) { P with nx := J (i + 1), ct := J (i + 1), bk := P.nx }) (hd : ∀ ρ', J n ρ' → P.nx ρ') : Sg K S SB SF L (tFor (iRng1 ta) (gName j) t) ρ P := fun D σ B H b i s f0 =>
  have f := f0.mono b.gr
  h σ H i s _ fun vs ds H1 g1 i1 r1 p1 => by
    subst p1
    obtain ⟨v, rfl, rv⟩ := r1.oneI
    obtain rfl := rv.intI
    refine ⟨n, rfl, by omega, by omega, ?_⟩
    rw [Int.toNat_natCast]
    refine for_range (lo := 0) (n := n) (fun m σ' H' => Gr H1 H' ∧ (Z m).I H' ∧ ∃ ρ', Slots K H' σ' ρ' ∧ J m ρ') ⟨Gr.refl H1, i1, ρ, s.mono g1, h0⟩ (fun m σ' H' hm p => ?_) fun σ' H' p => ?_
    · obtain ⟨g2, i2, ρ', s2, jn⟩ := p
      rw [Int.zero_add]
      have l := hz (m + 1) hm
      exact hs m ρ' hm jn _ _ H' H' ⟨Gr.refl H', hup m hm _ i2, fun _ z => nomatch z⟩ i2 (s2.set (.int _) j) ⟨fun σ3 ρ3 H3 g3 i3 s3 q => ⟨g2.trans g3, i3, ρ3, s3, q⟩, fun v3 d3 H3 g3 i3 => f.rt v3 d3 H3 ((g1.trans g2).trans g3) (l _ i3), fun σ3 ρ3 H3 g3 i3 s3 q => f.nx σ3 ρ3 H3 ((g1.trans g2).trans g3) (l _ i3) s3 q, fun σ3 ρ3 H3 g3 i3 s3 q => ⟨g2.trans g3, i3, ρ3, s3, q⟩⟩
    · obtain ⟨g2, i2, ρ', s2, jn⟩ := p
      exact f.nx σ' ρ' H' (g1.trans g2) (hz n (Nat.le_refl n) _ i2) s2 (hd ρ' jn)
end

/-! ### E. comprehensions: the list that grows is none of the items' -/
mutual
def nol : Dt → Bool
  | .lst _ => false
  | .lat _ _ => false
  | .tup xs => nolA xs
  | .ins _ _ xs => nolA xs
  | .err _ _ d => nol d
  | .dct ks xs => nolA ks && nolA xs
  | _ => true
def nolA : List Dt → Bool
  | [] => true
  | x :: xs => nol x && nolA xs
end
section
variable {K : PySem.W.Frag} {H : Hp} {D : Addr} {acc : List V} {o : HO}
theorem upd_other {a : Addr} {u : HO} (hD : H D = some (.lst acc)) (ha : H a = some u) (hu : ∀ xs, u ≠ .lst xs) : upd H D o a = some u := by
  rw [upd_ne (fun e => by rw [e, hD] at ha; exact hu acc (Option.some.inj ha).symm)]
  exact ha
mutual
theorem Rep.off (hD : H D = some (.lst acc)) : ∀ {v : V} {d : Dt}, nol d = true → Rep K H v d → Rep K (upd H D o) v d
  | _, _, _, .non => .non
  | _, _, _, .bl b => .bl b
  | _, _, _, .int i => .int i
  | _, _, _, .str x => .str x
  | _, _, h, .lst _ _ => by simp [nol] at h
  | _, _, h, .tup q r => .tup (by
      rcases q with (q | ⟨o', q⟩) | q
      · exact .inl (.inl (upd_other hD q fun _ z => nomatch z))
      · exact .inl (.inr ⟨o', upd_other hD q fun _ z => nomatch z⟩)
      · exact .inr q) (r.off hD (by simpa [nol] using h))
  | _, _, _, .dic h => .dic (upd_other hD h fun _ z => nomatch z)
  | _, _, h, .ins q r => .ins (upd_other hD q fun _ z => nomatch z) (r.off hD (by simpa [nol] using h))
  | _, _, _, .raw v => .raw v
  | _, _, h, .lat _ _ => by simp [nol] at h
  | _, _, h, .err q1 q2 r => .err (upd_other hD q1 fun _ z => nomatch (show HO.ext _ = HO.lst _ from z)) (upd_other hD q2 fun _ z => nomatch z) (r.off hD (by simpa [nol] using h))
  | _, _, h, .dct q r1 r2 => .dct (upd_other hD q fun _ z => nomatch (show HO.ext _ = HO.lst _ from z)) (r1.off hD (Bool.and_eq_true_iff.mp (by simpa only [nol] using h)).1) (r2.off hD (Bool.and_eq_true_iff.mp (by simpa only [nol] using h)).2)
theorem RepA.off (hD : H D = some (.lst acc)) : ∀ {vs : List V} {ds : List Dt}, nolA ds = true → RepA K H vs ds → RepA K (upd H D o) vs ds
  | _, _, _, .nil => .nil
  | _, _, h, .cons q r => by
    simp only [nolA, Bool.and_eq_true] at h
    exact .cons (q.off hD h.1) (r.off hD h.2)
end
end
theorem nolA_app : ∀ {xs ys : List Dt}, nolA (xs ++ ys) = (nolA xs && nolA ys)
  | [], _ => by simp [nolA]
  | x :: xs, ys => by simp only [List.cons_append, nolA, nolA_app, Bool.and_assoc]
theorem nolA_all : ∀ {xs : List Dt}, nolA xs = true ↔ ∀ x ∈ xs, nol x = true
  | [] => by simp [nolA]
  | x :: xs => by simp [nolA, nolA_all]
theorem wipe_set (ν : Option V) (j : Nat) : ∀ (vs : List Nat) (σ : L2.St), (L2.wipe (σ.set j ν) vs).set j none = (L2.wipe σ vs).set j none
  | [], σ => by simp [L2.wipe, List.set_set]
  | v :: vs, σ => by
    show ((L2.wipe (σ.set j ν) vs).set v none).set j none = ((L2.wipe σ vs).set v none).set j none
    by_cases h : v = j
    · subst h
      rw [wipe_set ν v vs σ]
    · rw [List.set_comm _ _ h, wipe_set ν j vs σ, List.set_comm _ _ h]
theorem wipe_in (ν : Option V) (j : Nat) : ∀ (vs : List Nat) (σ : L2.St), j ∈ vs → L2.wipe (σ.set j ν) vs = L2.wipe σ vs
  | v :: vs, σ, h => by
    show (L2.wipe (σ.set j ν) vs).set v none = (L2.wipe σ vs).set v none
    by_cases e : v = j
    · subst e
      exact wipe_set ν v vs σ
    · rw [wipe_in ν j vs σ ((List.mem_cons.mp h).resolve_left (Ne.symm e))]
theorem wipe_comm (j : Nat) : ∀ (vs : List Nat) (σ : L2.St), L2.wipe (σ.set j none) vs = (L2.wipe σ vs).set j none
  | [], σ => rfl
  | v :: vs, σ => by
    show (L2.wipe (σ.set j none) vs).set v none = ((L2.wipe σ vs).set v none).set j none
    rw [wipe_comm j vs σ]
    by_cases e : v = j
    · subst e
      rfl
    · exact List.set_comm _ _ (Ne.symm e)
theorem wipe_twice : ∀ (vs : List Nat) (σ : L2.St), L2.wipe (L2.wipe σ vs) vs = L2.wipe σ vs
  | [], σ => rfl
  | v :: vs, σ => by
    show (L2.wipe ((L2.wipe σ vs).set v none) vs).set v none = (L2.wipe σ vs).set v none
    rw [wipe_set none v vs, wipe_twice vs σ]
theorem wipe_put (ν : Option V) {j : Nat} {vs : List Nat} (σ : L2.St) (h : j ∈ vs) : L2.wipe ((L2.wipe σ vs).set j ν) vs = L2.wipe σ vs := by
  rw [wipe_in ν j vs _ h, wipe_twice]
/-- a list may turn under what holds all along -/
def Sta.Mu (S : Sta) : Prop := ∀ {H1 H : Hp} {D : Addr} {o : HO}, S.I H1 → Gr H1 H → H1 D = none → S.I H → S.I (upd H D o)
theorem gr_off {H1 H : Hp} {D : Addr} {o : HO} (g : Gr H1 H) (h : H1 D = none) : Gr H1 (upd H D o) := fun a u e d => by
  rw [upd_ne (ne_of_none e h)]
  exact g a u e d
section
variable {K : PySem.W.Frag} {S S1 : Sta} {ρ : List (Option Dt)} {te tl : TE} {tt : TT} {vs : List Nat} {j : Nat}
/-- a comprehension over a source whose items are told; every item's data such that Φ i, or left out -/
theorem lc_turns {g : L2.St} {H1 : Hp} {D : Addr} {σ : L2.St} (hmu : ∀ {H2 : Hp} {o : HO}, Gr H1 H2 → S1.I H2 → S1.I (upd H2 D o)) (le : S.Le S1) (hD : H1 D = none) {Z : Nat → List Dt → Prop} {i : Nat} {acc : List V} {ds : List Dt} {x : V} {dx : Dt} {H : Hp} (hj : j ∈ vs)
    {p : Bool} {Φ : Dt → Prop} (s : Slots K H1 σ ρ) (gH : Gr H1 H) (iH : S.I H) (hH : H D = some (.lst acc)) (ra : RepA K H acc ds) (hnol : nolA ds = true) (rx : Rep K H x dx)
    (hz : ds.length < sizeLine) (ht : EvT K S S ((wipeD ρ vs).set j (some dx)) tt (Eq p)) (he : p = true → Ev K S S1 ((wipeD ρ vs).set j (some dx)) te (fun d => Φ d ∧ nol d = true))
    {Pv : Hp → Prop} (hy : p = true → ∀ H' acc' d, Φ d → nol d = true → Gr H1 H' → S1.I H' → H' D = some (.lst acc') → RepA K H' acc' (ds ++ [d]) → Pv H') (hn : p = false → ∀ H', Gr H1 H' → S1.I H' → H' D = some (.lst acc) → RepA K H' acc ds → Pv H') :
    gName j x (L2.wipe σ vs) H fun σ2 H2 => L2.wipe σ2 vs = L2.wipe σ vs ∧ tt σ2 H2 fun b H3 => if b = true then te σ2 H3 fun y H4 => ∃ acc, H4 D = some (.lst acc) ∧ acc.length < sizeLine ∧ Pv (upd H4 D (.lst (acc ++ [y]))) else Pv H3 := by
  refine ⟨wipe_put _ σ hj, ht _ H iH (((s.mono gH).wipe vs).set rx j) _ fun b H3 g3 i3 p3 => ?_⟩
  subst p3
  have hH3 : H3 D = some (.lst acc) := g3 _ _ hH rfl
  cases p with
  | false =>
    rw [if_neg Bool.false_ne_true]
    exact hn rfl H3 (gH.trans g3) (le _ i3) hH3 (ra.mono g3)
  | true =>
    rw [if_pos rfl]
    refine he rfl _ H3 i3 (((s.mono (gH.trans g3)).wipe vs).set (rx.mono g3) j) _ fun y d H4 g4 i4 r4 p4 => ?_
    have hH4 : H4 D = some (.lst acc) := g4 _ _ hH3 rfl
    have ra4 := ra.mono (g3.trans g4)
    refine ⟨acc, hH4, by rw [ra4.len]; exact hz, hy rfl _ (acc ++ [y]) d p4.1 p4.2 (gr_off ((gH.trans g3).trans g4) hD) (hmu ((gH.trans g3).trans g4) i4) upd_same ?_⟩
    exact (ra4.off hH4 hnol).app (.cons (r4.off hH4 p4.2) .nil)
/-- [te for x in a tuple if tt], the element a function of the item -/
theorem ev_lcT {xs : List Dt} {f : Dt → Dt} {p : Dt → Bool} (hmu : S.Mu) (h : Ev K S S ρ tl (Eq (.tup xs))) (hj : j ∈ vs) (hz : xs.length ≤ 100000) (ht : ∀ x ∈ xs, EvT K S S ((wipeD ρ vs).set j (some x)) tt (Eq (p x)))
    (he : ∀ x ∈ xs, p x = true → Ev K S S ((wipeD ρ vs).set j (some x)) te (Eq (f x))) (hf : ∀ x ∈ xs, p x = true → nol (f x) = true) : Ev K S S ρ (tLc (iTup K tl) (gName j) tt te vs) (Eq (.lst ((xs.filter p).map f))) := fun σ H i s Q q =>
  h σ H i s _ fun v d H1 g1 i1 r1 p1 => by
    subst p1
    obtain ⟨a, us, rfl, hT, ra⟩ := r1.tupI
    refine ⟨a, rfl, ⟨us, hT⟩, fun D hD => lc_tup (K := K) (a := a) (xs := us) (fun n H' => Gr H1 H' ∧ S.I H' ∧ ∃ acc, H' D = some (.lst acc) ∧ RepA K H' acc (((xs.take n).filter p).map f)) ⟨(same_new hD).gr, S.st i1 (same_new hD), [], upd_same, .nil⟩
      (fun n H' _ q' => q'.1.sqT hT) (fun n x H' hx q' => ?_) fun H' q' => ?_⟩
    · obtain ⟨g2, i2, acc, ha, rac⟩ := q'
      obtain ⟨dx, hdx, rdx⟩ := ra.ta hx
      have hmem : dx ∈ xs := List.mem_of_getElem? hdx
      have htake : xs.take (n + 1) = xs.take n ++ [dx] := by rw [List.take_add_one, hdx]; rfl
      have hnol : nolA (((xs.take n).filter p).map f) = true := nolA_all.mpr fun y hy => by
        obtain ⟨z, hz1, rfl⟩ := List.mem_map.mp hy
        obtain ⟨hz2, hz3⟩ := List.mem_filter.mp hz1
        exact hf z (List.mem_of_mem_take hz2) hz3
      refine lc_turns (g := σ) (Z := fun _ _ => True) (i := n) (acc := acc) (ds := ((xs.take n).filter p).map f) (dx := dx) (p := p dx) (Φ := Eq (f dx)) (S := S) (S1 := S) (fun g i => hmu i1 g hD i) (Sta.Le.refl S) hD hj (s.mono g1) g2 i2 ha rac hnol (rdx.mono g2) ?_ (ht dx hmem) (fun e => (he dx hmem e).weak fun d e2 => ⟨e2, e2 ▸ hf dx hmem e⟩) (fun e H2 acc' d e1 _ g3 i3 h3 r3 => ?_) fun e H2 g3 i3 h3 r3 => ?_
      · rw [List.length_map]
        refine Nat.lt_of_le_of_lt (List.length_filter_le _ _) ?_
        refine Nat.lt_of_le_of_lt (List.length_take_le _ _) (Nat.lt_of_le_of_lt (Nat.le_trans (Nat.le_of_lt ?_) hz) (by decide))
        have := (List.getElem?_eq_some_iff.mp hdx).1
        exact this
      · subst e1
        refine ⟨g3, i3, acc', h3, ?_⟩
        rw [htake, List.filter_append, List.map_append]
        simpa [List.filter_cons, e] using r3
      · refine ⟨g3, i3, acc, h3, ?_⟩
        rw [htake, List.filter_append, List.map_append]
        simpa [List.filter_cons, e] using r3
    · obtain ⟨g2, i2, acc, ha, rac⟩ := q'
      rw [ra.len, List.take_length] at rac
      exact q _ _ H' (g1.trans g2) i2 (.lst (SqL.of ha) rac) rfl
theorem ev_lcL {xs : List Dt} {f : Dt → Dt} {p : Dt → Bool} (hmu : S.Mu) (h : Ev K S S ρ tl (Eq (.lst xs))) (hj : j ∈ vs) (hz : xs.length ≤ 100000) (ht : ∀ x ∈ xs, EvT K S S ((wipeD ρ vs).set j (some x)) tt (Eq (p x)))
    (he : ∀ x ∈ xs, p x = true → Ev K S S ((wipeD ρ vs).set j (some x)) te (Eq (f x))) (hf : ∀ x ∈ xs, p x = true → nol (f x) = true) : Ev K S S ρ (tLc (iList K tl) (gName j) tt te vs) (Eq (.lst ((xs.filter p).map f))) := fun σ H i s Q q =>
  h σ H i s _ fun v d H1 g1 i1 r1 p1 => by
    subst p1
    obtain ⟨a, us, rfl, hT, ra⟩ := r1.lstI
    refine ⟨a, rfl, ⟨us, hT⟩, fun D hD => lc_list (K := K) (a := a) (xs := us) (fun n H' => Gr H1 H' ∧ S.I H' ∧ ∃ acc, H' D = some (.lst acc) ∧ RepA K H' acc (((xs.take n).filter p).map f)) ⟨(same_new hD).gr, S.st i1 (same_new hD), [], upd_same, .nil⟩
      (fun n H' _ q' => q'.1.sqL hT) (fun n x H' hx q' => ?_) fun H' q' => ?_⟩
    · obtain ⟨g2, i2, acc, ha, rac⟩ := q'
      obtain ⟨dx, hdx, rdx⟩ := ra.ta hx
      have hmem : dx ∈ xs := List.mem_of_getElem? hdx
      have htake : xs.take (n + 1) = xs.take n ++ [dx] := by rw [List.take_add_one, hdx]; rfl
      have hnol : nolA (((xs.take n).filter p).map f) = true := nolA_all.mpr fun y hy => by
        obtain ⟨z, hz1, rfl⟩ := List.mem_map.mp hy
        obtain ⟨hz2, hz3⟩ := List.mem_filter.mp hz1
        exact hf z (List.mem_of_mem_take hz2) hz3
      refine lc_turns (g := σ) (Z := fun _ _ => True) (i := n) (acc := acc) (ds := ((xs.take n).filter p).map f) (dx := dx) (p := p dx) (Φ := Eq (f dx)) (S := S) (S1 := S) (fun g i => hmu i1 g hD i) (Sta.Le.refl S) hD hj (s.mono g1) g2 i2 ha rac hnol (rdx.mono g2) ?_ (ht dx hmem) (fun e => (he dx hmem e).weak fun d e2 => ⟨e2, e2 ▸ hf dx hmem e⟩) (fun e H2 acc' d e1 _ g3 i3 h3 r3 => ?_) fun e H2 g3 i3 h3 r3 => ?_
      · rw [List.length_map]
        refine Nat.lt_of_le_of_lt (List.length_filter_le _ _) ?_
        refine Nat.lt_of_le_of_lt (List.length_take_le _ _) (Nat.lt_of_le_of_lt (Nat.le_trans (Nat.le_of_lt ?_) hz) (by decide))
        have := (List.getElem?_eq_some_iff.mp hdx).1
        exact this
      · subst e1
        refine ⟨g3, i3, acc', h3, ?_⟩
        rw [htake, List.filter_append, List.map_append]
        simpa [List.filter_cons, e] using r3
      · refine ⟨g3, i3, acc, h3, ?_⟩
        rw [htake, List.filter_append, List.map_append]
        simpa [List.filter_cons, e] using r3
    · obtain ⟨g2, i2, acc, ha, rac⟩ := q'
      rw [ra.len, List.take_length] at rac
      exact q _ _ H' (g1.trans g2) i2 (.lst (SqL.of ha) rac) rfl
/-- [te for x in range(n)], every element such that Φ; what holds may turn with each -/
theorem ev_lcRP {ta : TA} {n : Nat} {Φ : Dt → Prop} {Z : Nat → Sta} (hmu : ∀ {m m' : Nat} {H1 H : Hp} {D : Addr} {o : HO}, (Z m).I H1 → Gr H1 H → H1 D = none → (Z m').I H → (Z m').I (upd H D o)) (hle : ∀ m, (Z m).Le (Z (m + 1))) (h : EvA K S (Z 0) ρ ta (Eq [.int n])) (hn : n ≤ 100000) (hj : j ∈ vs)
    (he : ∀ i : Nat, i < n → Ev K (Z i) (Z (i + 1)) ((wipeD ρ vs).set j (some (.int i))) te (fun d => Φ d ∧ nol d = true)) :
    Ev K S (Z n) ρ (tLc (iRng1 ta) (gName j) tYes te vs) (fun d => ∃ ds, d = .lst ds ∧ ds.length = n ∧ nolA ds = true ∧ ∀ x ∈ ds, Φ x) := fun σ H i s Q q =>
  h σ H i s _ fun ws es H1 g1 i1 r1 p1 => by
    subst p1
    obtain ⟨v, rfl, rv⟩ := r1.oneI
    obtain rfl := rv.intI
    refine ⟨n, rfl, by omega, by omega, fun D hD => ?_⟩
    rw [Int.toNat_natCast]
    refine lc_range (lo := 0) (n := n) (fun m H' => Gr H1 H' ∧ (Z m).I H' ∧ ∃ acc ds, H' D = some (.lst acc) ∧ RepA K H' acc ds ∧ ds.length = m ∧ nolA ds = true ∧ ∀ x ∈ ds, Φ x) ⟨(same_new hD).gr, (Z 0).st i1 (same_new hD), [], [], upd_same, .nil, rfl, rfl, fun _ z => nomatch z⟩
      (fun m H' hm q' => ?_) fun H' q' => ?_
    · obtain ⟨g2, i2, acc, ds, ha, rac, hl, hno, hph⟩ := q'
      rw [Int.zero_add]
      refine lc_turns (g := σ) (Z := fun _ _ => True) (i := m) (acc := acc) (ds := ds) (dx := .int m) (p := true) (Φ := Φ) (S := Z m) (S1 := Z (m + 1)) (fun g i => hmu i1 g hD i) (hle m) hD hj (s.mono g1) g2 i2 ha rac hno (.int _) (Nat.lt_of_lt_of_le (by rw [hl]; exact Nat.lt_of_lt_of_le hm hn) (by decide)) et_yes (fun _ => he m hm) (fun e H2 acc' d e1 e2 g3 i3 h3 r3 => ?_) fun e => nomatch e
      refine ⟨g3, i3, acc', ds ++ [d], h3, r3, by rw [List.length_append, hl]; rfl, by rw [nolA_app, hno]; simp [nolA, e2], fun x hx => ?_⟩
      rcases List.mem_append.mp hx with hx | hx
      · exact hph x hx
      · rw [List.mem_singleton.mp hx]
        exact e1
    · obtain ⟨g2, i2, acc, ds, ha, rac, hl, hno, hph⟩ := q'
      exact q _ _ H' (g1.trans g2) i2 (.lst (SqL.of ha) rac) ⟨ds, rfl, hl, hno, hph⟩
end

/-- all that was is as it was -/
def staSameQ (H : Hp) : Sta := ⟨fun H' => Same H H', fun a b => a.trans b⟩
/-! lists that may be changed -/
section
variable {K : PySem.W.Frag} {S SB SF : Sta} {L : List Addr} {ρ : List (Option Dt)} {P : Po} {te : TE} {w : TS} {x d : Dt} {D : Ends} {H H' : Hp}
/-- a list that is made on the way: it is new at some H1 in between, nothing else knows it -/
def EvN (K : PySem.W.Frag) (S S' : Sta) (ρ : List (Option Dt)) (te : TE) (xs : List Dt) : Prop := ∀ (σ : L2.St) (H : Hp), S.I H → Slots K H σ ρ → ∀ Q : VK,
  (∀ p vs H1 H', Gr H H1 → S'.I H1 → H1 p = none → Gr H1 H' → S'.I H' → H' p = some (.lst vs) → RepA K H' vs xs → Q (.ref p) H') → te σ H Q
theorem EvN.ev {S1 : Sta} {xs : List Dt} (h : EvN K S S1 ρ te xs) : Ev K S S1 ρ te (Eq (.lst xs)) := fun σ H i s Q q => h σ H i s Q fun p vs H1 H' g _ _ g2 i' e r => q _ _ H' (g.trans g2) i' (.lst (SqL.of e) r) rfl
theorem EvN.to {S1 : Sta} {xs ys : List Dt} (h : EvN K S S1 ρ te xs) (e : xs = ys) : EvN K S S1 ρ te ys := e ▸ h
theorem so_new {S1 : Sta} {j : Nat} {xs : List Dt} (h : EvN K S S1 ρ te xs) (l : S1.Le SF) (q : ∀ p, So K S1 SF [p] w (ρ.set j (some (.lat p xs))) P) : Sg K S SB SF L (tSeq (tAsg te (gName j)) w) ρ P := fun D σ B H b i s f =>
  h σ H i s _ fun p vs H1 H2 g1 i1 hp g2 i2 e r => q p D _ H1 H2 ⟨g2, l _ i1, fun a ha => by rw [List.mem_singleton.mp ha]; exact hp⟩ i2 ((s.mono (g1.trans g2)).set (.lat e r) j) (f.mono (b.gr.trans g1))
theorem same_none {H0 H : Hp} {p : Addr} (s : Same H0 H) (h : H p = none) : H0 p = none := by
  cases e : H0 p with
  | none => rfl
  | some o =>
    rw [s p o e] at h
    cases h
/-- new since H0 -/
theorem so_newS {H0 : Hp} {j : Nat} {xs : List Dt} (h : EvN K (staSameQ H0) (staSameQ H0) ρ te xs) (q : ∀ p, H0 p = none → Sg K (staSameQ H0) SB SF L w (ρ.set j (some (.lat p xs))) P) : Sg K (staSameQ H0) SB SF L (tSeq (tAsg te (gName j)) w) ρ P := fun D σ B H b i s f =>
  h σ H i s _ fun p vs H1 H2 g1 i1 hp g2 i2 e r => q p (same_none i1 hp) D _ B H2 (b.up (g1.trans g2)) i2 ((s.mono (g1.trans g2)).set (.lat e r) j) f
theorem so_newS0 {H0 : Hp} {j : Nat} {xs : List Dt} (h : EvN K (staSameQ H0) (staSameQ H0) ρ te xs) (l : (staSameQ H0).Le SF) (q : ∀ p, H0 p = none → P.nx (ρ.set j (some (.lat p xs)))) : Sg K (staSameQ H0) SB SF L (tAsg te (gName j)) ρ P := fun D σ B H b i s f =>
  h σ H i s _ fun p vs H1 H2 g1 i1 hp g2 i2 e r => f.nx _ _ H2 ((b.gr.trans g1).trans g2) (l _ i2) ((s.mono (g1.trans g2)).set (.lat e r) j) (q p (same_none i1 hp))
theorem en_lst {S1 : Sta} {t : TA} {ds : List Dt} (h : EvA K S S1 ρ t (Eq ds)) (hz : ds.length ≤ sizeLine) : EvN K S S1 ρ (tLst t) ds := fun σ H i s Q q =>
  h σ H i s _ fun vs ds' H1 g1 i1 r1 e => by
    subst e
    exact ⟨by rw [r1.len]; exact hz, fun p hp => q p vs H1 _ g1 i1 hp (same_new hp).gr (S1.st i1 (same_new hp)) upd_same (r1.mono (same_new hp).gr)⟩
/-- a def that makes a new list -/
def spN (K : PySem.W.Frag) (n : Nat) (pre : List Dt → Prop) (F : List Dt → List Dt) : Sp := fun vs H Q _ => ∃ ds, RepA K H vs ds ∧ ds.length = n ∧ pre ds ∧ ∀ p us H', Same H H' → H p = none → H' p = some (.lst us) → RepA K H' us (F ds) → Q (.ref p) H'
theorem en_call {S1 : Sta} {t : TA} {ds : List Dt} {n : Nat} {pre : List Dt → Prop} {F : List Dt → List Dt} {E : XK} (ha : EvA K S S1 ρ t (Eq ds)) (hn : ds.length = n) (hp : pre ds) : EvN K S S1 ρ (tCall (spN K n pre F) [] E t) (F ds) := fun σ H i s Q q =>
  ha σ H i s _ fun vs ds' H1 g1 i1 r1 p1 => by
    subst p1
    rw [List.append_nil]
    exact ⟨ds, r1, hn, hp, fun p us H2 sm hp e r => q p us H1 H2 g1 i1 hp sm.gr (S1.st i1 sm) e r⟩
theorem en_callW {S1 : Sta} {t : TA} {ds es : List Dt} {n m : Nat} {gV : List V → List V} {pre : List Dt → Prop} {F : List Dt → List Dt} {E : XK} (ha : EvA K S S1 ρ t (Eq es)) (hm : es.length = m) (hg : ∀ H vs, RepA K H vs es → RepA K H (gV vs) ds) (hn : ds.length = n) (hp : pre ds) :
    EvN K S S1 ρ (tCallW (spN K n pre F) m gV E t) (F ds) := fun σ H i s Q q =>
  ha σ H i s _ fun vs ds' H1 g1 i1 r1 p1 => by
    subst p1
    exact ⟨r1.len.trans hm, ds, hg _ _ r1, hn, hp, fun p us H2 sm hp e r => q p us H1 H2 g1 i1 hp sm.gr (S1.st i1 sm) e r⟩
/-- the other slots hold no lists -/
def NoLists (ρ : List (Option Dt)) (j : Nat) : Prop := ∀ (i : Nat) (d : Dt), i ≠ j → ρ[i]? = some (some d) → nol d = true
/-- what holds bears that a loose list is changed -/
def Loose (S SF : Sta) : Prop := ∀ {B H : Hp} {p : Addr} {vs : List V} {o : HO}, SF.I B → Gr B H → B p = none → H p = some (.lst vs) → S.I H → S.I (upd H p o)
theorem slots_off {σ : L2.St} {p : Addr} {vs : List V} {xs : List Dt} {o : HO} {j : Nat} (s : Slots K H σ ρ) (hj : ρ[j]? = some (some (.lat p xs))) (hn : NoLists ρ j) (hp : H p = some (.lst vs)) {ds : List Dt} {us : List V} (r : RepA K (upd H p (.lst us)) us ds) : Slots K (upd H p (.lst us)) σ (ρ.set j (some (.lat p ds))) := by
  refine ⟨by rw [List.length_set]; exact s.len, fun i d h => ?_⟩
  by_cases hij : j = i
  · subst hij
    have hl : j < ρ.length := (List.getElem?_eq_some_iff.mp hj).1
    rw [List.getElem?_set_self hl] at h
    cases h
    obtain ⟨v, hv, rv⟩ := s.val j _ hj
    obtain ⟨rfl, _⟩ := rv.latI
    exact ⟨_, hv, .lat upd_same r⟩
  · rw [List.getElem?_set_ne hij] at h
    obtain ⟨v, hv, rv⟩ := s.val i d h
    exact ⟨v, hv, rv.off hp (hn i d (Ne.symm hij) h)⟩
/-- xs.append(e), xs a loose list -/
theorem so_app {p : Addr} {j : Nat} {xs : List Dt} (hL : p ∈ L) (hlo : Loose S SB) (hj : ρ[j]? = some (some (.lat p xs))) (hx : nolA xs = true) (hn : NoLists ρ j) (hz : xs.length < 100000) (h : Ev K S S ρ te (Eq d)) (hd : nol d = true)
    (q : Sg K S SB SF L w (ρ.set j (some (.lat p (xs ++ [d])))) P) : Sg K S SB SF L (tSeq (tDrop (tBM K "list" rAppend (tVar j) (tCons te tNil))) w) ρ P := fun D σ B H b i s f => by
  obtain ⟨v, hv, rv⟩ := s.val j _ hj
  obtain ⟨rfl, vs, hp, ra⟩ := rv.latI
  refine ⟨.ref p, hv, .inl ⟨rfl, _, SqL.of hp⟩, ?_⟩
  refine h σ H i s _ fun u d' H1 g1 i1 r1 e => ?_
  subst e
  have hp1 : H1 p = some (.lst vs) := g1 _ _ hp rfl
  have ra1 := ra.mono g1
  refine ⟨p, vs, u, rfl, rfl, hp1, by rw [ra1.len]; exact Nat.lt_of_lt_of_le hz (by decide), ?_⟩
  have g2 := b.gr.trans g1
  refine q D σ B _ ⟨gr_off g2 (b.new p hL), b.i, b.new⟩ (hlo b.i g2 (b.new p hL) hp1 i1) (slots_off (o := .lst vs) (s.mono g1) hj hn hp1 ?_) f
  exact (ra1.off hp1 hx).app (.cons (r1.off hp1 hd) .nil)
theorem loose_same {H0 : Hp} : Loose (staSameQ H0) (staSameQ H0) := fun {B H p vs o} i0 g hp _ i => by
  intro a u e
  have ha : a ≠ p := fun z => by
    have y := i0 a u e
    rw [z, hp] at y
    cases y
  rw [upd_ne ha]
  exact i a u e
end
end Bf
namespace Bf
open PySem PySem.Spec PyProof.Rows L2

/-! ### F. what kind a thing is -/
/-- the name of a thing's class (not of an instance, not of a value by itself) -/
def tyN : Dt → Option String
  | .non => some "NoneType"
  | .bl _ => some "bool"
  | .int _ => some "int"
  | .str _ => some "str"
  | .lst _ => some "list"
  | .tup _ => some "tuple"
  | .dic => some "dict"
  | .raw (.ty _) => none
  | _ => none
section
variable {K : PySem.W.Frag} {S : Sta} {ρ : List (Option Dt)} {H : Hp} {d : Dt} {v : V} {n T : String}
theorem Rep.ty (r : Rep K H v d) (h : tyN d = some n) : TyX K H v (.type n) := by
  cases r with
  | non => cases h; exact .base .non
  | bl b => cases h; exact .base (.bl b)
  | int i => cases h; exact .base (.int i)
  | str x => cases h; exact .base (.str x)
  | lst q r =>
    cases h
    rcases q with (q | ⟨o, q⟩) | ⟨o, its, n, hk, hc, _⟩
    · exact .base (.lst q)
    · exact .base (.frz q)
    · exact .kList hk hc
  | tup q r =>
    cases h
    rcases q with (q | ⟨o, q⟩) | ⟨o, its, n, hk, hc, _⟩
    · exact .base (.tup q)
    · exact .fTuple q
    · exact .kTuple hk hc
  | dic q => cases h; exact .base (.dK q)
  | ins q r => cases h
  | raw v => cases v <;> cases h
  | lat q r => cases h
  | err q1 q2 r => cases h
  | dct q r1 r2 => cases h
theorem rc_isi {b : Bool} (h : tyN d = some n) (hk : kitB n T = some b) : RvC K S (rIsi K) [d, .raw (.ty T)] (Eq (.bl b)) := rc_at fun H vs i r Q q => by
  obtain ⟨v, u, rfl, r1, r2⟩ := r.twoI
  obtain rfl := r2.rawI
  exact ⟨v, .ty T, _, _, b, rfl, .ty T, r1.ty h, kit_ty hk, q _ (.bl b)⟩
end

/-! ### G. == and repr of data without dicts, instances -/
mutual
def py : Dt → PyData
  | .non => .none
  | .bl b => .bool b
  | .int i => .int i
  | .str x => .str x
  | .lst xs => .list (pyA xs)
  | .tup xs => .tuple (pyA xs)
  | .dic => .dict []
  | .ins _ _ _ => .none
  | .raw _ => .none
  | .lat _ _ => .none
  | .err _ _ _ => .none
  | .dct _ _ => .none
def pyA : List Dt → List PyData
  | [] => []
  | x :: xs => py x :: pyA xs
end
mutual
/-- no dict, no instance, no value by itself -/
def pur : Dt → Bool
  | .lst xs => purA xs
  | .tup xs => purA xs
  | .dic => false
  | .ins _ _ _ => false
  | .raw _ => false
  | .lat _ _ => false
  | .err _ _ _ => false
  | .dct _ _ => false
  | _ => true
def purA : List Dt → Bool
  | [] => true
  | x :: xs => pur x && purA xs
end
section
variable {K : PySem.W.Frag} {H : Hp}
mutual
theorem Rep.dp : ∀ {v : V} {d : Dt}, pur d = true → Rep K H v d → Dp K H v (py d)
  | _, _, _, .non => by unfold py; exact .non
  | _, _, _, .bl b => by unfold py; exact .bl b
  | _, _, _, .int i => by unfold py; exact .int i
  | _, _, _, .str x => by unfold py; exact .str x
  | _, _, h, .lst q r => by unfold py; exact .lst q (r.dp (by simpa [pur] using h))
  | _, _, h, .tup q r => by unfold py; exact .tup q (r.dp (by simpa [pur] using h))
  | _, _, h, .dic _ => by simp [pur] at h
  | _, _, h, .ins _ _ => by simp [pur] at h
  | _, _, h, .raw _ => by simp [pur] at h
  | _, _, h, .lat _ _ => by simp [pur] at h
  | _, _, h, .err _ _ _ => by simp [pur] at h
  | _, _, h, .dct _ _ _ => by simp [pur] at h
theorem RepA.dp : ∀ {vs : List V} {ds : List Dt}, purA ds = true → RepA K H vs ds → DpAll K H vs (pyA ds)
  | _, _, _, .nil => by unfold pyA; exact .nil
  | _, _, h, .cons q r => by
    simp only [purA, Bool.and_eq_true] at h
    unfold pyA
    exact .cons (q.dp h.1) (r.dp h.2)
end
end
/-- fit to be compared -/
def cmpOk (d : Dt) : Bool := pur d && SeqAt.shaped (py d)
section
variable {K : PySem.W.Frag} {S : Sta} {x y : Dt}
theorem rv_eqD (hx : cmpOk x = true) (hy : cmpOk y = true) : Rv2 K S (rEqD K) x y (Eq (.bl (PyData.eqv (py x) (py y)))) := rv_at fun H v u _ r1 r2 Q q => by
  simp only [cmpOk, Bool.and_eq_true] at hx hy
  exact ⟨_, _, r1.dp hx.1, r2.dp hy.1, hx.2, hy.2, q _ (.bl _)⟩
theorem rv_neD (hx : cmpOk x = true) (hy : cmpOk y = true) : Rv2 K S (rNeD K) x y (Eq (.bl (!PyData.eqv (py x) (py y)))) := rv_at fun H v u _ r1 r2 Q q => by
  simp only [cmpOk, Bool.and_eq_true] at hx hy
  exact ⟨_, _, r1.dp hx.1, r2.dp hy.1, hx.2, hy.2, q _ (.bl _)⟩
end
/-- repr(x) -/
def rRepr (K : PySem.W.Frag) : List V → Hp → VK → Prop := fun xs H Q => ∃ x d, xs = [x] ∧ Dp K H x d ∧ d.showable = true ∧ SeqAt.shaped d = true ∧ d.shown.length ≤ sizeLine ∧ Q (.str d.shown) H
theorem call_reprD {X : Cx} (hg : X.A.guards = some []) (hu : X.A.units + 70 < cLine) : CallR X (.builtin "repr") (rRepr X.K) := by
  intro pins s σ H xs us Q I r h
  obtain ⟨x, d, rfl, hd, hs, hsh, hz, q⟩ := h
  obtain ⟨u, rfl, ru⟩ := vals1 r
  have hq : ∀ t, EP X pins σ Q (.str d.shown t) { s with toks := s.toks + 1 } := fun t => ⟨.str _, H, I.tok _, ⟨_, rfl⟩, q⟩
  cases hd with
  | non => cases ru; exact PySem.P.repr_of_none (by simpa [PyData.shown] using hq _)
  | bl b => cases ru; exact PySem.P.repr_of_bool (by simpa [PyData.shown] using hq _)
  | int i =>
    obtain ⟨t, rfl⟩ := ru
    exact PySem.P.repr_of_int (by simpa [PyData.showable] using hs) (by simpa [PyData.shown] using hq _)
  | str y =>
    obtain ⟨t, rfl⟩ := ru
    exact PySem.P.repr_of_str (by simpa [PyData.shown] using hq _) (by simpa [PyData.shown] using hz)
  | lst q1 q2 =>
    cases ru
    obtain ⟨as, rd⟩ := Dp.reads I _ _ _ (Dp.lst q1 q2) rfl
    have hdep := SeqAt.depth_of_shaped hsh
    exact repr_of_reads' rd hs (PyData.noDict_hsm (PyData.hasDict_of_canLay _ (SeqAt.canLay_of_shaped hsh))) hg (by omega) (fun _ _ e => e) (fun h' u tk hk => ⟨.str _, H, I.kept (t' := tk) hk, ⟨_, rfl⟩, q⟩) hz
  | tup q1 q2 =>
    cases ru
    obtain ⟨as, rd⟩ := Dp.reads I _ _ _ (Dp.tup q1 q2) rfl
    have hdep := SeqAt.depth_of_shaped hsh
    exact repr_of_reads' rd hs (PyData.noDict_hsm (PyData.hasDict_of_canLay _ (SeqAt.canLay_of_shaped hsh))) hg (by omega) (fun _ _ e => e) (fun h' u tk hk => ⟨.str _, H, I.kept (t' := tk) hk, ⟨_, rfl⟩, q⟩) hz
/-- fit to be shown -/
def shwOk (d : Dt) : Prop := cmpOk d = true ∧ (py d).showable = true ∧ (py d).shown.length ≤ sizeLine
theorem rc_repr {K : PySem.W.Frag} {S : Sta} {d : Dt} (h : shwOk d) : RvC K S (rRepr K) [d] (Eq (.str (py d).shown)) := rc_at fun H vs i r Q q => by
  obtain ⟨v, rfl, rv⟩ := r.oneI
  have h1 := h.1
  simp only [cmpOk, Bool.and_eq_true] at h1
  exact ⟨v, _, rfl, rv.dp h1.1, h.2.1, h1.2, h.2.2, q _ (.str _)⟩

/-! ### H. lists joined, whatever their lists are -/
def rCatS (K : PySem.W.Frag) : R2 := fun x y H Q => ∃ l b xs zs, x = .ref l ∧ y = .ref b ∧ SqL K H l xs ∧ SqL K H b zs ∧ xs.length + zs.length ≤ sizeLine ∧ ∀ p, H p = none → Q (.ref p) (upd H p (.lst (xs ++ zs)))
theorem op_catS {X : Cx} : OpR X (binaryOp .Add) (rCatS X.K) := by
  intro pins s σ H x y v u Q I rx ry h
  obtain ⟨l, b, xs, zs, rfl, rfl, h1, h2, hz, q⟩ := h
  cases rx
  cases ry
  obtain ⟨its, r1, ⟨⟨c1, d1, dt1, sl1⟩, n1, o1, e1, _, f1⟩, _⟩ := I.list h1
  obtain ⟨jts, r2, ⟨⟨c2, d2, dt2, sl2⟩, n2, o2, e2, _, f2⟩, _⟩ := I.list h2
  simp only at e1 e2 f1 f2
  subst e1 e2 f1 f2
  have l1 := r1.length
  have l2 := r2.length
  refine concat_meets ⟨_, o1, rfl⟩ ⟨_, o2, rfl⟩ noFill_list_add seq_list_add PySem.F.slot_list_add PySem.F.entry_list_add (PySem.F.args_list_add_2 _ _)
    (list_addW l b its.toArray jts.toArray n1 n2 d1 d2 sl1 sl2 (by rw [List.size_toArray, List.size_toArray]; omega)) ⟨o1, o2, ?_⟩
  rw [show its.toArray ++ jts.toArray = (its ++ jts).toArray by simp]
  exact ⟨.ref _, _, I.lnew (t' := s.toks) (r1.append r2) (by rw [List.length_append]; omega), rfl, q _ I.fresh⟩
section
variable {K : PySem.W.Frag} {S : Sta} {ρ : List (Option Dt)} {x y d : Dt}
theorem rv_catL {xs ys : List Dt} (hz : xs.length + ys.length ≤ sizeLine) : Rv2 K S (rCatS K) (.lst xs) (.lst ys) (Eq (.lst (xs ++ ys))) := fun H v u i r1 r2 Q q => by
  obtain ⟨a, vs, rfl, h1, ra⟩ := r1.lstI
  obtain ⟨b, us, rfl, h2, rb⟩ := r2.lstI
  exact ⟨a, b, vs, us, rfl, rfl, h1, h2, by rw [ra.len, rb.len]; exact hz, fun p hp => q _ _ _ (same_new hp).gr (S.st i (same_new hp)) (.lst (SqL.of upd_same) ((ra.app rb).mono (same_new hp).gr)) rfl⟩
/-! tuple(..), list(..) -/
def rTupO (K : PySem.W.Frag) : List V → Hp → VK → Prop := fun xs H Q => ∃ p ys, xs = [.ref p] ∧ ((SqL K H p ys ∧ ∀ l, H l = none → Q (.ref l) (upd H l (.tup ys))) ∨ (SqT K H p ys ∧ Q (.ref p) H))
def rLstO (K : PySem.W.Frag) : List V → Hp → VK → Prop := fun xs H Q => ∃ p ys, xs = [.ref p] ∧ (SqL K H p ys ∨ SqT K H p ys) ∧ ∀ l, H l = none → Q (.ref l) (upd H l (.lst ys))
theorem rc_tupL {xs : List Dt} : RvC K S (rTupO K) [.lst xs] (Eq (.tup xs)) := fun H vs i r Q q => by
  obtain ⟨v, rfl, r1⟩ := r.oneI
  obtain ⟨a, us, rfl, h, ra⟩ := r1.lstI
  exact ⟨a, us, rfl, .inl ⟨h, fun p hp => q _ _ _ (same_new hp).gr (S.st i (same_new hp)) (.tup (SqT.of upd_same) (ra.mono (same_new hp).gr)) rfl⟩⟩
theorem rc_tupT {xs : List Dt} : RvC K S (rTupO K) [.tup xs] (Eq (.tup xs)) := fun H vs i r Q q => by
  obtain ⟨v, rfl, r1⟩ := r.oneI
  obtain ⟨a, us, rfl, h, ra⟩ := r1.tupI
  exact ⟨a, us, rfl, .inr ⟨h, q _ _ H (Gr.refl H) i (.tup h ra) rfl⟩⟩
theorem rc_lstT {xs : List Dt} : RvC K S (rLstO K) [.tup xs] (Eq (.lst xs)) := fun H vs i r Q q => by
  obtain ⟨v, rfl, r1⟩ := r.oneI
  obtain ⟨a, us, rfl, h, ra⟩ := r1.tupI
  exact ⟨a, us, rfl, .inr h, fun p hp => q _ _ _ (same_new hp).gr (S.st i (same_new hp)) (.lst (SqL.of upd_same) (ra.mono (same_new hp).gr)) rfl⟩
theorem rc_lstL {xs : List Dt} : RvC K S (rLstO K) [.lst xs] (Eq (.lst xs)) := fun H vs i r Q q => by
  obtain ⟨v, rfl, r1⟩ := r.oneI
  obtain ⟨a, us, rfl, h, ra⟩ := r1.lstI
  exact ⟨a, us, rfl, .inl h, fun p hp => q _ _ _ (same_new hp).gr (S.st i (same_new hp)) (.lst (SqL.of upd_same) (ra.mono (same_new hp).gr)) rfl⟩
/-! int(True) -/
def rInt1 : List V → Hp → VK → Prop := fun xs H Q => (∃ i, xs = [.int i] ∧ Q (.int i) H) ∨ ∃ k, xs = [.bl k] ∧ Q (.int (if k then 1 else 0)) H
theorem rc_intI {i : Int} : RvC K S rInt1 [.int i] (Eq (.int i)) := rc_at fun H vs _ r Q q => by
  obtain ⟨v, rfl, r1⟩ := r.oneI
  obtain rfl := r1.intI
  exact .inl ⟨i, rfl, q _ (.int i)⟩
theorem rc_intB {b : Bool} : RvC K S rInt1 [.bl b] (Eq (.int (if b then 1 else 0))) := rc_at fun H vs _ r Q q => by
  obtain ⟨v, rfl, r1⟩ := r.oneI
  obtain rfl := r1.blI
  exact .inr ⟨b, rfl, q _ (.int _)⟩
/-! in a written tuple of ints -/
theorem any_ints {H : Hp} (i : Int) : ∀ (ns : List Int), inV (.int i) (ns.map V.int) = decide (i ∈ ns)
  | [] => by simp [inV]
  | n :: ns => by
    have ih := any_ints (H := H) i ns
    unfold inV at ih ⊢
    rw [List.map_cons, List.any_cons, ih]
    have e : eqV (.int n) (.int i) = decide (n = i) := by
      unfold eqV
      by_cases h : n = i
      · simp [h]
      · simp [h]
    rw [e]
    by_cases h : n = i
    · simp [h]
    · by_cases h2 : i ∈ ns
      · simp [h, h2]
      · simp [h, h2, Ne.symm h]
theorem rv_inT {i : Int} {ns : List Int} : Rv2 K S (rIn K false) (.int i) (.tup (ns.map Dt.int)) (Eq (.bl (decide (i ∈ ns)))) := rv_at fun H v u _ r1 r2 Q q => by
  obtain rfl := r1.intI
  obtain ⟨a, vs, rfl, ht, ra⟩ := r2.tupI
  refine ⟨a, vs, rfl, .inr ht, rfl, ?_, ?_⟩
  · rw [ra.ints, List.all_eq_true]
    intro y hy
    obtain ⟨n, _, rfl⟩ := List.mem_map.mp hy
    rfl
  · rw [if_neg Bool.false_ne_true, ra.ints, any_ints (H := H)]
    exact q _ (.bl _)
end

/-! ### I. a def over data, by its body -/
def startD (n : Nat) (ds : List Dt) : List (Option Dt) := ds.map some ++ List.replicate (n - ds.length) none
theorem slots_start {K : PySem.W.Frag} {H : Hp} {N : List Str} {vs : List V} {ds : List Dt} (r : RepA K H vs ds) : Slots K H (L2.start N vs) (startD N.length ds) := by
  refine ⟨by simp [L2.start, startD, r.len], fun i d h => ?_⟩
  unfold startD at h
  unfold L2.start
  by_cases hi : i < ds.length
  · rw [List.getElem?_append_left (by simpa using hi), List.getElem?_map] at h
    cases e : ds[i]? with
    | none => rw [e] at h; cases h
    | some d' =>
      rw [e] at h
      cases h
      obtain ⟨v, hv, rv⟩ := r.at_ e
      exact ⟨v, by rw [List.getElem?_append_left (by rw [List.length_map, r.len]; exact hi), List.getElem?_map, hv]; rfl, rv⟩
  · rw [List.getElem?_append_right (by simpa using hi), List.getElem?_replicate] at h
    split at h <;> cases h
/-- all that was is as it was -/
abbrev staSame (H : Hp) : Sta := staSameQ H
theorem staSame_mu {H : Hp} : (staSame H).Mu := fun {H1 H2 D o} i1 _ hD i2 b u e => by
  have hb : b ≠ D := fun z => by
    have y := i1 b u e
    rw [z, hD] at y
    cases y
  rw [upd_ne hb]
  exact i2 b u e
theorem okF {P : Program} {w : World} {K : PySem.W.Frag} {mg : Str → Option Value} {base : Heap} {x qual : Str} {st : Stmt} {f : Addr} {fd : FuncData} {N ps : List Str} {k : Nat} {pre : List Dt → Prop} {F : List Dt → Dt} (Fu : Fun K x qual st f fd) (Sc : FnScope N ps (defScope st))
    (hb : ∀ (cdv : Value) (A : Around) (out : List Env) (s : Shared) (H : Hp) (E : XK), Room k (A.deeper (envOfC qual (defScope st) s.heap.objs.size f cdv)) → A.guards = some [] →
      ∃ t, PSs (cxOf (L2.CX P w) P w K mg base N qual (defScope st) f cdv A out s H E).nox (defBody st) t ∧ ∀ (S : Sta), S.Mu → ∀ ds : List Dt, ds.length = ps.length → pre ds → So K S S [] t (startD N.length ds) { nx := fun _ => F ds = .non, rt := Eq (F ds) }) :
    GOk P w K mg base (k + 1) f fd ps (spF K ps.length pre F) := by
  refine okG Fu Sc (fun vs H Q E h => ?_) fun cdv A out s H vs Q E hr hg h => ?_
  · obtain ⟨ds, r, hl, _⟩ := h
    exact r.len.trans hl
  · obtain ⟨ds, r, hl, hp, q⟩ := h
    obtain ⟨t, ht, so⟩ := hb cdv A out s H E hr hg
    refine ⟨t, ht.nox, so (staSame H) staSame_mu ds hl hp _ _ H H ⟨Gr.refl H, Same.refl H, fun _ z => nomatch z⟩ (Same.refl H) (slots_start r) ⟨fun σ ρ H' g i s' e => ?_, fun v d H' g i r' e => ?_, fun _ _ _ _ _ _ z => z.elim, fun _ _ _ _ _ _ z => z.elim⟩⟩
    · exact q _ H' i ((show F ds = .non from e) ▸ .non)
    · exact q v H' i ((show F ds = d from e) ▸ r')

theorem okNew {P : Program} {w : World} {K : PySem.W.Frag} {mg : Str → Option Value} {base : Heap} {x qual : Str} {st : Stmt} {f : Addr} {fd : FuncData} {N ps : List Str} {k : Nat} {pre : List Dt → Prop} {F : List Dt → List Dt} (Fu : Fun K x qual st f fd) (Sc : FnScope N ps (defScope st))
    (hb : ∀ (cdv : Value) (A : Around) (out : List Env) (s : Shared) (H : Hp) (E : XK), Room k (A.deeper (envOfC qual (defScope st) s.heap.objs.size f cdv)) → A.guards = some [] →
      ∃ t, PSs (cxOf (L2.CX P w) P w K mg base N qual (defScope st) f cdv A out s H E).nox (defBody st) t ∧ ∀ (H0 : Hp) (ds : List Dt), ds.length = ps.length → pre ds → So K (staSame H0) (staSame H0) [] t (startD N.length ds) { rt := fun d => ∃ p, d = .lat p (F ds) ∧ H0 p = none }) :
    GOk P w K mg base (k + 1) f fd ps (spN K ps.length pre F) := by
  refine okG Fu Sc (fun vs H Q E h => ?_) fun cdv A out s H vs Q E hr hg h => ?_
  · obtain ⟨ds, r, hl, _⟩ := h
    exact r.len.trans hl
  · obtain ⟨ds, r, hl, hp, q⟩ := h
    obtain ⟨t, ht, so⟩ := hb cdv A out s H E hr hg
    refine ⟨t, ht.nox, so H ds hl hp _ _ H H ⟨Gr.refl H, Same.refl H, fun _ z => nomatch z⟩ (Same.refl H) (slots_start r) ⟨fun _ _ _ _ _ _ z => z.elim, fun v d H' g i r' e => ?_, fun _ _ _ _ _ _ z => z.elim, fun _ _ _ _ _ _ z => z.elim⟩⟩
    obtain ⟨p, rfl, hp⟩ := e
    obtain ⟨rfl, us, e, ra⟩ := r'.latI
    exact q p us H' i hp e ra
end Bf
namespace Bf
open PySem PySem.Spec PyProof.Rows L2
/-! ### J. the readings' names -/
abbrev rAddI : R2 := rI0 fun i j => .int (i + j)
abbrev rSubI : R2 := rI0 fun i j => .int (i - j)
abbrev rMulW : R2 := rI CMulW fun i j => .int (i * j)
abbrev rDivW : R2 := rI CDivW fun i j => .int (i / j)
abbrev rModI : R2 := rI (fun _ j => 0 < j) fun i j => .int (i % j)
abbrev rPowI : R2 := rI CPow fun i j => .int (i ^ j.toNat)
abbrev rLtI : R2 := rI0 fun i j => .bl (decide (i < j))
abbrev rLeI : R2 := rI0 fun i j => .bl (decide (i ≤ j))
abbrev rGtI : R2 := rI0 fun i j => .bl (decide (j < i))
abbrev rGeI : R2 := rI0 fun i j => .bl (decide (j ≤ i))
abbrev rIsNo : R2 := fun x y H Q => y = .non ∧ Q (.bl (decide (x = .non))) H
abbrev rNoNo : R2 := fun x y H Q => y = .non ∧ Q (.bl (!decide (x = .non))) H
abbrev rNegI : V → Hp → VK → Prop := rU fun i => .int (-i)
section
variable {K : PySem.W.Frag} {S S1 S2 : Sta} {ρ : List (Option Dt)} {te tl ta : TE} {vs : List Nat} {j : Nat} {x y d : Dt} {t u : TT}
theorem ev_neg {i : Int} (h : Ev K S S1 ρ ta (Eq (.int i))) : Ev K S S1 ρ (tUn rNegI ta) (Eq (.int (-i))) := ev_un h fun H v _ r Q q => ⟨i, r.intI, q _ _ H (Gr.refl H) (by assumption) (.int _) rfl⟩
/-! and, or where the first answer decides -/
theorem ev_andT {b : Bool} {tb : TE} (ha : Ev K S S1 ρ ta (Eq (.bl true))) (hb : Ev K S1 S1 ρ tb (Eq (.bl b))) : Ev K S S1 ρ (tAndV ta tb) (Eq (.bl b)) := (ev_and ha fun _ => hb).to (by rw [Bool.true_and])
theorem ev_andF {tb : TE} (ha : Ev K S S1 ρ ta (Eq (.bl false))) : Ev K S S1 ρ (tAndV ta tb) (Eq (.bl false)) := (ev_and (b := false) ha fun e => nomatch e).to (by rw [Bool.false_and])
theorem et_andT {b : Bool} (ha : EvT K S S1 ρ t (Eq true)) (hb : EvT K S1 S1 ρ u (Eq b)) : EvT K S S1 ρ (tAnd t u) (Eq b) := (et_and ha fun _ => hb).to (by rw [Bool.true_and])
theorem et_andF (ha : EvT K S S1 ρ t (Eq false)) : EvT K S S1 ρ (tAnd t u) (Eq false) := (et_and (b := false) ha fun e => nomatch e).to (by rw [Bool.false_and])
theorem et_orT (ha : EvT K S S1 ρ t (Eq true)) : EvT K S S1 ρ (tOr t u) (Eq true) := (et_or (b := true) ha fun e => nomatch e).to (by rw [Bool.true_or])
theorem et_orF {b : Bool} (ha : EvT K S S1 ρ t (Eq false)) (hb : EvT K S1 S1 ρ u (Eq b)) : EvT K S S1 ρ (tOr t u) (Eq b) := (et_or ha fun _ => hb).to (by rw [Bool.false_or])
theorem et_notT (ha : EvT K S S1 ρ t (Eq true)) : EvT K S S1 ρ (tNot t) (Eq false) := (et_not ha).to rfl
theorem et_notF (ha : EvT K S S1 ρ t (Eq false)) : EvT K S S1 ρ (tNot t) (Eq true) := (et_not ha).to rfl
theorem ev_ifT {Φ : Dt → Prop} {tb : TE} (ht : EvT K S S1 ρ t (Eq true)) (ha : Ev K S1 S2 ρ ta Φ) : Ev K S S2 ρ (tIf t ta tb) Φ := ev_if ht (fun _ => ha) fun e => nomatch e
theorem ev_ifF {Φ : Dt → Prop} {tb : TE} (ht : EvT K S S1 ρ t (Eq false)) (hb : Ev K S1 S2 ρ tb Φ) : Ev K S S2 ρ (tIf t ta tb) Φ := ev_if ht (fun e => nomatch e) fun _ => hb
/-! a < b < c where the first already fails, or not -/

/-! isinstance -/
def okN (d : Dt) : Bool := (tyN d).isSome
def isIntD : Dt → Bool
  | .int _ => true
  | .bl _ => true
  | _ => false
def isBlD : Dt → Bool
  | .bl _ => true
  | _ => false
def isTupD : Dt → Bool
  | .tup _ => true
  | _ => false
def isStrD : Dt → Bool
  | .str _ => true
  | _ => false
def isLstD : Dt → Bool
  | .lst _ => true
  | _ => false
theorem rc_isInt (h : okN d = true) : RvC K S (rIsi K) [d, .raw (.ty "int")] (Eq (.bl (isIntD d))) := by
  cases d with
  | non => exact rc_isi (b := false) rfl (by decide +kernel)
  | bl => exact rc_isi (b := true) rfl (by decide +kernel)
  | int => exact rc_isi (b := true) rfl (by decide +kernel)
  | str => exact rc_isi (b := false) rfl (by decide +kernel)
  | lst => exact rc_isi (b := false) rfl (by decide +kernel)
  | tup => exact rc_isi (b := false) rfl (by decide +kernel)
  | dic => exact rc_isi (b := false) rfl (by decide +kernel)
  | ins => cases h
  | raw v => cases v <;> cases h
  | lat => cases h
  | err => cases h
  | dct => cases h
theorem rc_isBl (h : okN d = true) : RvC K S (rIsi K) [d, .raw (.ty "bool")] (Eq (.bl (isBlD d))) := by
  cases d with
  | non => exact rc_isi (b := false) rfl (by decide +kernel)
  | bl => exact rc_isi (b := true) rfl (by decide +kernel)
  | int => exact rc_isi (b := false) rfl (by decide +kernel)
  | str => exact rc_isi (b := false) rfl (by decide +kernel)
  | lst => exact rc_isi (b := false) rfl (by decide +kernel)
  | tup => exact rc_isi (b := false) rfl (by decide +kernel)
  | dic => exact rc_isi (b := false) rfl (by decide +kernel)
  | ins => cases h
  | raw v => cases v <;> cases h
  | lat => cases h
  | err => cases h
  | dct => cases h
theorem rc_isTup (h : okN d = true) : RvC K S (rIsi K) [d, .raw (.ty "tuple")] (Eq (.bl (isTupD d))) := by
  cases d with
  | non => exact rc_isi (b := false) rfl (by decide +kernel)
  | bl => exact rc_isi (b := false) rfl (by decide +kernel)
  | int => exact rc_isi (b := false) rfl (by decide +kernel)
  | str => exact rc_isi (b := false) rfl (by decide +kernel)
  | lst => exact rc_isi (b := false) rfl (by decide +kernel)
  | tup => exact rc_isi (b := true) rfl (by decide +kernel)
  | dic => exact rc_isi (b := false) rfl (by decide +kernel)
  | ins => cases h
  | raw v => cases v <;> cases h
  | lat => cases h
  | err => cases h
  | dct => cases h
theorem rc_isStr (h : okN d = true) : RvC K S (rIsi K) [d, .raw (.ty "str")] (Eq (.bl (isStrD d))) := by
  cases d with
  | non => exact rc_isi (b := false) rfl (by decide +kernel)
  | bl => exact rc_isi (b := false) rfl (by decide +kernel)
  | int => exact rc_isi (b := false) rfl (by decide +kernel)
  | str => exact rc_isi (b := true) rfl (by decide +kernel)
  | lst => exact rc_isi (b := false) rfl (by decide +kernel)
  | tup => exact rc_isi (b := false) rfl (by decide +kernel)
  | dic => exact rc_isi (b := false) rfl (by decide +kernel)
  | ins => cases h
  | raw v => cases v <;> cases h
  | lat => cases h
  | err => cases h
  | dct => cases h
theorem rc_isLst (h : okN d = true) : RvC K S (rIsi K) [d, .raw (.ty "list")] (Eq (.bl (isLstD d))) := by
  cases d with
  | non => exact rc_isi (b := false) rfl (by decide +kernel)
  | bl => exact rc_isi (b := false) rfl (by decide +kernel)
  | int => exact rc_isi (b := false) rfl (by decide +kernel)
  | str => exact rc_isi (b := false) rfl (by decide +kernel)
  | lst => exact rc_isi (b := true) rfl (by decide +kernel)
  | tup => exact rc_isi (b := false) rfl (by decide +kernel)
  | dic => exact rc_isi (b := false) rfl (by decide +kernel)
  | ins => cases h
  | raw v => cases v <;> cases h
  | lat => cases h
  | err => cases h
  | dct => cases h

/-! [te for x in a list for y in (a tuple)] -/
theorem en_lc2 {xs : List Dt} {ys : List Dt} {f : Dt → Dt → Dt} {j1 : Nat} {vs1 : List Nat} {tl1 : TE} (hmu : S.Mu) (h : Ev K S S ρ tl (Eq (.lst xs))) (hj : j ∈ vs) (hj1 : j1 ∈ vs1) (hz : xs.length * ys.length ≤ 100000)
    (h1 : ∀ x ∈ xs, Ev K S S ((wipeD ρ vs).set j (some x)) tl1 (Eq (.tup ys)))
    (he : ∀ x ∈ xs, ∀ y ∈ ys, Ev K S S ((wipeD ((wipeD ρ vs).set j (some x)) vs1).set j1 (some y)) te (Eq (f x y))) (hf : ∀ x ∈ xs, ∀ y ∈ ys, nol (f x y) = true) (hnoy : nolA ys = true) :
    EvN K S S ρ (tLc2 (iList K tl) (gName j) tYes (iTup K tl1) (gName j1) tYes te vs vs1) (xs.flatMap fun x => ys.map (f x)) := fun σ H i s Q q =>
  h σ H i s _ fun v d H1 g1 i1 r1 p1 => by
    subst p1
    obtain ⟨a, us, rfl, hT, ra⟩ := r1.lstI
    refine ⟨a, rfl, ⟨us, hT⟩, fun D hD => ?_⟩
    refine ⟨fun n m H' => m = us.length - n ∧ n ≤ us.length ∧ Gr H1 H' ∧ S.I H' ∧ ∃ acc, H' D = some (.lst acc) ∧ RepA K H' acc ((xs.take n).flatMap fun x => ys.map (f x)), ⟨us.length, by simp, Nat.zero_le _, (same_new hD).gr, S.st i1 (same_new hD), [], upd_same, .nil⟩, fun n m H' hw => ?_⟩
    obtain ⟨rfl, hn, g2, i2, acc, ha, rac⟩ := hw
    have hT' := g2.sqL hT
    by_cases hlt : n < us.length
    · have hlx : n < xs.length := by rw [← ra.len]; exact hlt
      refine .inr ⟨⟨us, us[n], hT', by simp [hlt]⟩, fun H' => Gr H1 H' ∧ S.I H' ∧ ∃ acc, H' D = some (.lst acc) ∧ RepA K H' acc ((xs.take (n + 1)).flatMap fun x => ys.map (f x)), fun H3 ⟨g3, i3, w3⟩ => ⟨us.length - (n + 1), by omega, rfl, hlt, g3, i3, w3⟩, fun x H3 hy => ?_⟩
      obtain ⟨rfl, hxs⟩ := hy
      have hux : us[n]? = some x := hxs us hT'
      obtain ⟨dx, hdx, rdx⟩ := ra.ta hux
      have hmem : dx ∈ xs := List.mem_of_getElem? hdx
      have htake : xs.take (n + 1) = xs.take n ++ [dx] := by rw [List.take_add_one, hdx]; rfl
      refine ⟨wipe_put _ σ hj, ?_⟩
      unfold tYes
      dsimp only
      rw [if_pos rfl]
      have s2 : Slots K H3 ((L2.wipe σ vs).set j (some x)) ((wipeD ρ vs).set j (some dx)) := ((s.mono (g1.trans g2)).wipe vs).set (rdx.mono g2) j
      refine h1 dx hmem _ H3 i2 s2 _ fun v1 d1 H4 g4 i4 r4 p4 => ?_
      subst p4
      obtain ⟨b, ws, rfl, hU, rb⟩ := r4.tupI
      have hD4 : H4 D = some (.lst acc) := g4 _ _ ha rfl
      have ra4 := rac.mono g4
      refine ⟨b, rfl, ⟨ws, hU⟩, ?_⟩
      -- the inner walk: what H4 knew but D
      refine ⟨fun k l H' => l = ws.length - k ∧ k ≤ ws.length ∧ Gr H1 H' ∧ S.I H' ∧ SqT K H' b ws ∧ RepA K H' ws ys ∧ ∃ acc, H' D = some (.lst acc) ∧ RepA K H' acc (((xs.take n).flatMap fun x => ys.map (f x)) ++ (ys.take k).map (f dx)), ⟨ws.length, by simp, Nat.zero_le _, g2.trans g4, i4, hU, rb, acc, hD4, by simpa using ra4⟩, fun k l H5 hw => ?_⟩
      obtain ⟨rfl, hk, g5, i5, hU5, rb5, acc5, hD5, rac5⟩ := hw
      by_cases hkt : k < ws.length
      · refine .inr ⟨⟨ws, ws[k], hU5, by simp [hkt]⟩, fun H' => Gr H1 H' ∧ S.I H' ∧ SqT K H' b ws ∧ RepA K H' ws ys ∧ ∃ acc, H' D = some (.lst acc) ∧ RepA K H' acc (((xs.take n).flatMap fun x => ys.map (f x)) ++ (ys.take (k + 1)).map (f dx)), fun H6 ⟨g6, i6, w6⟩ => ⟨ws.length - (k + 1), by omega, rfl, hkt, g6, i6, w6⟩, fun y H6 hyy => ?_⟩
        obtain ⟨rfl, hys⟩ := hyy
        obtain ⟨dy, hdy, rdy⟩ := rb5.ta (hys ws hU5)
        have hmy : dy ∈ ys := List.mem_of_getElem? hdy
        refine ⟨wipe_put _ _ hj1, ?_⟩
        dsimp only
        rw [if_pos rfl]
        refine he dx hmem dy hmy _ H6 i5 ((((s.mono (g1.trans g5)).wipe vs).set (rdx.mono g5) j |>.wipe vs1).set rdy j1) _ fun z dz H7 g7 i7 r7 p7 => ?_
        subst p7
        have hD7 : H7 D = some (.lst acc5) := g7 _ _ hD5 rfl
        have hno := hf dx hmem dy hmy
        have hnoA : nolA (((xs.take n).flatMap fun x => ys.map (f x)) ++ (ys.take k).map (f dx)) = true := nolA_all.mpr fun z hz => by
          rcases List.mem_append.mp hz with hz | hz
          · obtain ⟨p, hp, hz⟩ := List.mem_flatMap.mp hz
            obtain ⟨r, hr, rfl⟩ := List.mem_map.mp hz
            exact hf p (List.mem_of_mem_take hp) r hr
          · obtain ⟨r, hr, rfl⟩ := List.mem_map.mp hz
            exact hf dx hmem r (List.mem_of_mem_take hr)
        have hlen : (((xs.take n).flatMap fun x => ys.map (f x)) ++ (ys.take k).map (f dx)).length < 100001 := by
          have e1 : ((xs.take n).flatMap fun x => ys.map (f x)).length = n * ys.length := by
            rw [List.length_flatMap]
            simp only [List.length_map]
            rw [List.map_const', List.sum_replicate_nat, List.length_take, Nat.min_eq_left (Nat.le_of_lt hlx)]
          have e2 : ((ys.take k).map (f dx)).length ≤ ys.length := by simp [List.length_take]; omega
          rw [List.length_append, e1]
          have e3 : (n + 1) * ys.length ≤ xs.length * ys.length := Nat.mul_le_mul_right _ hlx
          rw [Nat.succ_mul] at e3
          omega
        -- ys' own items stand: no list
        refine ⟨acc5, hD7, by rw [rac5.len]; exact Nat.lt_of_lt_of_le hlen (by decide), gr_off (g5.trans g7) hD, hmu i1 (g5.trans g7) hD i7, ?_, ?_, acc5 ++ [z], upd_same, ?_⟩
        · rcases g7.sqT hU5 with (w | ⟨o, w⟩) | w
          · exact .inl (.inl (upd_other hD7 w fun _ z => nomatch z))
          · exact .inl (.inr ⟨o, upd_other hD7 w fun _ z => nomatch z⟩)
          · exact .inr w
        · exact (rb5.mono g7).off hD7 hnoy
        · have e : (ys.take (k + 1)).map (f dx) = (ys.take k).map (f dx) ++ [f dx dy] := by rw [List.take_add_one, hdy, List.map_append]; rfl
          rw [e, ← List.append_assoc]
          exact ((rac5.mono g7).off hD7 hnoA).app (.cons (r7.off hD7 hno) .nil)
      · have hke : k = ws.length := by omega
        refine .inl ⟨⟨ws, hU5, by omega⟩, g5, i5, acc5, hD5, ?_⟩
        rw [htake, List.flatMap_append, List.flatMap_cons, List.flatMap_nil, List.append_nil]
        rw [hke, rb.len, List.take_length] at rac5
        exact rac5
    · have hne : n = us.length := by omega
      rw [hne, ra.len, List.take_length] at rac
      exact .inl ⟨⟨us, hT', by omega⟩, q D acc H1 H' g1 i1 hD g2 i2 ha rac⟩
end
end Bf
namespace Bf
open PySem PySem.Spec PyProof.Rows L2

/-! ### K. a def of the text -/
structure Cal (K : PySem.W.Frag) (mg : Str → Option Value) (x : Str) (st : Stmt) (ps : List Str) (f : Addr) (fd : FuncData) : Prop where
  fn : Fun K x x st f fd
  gl : mg x = some (.ref f)
  bp : BPos fd ps
def idL : List Value → List Value := fun ws => ws
def swpL : List Value → List Value
  | [a, b] => [b, a]
  | ws => ws
def idV : List V → List V := fun ws => ws
def swpV : List V → List V
  | [a, b] => [b, a]
  | ws => ws
theorem kwv {n : Nat} : ∀ {vs : List V} {us : List Value}, Vals vs us → vs.length = n → Vals (idV vs) (idL us) := fun r _ => r
theorem kws {n : Nat} : ∀ {vs : List V} {us : List Value}, Vals vs us → vs.length = n → Vals (swpV vs) (swpL us)
  | _, _, .nil, _ => .nil
  | _, _, .cons a .nil, _ => .cons a .nil
  | _, _, .cons a (.cons b .nil), _ => .cons b (.cons a .nil)
  | _, _, .cons a (.cons b (.cons c r)), _ => .cons a (.cons b (.cons c r))
theorem idV_rep {K : PySem.W.Frag} {H : Hp} {vs : List V} {ds : List Dt} (r : RepA K H vs ds) : RepA K H (idV vs) ds := r
theorem swpV_rep {K : PySem.W.Frag} {H : Hp} {vs : List V} {x y : Dt} (r : RepA K H vs [x, y]) : RepA K H (swpV vs) [y, x] := by
  obtain ⟨v, u, rfl, r1, r2⟩ := r.twoI
  exact .cons r2 (.cons r1 .nil)

/-! ### L. the draws' dict -/
def rSetD : TSet := fun o i v H Q => ∃ a H', o = .ref a ∧ DPut H a i v H' ∧ Q H'
theorem set_dict {X : Cx} (hu : X.A.units + 1 < cLine) : PSet X rSetD := by
  intro pins s σ H o i v ov iv u Q I ro ri rv h
  obtain ⟨a, H', rfl, g, q⟩ := h
  obtain rfl : ov = Value.ref a := ro
  exact d_setItem hu I g ri rv fun s4 I4 => ⟨H', I4, q⟩
def drK (c : Addr) (i l u : Int) : List (Key × V) := [(.inr "cells", .ref c), (.inr "at", .int i), (.inr "left", .int l), (.inr "used", .int u)]
section
variable {c : Addr} {i l u x : Int}
theorem dr_cells : valV (drK c i l u) (.inr "cells") = some (.ref c) := by with_unfolding_all rfl
theorem dr_at : valV (drK c i l u) (.inr "at") = some (.int i) := by with_unfolding_all rfl
theorem dr_left : valV (drK c i l u) (.inr "left") = some (.int l) := by with_unfolding_all rfl
theorem dr_used : valV (drK c i l u) (.inr "used") = some (.int u) := by with_unfolding_all rfl
theorem dr_pat : putK (drK c i l u) (.inr "at") (.int x) = drK c x l u := by with_unfolding_all rfl
theorem dr_pleft : putK (drK c i l u) (.inr "left") (.int x) = drK c i x u := by with_unfolding_all rfl
theorem dr_pused : putK (drK c i l u) (.inr "used") (.int x) = drK c i l x := by with_unfolding_all rfl
theorem dr_merge : mergeK [] [((.inr "cells" : Key), V.ref c), (.inr "at", .int i), (.inr "left", .int l), (.inr "used", .int u)] = drK c i l u := by with_unfolding_all rfl
end
/-- the draws' dict at a, its cells cs at c: just so -/
def DS (K : PySem.W.Frag) (a c : Addr) (cs : List Int) (i l u : Int) : Sta :=
  ⟨fun H => H a = some (.dK (drK c i l u)) ∧ SqL K H c (cs.map V.int), fun h s => ⟨s _ _ h.1, s.seq h.2⟩⟩
/-- .. with counts up to n -/
def DW (K : PySem.W.Frag) (a c : Addr) (cs : List Int) (n : Nat) : Sta :=
  ⟨fun H => ∃ i l u, (DS K a c cs i l u).I H ∧ 0 ≤ i ∧ i ≤ n ∧ 0 ≤ l ∧ 0 ≤ u ∧ u ≤ n, fun ⟨i, l, u, h, r⟩ s => ⟨i, l, u, (DS K a c cs i l u).st h s, r⟩⟩
section
variable {K : PySem.W.Frag} {a c : Addr} {cs : List Int} {i l u x : Int} {n m : Nat} {S S1 SF : Sta} {L : List Addr} {ρ : List (Option Dt)} {P : Po} {te : TE} {w : TS} {Φ : Dt → Prop}
theorem dw_le (h : n ≤ m) : (DW K a c cs n).Le (DW K a c cs m) := fun H ⟨i, l, u, h0, h1, h2, h3, h4, h5⟩ => ⟨i, l, u, h0, h1, by omega, h3, h4, by omega⟩
theorem dw_of (h0 : 0 ≤ i) (h1 : i ≤ n) (h2 : 0 ≤ l) (h3 : 0 ≤ u) (h4 : u ≤ n) : (DS K a c cs i l u).Le (DW K a c cs n) := fun H h => ⟨i, l, u, h, h0, h1, h2, h3, h4⟩
theorem ds_off {H1 H : Hp} {D : Addr} {o : HO} (ha : ∃ o, H1 a = some o) (hc : SqL K H1 c (cs.map V.int)) (g : Gr H1 H) (hD : H1 D = none) (h : (DS K a c cs i l u).I H) : (DS K a c cs i l u).I (upd H D o) := by
  obtain ⟨o1, e⟩ := ha
  refine ⟨?_, (gr_off g hD).sqL hc⟩
  rw [upd_ne (ne_of_none e hD)]
  exact h.1
theorem dw_off {H1 H : Hp} {D : Addr} {o : HO} (h1 : (DW K a c cs m).I H1) (g : Gr H1 H) (hD : H1 D = none) (h : (DW K a c cs n).I H) : (DW K a c cs n).I (upd H D o) := by
  obtain ⟨i1, l1, u1, hh, _⟩ := h1
  obtain ⟨i, l, u, h, r⟩ := h
  exact ⟨i, l, u, ds_off ⟨_, hh.1⟩ hh.2 g hD h, r⟩
theorem dw_mu : (DW K a c cs n).Mu := fun i1 g hD i2 => dw_off i1 g hD i2
theorem dw_loose : Loose (DW K a c cs n) (DW K a c cs m) := fun iB g hp _ i => dw_off iB g hp i
/-- what is so by cases -/
theorem so_open (h : ∀ i l u : Int, 0 ≤ i → i ≤ n → 0 ≤ l → 0 ≤ u → u ≤ n → So K (DS K a c cs i l u) SF L w ρ P) : So K (DW K a c cs n) SF L w ρ P := fun D σ B H b ⟨i, l, u, h0, h1, h2, h3, h4, h5⟩ s f => h i l u h1 h2 h3 h4 h5 D σ B H b h0 s f
theorem ev_dget {k : Str} {v : V} {d : Dt} {j : Nat} (hj : ρ[j]? = some (some (.raw (.ref a)))) (hk : valV (drK c i l u) (.inr k) = some v) (hd : ∀ H, (DS K a c cs i l u).I H → Rep K H v d) : Ev K (DS K a c cs i l u) (DS K a c cs i l u) ρ (tDGet (tVar j) (tC (.str k))) (Eq d) := fun σ H h s Q q => by
  obtain ⟨v0, hv, rv⟩ := s.val j _ hj
  obtain rfl := rv.rawI
  exact ⟨.ref a, hv, a, v, rfl, hk ▸ DGet.k (k := Sum.inr k) h.1, q _ _ H (Gr.refl H) h (hd H h) rfl⟩
theorem ev_dat {j : Nat} (hj : ρ[j]? = some (some (.raw (.ref a)))) : Ev K (DS K a c cs i l u) (DS K a c cs i l u) ρ (tDGet (tVar j) (tC (.str "at"))) (Eq (.int i)) := ev_dget hj dr_at fun _ _ => .int i
theorem ev_dleft {j : Nat} (hj : ρ[j]? = some (some (.raw (.ref a)))) : Ev K (DS K a c cs i l u) (DS K a c cs i l u) ρ (tDGet (tVar j) (tC (.str "left"))) (Eq (.int l)) := ev_dget hj dr_left fun _ _ => .int l
theorem ev_dused {j : Nat} (hj : ρ[j]? = some (some (.raw (.ref a)))) : Ev K (DS K a c cs i l u) (DS K a c cs i l u) ρ (tDGet (tVar j) (tC (.str "used"))) (Eq (.int u)) := ev_dget hj dr_used fun _ _ => .int u
theorem rep_ints {H : Hp} : ∀ ns : List Int, RepA K H (ns.map V.int) (ns.map Dt.int)
  | [] => .nil
  | n :: ns => .cons (.int n) (rep_ints ns)
theorem ev_dcells {j : Nat} (hj : ρ[j]? = some (some (.raw (.ref a)))) : Ev K (DS K a c cs i l u) (DS K a c cs i l u) ρ (tDGet (tVar j) (tC (.str "cells"))) (Eq (.lst (cs.map Dt.int))) := ev_dget hj dr_cells fun _ h => .lst h.2 (rep_ints cs)
/-- draw[k] = e -/
theorem so_dset {k : Str} {j : Nat} {i' l' u' : Int} (h : Ev K S (DS K a c cs i l u) ρ te (Eq (.int x))) (hj : ρ[j]? = some (some (.raw (.ref a)))) (hk : putK (drK c i l u) (.inr k) (.int x) = drK c i' l' u') (q : So K (DS K a c cs i' l' u') SF L w ρ P) :
    So K S SF L (tSeq (tAsg te (gSub (tVar j) (tC (.str k)) rSetD)) w) ρ P := fun D σ B H b hi s f => h σ H hi s _ fun v d H1 g1 i1 r1 e => by
  subst e
  obtain rfl := r1.intI
  obtain ⟨v0, hv, rv⟩ := (s.mono g1).val j _ hj
  obtain rfl := rv.rawI
  have gg : ∀ {C : Hp}, Gr C H1 → Gr C (upd H1 a (.dK (drK c i' l' u'))) := fun {C} g p o e d => by
    by_cases hp : p = a
    · subst hp
      have y := g p o e d
      rw [i1.1] at y
      cases y
      cases d
    · rw [upd_ne hp]
      exact g p o e d
  refine ⟨.ref a, hv, a, _, rfl, DPut.k (k := Sum.inr k) i1.1 (by show 4 < sizeLine; decide), ?_⟩
  rw [hk]
  exact q D σ B _ ⟨gg (b.gr.trans g1), b.i, b.new⟩ ⟨upd_same, (gg (Gr.refl H1)).sqL i1.2⟩ ((s.mono g1).mono (gg (Gr.refl H1))) f
/-- cell, draw["left"] = (x, y) -/
theorem so_dset2 {j m : Nat} {ta : TA} {x y : Int} (h : EvA K S (DS K a c cs i l u) ρ ta (Eq [.int x, .int y])) (hj : ρ[j]? = some (some (.raw (.ref a)))) (hm : m ≠ j) (q : So K (DS K a c cs i y u) SF L w (ρ.set m (some (.int x))) P) :
    So K S SF L (tSeq (tAsg (tTup ta) (gTup K 2 (gCons (gName m) (gCons (gSub (tVar j) (tC (.str "left")) rSetD) gNil)))) w) ρ P := fun D σ B H b hi s f => h σ H hi s _ fun vs ds H1 g1 i1 r1 e => by
  subst e
  obtain ⟨v, u', rfl, ra, rb⟩ := r1.twoI
  obtain rfl := ra.intI
  obtain rfl := rb.intI
  refine ⟨by show 2 ≤ sizeLine; decide, fun p hp => ?_⟩
  have s2 := same_new (o := .tup [.int x, .int y]) hp
  have i2 := (DS K a c cs i l u).st i1 s2
  have g2 := g1.trans s2.gr
  have hs := ((s.mono g2).set (v := .int x) (d := .int x) (.int x) m)
  obtain ⟨v0, hv, rv⟩ := hs.val j (.raw (.ref a)) (by rw [List.getElem?_set_ne hm]; exact hj)
  obtain rfl := rv.rawI
  have gg : ∀ {C : Hp}, Gr C (upd H1 p (.tup [.int x, .int y])) → Gr C (upd (upd H1 p (.tup [.int x, .int y])) a (.dK (drK c i y u))) := fun {C} g p' o e d => by
    by_cases hp : p' = a
    · subst hp
      have z := g p' o e d
      rw [i2.1] at z
      cases z
      cases d
    · rw [upd_ne hp]
      exact g p' o e d
  refine ⟨p, _, rfl, SqT.of upd_same, rfl, .int x, [.int y], rfl, .int y, [], rfl, .ref a, hv, a, _, rfl, DPut.k (k := Sum.inr "left") i2.1 (by show 4 < sizeLine; decide), rfl, ?_⟩
  rw [dr_pleft]
  exact q D _ B _ ⟨gg (b.gr.trans g2), b.i, b.new⟩ ⟨upd_same, (gg (Gr.refl _)).sqL i2.2⟩ (hs.mono (gg (Gr.refl _))) f

/-! ### M. defs that draw -/
def spD (K : PySem.W.Frag) (nargs : Nat) (pre : List Dt → Prop) (Φ : List Dt → Dt → Prop) (cost : Nat) : Sp := fun vs H Q _ => ∃ a c cs n ds ws, vs = .ref a :: ws ∧ RepA K H ws ds ∧ ds.length = nargs ∧ pre ds ∧ cs ≠ [] ∧ n + cost ≤ 1000000 ∧ (DW K a c cs n).I H ∧
  ∀ v d H', Gr H H' → (DW K a c cs (n + cost)).I H' → Rep K H' v d → Φ ds d → Q v H'
theorem ev_callD {t : TA} {ds : List Dt} {k cost : Nat} {pre : List Dt → Prop} {Φ : List Dt → Dt → Prop} {E : XK} (ha : EvA K S (DW K a c cs n) ρ t (Eq (.raw (.ref a) :: ds))) (hn : ds.length = k) (hp : pre ds) (hc : cs ≠ []) (hb : n + cost ≤ 1000000) :
    Ev K S (DW K a c cs (n + cost)) ρ (tCall (spD K k pre Φ cost) [] E t) (Φ ds) := fun σ H i s Q q =>
  ha σ H i s _ fun vs ds' H1 g1 i1 r1 p1 => by
    subst p1
    rw [List.append_nil]
    cases r1 with
    | cons r0 r1 =>
      obtain rfl := r0.rawI
      exact ⟨a, c, cs, n, ds, _, rfl, r1, hn, hp, hc, hb, i1, fun v d H' g i' r p => q v d H' (g1.trans g) i' r p⟩
theorem okD {P : Program} {w : World} {mg : Str → Option Value} {base : Heap} {x qual : Str} {st : Stmt} {f : Addr} {fd : FuncData} {N ps : List Str} {k na cost : Nat} {pre : List Dt → Prop} {Φ : List Dt → Dt → Prop} (Fu : Fun K x qual st f fd) (Sc : FnScope N ps (defScope st)) (hps : ps.length = na + 1)
    (hb : ∀ (cdv : Value) (A : Around) (out : List Env) (s : Shared) (H : Hp) (E : XK), Room k (A.deeper (envOfC qual (defScope st) s.heap.objs.size f cdv)) → A.guards = some [] →
      ∃ t, PSs (cxOf (L2.CX P w) P w K mg base N qual (defScope st) f cdv A out s H E).nox (defBody st) t ∧ ∀ (a c : Addr) (cs : List Int) (n : Nat) (ds : List Dt), cs ≠ [] → n + cost ≤ 1000000 → ds.length = na → pre ds →
        So K (DW K a c cs n) (DW K a c cs (n + cost)) [] t (startD N.length (.raw (.ref a) :: ds)) { nx := fun _ => Φ ds .non, rt := Φ ds }) :
    GOk P w K mg base (k + 1) f fd ps (spD K na pre Φ cost) := by
  refine okG Fu Sc (fun vs H Q E h => ?_) fun cdv A out s H vs Q E hr hg h => ?_
  · obtain ⟨a, c, cs, n, ds, ws, rfl, r, hl, _⟩ := h
    rw [List.length_cons, r.len, hl, hps]
  · obtain ⟨a, c, cs, n, ds, ws, rfl, r, hl, hp, hc, hn, hi, q⟩ := h
    obtain ⟨t, ht, so⟩ := hb cdv A out s H E hr hg
    refine ⟨t, ht.nox, so a c cs n ds hc hn hl hp _ _ H H ⟨Gr.refl H, dw_le (Nat.le_add_right n cost) H hi, fun _ z => nomatch z⟩ hi (slots_start (.cons (.raw _) r)) ⟨fun σ ρ H' g i s' e => ?_, fun v d H' g i r' e => ?_, fun _ _ _ _ _ _ z => z.elim, fun _ _ _ _ _ _ z => z.elim⟩⟩
    · exact q _ _ H' g i .non e
    · exact q v d H' g i r' e
end
end Bf
namespace Bf
open PySem PySem.Spec PyProof.Rows L2
/-! ### N. the operations by their names -/
section
variable {K : PySem.W.Frag} {S S1 S2 S3 : Sta} {ρ : List (Option Dt)} {i j : Int} {ta tb tc te : TE} {d x y : Dt}
theorem rv_add : Rv2 K S rAddI (.int i) (.int j) (Eq (.int (i + j))) := rv_ii
theorem rv_sub : Rv2 K S rSubI (.int i) (.int j) (Eq (.int (i - j))) := rv_ii
theorem rv_mul (h : CMulW i j) : Rv2 K S rMulW (.int i) (.int j) (Eq (.int (i * j))) := rv_iic h
theorem rv_div (h : CDivW i j) : Rv2 K S rDivW (.int i) (.int j) (Eq (.int (i / j))) := rv_iic h
theorem rv_mod (h : 0 < j) : Rv2 K S rModI (.int i) (.int j) (Eq (.int (i % j))) := rv_iic (C := fun _ j => 0 < j) h
theorem rv_pow (h : CPow i j) : Rv2 K S rPowI (.int i) (.int j) (Eq (.int (i ^ j.toNat))) := rv_iic h
theorem rv_lt : Rv2 K S rLtI (.int i) (.int j) (Eq (.bl (decide (i < j)))) := rv_ib
theorem rv_le : Rv2 K S rLeI (.int i) (.int j) (Eq (.bl (decide (i ≤ j)))) := rv_ib
theorem rv_gt : Rv2 K S rGtI (.int i) (.int j) (Eq (.bl (decide (j < i)))) := rv_ib
theorem rv_ge : Rv2 K S rGeI (.int i) (.int j) (Eq (.bl (decide (j ≤ i)))) := rv_ib
theorem rv_isNo : Rv2 K S rIsNo d .non (Eq (.bl d.isNon)) := rv_isN
theorem rv_noNo : Rv2 K S rNoNo d .non (Eq (.bl (!d.isNon))) := rv_notN
theorem ev_lele {l : Int} (ha : Ev K S S1 ρ ta (Eq (.int i))) (hb : Ev K S1 S2 ρ tb (Eq (.int j))) (hc : Ev K S2 S2 ρ tc (Eq (.int l))) : Ev K S S2 ρ (tChain rLeI rLeI ta tb tc) (Eq (.bl (decide (i ≤ j) && decide (j ≤ l)))) := ev_chain ha hb hc
/-- the class's name as an argument -/
theorem ev_ty {T : String} : Ev K S S ρ (tC (.ty T)) (Eq (.raw (.ty T))) := ev_raw
theorem ev_isInt (h : Ev K S S1 ρ ta (Eq d)) (hd : okN d = true) : Ev K S S1 ρ (tCB (rIsi K) (tCons ta (tCons (tC (.ty "int")) tNil))) (Eq (.bl (isIntD d))) := ev_cb (ea_cons h (ea_cons ev_ty ea_nil)) (rc_isInt hd)
theorem ev_isBl (h : Ev K S S1 ρ ta (Eq d)) (hd : okN d = true) : Ev K S S1 ρ (tCB (rIsi K) (tCons ta (tCons (tC (.ty "bool")) tNil))) (Eq (.bl (isBlD d))) := ev_cb (ea_cons h (ea_cons ev_ty ea_nil)) (rc_isBl hd)
theorem ev_isTup (h : Ev K S S1 ρ ta (Eq d)) (hd : okN d = true) : Ev K S S1 ρ (tCB (rIsi K) (tCons ta (tCons (tC (.ty "tuple")) tNil))) (Eq (.bl (isTupD d))) := ev_cb (ea_cons h (ea_cons ev_ty ea_nil)) (rc_isTup hd)
theorem ev_isStr (h : Ev K S S1 ρ ta (Eq d)) (hd : okN d = true) : Ev K S S1 ρ (tCB (rIsi K) (tCons ta (tCons (tC (.ty "str")) tNil))) (Eq (.bl (isStrD d))) := ev_cb (ea_cons h (ea_cons ev_ty ea_nil)) (rc_isStr hd)
theorem ev_isLst (h : Ev K S S1 ρ ta (Eq d)) (hd : okN d = true) : Ev K S S1 ρ (tCB (rIsi K) (tCons ta (tCons (tC (.ty "list")) tNil))) (Eq (.bl (isLstD d))) := ev_cb (ea_cons h (ea_cons ev_ty ea_nil)) (rc_isLst hd)
theorem ev_lenT {xs : List Dt} (h : Ev K S S1 ρ ta (Eq (.tup xs))) : Ev K S S1 ρ (tCB (rLen K) (tCons ta tNil)) (Eq (.int xs.length)) := ev_cb (ea_cons h ea_nil) rc_lenT
theorem ev_lenL {xs : List Dt} (h : Ev K S S1 ρ ta (Eq (.lst xs))) : Ev K S S1 ρ (tCB (rLen K) (tCons ta tNil)) (Eq (.int xs.length)) := ev_cb (ea_cons h ea_nil) rc_lenL
theorem ev_allL {bs : List Bool} (h : Ev K S S1 ρ ta (Eq (.lst (bs.map Dt.bl)))) : Ev K S S1 ρ (tCB (rAll K) (tCons ta tNil)) (Eq (.bl (bs.all id))) := ev_cb (ea_cons h ea_nil) rc_all
/-- all([p(x) for x in a tuple]) -/
theorem ev_allT {tl : TE} {m : Nat} {vs : List Nat} {xs : List Dt} {p : Dt → Bool} (hmu : S.Mu) (h : Ev K S S ρ tl (Eq (.tup xs))) (hj : m ∈ vs) (hz : xs.length ≤ 100000) (he : ∀ x ∈ xs, Ev K S S ((wipeD ρ vs).set m (some x)) te (Eq (.bl (p x)))) :
    Ev K S S ρ (tCB (rAll K) (tCons (tLc (iTup K tl) (gName m) tYes te vs) tNil)) (Eq (.bl (xs.all p))) := by
  have h1 := ev_lcT (K := K) (S := S) (ρ := ρ) (te := te) (tl := tl) (tt := tYes) (vs := vs) (j := m) (xs := xs) (f := fun x => .bl (p x)) (p := fun _ => true) hmu h hj hz (fun _ _ => et_yes) (fun x hx _ => he x hx) fun _ _ _ => rfl
  have e : ((xs.filter fun _ => true).map fun x => Dt.bl (p x)) = (xs.map p).map Dt.bl := by
    rw [List.filter_eq_self.mpr fun _ _ => rfl, List.map_map]
    rfl
  rw [e] at h1
  have e2 : xs.all p = (xs.map p).all id := by rw [List.all_map]; rfl
  rw [e2]
  exact ev_allL h1
/-- t[-1], t[k] of a written shape -/
theorem ev_ixT {xs : List Dt} (h : Ev K S S1 ρ ta (Eq (.tup xs))) (hb : Ev K S1 S2 ρ tb (Eq (.int i))) (hi : atI xs i = some d) : Ev K S S2 ρ (tOp (rIx K) ta tb) (Eq d) := ev_op h hb (rv_ixST hi)
theorem ev_ixL {xs : List Dt} (h : Ev K S S1 ρ ta (Eq (.lst xs))) (hb : Ev K S1 S2 ρ tb (Eq (.int i))) (hi : atI xs i = some d) : Ev K S S2 ρ (tOp (rIx K) ta tb) (Eq d) := ev_op h hb (rv_ixSL hi)
theorem ev_ixLP {xs : List Dt} {Φ Θ : Dt → Prop} (h : Ev K S S1 ρ ta (Eq (.lst xs))) (hb : Ev K S1 S2 ρ tb Φ) (hi : ∀ y, Φ y → ∃ k d, y = .int k ∧ atI xs k = some d ∧ Θ d) : Ev K S S2 ρ (tOp (rIx K) ta tb) Θ := ev_opP h hb fun x y e p => by
  obtain ⟨k, d, rfl, hk, hd⟩ := hi y p
  subst e
  exact fun H v u i r1 r2 Q q => rv_ixSL hk H v u i r1 r2 Q fun v' d' H' g i' r e => q v' d' H' g i' r (e ▸ hd)
theorem ev_ixLPL {xs : List Dt} {Φ Θ : Dt → Prop} (h : Ev K S S1 ρ ta (Eq (.lst xs))) (hb : Ev K S1 S2 ρ tb Φ) (hi : ∀ y, Φ y → ∃ k d, y = .int k ∧ atI xs k = some d ∧ Θ d) : Ev K S S2 ρ (tOp (rIxL K) ta tb) Θ := ev_opP h hb fun x y e p => by
  obtain ⟨k, d, rfl, hk, hd⟩ := hi y p
  subst e
  exact fun H v u i r1 r2 Q q => rv_ixL hk H v u i r1 r2 Q fun v' d' H' g i' r e => q v' d' H' g i' r (e ▸ hd)
end
/-! ### O. plain through and through -/
mutual
def pl : Dt → Bool
  | .lst xs => plA xs
  | .tup xs => plA xs
  | .ins _ _ _ => false
  | .raw _ => false
  | .lat _ _ => false
  | .err _ _ _ => false
  | .dct _ _ => false
  | _ => true
def plA : List Dt → Bool
  | [] => true
  | x :: xs => pl x && plA xs
end
theorem pl_okN {d : Dt} (h : pl d = true) : okN d = true := by
  cases d with
  | ins => simp [pl] at h
  | raw => simp [pl] at h
  | lat => simp [pl] at h
  | err => simp [pl] at h
  | dct => simp [pl] at h
  | _ => rfl
theorem plA_all : ∀ {xs : List Dt}, plA xs = true ↔ ∀ x ∈ xs, pl x = true
  | [] => by simp [plA]
  | x :: xs => by simp [plA, plA_all]
theorem pl_tup {xs : List Dt} (h : pl (.tup xs) = true) : ∀ x ∈ xs, pl x = true := plA_all.mp (by simpa [pl] using h)
end Bf
namespace Bf
open PySem PySem.Spec PyProof.Rows L2
/-! ## Lists that are changed within loops -/
section
variable {K : PySem.W.Frag} {S S0 S1 SB SF : Sta} {L : List Addr} {ρ : List (Option Dt)} {P : Po} {te tl t1 t2 : TE} {w t : TS} {d : Dt} {p q : Addr} {j : Nat} {xs ys : List Dt} {H : Hp} {σ : L2.St}
/-- what holds bears that the list at p is changed -/
def LooseP (S S0 : Sta) (p : Addr) : Prop := ∀ {B H : Hp} {vs : List V} {o : HO}, S0.I B → Gr B H → B p = none → H p = some (.lst vs) → S.I H → S.I (upd H p o)
theorem Loose.at_ (h : Loose S S0) (p : Addr) : LooseP S S0 p := fun i g hp e k => h i g hp e k
theorem mu_loose (h : S.Mu) : Loose S S := fun i g hp _ k => h i g hp k
theorem mu_looseP (h : S.Mu) : LooseP S S p := fun i g hp _ k => h i g hp k
/-- d is not touched where the list at p is changed -/
def offOk (p : Addr) : Dt → Prop
  | .lat q xs => q ≠ p ∧ nolA xs = true
  | d => nol d = true
theorem Rep.offK {v : V} {acc : List V} {o : HO} (hD : H p = some (.lst acc)) (h : offOk p d) (r : Rep K H v d) : Rep K (upd H p o) v d := by
  cases d with
  | lat q xs =>
    obtain ⟨rfl, vs, e, ra⟩ := r.latI
    exact .lat (by rw [upd_ne h.1]; exact e) (ra.off hD h.2)
  | _ => exact r.off hD h
def Offs (p : Addr) (ρ : List (Option Dt)) (j : Nat) : Prop := ∀ (i : Nat) (d : Dt), i ≠ j → ρ[i]? = some (some d) → offOk p d
/-- slot by slot -/
def offL (p : Addr) (j : Nat) : Nat → List (Option Dt) → Prop
  | _, [] => True
  | n, o :: r => (n ≠ j → ∀ d, o = some d → offOk p d) ∧ offL p j (n + 1) r
theorem offs_of : ∀ {ρ : List (Option Dt)} {n : Nat}, offL p j n ρ → ∀ (i : Nat) (d : Dt), i + n ≠ j → ρ[i]? = some (some d) → offOk p d
  | [], _, _, i, d, _, e => by simp at e
  | o :: r, n, h, 0, d, hi, e => h.1 (by omega) d (by simpa using e)
  | o :: r, n, h, i + 1, d, hi, e => offs_of h.2 i d (by omega) (by simpa using e)
theorem Offs.mk (h : offL p j 0 ρ) : Offs p ρ j := fun i d hi e => offs_of h i d (by omega) e
theorem slots_offK {vs us : List V} (s : Slots K H σ ρ) (hj : ρ[j]? = some (some (.lat p xs))) (hn : Offs p ρ j) (hp : H p = some (.lst vs)) (r : RepA K (upd H p (.lst us)) us ys) : Slots K (upd H p (.lst us)) σ (ρ.set j (some (.lat p ys))) := by
  refine ⟨by rw [List.length_set]; exact s.len, fun i d h => ?_⟩
  by_cases hij : j = i
  · subst hij
    have hl : j < ρ.length := (List.getElem?_eq_some_iff.mp hj).1
    rw [List.getElem?_set_self hl] at h
    cases h
    obtain ⟨v, hv, rv⟩ := s.val j _ hj
    obtain ⟨rfl, _⟩ := rv.latI
    exact ⟨_, hv, .lat upd_same r⟩
  · rw [List.getElem?_set_ne hij] at h
    obtain ⟨v, hv, rv⟩ := s.val i d h
    exact ⟨v, hv, rv.offK hp (hn i d (Ne.symm hij) h)⟩
/-- the list at p is changed -/
theorem sg_put {D : Ends} {B : Hp} {vs us : List V} (hL : p ∈ L) (hlo : LooseP S SB p) (hj : ρ[j]? = some (some (.lat p xs))) (hn : Offs p ρ j) (b : Bs SB L B H) (i : S.I H) (s : Slots K H σ ρ) (f : Ft K SF P D B) (hp : H p = some (.lst vs)) (r : RepA K (upd H p (.lst us)) us ys)
    (k : Sg K S SB SF L w (ρ.set j (some (.lat p ys))) P) : w D σ (upd H p (.lst us)) :=
  k D σ B _ ⟨gr_off b.gr (b.new p hL), b.i, b.new⟩ (hlo b.i b.gr (b.new p hL) hp i) (slots_offK s hj hn hp r) f
/-- xs.append(e) -/
theorem so_appP (hL : p ∈ L) (hlo : LooseP S SB p) (hj : ρ[j]? = some (some (.lat p xs))) (hx : nolA xs = true) (hn : Offs p ρ j) (hz : xs.length < 100000) (h : Ev K S S ρ te (Eq d)) (hd : nol d = true)
    (k : Sg K S SB SF L w (ρ.set j (some (.lat p (xs ++ [d])))) P) : Sg K S SB SF L (tSeq (tDrop (tBM K "list" rAppend (tVar j) (tCons te tNil))) w) ρ P := fun D σ B H b i s f => by
  obtain ⟨v, hv, rv⟩ := s.val j _ hj
  obtain ⟨rfl, vs, hp, ra⟩ := rv.latI
  refine ⟨.ref p, hv, .inl ⟨rfl, _, SqL.of hp⟩, h σ H i s _ fun u d' H1 g1 i1 r1 e => ?_⟩
  subst e
  have hp1 : H1 p = some (.lst vs) := g1 _ _ hp rfl
  have ra1 := ra.mono g1
  refine ⟨p, vs, u, rfl, rfl, hp1, by rw [ra1.len]; exact Nat.lt_of_lt_of_le hz (by decide), ?_⟩
  exact sg_put (w := w) (D := D) hL hlo hj hn (b.up g1) i1 (s.mono g1) f hp1 ((ra1.off hp1 hx).app (.cons (r1.off hp1 hd) .nil)) k
/-- .. as the last statement -/
theorem sg_last (h : Sg K S SB SF L (tSeq t tNext) ρ P) : Sg K S SB SF L t ρ P := fun D σ B H b i s f => h D σ B H b i s f
/-- xs.extend(a tuple) -/
theorem extend_tup (l : Addr) (items : Array Value) (n : Nat) (b : Addr) (items2 : Array Value) (n2 : Nat) (dd : Option Addr) (sl : Array (Option Value)) (hs0 : ¬(!items.isEmpty && Builtin.List.listTooLong (items.size + items2.size)) = true) (hs1 : items.size ≤ sizeLine) (hs2 : items.size + items2.size ≤ sizeLine + 1) :
    Meets (Builtin.«list.extend» ⟨[.ref l, .ref b], []⟩) (fun _ R s => s.heap.get? l = some { cls := .type "list", dict := none, data := .seq items n, slots := #[] } ∧ s.heap.get? b = some { cls := .type "tuple", dict := dd, data := .seq items2 n2, slots := sl } ∧
      R (.ok (.ret Value.none)) { s with heap := s.heap.update l (Obj.mapSeq fun x => x ++ items2), toks := s.toks }) :=
  .of_wp fun prog w A R s h => by
    obtain ⟨hp, g, d, tk, os⟩ := s
    obtain ⟨hl, hb, h⟩ := h
    have f1 := AutoSeq1.idx_int
    have f2 := AutoSeq1.sub_tuple_tuple
    have f3 := AutoSeq1.sub_list_list
    have f4 := AutoSeq1.sub_tuple_list
    have f5 := AutoSeq1.sub_list_tuple
    have hz' : (items ++ items2).size ≤ sizeLine + 1 := by rw [Array.size_append]; exact hs2
    wp_walk using (wpAny_updateSeq hl rfl (hz := hs1) (_hz' := hz')), wpAny_loadPart' hl, wpAny_loadPart' hb
    exact ⟨_, rfl, h⟩
def rExtendT (K : PySem.W.Frag) : V → List V → Hp → VK → Prop := fun x vs H Q => ∃ l b xs zs, x = .ref l ∧ vs = [.ref b] ∧ H l = some (.lst xs) ∧ SqT K H b zs ∧ xs.length + zs.length ≤ sizeLine ∧ Q .non (upd H l (.lst (xs ++ zs)))
theorem mt_extendT {X : Cx} : MtM X "list.extend" (rExtendT X.K) := by
  intro pins s σ H x vs v us Q I rx rv h
  obtain ⟨l, b, xs, zs, rfl, rfl, hH, hB, hz, q⟩ := h
  cases rx
  obtain ⟨u, rfl, ru⟩ := rv.one
  cases ru
  obtain ⟨z, its, n, r, hl, e⟩ := I.lstM hH
  obtain ⟨its2, r2, ⟨⟨cls, dd, data, sl⟩, ho, hc, n2, hd⟩, _⟩ := I.tuple hB
  simp only at hc hd
  subst hc hd
  have hl2 := r2.length
  have hsz : its.toArray.size + its2.toArray.size ≤ sizeLine := by rw [List.size_toArray, List.size_toArray]; omega
  have hlong : ¬ (!its.toArray.isEmpty && Builtin.List.listTooLong (its.toArray.size + its2.toArray.size)) = true := by
    rw [notLongL hsz, Bool.and_false]
    exact Bool.false_ne_true
  refine call_meets F.slot_list_extend ⟨_, e, rfl⟩ F.entry_list_extend (F.args_list_extend_2 _ _)
    (extend_tup l its.toArray n b its2.toArray n2 dd sl hlong (by rw [List.size_toArray]; omega) (by omega)) ⟨e, ho, ?_⟩
  refine ⟨.non, _, I.lset (its' := its ++ its2) hH e (by simp) (r.append r2) ?_, rfl, q⟩
  rw [List.length_append]
  omega
theorem so_extT {Φ : Dt → Prop} (hL : p ∈ L) (hlo : LooseP S SB p) (hj : ρ[j]? = some (some (.lat p xs))) (hx : nolA xs = true) (hn : Offs p ρ j) (h : Ev K S S ρ te (Eq (.tup ys))) (hy : nolA ys = true) (hz : xs.length + ys.length ≤ 100000)
    (k : Sg K S SB SF L w (ρ.set j (some (.lat p (xs ++ ys)))) P) : Sg K S SB SF L (tSeq (tDrop (tBM K "list" (rExtendT K) (tVar j) (tCons te tNil))) w) ρ P := fun D σ B H b i s f => by
  obtain ⟨v, hv, rv⟩ := s.val j _ hj
  obtain ⟨rfl, vs, hp, ra⟩ := rv.latI
  refine ⟨.ref p, hv, .inl ⟨rfl, _, SqL.of hp⟩, h σ H i s _ fun u d' H1 g1 i1 r1 e => ?_⟩
  subst e
  obtain ⟨b2, us, rfl, ht, rb⟩ := r1.tupI
  have hp1 : H1 p = some (.lst vs) := g1 _ _ hp rfl
  have ra1 := ra.mono g1
  refine ⟨p, b2, vs, us, rfl, rfl, hp1, ht, by rw [ra1.len, rb.len]; exact Nat.le_trans hz (by decide), ?_⟩
  exact sg_put (w := w) (D := D) hL hlo hj hn (b.up g1) i1 (s.mono g1) f hp1 ((ra1.off hp1 hx).app (rb.off hp1 hy)) k
/-- xs.extend([..]) -/
theorem so_extN (hL : p ∈ L) (hlo : LooseP S SB p) (hj : ρ[j]? = some (some (.lat p xs))) (hx : nolA xs = true) (hn : Offs p ρ j) (h : EvN K S S ρ te ys) (hy : nolA ys = true) (hz : xs.length + ys.length ≤ 100000)
    (k : Sg K S SB SF L w (ρ.set j (some (.lat p (xs ++ ys)))) P) : Sg K S SB SF L (tSeq (tDrop (tBM K "list" rExtend (tVar j) (tCons te tNil))) w) ρ P := fun D σ B H b i s f => by
  obtain ⟨v, hv, rv⟩ := s.val j _ hj
  obtain ⟨rfl, vs, hp, ra⟩ := rv.latI
  refine ⟨.ref p, hv, .inl ⟨rfl, _, SqL.of hp⟩, h σ H i s _ fun r us H1 H2 g1 _ _ g2 i2 e rb => ?_⟩
  have g := g1.trans g2
  have hp1 : H2 p = some (.lst vs) := g _ _ hp rfl
  have ra1 := ra.mono g
  refine ⟨p, r, vs, us, rfl, rfl, hp1, e, by rw [ra1.len, rb.len]; exact Nat.le_trans hz (by decide), ?_⟩
  exact sg_put (w := w) (D := D) hL hlo hj hn (b.up g) i2 (s.mono g) f hp1 ((ra1.off hp1 hx).app (rb.off hp1 hy)) k
theorem RepA.front {vs : List V} : ∀ {us : List V} {ds : List Dt} {d : Dt}, RepA K H us (ds ++ [d]) → RepA K H us.dropLast ds ∧ ∃ v, us[us.length - 1]? = some v ∧ Rep K H v d
  | _, [], _, .cons r .nil => ⟨.nil, _, rfl, r⟩
  | _, a :: ds, _, .cons (v := v) (vs := vs') r ra => by
    obtain ⟨h1, u, h2, h3⟩ := RepA.front (vs := vs) ra
    have hne : vs' ≠ [] := fun e => by rw [e] at h2; simp at h2
    refine ⟨by rw [List.dropLast_cons_of_ne_nil hne]; exact .cons r h1, u, ?_, h3⟩
    have hl : 0 < vs'.length := List.length_pos_iff.mpr hne
    rw [List.length_cons, Nat.add_sub_cancel]
    obtain ⟨m, hm⟩ : ∃ m, vs'.length = m + 1 := ⟨vs'.length - 1, by omega⟩
    rw [hm, List.getElem?_cons_succ]
    rwa [hm, Nat.add_sub_cancel] at h2
/-- xs.pop() -/
theorem so_pop (hL : p ∈ L) (hlo : LooseP S SB p) (hj : ρ[j]? = some (some (.lat p (xs ++ [d])))) (hx : nolA xs = true) (hn : Offs p ρ j)
    (k : Sg K S SB SF L w (ρ.set j (some (.lat p xs))) P) : Sg K S SB SF L (tSeq (tDrop (tBM0 K "list" rPop (tVar j))) w) ρ P := fun D σ B H b i s f => by
  obtain ⟨v, hv, rv⟩ := s.val j _ hj
  obtain ⟨rfl, vs, hp, ra⟩ := rv.latI
  obtain ⟨h1, u, h2, h3⟩ := RepA.front (vs := vs) ra
  refine ⟨.ref p, hv, .inl ⟨rfl, _, SqL.of hp⟩, p, vs, u, rfl, rfl, hp, h2, ?_⟩
  exact sg_put (w := w) (D := D) hL hlo hj hn b i s f hp (h1.off hp hx) k
/-- xs[i], by values -/
theorem get_list {X : Cx} : PGet X (rIxL X.K) := by
  intro pins s σ H x y v u Q I rx ry h
  obtain ⟨p, xs, i, z, rfl, rfl, hq, he, q⟩ := h
  cases rx
  obtain ⟨t, rfl⟩ := ry
  obtain ⟨its, r, pl, hz⟩ := I.list hq
  obtain ⟨j, h1, h2, h3, h4, h5⟩ := atI_get he
  obtain ⟨w, ew, rw'⟩ := r.get h2
  have hl := r.length
  have hn := line63
  have fin : EP X pins σ Q w s := ⟨z, H, I, rw', q⟩
  by_cases h0 : 0 ≤ i
  · have hj : i.toNat = j := by
      rw [seqIndex_of h0 h5] at h1
      exact Option.some.inj h1
    exact wpAny_getItem_list pl.isList h0 (by omega) (by rw [hj]; simpa using ew) fin
  · have hj : (i + (its.toArray.size : Int)).toNat = j := by
      rw [seqIndex_neg (by omega) h4] at h1
      rw [List.size_toArray, ← hl]
      exact Option.some.inj h1
    exact wpAny_getItem_list_neg pl.isList (by omega) (by rw [List.size_toArray] <;> omega) (by omega) (by rw [hj]; simpa using ew) fin
theorem RepA.setI {vs : List V} {ds : List Dt} (r : RepA K H vs ds) {i : Nat} {v : V} {d : Dt} (rv : Rep K H v d) : RepA K H (vs.set i v) (ds.set i d) := by
  induction ds generalizing vs i with
  | nil => cases r; exact .nil
  | cons x xs ih =>
    cases r with
    | cons r0 ra =>
      cases i with
      | zero => exact .cons rv ra
      | succ i => exact .cons r0 (ih ra)
theorem set_last {α : Type} (xs : List α) (a b : α) : (xs ++ [a]).set xs.length b = xs ++ [b] := by
  rw [List.set_append_right _ _ (Nat.le_refl _), Nat.sub_self]
  rfl
/-- xs[-1] += e -/
theorem so_aug {n m : Int} (hL : p ∈ L) (hlo : LooseP S SB p) (hj : ρ[j]? = some (some (.lat p (xs ++ [.int n])))) (hx : nolA xs = true) (hn : Offs p ρ j) (h : Ev K S S ρ te (Eq (.int m)))
    (k : Sg K S SB SF L w (ρ.set j (some (.lat p (xs ++ [.int (n + m)])))) P) : Sg K S SB SF L (tSeq (tAugS (tVar j) (tUn (rU fun i => .int (-i)) (tC (.int 1))) te (rIxL K) (ipI fun i j => i + j) rSetL) w) ρ P := fun D σ B H b i s f => by
  obtain ⟨v, hv, rv⟩ := s.val j _ hj
  obtain ⟨rfl, vs, hp, ra⟩ := rv.latI
  have hl : vs.length = xs.length + 1 := by rw [ra.len, List.length_append]; rfl
  obtain ⟨u, hu, ru⟩ := ra.at_ (i := xs.length) (d := .int n) (by simp)
  obtain rfl := ru.intI
  have ha : atI vs (-1) = some (.int n) := by
    unfold atI
    have : ixN vs.length (-1) = some xs.length := by
      unfold ixN
      rw [if_neg (by decide), if_pos (by omega)]
      congr 1
      omega
    rw [this]
    exact hu
  refine ⟨.ref p, hv, 1, rfl, p, vs, -1, .int n, rfl, rfl, SqL.of hp, ha, h σ H i s _ fun u d' H1 g1 i1 r1 e => ?_⟩
  subst e
  obtain rfl := r1.intI
  have hp1 : H1 p = some (.lst vs) := g1 _ _ hp rfl
  have ra1 := ra.mono g1
  refine ⟨n, m, rfl, rfl, p, vs, -1, xs.length, rfl, rfl, hp1, ?_, ?_⟩
  · unfold ixN
    rw [if_neg (by decide), if_pos (by omega)]
    congr 1
    omega
  · have hnol : nolA (xs ++ [.int n]) = true := by rw [nolA_app, hx]; rfl
    have := (ra1.off (o := .lst (vs.set xs.length (.int (n + m)))) hp1 hnol).setI (i := xs.length) (Rep.int (n + m))
    rw [set_last] at this
    exact sg_put (w := w) (D := D) hL hlo hj hn (b.up g1) i1 (s.mono g1) f hp1 this k
/-- x = a new list, no list of ours before -/
theorem so_newF {i : Nat} (h : EvN K S S1 ρ te xs) (l : S1.Le SF) (k : ∀ p, (∀ (i : Nat) (p' : Addr) (zs : List Dt), ρ[i]? = some (some (Dt.lat p' zs)) → p' ≠ p) → So K S1 SF [p] w (ρ.set i (some (.lat p xs))) P) : Sg K S SB SF L (tSeq (tAsg te (gName i)) w) ρ P := fun D σ B H b i s f =>
  h σ H i s _ fun p vs H1 H2 g1 i1 hp g2 i2 e r => k p (fun i p' zs e2 e3 => by
      obtain ⟨v, _, rv⟩ := (s.mono g1).val i _ e2
      obtain ⟨_, vs', hp', _⟩ := rv.latI
      rw [e3, hp] at hp'
      cases hp') D _ H1 H2 ⟨g2, l _ i1, fun a ha => by rw [List.mem_singleton.mp ha]; exact hp⟩ i2 ((s.mono (g1.trans g2)).set (.lat e r) _) (f.mono (b.gr.trans g1))
/-! ### loops in which loose lists are changed -/
/-- .. and what is walked stays -/
def staT (K : PySem.W.Frag) (S : Sta) (a : Addr) (vs : List V) (xs : List Dt) : Sta := ⟨fun H => S.I H ∧ SqT K H a vs ∧ RepA K H vs xs, fun h s => ⟨S.st h.1 s, s.gr.sqT h.2.1, h.2.2.mono s.gr⟩⟩
theorem SqT.offP {a : Addr} {vs ws : List V} {o : HO} (hD : H p = some (.lst ws)) (q : SqT K H a vs) : SqT K (upd H p o) a vs := by
  rcases q with (q | ⟨o', q⟩) | q
  · exact .inl (.inl (upd_other hD q fun _ z => nomatch z))
  · exact .inl (.inr ⟨o', upd_other hD q fun _ z => nomatch z⟩)
  · exact .inr q
/-- for x in a tuple -/
theorem so_forTX (h : Ev K S S ρ tl (Eq (.tup xs))) (hx : nolA xs = true) (J : Nat → List (Option Dt) → Prop) (h0 : J 0 ρ)
    (hs : ∀ (S' : Sta), S'.Le S → (∀ S0 p, LooseP S S0 p → LooseP S' S0 p) → (S.Mu → S'.Mu) → ∀ i x ρ', xs[i]? = some x → J i ρ' → Sg K S' SB S' L t (ρ'.set j (some x)) { P with nx := J (i + 1), ct := J (i + 1), bk := P.nx })
    (hd : ∀ ρ', J xs.length ρ' → P.nx ρ') : Sg K S SB S L (tFor (iTup K tl) (gName j) t) ρ P := fun D σ B H b i s f =>
  h σ H i s _ fun v d H1 g1 i1 r1 p1 => by
    subst p1
    obtain ⟨a, vs, rfl, ht, ra⟩ := r1.tupI
    have le : (staT K S a vs xs).Le S := fun _ z => z.1
    have lo : ∀ S0 p, LooseP S S0 p → LooseP (staT K S a vs xs) S0 p := fun S0 p l => fun iB g hp e z => ⟨l iB g hp e z.1, SqT.offP e z.2.1, z.2.2.off e hx⟩
    have mu : S.Mu → (staT K S a vs xs).Mu := fun m => fun i1 g hD z => ⟨m i1.1 g hD z.1, (gr_off g hD).sqT i1.2.1, i1.2.2.mono (gr_off g hD)⟩
    refine ⟨a, rfl, ⟨vs, ht⟩, for_tup (K := K) (a := a) (xs := vs) (fun n σ' H' => Gr B H' ∧ (staT K S a vs xs).I H' ∧ ∃ ρ', Slots K H' σ' ρ' ∧ J n ρ') ⟨b.gr.trans g1, ⟨i1, ht, ra⟩, ρ, s.mono g1, h0⟩ (fun n σ' H' _ p => p.2.1.2.1) (fun n x σ' H' hx p => ?_) fun σ' H' p => ?_⟩
    · obtain ⟨g2, i2, ρ', s2, jn⟩ := p
      obtain ⟨d, hd', rd⟩ := i2.2.2.ta hx
      refine hs _ le lo mu n d ρ' hd' jn _ _ B H' ⟨g2, b.i, b.new⟩ i2 (s2.set rd j) ⟨fun σ3 ρ3 H3 g3 i3 s3 q => ⟨g3, i3, ρ3, s3, q⟩, fun v3 d3 H3 g3 i3 => f.rt v3 d3 H3 g3 (le _ i3), fun σ3 ρ3 H3 g3 i3 s3 q => f.nx σ3 ρ3 H3 g3 (le _ i3) s3 q, fun σ3 ρ3 H3 g3 i3 s3 q => ⟨g3, i3, ρ3, s3, q⟩⟩
    · obtain ⟨g2, i2, ρ', s2, jn⟩ := p
      rw [ra.len] at jn
      exact f.nx σ' ρ' H' g2 i2.1 s2 (hd ρ' jn)
/-- a loop over zip of two lists -/
theorem for_zipM {K : PySem.W.Frag} {a b : Addr} {xs ys : List V} {g : TG} {tb : TS} {D : Ends} {σ : L2.St} {H : Hp} (Pv : Nat → L2.St → Hp → Prop) (h0 : Pv 0 σ H) (hq : ∀ i σ H, Pv i σ H → SqL K H a xs ∧ SqL K H b ys)
    (hs : ∀ (i : Nat) (x y : V) (T : Addr) (σ : L2.St) (H : Hp), xs[i]? = some x → ys[i]? = some y → Pv i σ H → H T = none → g (.ref T) σ (upd H T (.tup [x, y])) fun σ2 H2 => tb { D with nx := Pv (i + 1), ct := Pv (i + 1), bk := D.nx } σ2 H2) (hd : ∀ σ H, Pv (min xs.length ys.length) σ H → D.nx σ H) :
    ∃ Wk : Nat → Nat → L2.St → Hp → Prop, (∃ m, Wk 0 m σ H) ∧ ∀ i m σ H, Wk i m σ H →
      ((Itz K a b).stop i H ∧ D.nx σ H) ∨ ((Itz K a b).go i H ∧ ∃ Nx : L2.St → Hp → Prop, (∀ σ' H', Nx σ' H' → ∃ m2, m2 < m ∧ Wk (i + 1) m2 σ' H') ∧ ∀ v H', (Itz K a b).yld i H v H' → g v σ H' fun σ2 H2 => tb { D with nx := Nx, ct := Nx, bk := D.nx } σ2 H2) := by
  refine ⟨fun i m σ H => m = min xs.length ys.length - i ∧ i ≤ min xs.length ys.length ∧ Pv i σ H, ⟨_, rfl, Nat.zero_le _, h0⟩, ?_⟩
  rintro i m σ H ⟨rfl, hi, p⟩
  obtain ⟨qx, qy⟩ := hq i σ H p
  by_cases hlt : i < min xs.length ys.length
  · have l1 : i < xs.length := by omega
    have l2 : i < ys.length := by omega
    refine .inr ⟨⟨xs, ys, _, _, qx, qy, List.getElem?_eq_getElem l1, List.getElem?_eq_getElem l2⟩, Pv (i + 1), fun σ' H' p' => ⟨min xs.length ys.length - (i + 1), by omega, rfl, hlt, p'⟩, fun v H' y => ?_⟩
    obtain ⟨T, x2, y2, rfl, hT, rfl, f1, f2⟩ := y
    exact hs i x2 y2 T σ H (f1 xs qx) (f2 ys qy) p hT
  · have e : i = min xs.length ys.length := by omega
    refine .inl ⟨⟨xs, ys, qx, qy, by omega⟩, hd σ H (e ▸ p)⟩
def staZ (K : PySem.W.Frag) (S : Sta) (a c : Addr) (vs us : List V) (xs ys : List Dt) : Sta :=
  ⟨fun H => S.I H ∧ H a = some (.lst vs) ∧ RepA K H vs xs ∧ H c = some (.lst us) ∧ RepA K H us ys, fun h s => ⟨S.st h.1 s, s _ _ h.2.1, h.2.2.1.mono s.gr, s _ _ h.2.2.2.1, h.2.2.2.2.mono s.gr⟩⟩
/-- for x, y in zip(a list of ours, a new one) -/
theorem so_forZX {j1 j2 : Nat} (h1 : Ev K S S ρ t1 (Eq (.lat q xs))) (h2 : EvN K S S ρ t2 ys) (hx : nolA xs = true) (hy : nolA ys = true) (J : Nat → List (Option Dt) → Prop) (h0 : J 0 ρ)
    (hs : ∀ (S' : Sta) (r : Addr), S'.Le S → (∀ (i : Nat) (p : Addr) (zs : List Dt), ρ[i]? = some (some (Dt.lat p zs)) → p ≠ r) → (∀ S0 p, p ≠ q → p ≠ r → LooseP S S0 p → LooseP S' S0 p) → ∀ i x y ρ', xs[i]? = some x → ys[i]? = some y → J i ρ' →
      Sg K S' SB S' L t ((ρ'.set j1 (some x)).set j2 (some y)) { P with nx := J (i + 1), ct := J (i + 1), bk := P.nx })
    (hd : ∀ ρ', J (min xs.length ys.length) ρ' → P.nx ρ') : Sg K S SB S L (tFor (iZip K (tCons t1 (tCons t2 tNil))) (gTup K 2 (gCons (gName j1) (gCons (gName j2) gNil))) t) ρ P := fun D σ B H b i s f =>
  h1 σ H i s _ fun v d H1 g1 i1 r1 p1 => by
    subst p1
    refine h2 σ H1 i1 (s.mono g1) _ fun r us H2 H3 g2 _ hr g3 i3 hr3 rb => ?_
    obtain ⟨rfl, vs, ha, ra⟩ := r1.latI
    have g23 := g2.trans g3
    have ha3 : H3 q = some (.lst vs) := g23 _ _ ha rfl
    have ra3 := ra.mono g23
    have s3 := s.mono (g1.trans g23)
    have hq : q ≠ r := fun e => by
      have := g2 _ _ ha rfl
      rw [e, hr] at this
      cases this
    have hslots : ∀ (i : Nat) (p : Addr) (zs : List Dt), ρ[i]? = some (some (Dt.lat p zs)) → p ≠ r := fun i p zs e e2 => by
      obtain ⟨v, _, rv⟩ := (s.mono (g1.trans g2)).val i _ e
      obtain ⟨_, vs', hp, _⟩ := rv.latI
      rw [e2, hr] at hp
      cases hp
    have le : (staZ K S q r vs us xs ys).Le S := fun _ z => z.1
    have lo : ∀ S0 p, p ≠ q → p ≠ r → LooseP S S0 p → LooseP (staZ K S q r vs us xs ys) S0 p := fun S0 p n1 n2 l => fun iB g hp e z =>
      ⟨l iB g hp e z.1, by rw [upd_ne (Ne.symm n1)]; exact z.2.1, z.2.2.1.off e hx, by rw [upd_ne (Ne.symm n2)]; exact z.2.2.2.1, z.2.2.2.2.off e hy⟩
    refine ⟨q, r, vs, us, rfl, SqL.of ha3, SqL.of hr3, for_zipM (K := K) (a := q) (b := r) (xs := vs) (ys := us) (fun n σ' H' => Gr B H' ∧ (staZ K S q r vs us xs ys).I H' ∧ ∃ ρ', Slots K H' σ' ρ' ∧ J n ρ') ⟨b.gr.trans (g1.trans g23), ⟨i3, ha3, ra3, hr3, rb⟩, ρ, s3, h0⟩
      (fun n σ' H' p => ⟨SqL.of p.2.1.2.1, SqL.of p.2.1.2.2.2.1⟩) (fun n x y T σ' H' hx' hy' p hT => ?_) fun σ' H' p => ?_⟩
    · obtain ⟨g4, i4, ρ', s4, jn⟩ := p
      obtain ⟨dx, hdx, rdx⟩ := i4.2.2.1.ta hx'
      obtain ⟨dy, hdy, rdy⟩ := i4.2.2.2.2.ta hy'
      have sn := same_new (o := .tup [x, y]) hT
      refine ⟨T, [x, y], rfl, SqT.of upd_same, rfl, names_run (is := [j1, j2]) (ds := [dx, dy]) (s4.mono sn.gr) (.cons (rdx.mono sn.gr) (.cons (rdy.mono sn.gr) .nil)) rfl fun σ5 s5 => ?_⟩
      refine hs _ r le hslots lo n dx dy ρ' hdx hdy jn _ _ B _ ⟨g4.trans sn.gr, b.i, b.new⟩ ((staZ K S q r vs us xs ys).st i4 sn) s5 ⟨fun σ3 ρ3 H3 g3 i3 s3 q => ⟨g3, i3, ρ3, s3, q⟩, fun v3 d3 H3 g3 i3 => f.rt v3 d3 H3 g3 (le _ i3), fun σ3 ρ3 H3 g3 i3 s3 q => f.nx σ3 ρ3 H3 g3 (le _ i3) s3 q, fun σ3 ρ3 H3 g3 i3 s3 q => ⟨g3, i3, ρ3, s3, q⟩⟩
    · obtain ⟨g4, i4, ρ', s4, jn⟩ := p
      rw [ra.len, rb.len] at jn
      exact f.nx σ' ρ' H' g4 i4.1 s4 (hd ρ' jn)
end
end Bf
namespace Bf
open PySem PySem.Spec PyProof.Rows L2
/-! ## a tuple times 0 or 1 -/
theorem mul_one (l : Addr) (items : Array Value) (n : Nat) (dd : Option Addr) (sl : Array (Option Value)) (u : Tok) :
    Meets (Builtin.«tuple.__mul__» ⟨[.ref l, .int 1 u], []⟩) (fun _ R s => s.heap.get? l = some { cls := .type "tuple", dict := dd, data := .seq items n, slots := sl } ∧ R (.ok (.ret (Value.ref l))) s) :=
  .of_wp fun prog w A R s h => by
    obtain ⟨hp, g, d, tk, os⟩ := s
    obtain ⟨hl, h⟩ := h
    have f1 := AutoSeq1.idx_int
    have c0 : (decide ((1 : Int) < -(2 ^ 63)) || decide ((1 : Int) ≥ 2 ^ 63)) = false := by decide
    have c1 : (items.isEmpty || (1 : Int) == 1) = true := by simp
    wp_walk using wpAny_loadPart' hl
    repeat (first
      | (refine wpAny_ite_false (decide_eq_false (by rw [c0]; exact Bool.false_ne_true)) ?_; wp_walk using wpAny_loadPart' hl)
      | (refine wpAny_ite_true (decide_eq_true c1) ?_; wp_walk using wpAny_loadPart' hl))
    exact ⟨_, rfl, h⟩
theorem mul_zero (l : Addr) (items : Array Value) (n : Nat) (dd : Option Addr) (sl : Array (Option Value)) (u : Tok) (hi : items.isEmpty = false) :
    Meets (Builtin.«tuple.__mul__» ⟨[.ref l, .int 0 u], []⟩) (fun _ R s => s.heap.get? l = some { cls := .type "tuple", dict := dd, data := .seq items n, slots := sl } ∧ R (.ok (.ret (Value.ref s.heap.objs.size))) { s with heap := s.heap.push { cls := Value.type "tuple", data := Data.seq #[] }, toks := s.toks }) :=
  .of_wp fun prog w A R s h => by
    obtain ⟨hp, g, d, tk, os⟩ := s
    obtain ⟨hl, h⟩ := h
    have f1 := AutoSeq1.idx_int
    have c0 : (decide ((0 : Int) < -(2 ^ 63)) || decide ((0 : Int) ≥ 2 ^ 63)) = false := by decide
    have c1 : (items.isEmpty || (0 : Int) == 1) = false := by rw [hi]; rfl
    have c2 : (decide ((0 : Int) ≤ 0) || items.isEmpty) = true := by rw [hi]; rfl
    wp_walk using wpAny_loadPart' hl
    repeat (first
      | (refine wpAny_ite_false (decide_eq_false (by rw [c0]; exact Bool.false_ne_true)) ?_; wp_walk using wpAny_loadPart' hl)
      | (refine wpAny_ite_false (decide_eq_false (by rw [c1]; exact Bool.false_ne_true)) ?_; wp_walk using wpAny_loadPart' hl)
      | (refine wpAny_ite_true (decide_eq_true c2) ?_; wp_walk using wpAny_loadPart' hl))
    exact ⟨_, rfl, h⟩
def rRep01 (K : PySem.W.Frag) : R2 := fun x y H Q => ∃ l k xs, x = .ref l ∧ y = .int k ∧ SqT K H l xs ∧ xs ≠ [] ∧ (k = 1 ∧ Q (.ref l) H ∨ k = 0 ∧ ∀ p, H p = none → Q (.ref p) (upd H p (.tup [])))
theorem op_rep01 {X : Cx} : OpR X (binaryOp .Mult) (rRep01 X.K) := by
  intro pins s σ H x y v u Q I rx ry h
  obtain ⟨l, k, xs, rfl, rfl, hT, hne, h1⟩ := h
  cases rx
  obtain ⟨t, rfl⟩ := ry
  obtain ⟨its, r, ⟨⟨cls, dd, data, sl⟩, ho, hc, n, hd⟩, hs⟩ := I.tuple hT
  simp only at hc hd
  subst hc hd
  have hle : its.length = xs.length := r.length.symm
  have hi : its.toArray.isEmpty = false := by
    cases its with
    | nil => exact absurd (List.eq_nil_of_length_eq_zero hle.symm) hne
    | cons a b => rfl
  refine wpAny_binaryOp_repeat_ref (T := "tuple") (U := "int") (by decide) ⟨_, ho, rfl⟩ (fun s' => typeIs_int s' k t) noFill_tuple_mul F.fills_int_mul F.slot_int_rmul repeat_tuple F.slot_int_index.lookup
    (call_meets F.slot_int_rmul (typeIs_int s k t) F.entry_int_rmul (F.args_int_rmul_2 _ _) (int_rmul_tuple k t l its.toArray n dd sl) ⟨ho, rfl, ⟨_, ho, rfl⟩, ?_⟩)
  rcases h1 with ⟨rfl, q⟩ | ⟨rfl, q⟩
  · exact call_meets F.slot_tuple_mul ⟨_, ho, rfl⟩ F.entry_tuple_mul (F.args_tuple_mul_2 _ _) (mul_one l its.toArray n dd sl t) ⟨ho, .ref l, H, I, rfl, q⟩
  · refine call_meets F.slot_tuple_mul ⟨_, ho, rfl⟩ F.entry_tuple_mul (F.args_tuple_mul_2 _ _) (mul_zero l its.toArray n dd sl t hi) ⟨ho, ?_⟩
    exact ⟨.ref s.heap.objs.size, _, I.laid (t' := s.toks) (o := .tup []) (fun b ob q => Heap.get?_push_of_some _ q) (Nat.le_refl _) ⟨by rw [sizeLine_eq]; decide, _, .nil, IsTup.new _ _⟩, rfl, q _ (I.hok.fresh (Nat.le_refl _))⟩
theorem rv_rep01 {K : PySem.W.Frag} {S : Sta} {xs : List Dt} {b : Bool} (hx : xs ≠ []) : Rv2 K S (rRep01 K) (.tup xs) (.int (if b = true then 1 else 0)) (Eq (.tup (if b = true then xs else []))) := fun H v u i r1 r2 Q q => by
  obtain ⟨a, vs, rfl, ht, ra⟩ := r1.tupI
  obtain rfl := r2.intI
  refine ⟨a, _, vs, rfl, rfl, ht, fun e => ?_, ?_⟩
  · rw [e] at ra
    cases ra
    exact hx rfl
  · cases b with
    | true => exact .inl ⟨rfl, q _ _ H (Gr.refl H) i (.tup ht ra) rfl⟩
    | false => exact .inr ⟨rfl, fun p hp => q _ _ _ (same_new hp).gr (S.st i (same_new hp)) (.tup (SqT.of upd_same) .nil) rfl⟩
end Bf
namespace Bf
open PySem PySem.Spec PyProof.Rows L2
/-! ## Promises by a relation -/
section
variable {K : PySem.W.Frag} {S S1 S2 SB SF : Sta} {L : List Addr} {ρ : List (Option Dt)} {P : Po} {te tl : TE} {w t : TS} {d : Dt} {j : Nat} {vs : List Nat} {xs : List Dt}
def spR (K : PySem.W.Frag) (n : Nat) (R : List Dt → Dt → Prop) : Sp := fun vs H Q _ => ∃ ds d, RepA K H vs ds ∧ ds.length = n ∧ R ds d ∧ ∀ v H', Same H H' → Rep K H' v d → Q v H'
theorem ev_callR {t : TA} {ds : List Dt} {n : Nat} {R : List Dt → Dt → Prop} {E : XK} (ha : EvA K S S1 ρ t (Eq ds)) (hn : ds.length = n) (hp : R ds d) : Ev K S S1 ρ (tCall (spR K n R) [] E t) (Eq d) := fun σ H i s Q q =>
  ha σ H i s _ fun vs ds' H1 g1 i1 r1 p1 => by
    subst p1
    rw [List.append_nil]
    exact ⟨ds, d, r1, hn, hp, fun v H2 sm r => q v _ H2 (g1.trans sm.gr) (S1.st i1 sm) r rfl⟩
theorem ev_callRW {t : TA} {ds es : List Dt} {n m : Nat} {gV : List V → List V} {R : List Dt → Dt → Prop} {E : XK} (ha : EvA K S S1 ρ t (Eq es)) (hm : es.length = m) (hg : ∀ H vs, RepA K H vs es → RepA K H (gV vs) ds) (hn : ds.length = n) (hp : R ds d) :
    Ev K S S1 ρ (tCallW (spR K n R) m gV E t) (Eq d) := fun σ H i s Q q =>
  ha σ H i s _ fun vs ds' H1 g1 i1 r1 p1 => by
    subst p1
    exact ⟨r1.len.trans hm, ds, d, hg _ _ r1, hn, hp, fun v H2 sm r => q v _ H2 (g1.trans sm.gr) (S1.st i1 sm) r rfl⟩
def spM (K : PySem.W.Frag) (n : Nat) (R : List Dt → List Dt → Prop) : Sp := fun vs H Q _ => ∃ ds xs, RepA K H vs ds ∧ ds.length = n ∧ R ds xs ∧ ∀ p us H', Same H H' → H p = none → H' p = some (.lst us) → RepA K H' us xs → Q (.ref p) H'
theorem en_callR {t : TA} {ds : List Dt} {n : Nat} {R : List Dt → List Dt → Prop} {E : XK} (ha : EvA K S S1 ρ t (Eq ds)) (hn : ds.length = n) (hp : R ds xs) : EvN K S S1 ρ (tCall (spM K n R) [] E t) xs := fun σ H i s Q q =>
  ha σ H i s _ fun vs ds' H1 g1 i1 r1 p1 => by
    subst p1
    rw [List.append_nil]
    exact ⟨ds, xs, r1, hn, hp, fun p us H2 sm hp e r => q p us H1 H2 g1 i1 hp sm.gr (S1.st i1 sm) e r⟩
theorem en_callRW {t : TA} {ds es : List Dt} {n m : Nat} {gV : List V → List V} {R : List Dt → List Dt → Prop} {E : XK} (ha : EvA K S S1 ρ t (Eq es)) (hm : es.length = m) (hg : ∀ H vs, RepA K H vs es → RepA K H (gV vs) ds) (hn : ds.length = n) (hp : R ds xs) :
    EvN K S S1 ρ (tCallW (spM K n R) m gV E t) xs := fun σ H i s Q q =>
  ha σ H i s _ fun vs ds' H1 g1 i1 r1 p1 => by
    subst p1
    exact ⟨r1.len.trans hm, ds, xs, hg _ _ r1, hn, hp, fun p us H2 sm hp e r => q p us H1 H2 g1 i1 hp sm.gr (S1.st i1 sm) e r⟩
theorem okR {P : Program} {w : World} {mg : Str → Option Value} {base : Heap} {x qual : Str} {st : Stmt} {f : Addr} {fd : FuncData} {N ps : List Str} {k : Nat} {R : List Dt → Dt → Prop} (Fu : Fun K x qual st f fd) (Sc : FnScope N ps (defScope st))
    (hb : ∀ (cdv : Value) (A : Around) (out : List Env) (s : Shared) (H : Hp) (E : XK), Room k (A.deeper (envOfC qual (defScope st) s.heap.objs.size f cdv)) → A.guards = some [] →
      ∃ t, PSs (cxOf (L2.CX P w) P w K mg base N qual (defScope st) f cdv A out s H E).nox (defBody st) t ∧ ∀ (S : Sta), S.Mu → ∀ (ds : List Dt) (d : Dt), ds.length = ps.length → R ds d → So K S S [] t (startD N.length ds) { nx := fun _ => d = .non, rt := Eq d }) :
    GOk P w K mg base (k + 1) f fd ps (spR K ps.length R) := by
  refine okG Fu Sc (fun vs H Q E h => ?_) fun cdv A out s H vs Q E hr hg h => ?_
  · obtain ⟨ds, d, r, hl, _⟩ := h
    exact r.len.trans hl
  · obtain ⟨ds, d, r, hl, hp, q⟩ := h
    obtain ⟨t, ht, so⟩ := hb cdv A out s H E hr hg
    refine ⟨t, ht.nox, so (staSame H) staSame_mu ds d hl hp _ _ H H ⟨Gr.refl H, Same.refl H, fun _ z => nomatch z⟩ (Same.refl H) (slots_start r) ⟨fun σ ρ H' g i s' e => ?_, fun v d' H' g i r' e => ?_, fun _ _ _ _ _ _ z => z.elim, fun _ _ _ _ _ _ z => z.elim⟩⟩
    · exact q _ H' i ((show d = .non from e) ▸ .non)
    · exact q v H' i ((show d = d' from e) ▸ r')
theorem okM {P : Program} {w : World} {mg : Str → Option Value} {base : Heap} {x qual : Str} {st : Stmt} {f : Addr} {fd : FuncData} {N ps : List Str} {k : Nat} {R : List Dt → List Dt → Prop} (Fu : Fun K x qual st f fd) (Sc : FnScope N ps (defScope st))
    (hb : ∀ (cdv : Value) (A : Around) (out : List Env) (s : Shared) (H : Hp) (E : XK), Room k (A.deeper (envOfC qual (defScope st) s.heap.objs.size f cdv)) → A.guards = some [] →
      ∃ t, PSs (cxOf (L2.CX P w) P w K mg base N qual (defScope st) f cdv A out s H E).nox (defBody st) t ∧ ∀ (H0 : Hp) (ds xs : List Dt), ds.length = ps.length → R ds xs → So K (staSame H0) (staSame H0) [] t (startD N.length ds) { rt := fun d => ∃ p, d = .lat p xs ∧ H0 p = none }) :
    GOk P w K mg base (k + 1) f fd ps (spM K ps.length R) := by
  refine okG Fu Sc (fun vs H Q E h => ?_) fun cdv A out s H vs Q E hr hg h => ?_
  · obtain ⟨ds, xs, r, hl, _⟩ := h
    exact r.len.trans hl
  · obtain ⟨ds, xs, r, hl, hp, q⟩ := h
    obtain ⟨t, ht, so⟩ := hb cdv A out s H E hr hg
    refine ⟨t, ht.nox, so H ds xs hl hp _ _ H H ⟨Gr.refl H, Same.refl H, fun _ z => nomatch z⟩ (Same.refl H) (slots_start r) ⟨fun _ _ _ _ _ _ z => z.elim, fun v d H' g i r' e => ?_, fun _ _ _ _ _ _ z => z.elim, fun _ _ _ _ _ _ z => z.elim⟩⟩
    obtain ⟨p, rfl, hp⟩ := e
    obtain ⟨rfl, us, e, ra⟩ := r'.latI
    exact q p us H' i hp e ra
/-- return a new list -/
theorem so_retN0 {H0 : Hp} (h : EvN K (staSameQ H0) (staSameQ H0) ρ te xs) (l : (staSameQ H0).Le SF) (q : ∀ p, H0 p = none → P.rt (.lat p xs)) : Sg K (staSameQ H0) SB SF L (tRet te) ρ P := fun D σ B H b i s f =>
  h σ H i s _ fun p vs H1 H2 g1 i1 hp g2 i2 e r => f.rt _ _ H2 ((b.gr.trans g1).trans g2) (l _ i2) (.lat e r) (q p (same_none i1 hp))
theorem so_retN1 {H0 : Hp} (h : EvN K (staSameQ H0) (staSameQ H0) ρ te xs) (l : (staSameQ H0).Le SF) (q : ∀ p, H0 p = none → P.rt (.lat p xs)) : Sg K (staSameQ H0) SB SF L (tSeq (tRet te) w) ρ P := fun D σ B H b i s f =>
  h σ H i s _ fun p vs H1 H2 g1 i1 hp g2 i2 e r => f.rt _ _ H2 ((b.gr.trans g1).trans g2) (l _ i2) (.lat e r) (q p (same_none i1 hp))
/-- list(a tuple), a new list -/
theorem en_listT (h : Ev K S S1 ρ te (Eq (.tup xs))) : EvN K S S1 ρ (tCB (rLstO K) (tCons te tNil)) xs := fun σ H i s Q q =>
  h σ H i s _ fun v d H1 g1 i1 r1 e => by
    subst e
    obtain ⟨a, us, rfl, ht, ra⟩ := r1.tupI
    exact ⟨a, us, rfl, .inr ht, fun p hp => q p us H1 _ g1 i1 hp (same_new hp).gr (S1.st i1 (same_new hp)) upd_same (ra.mono (same_new hp).gr)⟩
/-- a slice of a list, a new list -/
theorem en_slL {tl th : TO} {lo hi : Option Int} (ha : Ev K S S1 ρ te (Eq (.lst xs))) (hl : EvO K S1 S2 ρ tl (Eq lo)) (hh : EvO K S2 S2 ρ th (Eq hi)) : EvN K S S2 ρ (tSl (rSlL K) te tl th) (cutD xs lo hi) := fun σ H i s Q q =>
  ha σ H i s _ fun v d H1 g1 i1 r1 p1 => hl σ H1 i1 (s.mono g1) _ fun o2 H2 g2 i2 p2 => hh σ H2 i2 (s.mono (g1.trans g2)) _ fun o3 H3 g3 i3 p3 => by
    subst p1 p2 p3
    obtain ⟨a, us, rfl, h, ra⟩ := r1.lstI
    have g23 := g2.trans g3
    exact ⟨a, us, rfl, g23.sqL h, fun p hp => q p _ H3 _ (g1.trans g23) i3 hp (same_new hp).gr (S2.st i3 (same_new hp)) upd_same ((cut_rep (ra.mono g23) lo hi).mono (same_new hp).gr)⟩
/-- [te for x in a tuple], a new list -/
theorem en_lcT {f : Dt → Dt} (hmu : S.Mu) (h : Ev K S S ρ tl (Eq (.tup xs))) (hj : j ∈ vs) (hz : xs.length ≤ 100000)
    (he : ∀ x ∈ xs, Ev K S S ((wipeD ρ vs).set j (some x)) te (Eq (f x))) (hf : ∀ x ∈ xs, nol (f x) = true) : EvN K S S ρ (tLc (iTup K tl) (gName j) tYes te vs) (xs.map f) := fun σ H i s Q q =>
  h σ H i s _ fun v d H1 g1 i1 r1 p1 => by
    subst p1
    obtain ⟨a, us, rfl, hT, ra⟩ := r1.tupI
    refine ⟨a, rfl, ⟨us, hT⟩, fun D hD => lc_tup (K := K) (a := a) (xs := us) (fun n H' => Gr H1 H' ∧ S.I H' ∧ ∃ acc, H' D = some (.lst acc) ∧ RepA K H' acc ((xs.take n).map f)) ⟨(same_new hD).gr, S.st i1 (same_new hD), [], upd_same, .nil⟩
      (fun n H' _ q' => q'.1.sqT hT) (fun n x H' hx q' => ?_) fun H' q' => ?_⟩
    · obtain ⟨g2, i2, acc, ha, rac⟩ := q'
      obtain ⟨dx, hdx, rdx⟩ := ra.ta hx
      have hmem : dx ∈ xs := List.mem_of_getElem? hdx
      have htake : xs.take (n + 1) = xs.take n ++ [dx] := by rw [List.take_add_one, hdx]; rfl
      have hnol : nolA ((xs.take n).map f) = true := nolA_all.mpr fun y hy => by
        obtain ⟨z, hz1, rfl⟩ := List.mem_map.mp hy
        exact hf z (List.mem_of_mem_take hz1)
      refine lc_turns (g := σ) (Z := fun _ _ => True) (i := n) (acc := acc) (ds := (xs.take n).map f) (dx := dx) (p := true) (Φ := Eq (f dx)) (S := S) (S1 := S) (fun g i => hmu i1 g hD i) (Sta.Le.refl S) hD hj (s.mono g1) g2 i2 ha rac hnol (rdx.mono g2) ?_ et_yes (fun e => (he dx hmem).weak fun d e2 => ⟨e2, e2 ▸ hf dx hmem⟩) (fun e H2 acc' d e1 _ g3 i3 h3 r3 => ?_) fun e => nomatch e
      · rw [List.length_map]
        refine Nat.lt_of_le_of_lt (List.length_take_le _ _) (Nat.lt_of_le_of_lt (Nat.le_trans (Nat.le_of_lt ?_) hz) (by decide))
        exact (List.getElem?_eq_some_iff.mp hdx).1
      · subst e1
        refine ⟨g3, i3, acc', h3, ?_⟩
        rw [htake, List.map_append]
        exact r3
    · obtain ⟨g2, i2, acc, ha, rac⟩ := q'
      rw [ra.len, List.take_length] at rac
      exact q D acc H1 H' g1 i1 hD g2 i2 ha rac
end
end Bf
namespace Bf
open PySem PySem.Spec PyProof.Rows L2
/-! ## raise C(e), C an own error with a field -/
/-- what is known of the class at C, by the name x -/
structure BadCls (prog : Program) (K : PySem.W.Frag) (mg : Str → Option Value) (x f : Str) (C fI : Addr) : Prop where
  T : BadTxt prog K f C fI
  gC : mg x = some (.ref C)
  kC : PySem.W.keepIn K (.ref C) = true
  exC : PySem.W.subIn K (.ref C) (.type "BaseException") = some true
  tyC : PySem.W.typeIn K (.ref C) = some (.type "type")
  ga : PySem.W.findIn K (.ref C) "__getattribute__" = some (some (.builtin "BaseException.__getattribute__"))
  gg : PySem.W.findIn K (.ref C) "__getattr__" = some none
  hdC : PySem.W.hasDictIn K C = true
  te : PySem.W.exmOne K (.ref C) (.ref C) = some true
  ms : mg "super" = none
  top : (prog.main.scope.names.lookup ("super" : Str)).isSome = false
  fn : f ≠ "self" ∧ f ≠ "super" ∧ f ≠ "__class__" ∧ f ≠ "__debug__"
theorem relO_one {f : Str} {v : V} {v' : Value} (r : RelV v v') (g : Str) : RelO (List.lookup g [(f, v)]) (if g = f then some v' else none) := by
  by_cases h : g = f
  · subst h
    rw [if_pos rfl]
    have q : List.lookup g [(g, v)] = some v := by simp [List.lookup]
    rw [q]
    exact r
  · rw [if_neg h]
    have q1 : (g == f) = false := by simpa using h
    have q2 : List.lookup g [(f, v)] = none := by simp [List.lookup, q1]
    rw [q2]
    trivial
section
variable {X : Cx} {C fI : Addr} {x f : Str}
def tMkB (C : Addr) (f : Str) (ta : TA) : L2.St → Hp → XK → Prop := fun σ H Q => ta σ H fun vs H1 => ∃ v, vs = [v] ∧ ∀ d, H1 d = none → Q (.ref C) (some d) (upd H1 d (.xd [(f, v)]))
theorem pmk_bad {a : Expr} {ta : TA} {p pos : Pos} {k : Nat} (T : BadCls X.prog X.K X.mg x f C fI) (hr : Room k X.A) (ha : PA X [a] ta) (hg : Gl X x := by rfl) (hdb : (x == ("__debug__" : Str)) = false := by decide)
    (he : starEach (a :: []) X.env = (false, eval a X.env) :: starEach [] X.env := by rfl) (hpl : (backTo pos (starEach [] X.env)).any (·.1) = false := by rfl) :
    PMk X (.Call (.Name x p) [a] [] pos) (tMkB C f ta) := by
  intro pins s σ H Q I h
  refine wpAny_Call_Name_kw (ld_glob I hg T.gC ?_ hdb)
  refine PySem.W.callWith_K (h₀ := X.base) I.ok.mod.kin T.kC (thn (ha.run pos pins s σ H _ I h) fun us s1 hh => ?_) he hpl
  obtain ⟨vs, H1, I1, r1, v, rfl, q1⟩ := hh
  refine ⟨I1.kIn, ?_⟩
  obtain ⟨u, rfl, ru⟩ := r1.one
  show wpAny _ _ (call (.ref C) [u]) _ _ _
  have hlim := I1.nolimit
  obtain ⟨mb, hb1, hb2⟩ := I1.mod.blt
  have hg1 := I1.mod.glob.keeps I1.bk
  have hb3 := hb1.keeps I1.bk
  obtain ⟨hp, g, dr, tk, os⟩ := s1
  refine wpAny_call (bad_made T.T I1.kIn hlim hg1 hb3 T.ms ((hb2 _ (by decide)).trans (by first | rfl | decide +kernel)) T.top T.fn (by have := hr.dp; omega) fun h' tk' e d M => ?_)
  show MkP X pins σ Q (.ref e) ⟨h', g, dr, tk', os⟩
  obtain ⟨t1, hoe⟩ := M.obj
  obtain ⟨G', g1, g2⟩ := restrict h' fun b => decide (b ≠ e)
  have gk : ∀ b, b ≠ e → G'.get? b = h'.get? b := fun b hb => g1 b (decide_eq_true hb)
  have ge : G'.get? e = none := g2 e (by simp)
  have old : ∀ b o, hp.get? b = some o → G'.get? b = some o := fun b o q => (gk b (Nat.ne_of_lt (Nat.lt_of_lt_of_le (Heap.lt_size q) M.new))).trans (M.keep b o q)
  have ob : ObjOk X.prog X.w (upd H1 d (.xd [(f, v)])) G' d (.xd [(f, v)]) := ⟨_, M.ns.at (fun o q => (gk d M.dne).trans q), fun y => relO_one ru y⟩
  have J : Inv X pins σ (upd H1 d (.xd [(f, v)])) ⟨G', g, dr, tk', os⟩ := I1.laid (t' := tk') old M.dbig ob
  refine ⟨e, _, _, ⟨G', g, dr, tk', os⟩, _, .ref C, some d, rfl, J, fun b o q => ?_, ge, hoe, ⟨rfl, rfl⟩, rfl, rfl, ?_, rfl, I1.bare, raises_own T.exC T.tyC, q1 d (I1.hok.fresh M.dbig)⟩
  · by_cases hb : b = e
    · have q' : G'.get? b = some o := q
      rw [hb, ge] at q'
      cases q'
    · exact (gk b hb).symm.trans q
  · rw [upd_ne (Ne.symm M.dne)]
    exact I1.hok.fresh M.new
/-- raise C(e) -/
def tRaiseB (C : Addr) (f : Str) (W : WX) (ta : TA) : TS := fun _ σ H => tMkB C f ta σ H fun cls d H' => W cls d σ H'
theorem ps_raiseB {a : Expr} {ta : TA} {W : WX} {p pos pos2 : Pos} {k : Nat} (hc : X.calm = true) (T : BadCls X.prog X.K X.mg x f C fI) (hr : Room k X.A) (tk : Takes X W) (ha : PA X [a] ta) (hg : Gl X x := by rfl) (hdb : (x == ("__debug__" : Str)) = false := by decide)
    (he : starEach (a :: []) X.env = (false, eval a X.env) :: starEach [] X.env := by rfl) (hpl : (backTo pos (starEach [] X.env)).any (·.1) = false := by rfl) :
    PS X (.Raise (some (.Call (.Name x p) [a] [] pos)) none pos2) (tRaiseB C f W ta) := ps_raise hc tk (pmk_bad T hr ha hg hdb he hpl)
/-- n.f, n the error that the suite holds (at a; its class cls, its dict d) -/
def tFld (C : Addr) (f : Str) (a : Addr) (cls : Value) (d : Option Addr) (te : TE) : TE := fun σ H Q => te σ H fun y H1 => y = .ref a ∧ cls = .ref C ∧ ∃ (dd : Addr) (v : V), d = some dd ∧ H1 dd = some (.xd [(f, v)]) ∧ Q v H1
theorem pe_fld {a : Addr} {oe : Obj} {cls : Value} {d : Option Addr} {pn : List (Addr × Obj)} {e : Expr} {te : TE} {pos : Pos} (T : BadCls X.prog X.K X.mg x f C fI) (hz : Zc cls d oe) (hf : ∃ vs, oe.data = .fields vs) (he : PE (X.suite a ((a, oe) :: pn)) e te)
    (hb : attributeBase e f X.env (eval e X.env) = eval e X.env := by rfl) :
    PE (X.suite a ((a, oe) :: pn)) (.Attribute e f pos) (tFld C f a cls d te) := by
  refine ⟨fun pins s σ H Q I h => ?_⟩
  refine attr_of hb (thn (he.run pins s σ H _ I h) fun u s1 hq => ?_)
  obtain ⟨y, H1, I1, rx, rfl, rfl, dd, v, rfl, ea, q⟩ := hq
  obtain rfl : u = Value.ref a := rx
  obtain ⟨ha, _⟩ := I1.pin (a, oe) (List.mem_append_left _ List.mem_cons_self)
  obtain ⟨vs, hd⟩ := hf
  obtain ⟨mA, hns, hr⟩ := show ObjOk X.prog X.w H1 s1.heap dd (.xd [(f, v)]) from I1.hok dd _ ea
  obtain ⟨od, ho, hl⟩ := lookIn_ns hns
  have l : List.lookup f [(f, v)] = some v := by simp [List.lookup]
  obtain ⟨u, hu, ru⟩ := RelO.some_of (v := v) (o := mA f) (by rw [← l]; exact hr f)
  have J : PySem.W.InstAt s1.heap a oe C (some od) := ⟨ha, hz.1, by unfold PySem.W.notCls; rw [hd] <;> rfl, by rw [hz.2]; exact ho⟩
  exact HandSPX.exc_get I1.kIn J T.ga T.gg T.exC (PySem.W.findObj_own T.hdC T.T.noN rfl (by rw [hl, hu])) (handed_of ru) ⟨v, H1, I1.tok _, ru, q⟩
end
end Bf
namespace Bf
open PySem PySem.Spec PyProof.Rows L2
/-! ## Defs that raise, over data -/
section
variable {X : Cx} {k : Nat} {f : Addr} {fd : FuncData} {ps : List Str} {sp : Sp} {E : L2.St → XK} {x : Str} {p pos : Pos} {e : Expr} {es : List Expr} {t : TA}
/-- f(e, ..) in a try: what f lets out goes by the slots as they stand -/
theorem pe_gS (G : GOk X.prog X.w X.K X.mg X.base k f fd ps sp) (hb : BPos fd ps) (hm : X.mg x = some (.ref f)) (hk : PySem.W.keepIn X.K (.ref f) = true) (hr : Room k X.A) (hgd : X.A.guards = some []) (hx : ∀ σ, PassesAt (L2.CX X.prog X.w) X σ (E σ)) (ha : PA X (e :: es) t)
    (hg : Gl X x := by rfl) (hdb : (x == ("__debug__" : Str)) = false := by decide) (he : starEach (e :: es) X.env = (false, eval e X.env) :: starEach es X.env := by rfl) (hpl : (backTo pos (starEach es X.env)).any (·.1) = false := by rfl) :
    PE X (.Call (.Name x p) (e :: es) [] pos) (tCallS sp E t) := by
  refine ⟨fun pins s σ H Q I h => wpAny_Call_Name_kw (ld_glob I hg hm ?_ hdb)⟩
  refine PySem.W.callWith_K (h₀ := X.base) I.ok.mod.kin hk (thn (ha.run pos pins s σ H _ I h) fun us s1 ⟨vs, H1, I1, r, q⟩ => ⟨I1.kIn, ?_⟩) he hpl
  show wpAny _ _ (call (.ref f) us) _ _ _
  refine wpAny_call (codeAny_mono (G.go X.A X.stack s1 H1 ⟨us, []⟩ us vs Q (E σ) hr hgd I1.env0 (hb s1 us (r.length.symm.trans (G.len _ _ _ _ q))) r q) fun r' s' hq => ?_)
  match r', hq with
  | .error er, hq => exact hx σ pins H1 s1 er s' I1 hq
  | .ok (.ret u), hq => exact I1.after hq
  | .ok .next, hq => exact hq.elim
  | .ok .brk, hq => exact hq.elim
  | .ok .cont, hq => exact hq.elim
end
/-- what a call comes to -/
inductive Out where
  | ok (d : Dt)
  | er (C : Addr) (f : Str) (d : Dt)
def spX (K : PySem.W.Frag) (n : Nat) (R : List Dt → Out → Prop) : Sp := fun vs H Q E => ∃ ds o, RepA K H vs ds ∧ ds.length = n ∧ R ds o ∧ match o with
  | .ok d => ∀ v H', Same H H' → Rep K H' v d → Q v H'
  | .er C f d => ∀ a v H', Same H H' → H' a = some (.xd [(f, v)]) → Rep K H' v d → E (.ref C) (some a) H'
/-- E takes the error -/
def XW (K : PySem.W.Frag) (S : Sta) (C : Addr) (f : Str) (d : Dt) (E : XK) : Prop := ∀ a v H', S.I H' → H' a = some (.xd [(f, v)]) → Rep K H' v d → E (.ref C) (some a) H'
def PO : Out → Po
  | .ok d => { nx := fun _ => d = .non, rt := Eq d }
  | .er _ _ _ => {}
section
variable {K : PySem.W.Frag} {S S1 S2 SB SF : Sta} {L : List Addr} {ρ : List (Option Dt)} {P : Po} {te ta tb : TE} {tt : TT} {w t u : TS} {tl : TA} {d : Dt} {j n : Nat} {ds : List Dt} {R : List Dt → Out → Prop} {E : XK} {C : Addr} {f : Str}
theorem okX {Pg : Program} {w : World} {mg : Str → Option Value} {base : Heap} {x qual : Str} {st : Stmt} {g : Addr} {fd : FuncData} {N ps : List Str} {k : Nat} (Fu : Fun K x qual st g fd) (Sc : FnScope N ps (defScope st))
    (hb : ∀ (cdv : Value) (A : Around) (out : List Env) (s : Shared) (H : Hp) (E : XK), Room k (A.deeper (envOfC qual (defScope st) s.heap.objs.size g cdv)) → A.guards = some [] →
      ∃ t, PSs (cxOf (L2.CX Pg w) Pg w K mg base N qual (defScope st) g cdv A out s H E) (defBody st) t ∧ ∀ (S : Sta), S.Mu → ∀ (ds : List Dt) (o : Out), ds.length = ps.length → R ds o → (∀ C f d, o = .er C f d → XW K S C f d E) → So K S S [] t (startD N.length ds) (PO o)) :
    GOk Pg w K mg base (k + 1) g fd ps (spX K ps.length R) := by
  refine okG Fu Sc (fun vs H Q E h => ?_) fun cdv A out s H vs Q E hr hg h => ?_
  · obtain ⟨ds, o, r, hl, _⟩ := h
    exact r.len.trans hl
  · obtain ⟨ds, o, r, hl, hp, q⟩ := h
    obtain ⟨t, ht, so⟩ := hb cdv A out s H E hr hg
    have hw : ∀ C f d, o = .er C f d → XW K (staSame H) C f d E := fun C f d e a v H' i ha rv => by
      subst e
      exact q a v H' i ha rv
    refine ⟨t, ht, so (staSame H) staSame_mu ds o hl hp hw _ _ H H ⟨Gr.refl H, Same.refl H, fun _ z => nomatch z⟩ (Same.refl H) (slots_start r) ⟨fun σ ρ H' g i s' e => ?_, fun v d' H' g i r' e => ?_, fun σ ρ H' g i s' e => ?_, fun σ ρ H' g i s' e => ?_⟩⟩
    · cases o with
      | ok d => exact q _ H' i ((show d = .non from e) ▸ .non)
      | er => exact (show False from e).elim
    · cases o with
      | ok d => exact q v H' i ((show d = d' from e) ▸ r')
      | er => exact (show False from e).elim
    · cases o <;> exact (show False from e).elim
    · cases o <;> exact (show False from e).elim
/-- f(..) that comes back -/
theorem ev_callX (ha : EvA K S S1 ρ tl (Eq ds)) (hn : ds.length = n) (hp : R ds (.ok d)) : Ev K S S1 ρ (tCall (spX K n R) [] E tl) (Eq d) := fun σ H i s Q q =>
  ha σ H i s _ fun vs ds' H1 g1 i1 r1 p1 => by
    subst p1
    rw [List.append_nil]
    exact ⟨ds, .ok d, r1, hn, hp, fun v H2 sm r => q v _ H2 (g1.trans sm.gr) (S1.st i1 sm) r rfl⟩
theorem ev_callXS {Es : L2.St → XK} (ha : EvA K S S1 ρ tl (Eq ds)) (hn : ds.length = n) (hp : R ds (.ok d)) : Ev K S S1 ρ (tCallS (spX K n R) Es tl) (Eq d) := fun σ H i s Q q =>
  ha σ H i s _ fun vs ds' H1 g1 i1 r1 p1 => by
    subst p1
    exact ⟨ds, .ok d, r1, hn, hp, fun v H2 sm r => q v _ H2 (g1.trans sm.gr) (S1.st i1 sm) r rfl⟩
/-- te raises, whatever is wished of its value -/
def EvR (K : PySem.W.Frag) (S : Sta) (ρ : List (Option Dt)) (te : TE) : Prop := ∀ (σ : L2.St) (H : Hp), S.I H → Slots K H σ ρ → ∀ Q : VK, te σ H Q
def EvRA (K : PySem.W.Frag) (S : Sta) (ρ : List (Option Dt)) (t : TA) : Prop := ∀ (σ : L2.St) (H : Hp), S.I H → Slots K H σ ρ → ∀ Q : List V → Hp → Prop, t σ H Q
def EvRT (K : PySem.W.Frag) (S : Sta) (ρ : List (Option Dt)) (t : TT) : Prop := ∀ (σ : L2.St) (H : Hp), S.I H → Slots K H σ ρ → ∀ Q : Bool → Hp → Prop, t σ H Q
theorem er_callX (ha : EvA K S S1 ρ tl (Eq ds)) (hn : ds.length = n) (hp : R ds (.er C f d)) (hw : XW K S1 C f d E) : EvR K S ρ (tCall (spX K n R) [] E tl) := fun σ H i s Q =>
  ha σ H i s _ fun vs ds' H1 g1 i1 r1 p1 => by
    subst p1
    rw [List.append_nil]
    exact ⟨ds, .er C f d, r1, hn, hp, fun a v H2 sm ea rv => hw a v H2 (S1.st i1 sm) ea rv⟩
theorem er_op1 {r : R2} (h : EvR K S ρ ta) : EvR K S ρ (tOp r ta tb) := fun σ H i s Q => h σ H i s _
theorem er_op2 {r : R2} {Φ : Dt → Prop} (ha : Ev K S S1 ρ ta Φ) (h : EvR K S1 ρ tb) : EvR K S ρ (tOp r ta tb) := fun σ H i s Q => ha σ H i s _ fun v d H1 g1 i1 r1 p1 => h σ H1 i1 (s.mono g1) _
theorem er_args1 {tr : TA} (h : EvR K S ρ ta) : EvRA K S ρ (tCons ta tr) := fun σ H i s Q => h σ H i s _
theorem er_args2 {tr : TA} {Φ : Dt → Prop} (ha : Ev K S S1 ρ ta Φ) (h : EvRA K S1 ρ tr) : EvRA K S ρ (tCons ta tr) := fun σ H i s Q => ha σ H i s _ fun v d H1 g1 i1 r1 p1 => h σ H1 i1 (s.mono g1) _
theorem er_call {sp : Sp} {dvs : List V} (h : EvRA K S ρ tl) : EvR K S ρ (tCall sp dvs E tl) := fun σ H i s Q => h σ H i s _
theorem er_cb {r : List V → Hp → VK → Prop} (h : EvRA K S ρ tl) : EvR K S ρ (tCB r tl) := fun σ H i s Q => h σ H i s _
theorem er_test (h : EvR K S ρ ta) : EvRT K S ρ (tTest ta) := fun σ H i s Q => h σ H i s _
theorem er_B (h : EvR K S ρ ta) : EvRT K S ρ (tB ta) := fun σ H i s Q => h σ H i s _
theorem er_not {c : TT} (h : EvRT K S ρ c) : EvRT K S ρ (tNot c) := fun σ H i s Q => h σ H i s _
theorem so_dropR (h : EvR K S ρ te) : Sg K S SB SF L (tSeq (tDrop te) w) ρ P := fun D σ B H b i s ft => h σ H i s _
theorem so_setR {g : TG} (h : EvR K S ρ te) : Sg K S SB SF L (tSeq (tAsg te g) w) ρ P := fun D σ B H b i s ft => h σ H i s _
theorem so_set0R {g : TG} (h : EvR K S ρ te) : Sg K S SB SF L (tAsg te g) ρ P := fun D σ B H b i s ft => h σ H i s _
theorem so_retR (h : EvR K S ρ te) : Sg K S SB SF L (tRet te) ρ P := fun D σ B H b i s ft => h σ H i s _
theorem so_ret1R (h : EvR K S ρ te) : Sg K S SB SF L (tSeq (tRet te) w) ρ P := fun D σ B H b i s ft => h σ H i s _
theorem so_ifR {c : TT} (h : EvRT K S ρ c) : Sg K S SB SF L (tSeq (tIfS c t u) w) ρ P := fun D σ B H b i s ft => h σ H i s _
/-- raise C(e) -/
theorem so_raiseB (h : Ev K S S1 ρ te (Eq d)) (hw : XW K S1 C f d E) : Sg K S SB SF L (tRaiseB C f (fun cls d _ H => E cls d H) (tCons te tNil)) ρ P := fun D σ B H b i s ft =>
  h σ H i s _ fun v d' H1 g1 i1 r1 e => by
    subst e
    exact ⟨v, rfl, fun a ha => hw a v _ (S1.st i1 (same_new ha)) upd_same (r1.mono (same_new ha).gr)⟩
theorem so_raise1B (h : Ev K S S1 ρ te (Eq d)) (hw : XW K S1 C f d E) : Sg K S SB SF L (tSeq (tRaiseB C f (fun cls d _ H => E cls d H) (tCons te tNil)) w) ρ P := fun D σ B H b i s ft =>
  h σ H i s _ fun v d' H1 g1 i1 r1 e => by
    subst e
    exact ⟨v, rfl, fun a ha => hw a v _ (S1.st i1 (same_new ha)) upd_same (r1.mono (same_new ha).gr)⟩
/-! ### try .. except C as n -/
/-- .. and the error's dict is at a -/
def staD (K : PySem.W.Frag) (S : Sta) (a : Addr) (f : Str) (v : V) (d : Dt) : Sta := ⟨fun H => S.I H ∧ H a = some (.xd [(f, v)]) ∧ Rep K H v d, fun h s => ⟨S.st h.1 s, s _ _ h.2.1, h.2.2.mono s.gr⟩⟩
theorem Slots.none_ {H : Hp} {σ : L2.St} (s : Slots K H σ ρ) (j : Nat) : Slots K H (σ.set j none) (ρ.set j none) := by
  refine ⟨by rw [List.length_set, List.length_set]; exact s.len, fun i d h => ?_⟩
  by_cases hij : j = i
  · subst hij
    by_cases hl : j < ρ.length
    · rw [List.getElem?_set_self hl] at h
      cases h
    · rw [List.getElem?_eq_none (by rw [List.length_set]; omega)] at h
      cases h
  · rw [List.getElem?_set_ne hij] at h
    obtain ⟨v, hv, rv⟩ := s.val i d h
    exact ⟨v, by rw [List.getElem?_set_ne hij]; exact hv, rv⟩
/-- n.f in the suite -/
theorem ev_fld {a dd : Addr} {v : V} {i : Nat} (hi : ρ[i]? = some (some (.raw (.ref a)))) : Ev K (staD K S dd f v d) (staD K S dd f v d) ρ (tFld C f a (.ref C) (some dd) (tVar i)) (Eq d) := fun σ H h s Q q => by
  obtain ⟨v0, hv, rv⟩ := s.val i _ hi
  obtain rfl := rv.rawI
  exact ⟨.ref a, hv, rfl, rfl, dd, v, rfl, h.2.1, q v d H (Gr.refl H) h h.2.2 rfl⟩
variable {c : Value} {i : Nat} {tw : WX → TS} {ts : Addr → Value → Option Addr → TS} {Wout : WX}
/-- the body ends by itself -/
theorem so_tryOk (h : ∀ W, Sg K S SB SF L (tw W) ρ P) : Sg K S SB SF L (fun D σ H => tw (wAs K c i ts Wout D) D σ H) ρ P := fun D σ B H b hi s ft => h (wAs K c i ts Wout D) D σ B H b hi s ft
/-- the body raises, with the slots as they were -/
theorem so_tryEr (hm : PySem.W.exmOne K (.ref C) c = some true)
    (hb : ∀ (W : WX) (D : Ends) (σ : L2.St) (H : Hp), S.I H → Slots K H σ ρ → (∀ a v H', Gr H H' → S1.I H' → H' a = some (.xd [(f, v)]) → Rep K H' v d → W (.ref C) (some a) σ H') → tw W D σ H)
    (hs : ∀ (e a : Addr) (v : V), Sg K (staD K S1 a f v d) SB SF L (ts e (.ref C) (some a)) (ρ.set i (some (.raw (.ref e)))) { nx := fun ρ' => P.nx (ρ'.set i none), rt := P.rt, bk := fun ρ' => P.bk (ρ'.set i none), ct := fun ρ' => P.ct (ρ'.set i none) }) :
    Sg K S SB SF L (fun D σ H => tw (wAs K c i ts Wout D) D σ H) ρ P := fun D σ B H b hi s ft =>
  hb _ D σ H hi s fun a v H' g i' ha rv => ⟨true, hm, fun _ e he => hs e a v _ _ B H' (b.up g) ⟨i', ha, rv⟩ ((s.mono g).set (v := .ref e) (.raw _) i)
    ⟨fun σ' ρ' H2 g2 i2 s2 q => ft.nx _ _ H2 g2 i2 (s2.none_ i) q, ft.rt, fun σ' ρ' H2 g2 i2 s2 q => ft.bk _ _ H2 g2 i2 (s2.none_ i) q, fun σ' ρ' H2 g2 i2 s2 q => ft.ct _ _ H2 g2 i2 (s2.none_ i) q⟩, fun z => nomatch z⟩
/-! at one place: what is wished plays no part -/
section
variable {σ : L2.St} {H : Hp} {D : Ends}
theorem pr_callS {Es : L2.St → XK} (hi : S.I H) (hs : Slots K H σ ρ) (ha : EvA K S S1 ρ tl (Eq ds)) (hn : ds.length = n) (hp : R ds (.er C f d)) (hw : ∀ a v H', Gr H H' → S1.I H' → H' a = some (.xd [(f, v)]) → Rep K H' v d → Es σ (.ref C) (some a) H') (Q : VK) : tCallS (spX K n R) Es tl σ H Q :=
  ha σ H hi hs _ fun vs ds' H1 g1 i1 r1 e => by
    subst e
    exact ⟨ds, .er C f d, r1, hn, hp, fun a v H2 sm ea rv => hw a v H2 (g1.trans sm.gr) (S1.st i1 sm) ea rv⟩
theorem pr_args {tr : TA} (h : ∀ Q, ta σ H Q) (Q : List V → Hp → Prop) : (tCons ta tr) σ H Q := h _
theorem pr_cb {r : List V → Hp → VK → Prop} (h : ∀ Q, tl σ H Q) (Q : VK) : (tCB r tl) σ H Q := h _
theorem pr_op {r : R2} (h : ∀ Q, ta σ H Q) (Q : VK) : (tOp r ta tb) σ H Q := h _
theorem pr_test (h : ∀ Q, ta σ H Q) (Q : Bool → Hp → Prop) : (tTest ta) σ H Q := h _
theorem pr_if {c : TT} (h : ∀ Q, c σ H Q) (Q : VK) : (tIf c ta tb) σ H Q := h _
theorem pr_asg {g : TG} (h : ∀ Q, te σ H Q) : (tAsg te g) D σ H := h _
theorem pr_drop (h : ∀ Q, te σ H Q) : (tDrop te) D σ H := h _
theorem pr_ret (h : ∀ Q, te σ H Q) : (tRet te) D σ H := h _
end
end
end Bf
namespace Bf
open PySem PySem.Spec PyProof.Rows L2
/-! ## try .. except C as n, and except (C, D, ..) as n: the error that was caught is kept as a value -/
theorem errO_ok {P : Program} {w : World} {H : Hp} {h : Heap} {a : Addr} {cls : Value} {d : Option Addr} {oe : Obj} (e : h.get? a = some oe) (z : Zc cls d oe) (hv : ∃ vs, oe.data = .fields vs) : ObjOk P w H h a (ErrO cls d a) :=
  ⟨⟨oe, e, z, hv⟩, ⟨oe, e⟩, fun _ _ ⟨o, x1, x2, x3⟩ k => ⟨o, k o x1, x2, x3⟩⟩
section
variable {X : Cx} {pins pn' : List (Addr × Obj)} {σ : L2.St} {H : Hp} {s : Shared}
/-- the suite's error is tracked from now on -/
theorem inv_unsuiteK {a : Addr} {oe : Obj} {cls : Value} {d : Option Addr} (I : Inv (X.suite a ((a, oe) :: (X.pn ++ pins))) pn' σ H s) (ok : X.Ok) (z : Zc cls d oe) (hv : ∃ vs, oe.data = .fields vs) (n0 : X.s_0.heap.get? a = none) (np : ∀ p ∈ X.pn ++ pins, p.1 ≠ a) :
    Inv X pins σ (upd H a (ErrO cls d a)) s := by
  obtain ⟨ha, na, nL, nF, nC⟩ := I.pin (a, oe) (List.mem_append_left _ List.mem_cons_self)
  have ne0 : ∀ b o, X.s_0.heap.get? b = some o → b ≠ a := fun b o e q => by rw [q, n0] at e; cases e
  have nn : ∀ {b : Addr} {o : HO}, H b = some o → b ≠ a := fun e => ne_of_none e na
  refine ⟨ok, I.os, I.bare, ⟨I.base.keep, I.base.slot, fun b o e n q => ?_, I.base.there, fun b xs e => ?_, fun b o u e => ?_, fun b ps e => ?_⟩, I.loc, I.cell, ?_, fun x c e => ?_, fun p hp => ?_, fun b u e => ?_, I.len⟩
  · rw [upd_ne (ne0 b o e)]
    exact I.base.free b o e n q
  · have q := I.base.tups b xs e
    rw [upd_ne (nn q)]
    exact q
  · have q := I.base.frzs b o u e
    rw [upd_ne (nn q)]
    exact q
  · obtain ⟨m, q⟩ := I.base.tbls b ps e
    exact ⟨m, by rw [upd_ne (nn q)]; exact q⟩
  · rw [upd_ne (Ne.symm nL)]
    exact I.free
  · have hca : c ≠ a := fun q => by
      obtain ⟨v, o, ho, hd⟩ := I.cell x c e
      rw [q, ha] at ho
      cases ho
      exact nC v hd
    rw [upd_ne hca]
    exact I.freeC x c e
  · obtain ⟨e1, e2, e3⟩ := I.pin p (List.mem_append_left _ (List.mem_cons_of_mem _ hp))
    exact ⟨e1, by rw [upd_ne (np p hp)]; exact e2, e3⟩
  · by_cases hb : b = a
    · subst hb
      rw [upd_same] at e
      cases e
      exact errO_ok ha z hv
    · rw [upd_ne hb] at e
      exact (I.hok b u e).stay (fun _ _ _ q => q) (fun c q => by rw [upd_ne (nn q)]; exact q) fun c xs q => by rw [upd_ne (nn q)]; exact q
end
/-! ### what the clause names -/
section
variable {M : Model} {K : PySem.W.Frag}
theorem exm_tupN {cs : List Value} {cls : Value} {tp e : Addr} {b : Bool} {h : Heap} (X : K.In h) (LT : PySem.W.Looks M h (typeOf (.ref e)) cls) (hp : h.get? tp = some { cls := .type "tuple", data := .seq cs.toArray }) (hx : PySem.W.exmAny K cls cs = some b) :
    PySem.W.Looks M h (excMatches (.ref e) (.ref tp)) b := by
  intro A Q E s k₀ q
  obtain ⟨hh, g, d, tk, os⟩ := s
  have k : ∀ b o, h.get? b = some o → hh.get? b = some o := k₀
  have LT0 : PySem.W.Looks M h (isInstance (.ref tp) (.type "tuple")) true := ((PySem.W.Looks.ld hp).andThen .now).andThen (PySem.W.Looks.of_pure isSubtype_tuple_tuple)
  have one : ∀ (f : Value → PUnit → Sem (ForInStep PUnit)), (∀ c A E (Q : ForInStep PUnit → Shared → Prop), PySem.W.Looks M h (isExcClass c) true → Q (.yield PUnit.unit) ⟨hh, g, d, tk, os⟩ → wpAny M A (f c PUnit.unit) Q E ⟨hh, g, d, tk, os⟩) →
      ∀ (l : List Value) (b : Bool), PySem.W.exmAny K cls l = some b → ∀ {Q : PUnit → Shared → Prop} {E : Value → Shared → Prop} {A : Around}, Q PUnit.unit ⟨hh, g, d, tk, os⟩ → wpAny M A (forIn l PUnit.unit f) Q E ⟨hh, g, d, tk, os⟩ := by
    intro f hf l
    induction l with
    | nil =>
      intro b hb Q E A q
      rw [List.forIn_nil]
      exact wpAny_pure q
    | cons c r ih =>
      intro b hb Q E A q
      obtain ⟨b1, d1, x1, y1, z1⟩ := PySem.W.exmAny_cons hb
      rw [List.forIn_cons]
      exact wpAny_bind (hf c A E _ (PySem.W.exm_cls (M := M) X x1).1 (ih d1 y1 q))
  have two : ∀ (f : Value → Option Bool × Unit → Sem (ForInStep (Option Bool × Unit))), (∀ c v A E (Q : ForInStep (Option Bool × Unit) → Shared → Prop), PySem.W.Looks M h (isSubtype cls c) v → Q (if v = true then .done (some true, ()) else .yield (none, ())) ⟨hh, g, d, tk, os⟩ → wpAny M A (f c (none, ())) Q E ⟨hh, g, d, tk, os⟩) →
      ∀ (l : List Value) (b : Bool), PySem.W.exmAny K cls l = some b → ∀ {A : Around} {E : Value → Shared → Prop} {Q : Option Bool × Unit → Shared → Prop}, (∀ o, o = (if b = true then some true else none) → Q (o, ()) ⟨hh, g, d, tk, os⟩) → wpAny M A (forIn l (none, ()) f) Q E ⟨hh, g, d, tk, os⟩ := by
    intro f hf l
    induction l with
    | nil =>
      intro b hb A E Q q
      cases (show some false = some b from hb)
      rw [List.forIn_nil]
      exact wpAny_pure (q none rfl)
    | cons c r ih =>
      intro b hb A E Q q
      obtain ⟨b1, d1, x1, y1, z1⟩ := PySem.W.exmAny_cons hb
      rw [List.forIn_cons]
      refine wpAny_bind (hf c b1 A E _ (PySem.W.exm_cls (M := M) X x1).2 ?_)
      subst z1
      cases b1 with
      | true => exact wpAny_pure (q _ rfl)
      | false => exact ih d1 y1 q
  have LT0' := LT0.keeps k
  have LTk := LT.keeps k
  unfold excMatches
  refine wpAny_bind (LT0'.at ?_)
  dsimp only
  rw [if_pos rfl]
  have hp' := k _ _ hp
  first
    | refine wpAny_bind (wpAny_seqItems hp' rfl ?_)
    | refine wpAny_bind (wpAny_bind (wpAny_seqItems hp' rfl (wpAny_pure ?_)))
  dsimp only [Option.getD_some, Option.getD]
  refine wpAny_bind (wpAny_pure (wpAny_bind (one _ (fun c A E Q hl q => ?_) cs b hx ?_)))
  · refine wpAny_bind ((hl.keeps k).here ?_)
    simp only [Bool.not_true, Bool.false_eq_true, if_false]
    exact wpAny_pure q
  · refine wpAny_bind (LTk.here (wpAny_bind (two _ (fun c v A E Q hl q => ?_) cs b hx fun o ho => ?_)))
    · refine wpAny_bind ((hl.keeps k).here ?_)
      cases v with
      | true => exact wpAny_pure q
      | false => exact wpAny_pure q
    · subst ho
      cases b with
      | true => exact wpAny_pure q
      | false => exact wpAny_pure q
end
/-- the clause's expression names what m knows -/
def CatchT (X : Cx) (t : Expr) (m : Value → Option Bool) : Prop := ∀ (a : Addr) (oe : Obj) (pn : List (Addr × Obj)) (σ : L2.St) (H : Hp) (s : Shared) (cls : Value) (d : Option Addr) (b : Bool) (Q : Bool → Shared → Prop) (E : Value → Shared → Prop),
  Inv (X.suite a ((a, oe) :: pn)) [] σ H s → Zc cls d oe → m cls = some b → (∀ h', (∀ q o, s.heap.get? q = some o → h'.get? q = some o) → Q b { s with heap := h' }) →
  wpAny (model X.prog X.w) (X.A.mark (some (.ref a))) (eval t X.env) (fun c s1 => wpAny (model X.prog X.w) (X.A.mark (some (.ref a))) (excMatches (.ref a) c) Q E s1) E s
section
variable {X : Cx}
theorem lk_cls {a : Addr} {oe : Obj} {pn : List (Addr × Obj)} {σ : L2.St} {H : Hp} {s : Shared} {cls : Value} {d : Option Addr} (I : Inv (X.suite a ((a, oe) :: pn)) [] σ H s) (z : Zc cls d oe) : PySem.W.Looks (model X.prog X.w) s.heap (typeOf (.ref a)) cls :=
  fun A Q E s' k q => wpAny_typeOf_ref (k _ _ (I.pin (a, oe) (List.mem_append_left _ List.mem_cons_self)).1) (by rw [z.1]; exact q)
theorem catch_one {x : Str} {c : Value} {np : Pos} (hg : Gl X x) (hm : X.mg x = some c) (hd : (x == ("__debug__" : Str)) = false) : CatchT X (.Name x np) fun cls => PySem.W.exmOne X.K cls c := by
  intro a oe pn σ H s cls d b Q E I z hb q
  exact ld_glob (X := X.suite a ((a, oe) :: pn)) I hg hm ((PySem.W.exm_one I.kIn (lk_cls I z) hb).here (q s.heap fun _ _ e => e)) hd
theorem names_ev {a : Addr} {oe : Obj} {pn : List (Addr × Obj)} {σ : L2.St} {H : Hp} {s : Shared} {E : Value → Shared → Prop} {pos : Pos} (I : Inv (X.suite a ((a, oe) :: pn)) [] σ H s) : ∀ (ns : List (Str × Value × Pos)), (∀ p ∈ ns, Gl X p.1 ∧ X.mg p.1 = some p.2.1 ∧ (p.1 == ("__debug__" : Str)) = false) →
    ∀ {Q : List Value → Shared → Prop}, Q (ns.map (·.2.1)) s → wpAny (model X.prog X.w) (X.A.mark (some (.ref a))) (spliced (backTo pos (starEach (ns.map fun p => Expr.Name p.1 p.2.2) X.env))) Q E s
  | [], _, Q, q => wpAny_items_nil q
  | (x, c, p) :: r, hn, Q, q => by
    obtain ⟨h1, h2, h3⟩ := hn (x, c, p) List.mem_cons_self
    exact wpAny_items_cons (ld_glob (X := X.suite a ((a, oe) :: pn)) I h1 h2 (names_ev I r (fun p hp => hn p (List.mem_cons_of_mem _ hp)) q) h3)
theorem catch_tup {ns : List (Str × Value × Pos)} {ts : List Expr} {k : Nat} {pos : Pos} (hts : ts = ns.map fun p => Expr.Name p.1 p.2.2) (hl : ns.length ≤ sizeLine) (hn : ∀ p ∈ ns, Gl X p.1 ∧ X.mg p.1 = some p.2.1 ∧ (p.1 == ("__debug__" : Str)) = false) :
    CatchT X (.Tuple ts k pos) fun cls => PySem.W.exmAny X.K cls (ns.map (·.2.1)) := by
  intro a oe pn σ H s cls d b Q E I z hb q
  subst hts
  refine wpAny_Tuple (names_ev I ns hn ⟨by rw [List.length_map]; exact hl, ?_⟩)
  have up : ∀ q o, s.heap.get? q = some o → (s.heap.push { cls := .type "tuple", data := .seq (ns.map (·.2.1)).toArray }).get? q = some o := fun _ _ e => Heap.get?_push_of_some _ e
  exact (exm_tupN (I.kIn.keeps up) ((lk_cls I z).keeps up) (Heap.get?_push_size s.heap rfl) hb).here (q _ up)
end
/-! ### the rule -/
def endsK (D : Ends) (i : Nat) (a : Addr) (cls : Value) (d : Option Addr) : Ends :=
  { nx := fun σ' H' => H' a = none → D.nx (σ'.set i none) (upd H' a (ErrO cls d a)), rt := D.rt, bk := fun σ' H' => D.bk (σ'.set i none) H', ct := fun σ' H' => D.ct (σ'.set i none) H' }
/-- what «except t as n» wishes of an error of the body; the error is kept behind it -/
def wKp (m : Value → Option Bool) (i : Nat) (ts : Addr → Value → Option Addr → TS) (Wout : WX) (D : Ends) : WX := fun cls d σ H =>
  ∃ b, m cls = some b ∧ (b = true → ∀ a, H a = none → ts a cls d (endsK D i a cls d) (σ.set i (some (.ref a))) H) ∧ (b = false → Wout cls d σ H)
theorem fly_keeps {B : Heap} {l : List Env} {e : Addr} {Z : Obj → Prop} {h h' : Heap} (R : HandSPX.FlyingZ B l e Z h) (k : ∀ b o, h.get? b = some o → h'.get? b = some o) : HandSPX.FlyingZ B l e Z h' := by
  obtain ⟨x1, x2, x3, oe, us, T, oT, tt, y1, y2, y3, y4, y5, y6, y7, y8⟩ := R
  exact ⟨fun b o q => k b o (x1 b o q), x2, x3.of_keeps fun b o q _ => ⟨o, k b o q, rfl⟩, oe, us, T, oT, tt, k _ _ y1, y2, y3, y4, y5, y6, k _ _ y7, y8⟩
section
variable {X : Cx} {n : Str} {t : Expr} {m : Value → Option Bool} {i : Nat} {body suite : List Stmt} {b₀ : Stmt} {pos pos' : Pos} {tb : WX → TS} {ts : Addr → Value → Option Addr → TS} {Wout : WX}
theorem ps_try_kp (hs : X.stack = X.env :: X.outer) (hf : X.env.frame = some X.env.locals) (hex : X.ex = []) (hN : X.N.Nodup) (hi : X.N[i]? = some n) (hln : X.env.kindOf n = some .local) (hc : CatchT X t m) (tk : Takes X Wout)
    (hb : ∀ (W : WX) (pn : List (Addr × Obj)) (xe : Value → Shared → Prop), Takes (X.tr pn xe) W → PassesOwn (model X.prog X.w) X.A X.env xe → PSs (X.tr pn xe) body (tb W))
    (hsu : ∀ (a : Addr) (oe : Obj) (cls : Value) (d : Option Addr) (pn : List (Addr × Obj)), Zc cls d oe → (∃ vs, oe.data = .fields vs) → PSs (X.suite a ((a, oe) :: pn)) (b₀ :: suite) (ts a cls d)) :
    PS X (.Try body [.ExceptHandler (some t) (some n) (b₀ :: suite) pos'] [] [] pos) (fun D σ H => tb (wKp m i ts Wout D) D σ H) := by
  refine ⟨fun pins s σ H D I h => ?_⟩
  have kk := I.ok
  have frm : X.A.frames = some (X.env :: X.outer) := by rw [kk.frames, hs]
  have lcl : Loc X.env.scope n := .inl hln
  have run := (hb (wKp m i ts Wout D) (X.pn ++ pins) (fun e u => wpAny (model X.prog X.w) X.A (noteFrame e X.env) (fun _ u => wpAny (model X.prog X.w) X.A (setFlight e none) (fun _ u =>
    wpAny (model X.prog X.w) X.A (handleBy e X.env [.ExceptHandler (some t) (some n) (b₀ :: suite) pos']) (SP X pins D) X.xe u) X.xe u) X.xe u) (fun u s' xx => ?_) PassesOwn.looking).run [] s σ H D (I.toTry _) h
  · refine wpAny_Try_except (wpAny_mono run (fun fl s1 q => ?_) fun _ _ q => q)
    cases fl with
    | next => obtain ⟨σ', H', J, q⟩ := q; exact wpAny_execs_nil ⟨_, _, J.ofTry kk, q⟩
    | ret u => obtain ⟨v, σ', H', J, r, q⟩ := q; exact ⟨_, _, _, J.ofTry kk, r, q⟩
    | brk => obtain ⟨σ', H', J, q⟩ := q; exact ⟨_, _, J.ofTry kk, q⟩
    | cont => obtain ⟨σ', H', J, q⟩ := q; exact ⟨_, _, J.ofTry kk, q⟩
  · obtain ⟨a, B, sI, pns, σ', H', cls, d, rfl, J0, nb, up, sky, na, os, ag, b, hmt, yes, no⟩ := xx
    have J : Inv X pins σ' H' sI := J0.ofTry kk
    have sky1 : Sky B (X.env :: X.outer) a (Zc cls d) X.env.locals s'.heap := hs ▸ sky
    show wpAny (model X.prog X.w) X.A (noteFrame (.ref a) X.env) _ _ _
    refine Sky.land Zc.steady frm hf sky1 fun g fly upg => ?_
    have Jg : Inv X pins σ' H' { s' with heap := g } := J.landed nb fly.1 (up.trans upg) os ag
    obtain ⟨og, vg, hog, zog, dog⟩ := fly.there
    have nfr : a ∉ frs (X.env :: X.outer) := fun hm => by
      obtain ⟨_, o2, e2, hnf⟩ := fly.2.2.1.mem hm
      rw [hog] at e2
      cases e2
      exact hnf _ dog
    have nL : a ≠ X.env.locals := fun q => nfr (List.mem_filterMap.mpr ⟨_, List.mem_cons_self, by rw [hf, q]⟩)
    have nF : a ∉ X.fs := fun q => by
      obtain ⟨v, hv, e⟩ := List.mem_filterMap.mp q
      exact nfr (List.mem_filterMap.mpr ⟨v, List.mem_cons_of_mem _ hv, e⟩)
    have notB : ∀ o, sI.heap.get? a ≠ some o := fun o q => by
      have := nb a o q (by rw [hs]; exact nfr)
      rw [fly.2.1] at this
      cases this
    have n0 : X.s_0.heap.get? a = none := by
      cases e : X.s_0.heap.get? a with
      | none => rfl
      | some o =>
        obtain ⟨o2, q⟩ := J.base.there a o e (by rw [hex]; exact fun z => nomatch z)
        exact absurd q (notB o2)
    have np : ∀ p ∈ X.pn ++ pins, p.1 ≠ a := fun p hp q => notB p.2 (q ▸ (J.pin p hp).1)
    have Sg := Jg.suite hog dog na nL nF
    refine wpAny_handleBy_cons (codeAny_handlers_test ?_) (by intro q; cases q)
    refine hc a og (X.pn ++ pins) _ _ _ cls d b _ _ Sg zog hmt fun g2 kp => ?_
    have fly2 := fly_keeps fly kp
    have upk : g.UpToSlots g2 := Heap.UpToSlots.of_keeps kp
    cases b with
    | false =>
      show wpAny _ X.A (handleBy (.ref a) X.env []) _ _ _
      refine wpAny_handleBy_nil ?_
      obtain ⟨_, _, _, o5, v5, T, oT, t5, w1, _, w2, w3, _⟩ := id fly2
      unfold PySem.passOn
      refine wpAny_bind (wpAny_field w1 w2 w3 ?_)
      rw [if_neg (show ¬ ((Value.ref T == Value.none) = true) from by simp)]
      have out : wpAny (model X.prog X.w) X.A (setFlight (.ref a) X.env.frame) (fun _ u => wpAny (model X.prog X.w) X.A (throw (.ref a) : Sem Flow) (SP X pins D) X.xe u) X.xe { s' with heap := g2 } := by
        rw [hf]
        refine HandSPX.setFlight_upZ fly2 fun g4 held up4 => wpAny_throw (tk _ _ ⟨a, B, sI, pins, σ', H', cls, d, rfl, J, nb, ((up.trans upg).trans upk).trans up4, .inr (.inr (hs ▸ held)), na, os, ag, no rfl⟩)
      first
        | exact wpAny_bind (wpAny_pure (wpAny_bind out))
        | exact wpAny_bind out
    | true =>
      refine codeAny_handlers_suite_as (HandSPX.lands_againZ fly2 fun g4 fly4 up4 => ?_)
      have J4 : Inv X pins σ' H' { s' with heap := g4 } := J.landed nb fly4.1 (((up.trans upg).trans upk).trans up4) os ag
      obtain ⟨o4, v4, ho4, zo4, do4⟩ := fly4.there
      have S4 := J4.suite ho4 do4 na nL nF
      refine store_ok (X := X.suite a ((a, o4) :: (X.pn ++ pins))) (v := .ref a) S4 hN hi lcl rfl (fun s5 S5 => ?_) (.inr hln)
      refine wpAny_mono ((hsu a o4 cls d (X.pn ++ pins) zo4 ⟨_, do4⟩).run [] s5 _ H' _ S5 (yes rfl a na)) (fun fl s6 q => ?_) (fun _ _ q => q.elim)
      have fin : ∀ {σ6 : L2.St} {H6 : Hp} {R : Shared → Prop}, Inv (X.suite a ((a, o4) :: (X.pn ++ pins))) [] σ6 H6 s6 → (∀ s7, Inv X pins (σ6.set i none) H6 s7 → R s7) →
          wpAny (model X.prog X.w) X.A (do bindName X.env n .none; unbindBehindTheSuite X.env n pos') (fun _ s7 => R s7) X.xe s6 := fun S6 q => gone_ok (S6.unsuite kk) hN hi hln q
      cases fl with
      | next =>
        obtain ⟨σ6, H6, S6, q⟩ := q
        have S7 := inv_unsuiteK S6 kk zo4 ⟨_, do4⟩ n0 np
        exact gone_ok S7 hN hi hln fun s7 J7 => ⟨_, _, J7, q (S6.pin (a, o4) (List.mem_append_left _ List.mem_cons_self)).2.1⟩
      | brk => obtain ⟨σ6, H6, S6, q⟩ := q; exact fin S6 fun s7 J7 => ⟨_, _, J7, q⟩
      | cont => obtain ⟨σ6, H6, S6, q⟩ := q; exact fin S6 fun s7 J7 => ⟨_, _, J7, q⟩
      | ret u => obtain ⟨v, σ6, H6, S6, r, q⟩ := q; exact fin S6 fun s7 J7 => ⟨_, _, _, J7, r, q⟩
end
/-! ### what is read of it -/
structure KeepC (K : PySem.W.Frag) (f : Str) (C : Addr) : Prop where
  ga : PySem.W.findIn K (.ref C) "__getattribute__" = some (some (.builtin "BaseException.__getattribute__"))
  gg : PySem.W.findIn K (.ref C) "__getattr__" = some none
  ex : PySem.W.subIn K (.ref C) (.type "BaseException") = some true
  hd : PySem.W.hasDictIn K C = true
  no : PySem.W.findIn K (.ref C) f = some none
theorem BadCls.keepC {prog : Program} {K : PySem.W.Frag} {mg : Str → Option Value} {x f : Str} {C fI : Addr} (T : BadCls prog K mg x f C fI) : KeepC K f C := ⟨T.ga, T.gg, T.exC, T.hdC, T.T.noN⟩
/-- y.f, y an error that was kept -/
def tKFld (Cs : List Addr) (f : Str) (te : TE) : TE := fun σ H Q => te σ H fun y H1 => ∃ (a C dd : Addr) (v : V), y = .ref a ∧ C ∈ Cs ∧ H1 a = some (ErrO (.ref C) (some dd) a) ∧ H1 dd = some (.xd [(f, v)]) ∧ Q v H1
theorem pe_kfld {X : Cx} {Cs : List Addr} {f : Str} {e : Expr} {te : TE} {pos : Pos} (T : ∀ C ∈ Cs, KeepC X.K f C) (he : PE X e te) (hb : attributeBase e f X.env (eval e X.env) = eval e X.env := by rfl) : PE X (.Attribute e f pos) (tKFld Cs f te) := by
  refine ⟨fun pins s σ H Q I h => attr_of hb (thn (he.run pins s σ H _ I h) fun u s1 hq => ?_)⟩
  obtain ⟨y, H1, I1, rx, a, C, dd, v, rfl, hC, hA, hD, q⟩ := hq
  obtain rfl : u = Value.ref a := rx
  have T := T C hC
  obtain ⟨⟨oe, ha, hz, vs, hv⟩, _, _⟩ := show ObjOk X.prog X.w H1 s1.heap a (ErrO (.ref C) (some dd) a) from I1.hok a _ hA
  obtain ⟨mA, hns, hr⟩ := show ObjOk X.prog X.w H1 s1.heap dd (.xd [(f, v)]) from I1.hok dd _ hD
  obtain ⟨od, ho, hl⟩ := lookIn_ns hns
  have l : List.lookup f [(f, v)] = some v := by simp [List.lookup]
  obtain ⟨w, hw, rw⟩ := RelO.some_of (v := v) (o := mA f) (l ▸ hr f)
  have J : PySem.W.InstAt s1.heap a oe C (some od) := ⟨ha, hz.1, by unfold PySem.W.notCls; rw [hv] <;> rfl, by rw [hz.2]; exact ho⟩
  exact HandSPX.exc_get I1.kIn J T.ga T.gg T.ex (PySem.W.findObj_own T.hd T.no rfl (by rw [hl, hw])) (handed_of rw) ⟨v, H1, I1.tok _, rw, q⟩
end Bf
namespace Bf
open PySem PySem.Spec PyProof.Rows L2
/-! ## try .. except as e: x = e, over data -/
section
variable {K : PySem.W.Frag} {S S1 SB SF : Sta} {L : List Addr} {ρ : List (Option Dt)} {P : Po} {te : TE} {d : Dt} {f : Str} {C : Addr} {m : Value → Option Bool} {i j : Nat} {tw : WX → TS} {ts : Addr → Value → Option Addr → TS} {Wout : WX}
/-- the body ends by itself -/
theorem so_keepOk (h : ∀ W, Sg K S SB SF L (tw W) ρ P) : Sg K S SB SF L (fun D σ H => tw (wKp m i ts Wout D) D σ H) ρ P := fun D σ B H b hi s ft => h (wKp m i ts Wout D) D σ B H b hi s ft
/-- the body raises, with the slots as they were; the error goes to slot j -/
theorem so_keepEr (hm : m (.ref C) = some true) (hij : i ≠ j) (hil : i < ρ.length)
    (hb : ∀ (W : WX) (D : Ends) (σ : L2.St) (H : Hp), S.I H → Slots K H σ ρ → (∀ a v H', Gr H H' → S1.I H' → H' a = some (.xd [(f, v)]) → Rep K H' v d → W (.ref C) (some a) σ H') → tw W D σ H)
    (l : S1.Le SF) (q : P.nx ((ρ.set j (some (.err C f d))).set i none)) :
    Sg K S SB SF L (fun D σ H => tw (wKp m i (fun a cls d => tAsg (tVar i) (gName j)) Wout D) D σ H) ρ P := fun D σ B H b hi s ft =>
  hb _ D σ H hi s fun a v H' g i' ha rv => ⟨true, hm, fun _ e he => by
    have hl : i < σ.length := by rw [s.len]; exact hil
    refine ⟨.ref e, List.getElem?_set_self hl, fun hn => ?_⟩
    have sm := same_new (o := ErrO (.ref C) (some a) e) hn
    have s1 := ((s.mono g).mono sm.gr).set (v := .ref e) (d := .raw (.ref e)) (.raw _) i
    have s2 := (s1.set (v := .ref e) (d := .err C f d) (.err upd_same (sm _ _ ha) (rv.mono sm.gr)) j).none_ i
    have ee : ((ρ.set i (some (.raw (.ref e)))).set j (some (.err C f d))).set i none = (ρ.set j (some (.err C f d))).set i none := by
      rw [List.set_comm _ _ hij, List.set_set]
    rw [ee] at s2
    exact ft.nx _ _ _ ((b.gr.trans g).trans sm.gr) (l _ (S1.st i' sm)) s2 q, fun z => nomatch z⟩
/-- y.f -/
theorem ev_kfld {Cs : List Addr} (h : Ev K S S1 ρ te (Eq (.err C f d))) (hC : C ∈ Cs) : Ev K S S1 ρ (tKFld Cs f te) (Eq d) := fun σ H i s Q q =>
  h σ H i s _ fun v d' H1 g1 i1 r1 e => by
    subst e
    cases r1 with
    | err h1 h2 r => exact ⟨_, _, _, _, rfl, hC, h1, h2, q _ _ H1 g1 i1 r rfl⟩
end
end Bf
namespace Bf
open PySem PySem.Spec PyProof.Rows L2
/-! ## Small data may be compared and shown -/
mutual
/-- n deep, at most ten things each, ints below 10^12, texts of at most 40 signs -/
def gd : Nat → Dt → Bool
  | _, .non => true
  | _, .bl _ => true
  | _, .int i => decide (i.natAbs < 10 ^ 12)
  | _, .str x => x.cps.all (· < 0x110000) && decide (x.cps.size ≤ 40)
  | n + 1, .lst xs => gdA n xs && decide (xs.length ≤ 10)
  | n + 1, .tup xs => gdA n xs && decide (xs.length ≤ 10)
  | _, _ => false
def gdA : Nat → List Dt → Bool
  | _, [] => true
  | n, x :: xs => gd n x && gdA n xs
end
def wB : Nat → Nat
  | 0 => 64
  | n + 1 => 10 * (wB n + 1)
theorem wB_ge : ∀ n, 64 ≤ wB n
  | 0 => Nat.le_refl _
  | n + 1 => by have := wB_ge n; simp only [wB]; omega
theorem gdA_all {n : Nat} : ∀ {xs : List Dt}, gdA n xs = true ↔ ∀ x ∈ xs, gd n x = true
  | [] => by simp [gdA]
  | x :: xs => by simp [gdA, gdA_all]
structure GdW (n : Nat) (d : Dt) : Prop where
  p : pur d = true
  c : (py d).canLay0 = true
  t : (py d).depth ≤ n
  i : (py d).intsShort 13 = true
  s : (py d).showable = true
  w : (py d).weight ≤ wB n
structure GdWA (n m : Nat) (xs : List Dt) : Prop where
  p : purA xs = true
  c : PyData.canLayAll0 (pyA xs) = true
  t : PyData.depthAll (pyA xs) ≤ n
  i : PyData.intsShortAll 13 (pyA xs) = true
  s : PyData.showableAll (pyA xs) = true
  w : PyData.weightAll (pyA xs) ≤ m * (wB n + 1)
theorem log_lt {i : Int} (h : i.natAbs < 10 ^ 12) : i.natAbs.log2 < 40 := by
  by_cases h0 : i.natAbs = 0
  · rw [h0]; decide
  · exact (Nat.log2_lt h0).mpr (Nat.lt_trans h (by decide))
mutual
theorem gd_w : ∀ (n : Nat) (d : Dt), gd n d = true → GdW n d
  | n, .non, _ => ⟨rfl, rfl, Nat.zero_le _, rfl, rfl, Nat.zero_le _⟩
  | n, .bl b, _ => ⟨rfl, rfl, Nat.zero_le _, rfl, rfl, Nat.zero_le _⟩
  | n, .int i, h => by
    have h : i.natAbs < 10 ^ 12 := by simpa [gd] using h
    have hl := log_lt h
    refine ⟨rfl, rfl, Nat.zero_le _, ?_, ?_, ?_⟩
    · unfold py
      simp only [PyData.intsShort, decide_eq_true_eq]
      exact PyData.shown_int_le h
    · unfold py
      simp only [PyData.showable, decide_eq_true_eq]
      omega
    · unfold py
      simp only [PyData.weight]
      have := wB_ge n
      split <;> omega
  | n, .str x, h => by
    have h : x.cps.all (· < 0x110000) = true ∧ x.cps.size ≤ 40 := by simpa only [gd, Bool.and_eq_true, decide_eq_true_eq] using h
    refine ⟨rfl, ?_, Nat.zero_le _, rfl, rfl, ?_⟩
    · unfold py
      simp only [PyData.canLay0, PyData.strOk]
      exact h.1
    · unfold py
      simp only [PyData.weight]
      have := wB_ge n
      omega
  | n + 1, .lst xs, h => by
    simp only [gd, Bool.and_eq_true, decide_eq_true_eq] at h
    have g := gdA_w n xs h.1
    refine ⟨by unfold pur; exact g.p, by unfold py; simp only [PyData.canLay0]; exact g.c, by unfold py; simp only [PyData.depth]; have := g.t; omega, by unfold py; simp only [PyData.intsShort]; exact g.i, by unfold py; simp only [PyData.showable]; exact g.s, ?_⟩
    unfold py
    simp only [PyData.weight, wB]
    exact Nat.le_trans g.w (Nat.mul_le_mul_right _ h.2)
  | n + 1, .tup xs, h => by
    simp only [gd, Bool.and_eq_true, decide_eq_true_eq] at h
    have g := gdA_w n xs h.1
    refine ⟨by unfold pur; exact g.p, by unfold py; simp only [PyData.canLay0]; exact g.c, by unfold py; simp only [PyData.depth]; have := g.t; omega, by unfold py; simp only [PyData.intsShort]; exact g.i, by unfold py; simp only [PyData.showable]; exact g.s, ?_⟩
    unfold py
    simp only [PyData.weight, wB]
    exact Nat.le_trans g.w (Nat.mul_le_mul_right _ h.2)
  | 0, .lst xs, h => by simp [gd] at h
  | 0, .tup xs, h => by simp [gd] at h
  | n, .dic, h => by simp [gd] at h
  | n, .ins _ _ _, h => by simp [gd] at h
  | n, .raw _, h => by simp [gd] at h
  | n, .lat _ _, h => by simp [gd] at h
theorem gdA_w : ∀ (n : Nat) (xs : List Dt), gdA n xs = true → GdWA n xs.length xs
  | n, [], _ => ⟨rfl, rfl, Nat.zero_le _, rfl, rfl, Nat.zero_le _⟩
  | n, x :: xs, h => by
    simp only [gdA, Bool.and_eq_true] at h
    have g := gd_w n x h.1
    have r := gdA_w n xs h.2
    refine ⟨by unfold purA; rw [g.p, r.p]; rfl, by unfold pyA; simp only [PyData.canLayAll0]; rw [g.c, r.c]; rfl, by unfold pyA; simp only [PyData.depthAll]; exact Nat.max_le.mpr ⟨g.t, r.t⟩, by unfold pyA; simp only [PyData.intsShortAll]; rw [g.i, r.i]; rfl, by unfold pyA; simp only [PyData.showableAll]; rw [g.s, r.s]; rfl, ?_⟩
    unfold pyA
    simp only [PyData.weightAll, List.length_cons]
    have h1 := g.w
    have h2 := r.w
    rw [Nat.add_mul]
    omega
end
theorem gd_cmp {n : Nat} {d : Dt} (h : gd n d = true) (hn : n ≤ 64) : cmpOk d = true := by
  have g := gd_w n d h
  simp only [cmpOk, SeqAt.shaped, Bool.and_eq_true, decide_eq_true_eq]
  exact ⟨g.p, g.c, Nat.le_trans g.t hn⟩
theorem gd_shw {d : Dt} (h : gd 4 d = true) : shwOk d := by
  have g := gd_w 4 d h
  exact ⟨gd_cmp h (by decide), g.s, PyData.shown_fits (by decide) (by decide) (PyData.leavesShort_of_canLay0 13 _ g.c g.i) (Nat.le_trans g.w (by decide))⟩
end Bf
namespace Bf
open PySem PySem.Spec PyProof.Rows L2 PySem.SeqAt
/-! ## a list == [], isinstance(x, (T, U, ..)) -/
def rEqNil (K : PySem.W.Frag) : R2 := fun x y H Q => ∃ a b xs, x = .ref a ∧ y = .ref b ∧ SqL K H a xs ∧ SqL K H b [] ∧ Q (.bl xs.isEmpty) H
theorem op_eqNil {X : Cx} (hu : X.A.units + 64 < cLine) : OpR X (compareOp .Eq) (rEqNil X.K) := by
  intro pins s σ H x y v u Q I rx ry h
  obtain ⟨a, b, xs, rfl, rfl, hA, hB, q⟩ := h
  cases (show v = Value.ref a from rx)
  cases (show u = Value.ref b from ry)
  obtain ⟨its, r, p, _⟩ := I.list hA
  obtain ⟨its2, r2, p2, _⟩ := I.list hB
  cases r2
  have hl := r.length
  cases xs with
  | nil =>
    cases r
    have rc := RcAt.lists (e := fun _ => true) p.isList p2.isList (A := X.A) (s := s) rfl (by omega) fun j h1 h2 => absurd h1 (by simp)
    exact rc X.prog X.w _ _ ⟨.bl _, H, I, rfl, q⟩
  | cons x xs =>
    have rc := RcAt.lists_lengths p.isList p2.isList (A := X.A) (s := s) (by
      cases its with
      | nil => simp at hl
      | cons i is => simp) (by omega)
    exact rc X.prog X.w _ _ ⟨.bl _, H, I, rfl, q⟩
section
variable {K : PySem.W.Frag} {S S1 S2 : Sta} {ρ : List (Option Dt)} {te tl : TE} {xs : List Dt} {d : Dt}
theorem rv_eqNil : Rv2 K S (rEqNil K) (.lst xs) (.lst []) (Eq (.bl xs.isEmpty)) := rv_at fun H v u _ r1 r2 Q q => by
  obtain ⟨a, vs, rfl, ha, ra⟩ := r1.lstI
  obtain ⟨b, us, rfl, hb, rb⟩ := r2.lstI
  cases rb
  refine ⟨a, b, vs, rfl, rfl, ha, hb, ?_⟩
  have e : vs.isEmpty = xs.isEmpty := by
    have := ra.len
    cases vs <;> cases xs <;> simp at this ⊢
  rw [e]
  exact q _ (.bl _)
/-- isinstance(x, (T, U, ..)) -/
def kitL (n : String) : List String → Option Bool
  | [] => some false
  | t :: ts => match kitB n t with
    | some true => some true
    | some false => kitL n ts
    | none => none
theorem kitL_any {n : String} : ∀ {ts : List String} {b : Bool}, kitL n ts = some b → PySem.W.kitAny K (.type n) (ts.map Value.type) = some b
  | [], b, h => h
  | t :: ts, b, h => by
    unfold kitL at h
    show (match PySem.W.kitOne K (.type n) (.type t) with
      | some true => some true
      | some false => PySem.W.kitAny K (.type n) (ts.map Value.type)
      | none => none) = some b
    cases e : kitB n t with
    | none => rw [e] at h; cases h
    | some c =>
      rw [e] at h
      rw [kit_ty e]
      cases c with
      | true => exact h
      | false => exact kitL_any h
theorem cls_all : ∀ (ts : List String), Paired ClsV (ts.map fun t => V.ty t) (ts.map Value.type)
  | [] => .nil
  | t :: ts => .cons (.ty t) (cls_all ts)
theorem rc_isiT {n : String} {ts : List String} {b : Bool} (h : tyN d = some n) (hk : kitL n ts = some b) : ∀ {H : Hp} {v : V} {tp : Addr}, Rep K H v d → H tp = some (.tup (ts.map fun t => V.ty t)) → ∀ Q : VK, Q (.bl b) H → rIsiT K [v, .ref tp] H Q :=
  fun {H v tp} r e Q q => ⟨v, tp, _, _, _, b, rfl, e, cls_all ts, r.ty h, kitL_any hk, q⟩
def tTys (ts : List String) : TA := match ts with
  | [] => tNil
  | t :: ts => tCons (tC (.ty t)) (tTys ts)
theorem tys_run {Q : List V → Hp → Prop} {σ : L2.St} {H : Hp} : ∀ {ts : List String}, Q (ts.map fun t => V.ty t) H → tTys ts σ H Q
  | [], q => q
  | t :: ts, q => tys_run (ts := ts) q
theorem ev_isiT {n : String} {ts : List String} {b : Bool} (he : Ev K S S1 ρ te (Eq d)) (h : tyN d = some n) (hk : kitL n ts = some b) (hl : ts.length ≤ sizeLine) : Ev K S S1 ρ (tCB (rIsiT K) (tCons te (tCons (tTup (tTys ts)) tNil))) (Eq (.bl b)) := fun σ H i s Q q =>
  he σ H i s _ fun v d' H1 g1 i1 r1 e => by
    subst e
    refine tys_run ⟨by rw [List.length_map]; exact hl, fun p hp => ?_⟩
    have sm := same_new (o := .tup (ts.map fun t => V.ty t)) hp
    exact rc_isiT h hk (r1.mono sm.gr) upd_same _ (q _ _ _ (g1.trans sm.gr) (S1.st i1 sm) (.bl _) rfl)
end
end Bf
namespace Bf
open PySem PySem.Spec PyProof.Rows L2
/-! ## Dicts with tuples as keys -/
mutual
def nk : Dt → NestedKey
  | .bl b => .num (if b = true then 1 else 0)
  | .int i => .num i
  | .tup xs => .tup (nkA xs)
  | _ => .none
def nkA : List Dt → List NestedKey
  | [] => []
  | x :: xs => nk x :: nkA xs
end
def flat0 : Dt → Bool
  | .non => true
  | .bl _ => true
  | .int _ => true
  | _ => false
/-- a tuple of ints, bools, Nones -/
def nkT : Dt → Bool
  | .tup xs => xs.all flat0
  | _ => false
theorem nk_depth0 {d : Dt} (h : flat0 d = true) : (nk d).depth = 0 := by
  cases d <;> first | rfl | simp [flat0] at h
theorem nkA_depth : ∀ {xs : List Dt}, xs.all flat0 = true → NestedKey.depthAll (nkA xs) = 0
  | [], _ => rfl
  | x :: xs, h => by
    simp only [List.all_cons, Bool.and_eq_true] at h
    show max (nk x).depth (NestedKey.depthAll (nkA xs)) = 0
    rw [nk_depth0 h.1, nkA_depth h.2]
    rfl
theorem nkT_depth {d : Dt} (h : nkT d = true) : (nk d).depth ≤ 8 := by
  cases d with
  | tup xs =>
    show NestedKey.depthAll (nkA xs) + 1 ≤ 8
    rw [nkA_depth h]
    decide
  | _ => simp [nkT] at h
theorem hash0 {w : World} {d : Dt} (h : flat0 d = true) : (nk d).hash w = hKey d := by
  cases d <;> first | rfl | simp [flat0] at h
theorem hashes0 {w : World} : ∀ {xs : List Dt}, xs.all flat0 = true → NestedKey.hashes w (nkA xs) = hKeys xs
  | [], _ => rfl
  | x :: xs, h => by
    simp only [List.all_cons, Bool.and_eq_true] at h
    show (nk x).hash w :: NestedKey.hashes w (nkA xs) = hKey x :: hKeys xs
    rw [hash0 h.1, hashes0 h.2]
theorem nkT_hash {w : World} {d : Dt} (h : nkT d = true) : (nk d).hash w = hKey d := by
  cases d with
  | tup xs =>
    show reduceHash (Builtin.Tuple.tupleHashOf (NestedKey.hashes w (nkA xs))) = reduceHash (Builtin.Tuple.tupleHashOf (hKeys xs))
    rw [hashes0 h]
  | _ => simp [nkT] at h
section
variable {X : Cx} {pins : List (Addr × Obj)} {σ : L2.St} {H : Hp} {s : Shared}
theorem is0 {h : Heap} {v : V} {u : Value} {d : Dt} (hf : flat0 d = true) (r : Rep X.K H v d) (ru : RelV v u) : NestedIs h (nk d) u := by
  cases d with
  | non =>
    cases r
    cases (show u = Value.none from ru)
    exact .none
  | bl b =>
    cases r
    cases (show u = Value.bool b from ru)
    exact .bool rfl
  | int i =>
    cases r
    obtain ⟨t, rfl⟩ := (show ∃ t, u = Value.int i t from ru)
    exact .int i t
  | _ => simp [flat0] at hf
theorem isA0 {h : Heap} : ∀ {vs : List V} {us : List Value} {xs : List Dt}, xs.all flat0 = true → RepA X.K H vs xs → Vals vs us → NestedAll h (nkA xs) us
  | _, _, _, _, .nil, .nil => .nil
  | _, _, _, hf, .cons r rs, .cons ru rus => by
    simp only [List.all_cons, Bool.and_eq_true] at hf
    exact .cons (is0 (X := X) hf.1 r ru) (isA0 hf.2 rs rus)
theorem nkT_is (I : L2.Inv X pins σ H s) {v : V} {u : Value} {d : Dt} (hd : nkT d = true) (r : Rep X.K H v d) (ru : RelV v u) : ∃ b, v = .ref b ∧ u = .ref b ∧ (nestedKind X.prog X.w).is s.heap (nk d) b := by
  cases d with
  | tup xs =>
    obtain ⟨b, vs, rfl, ht, ra⟩ := r.tupI
    obtain rfl : u = Value.ref b := ru
    obtain ⟨its, rv, ⟨o, ho, hc, n, hdt⟩, _⟩ := I.tuple ht
    exact ⟨b, rfl, rfl, ⟨.tup ho hc hdt (by simpa using isA0 (X := X) hd ra rv), nkT_depth hd⟩⟩
  | _ => simp [nkT] at hd
/-- the dict's keys, where they stand, its values -/
def kz : List Dt → List Addr → List Value → List (NestedKey × Addr × Value)
  | k :: ks, a :: as, u :: us => (nk k, a, u) :: kz ks as us
  | _, _, _ => []
theorem ents_kz {P : Program} {w : World} : ∀ {ks : List Dt} {as : List Addr} {us : List Value}, ks.all nkT = true → ents ks as us = (kz ks as us).map (entryOfKey (nestedKind P w))
  | [], _, _, _ => by simp [ents, kz]
  | _ :: _, [], _, _ => by simp [ents, kz]
  | _ :: _, _ :: _, [], _ => by simp [ents, kz]
  | k :: ks, a :: as, u :: us, h => by
    simp only [List.all_cons, Bool.and_eq_true] at h
    show (⟨hKey k, .ref a, u⟩ : DictEntry) :: ents ks as us = (⟨(nk k).hash w, .ref a, u⟩ : DictEntry) :: (kz ks as us).map (entryOfKey (nestedKind P w))
    rw [nkT_hash h.1, ents_kz h.2]
theorem kz_keys : ∀ {ks : List Dt} {as : List Addr} {us : List Value}, as.length = ks.length → us.length = ks.length → (kz ks as us).map (·.1) = ks.map nk
  | [], _, _, _, _ => by simp [kz]
  | _ :: _, [], _, h, _ => by simp at h
  | _ :: _, _ :: _, [], _, h => by simp at h
  | k :: ks, a :: as, u :: us, h1, h2 => by
    show nk k :: (kz ks as us).map (·.1) = nk k :: ks.map nk
    rw [kz_keys (by simpa using h1) (by simpa using h2)]
theorem kz_len {ks : List Dt} {as : List Addr} {us : List Value} (h1 : as.length = ks.length) (h2 : us.length = ks.length) : (kz ks as us).length = ks.length := by
  have := congrArg List.length (kz_keys h1 h2)
  simpa using this
theorem kz_is (I : L2.Inv X pins σ H s) : ∀ {ks : List Dt} {as : List Addr} {us : List Value}, ks.all nkT = true → RepA X.K H (as.map V.ref) ks → ∀ x ∈ kz ks as us, (nestedKind X.prog X.w).is s.heap x.1 x.2.1
  | [], _, _, _, _, x, hx => by simp [kz] at hx
  | _ :: _, [], _, _, _, x, hx => by simp [kz] at hx
  | _ :: _, _ :: _, [], _, _, x, hx => by simp [kz] at hx
  | k :: ks, a :: as, u :: us, h, .cons r rs, x, hx => by
    simp only [List.all_cons, Bool.and_eq_true] at h
    rcases List.mem_cons.mp hx with rfl | hx
    · obtain ⟨b, eb, _, q⟩ := nkT_is I h.1 r (u := Value.ref a) rfl
      cases eb
      exact q
    · exact kz_is I h.2 rs x hx
/-- fit for keys -/
def dkOk (ks : List Dt) : Prop := ks.all nkT = true ∧ (ks.map nk).Nodup
def lkV : List Dt → List V → NestedKey → Option V
  | k :: ks, v :: vs, q => if nk k = q then some v else lkV ks vs q
  | _, _, _ => none
def lkD : List Dt → List Dt → NestedKey → Option Dt
  | k :: ks, x :: xs, q => if nk k = q then some x else lkD ks xs q
  | _, _, _ => none
theorem lk_rel {q : NestedKey} : ∀ {ks : List Dt} {as : List Addr} {vs : List V} {us : List Value}, as.length = ks.length → Vals vs us → RelV ((lkV ks vs q).getD .non) (((atKey (kz ks as us) q).map (·.2)).getD .none)
  | [], _, _, _, _, _ => by simp [lkV, kz, atKey]; rfl
  | _ :: _, [], _, _, h, _ => by simp at h
  | _ :: _, _ :: _, _, _, _, .nil => by simp [lkV, kz, atKey]; rfl
  | k :: ks, a :: as, _, _, h, .cons (a := v) (b := u) (l₁ := vs) (l₂ := us) r rs => by
    by_cases e : nk k = q
    · simp only [lkV, if_pos e, Option.getD_some]
      show RelV v (((atKey ((nk k, a, u) :: kz ks as us) q).map (·.2)).getD .none)
      simp [atKey, e]
      exact r
    · have ih := lk_rel (q := q) (as := as) (by simpa using h) rs (ks := ks)
      simp only [lkV, if_neg e]
      show RelV _ (((atKey ((nk k, a, u) :: kz ks as us) q).map (·.2)).getD .none)
      have : atKey ((nk k, a, u) :: kz ks as us) q = atKey (kz ks as us) q := by simp [atKey, e]
      rw [this]
      exact ih
theorem lk_rep {K : PySem.W.Frag} {q : NestedKey} : ∀ {ks : List Dt} {vs : List V} {xs : List Dt}, RepA K H vs xs → Rep K H ((lkV ks vs q).getD .non) ((lkD ks xs q).getD .non)
  | [], _, _, _ => by simp [lkV, lkD]; exact .non
  | _ :: _, _, _, .nil => by simp [lkV, lkD]; exact .non
  | k :: ks, _, _, .cons r rs => by
    by_cases e : nk k = q
    · simp only [lkV, lkD, if_pos e, Option.getD_some]
      exact r
    · simp only [lkV, lkD, if_neg e]
      exact lk_rep rs
theorem dct_of (I : L2.Inv X pins σ H s) {a : Addr} {ks : List Dt} {as : List Addr} {vs : List V} (h : H a = some (DicO ks as vs a)) (hk : dkOk ks) (r : RepA X.K H (as.map V.ref) ks) (hv : vs.length = ks.length) :
    (a == sysModules) = false ∧ ∃ us, Vals vs us ∧ as.length = ks.length ∧ us.length = ks.length ∧ s.heap.DictOfH (nestedKind X.prog X.w) a (kz ks as us) := by
  obtain ⟨⟨hs, o, es, ep, us, h1, h2, h3, h4, h5⟩, _, _⟩ := (show ObjOk X.prog X.w H s.heap a (DicO ks as vs a) from I.hok a _ h)
  have ha : as.length = ks.length := by rw [← r.len, List.length_map]
  have hu : us.length = ks.length := by rw [← h4.length]; exact hv
  refine ⟨hs, us, h4, ha, hu, o, es, ep, h1, h2, h3, by rw [h5, ents_kz hk.1], kz_is I hk.1 r, ?_⟩
  rw [kz_keys ha hu]
  exact hk.2
/-! ### d.get(k) -/
def tDGetN (K : PySem.W.Frag) (td ty : TE) : TE := fun σ H Q => td σ H fun x H1 => ∃ a ks as vs, x = .ref a ∧ H1 a = some (DicO ks as vs a) ∧ RepA K H1 (as.map V.ref) ks ∧ dkOk ks ∧ vs.length = ks.length ∧
  ty σ H1 fun y H2 => H2 a = some (DicO ks as vs a) ∧ RepA K H2 (as.map V.ref) ks ∧ ∃ q, Rep K H2 y q ∧ nkT q = true ∧ Q ((lkV ks vs (nk q)).getD .non) H2
theorem pe_dgetN {o e : Expr} {apos cpos : Pos} {td ty : TE} (hu : X.A.units + 64 < cLine) (ho : PE X o td) (he : PE X e ty) (m : M1 X o "get" apos e cpos) : PE X (.Call (.Attribute o "get" apos) [e] [] cpos) (tDGetN X.K td ty) := by
  refine ⟨fun pins s σ H Q I h => ?_⟩
  refine wpAny_Call_method m.base m.few m.line PySem.F.plainAttrs_dict PySem.F.slot_dict_get PySem.F.type_dict_get (thn (ho.run pins s σ H _ I h) fun u s1 ⟨x, H1, I1, rx, a, ks, as, vs, ex, d, rk, dk, hv, q1⟩ => ?_)
  subst ex
  obtain rfl : u = Value.ref a := rx
  obtain ⟨_, _, _, _, _, dd⟩ := dct_of I1 d dk rk hv
  refine ⟨dd.typeIs, fun b q => ?_, ?_⟩
  · cases q
    obtain ⟨ob, _, _, h1, h2, _⟩ := dd
    exact ⟨ob, h1, h2.2.1⟩
  · rw [m.trees]
    refine Calls.callWith_builtin rfl (Calls.evalArgs_plain (Calls.spliced_cons (thn (he.run pins s1 σ H1 _ I1 q1) fun iv s2 ⟨y, H2, I2, ry, d2, rk2, kd, ryd, hq, q2⟩ => Calls.spliced_nil ?_)))
    obtain ⟨hs, us, rv, ha, hl, dd2⟩ := dct_of I2 d2 dk rk2 hv
    obtain ⟨b, rfl, rfl, hb⟩ := nkT_is I2 hq ryd ry
    refine call_meetsIn PySem.F.slot_dict_get dd2.typeIs PySem.F.entry_dict_get (PySem.F.args_dict_get_2 _ _) (meetsH_dict_get (nestedKind X.prog X.w) a b hs) ⟨?_, nk kd, _, hb, dd2, ⟨_, H2, I2.tok _, lk_rel ha rv, q2⟩⟩
    show X.A.in1.units + 8 < cLine
    rw [units_in1]
    omega
/-! ### len(d) -/
def rLenN (K : PySem.W.Frag) : List V → Hp → VK → Prop := fun xs H Q => ∃ a ks as vs, xs = [.ref a] ∧ H a = some (DicO ks as vs a) ∧ RepA K H (as.map V.ref) ks ∧ dkOk ks ∧ vs.length = ks.length ∧ ks.length < 2 ^ 62 ∧ Q (.int ((ks.length : Nat) : Int)) H
theorem call_lenN : CallR X (.builtin "len") (rLenN X.K) := by
  intro pins s σ H xs us Q I r h
  obtain ⟨a, ks, as, vs, rfl, d, rk, dk, hv, hz, q⟩ := h
  obtain ⟨u, rfl, rx⟩ := vals1 r
  obtain rfl : u = .ref a := rx
  obtain ⟨hs, us, rv, ha, hl, dd⟩ := dct_of I d dk rk hv
  have hlen := kz_len ha hl
  refine call_len_dictH (knd := nestedKind X.prog X.w) hs dd (by rw [hlen]; omega) ?_
  rw [hlen]
  exact ⟨.int ((ks.length : Nat) : Int), H, I.tok _, ⟨_, rfl⟩, q⟩
end
end Bf
namespace Bf
open PySem PySem.Spec PyProof.Rows L2
/-! ## dict(a list of pairs), the keys tuples -/
inductive PrsA (K : PySem.W.Frag) (H : Hp) : List Addr → List Addr → List V → Prop
  | nil : PrsA K H [] [] []
  | cons {p a : Addr} {v : V} {ps as : List Addr} {vs : List V} : SqT K H p [.ref a, v] → PrsA K H ps as vs → PrsA K H (p :: ps) (a :: as) (v :: vs)
theorem PrsA.len {K : PySem.W.Frag} {H : Hp} : ∀ {ps as : List Addr} {vs : List V}, PrsA K H ps as vs → as.length = ps.length ∧ vs.length = ps.length
  | _, _, _, .nil => ⟨rfl, rfl⟩
  | _, _, _, .cons _ r => ⟨by rw [List.length_cons, List.length_cons, r.len.1], by rw [List.length_cons, List.length_cons, r.len.2]⟩
section
variable {X : Cx} {pins : List (Addr × Obj)} {σ : L2.St} {H : Hp} {s : Shared}
theorem PrsA.here (I : L2.Inv X pins σ H s) : ∀ {ps as : List Addr} {vs : List V}, PrsA X.K H ps as vs → ∃ us, Vals vs us ∧ ∀ (j : Nat) (a : Addr) (u : Value), as[j]? = some a → us[j]? = some u → ∃ p, ps[j]? = some p ∧ IsTup s.heap p #[.ref a, u]
  | _, _, _, .nil => ⟨[], .nil, fun j a u e => by simp at e⟩
  | _, _, _, .cons (p := p) (a := a) (v := v) h r => by
    obtain ⟨us, rv, q⟩ := r.here I
    obtain ⟨its, ri, ht, _⟩ := I.tuple h
    obtain ⟨x, y, ei, rx, ry⟩ := vals2 ri
    subst ei
    obtain rfl : x = Value.ref a := rx
    refine ⟨y :: us, .cons ry rv, fun j a' u' e1 e2 => ?_⟩
    cases j with
    | zero =>
      obtain rfl : a = a' := by simpa using e1
      obtain rfl : y = u' := by simpa using e2
      exact ⟨p, rfl, ht⟩
    | succ j => exact q j a' u' (by simpa using e1) (by simpa using e2)
theorem kz_at : ∀ {ks : List Dt} {as : List Addr} {us : List Value} {j : Nat} {a : Addr} {u : Value}, as.length = ks.length → as[j]? = some a → us[j]? = some u → ∃ k, (kz ks as us)[j]? = some (k, a, u)
  | [], as, us, j, a, u, h, e, _ => by
    have : as = [] := List.eq_nil_of_length_eq_zero h
    subst this
    simp at e
  | _ :: _, [], _, _, _, _, h, _, _ => by simp at h
  | _ :: _, _ :: _, [], _, _, _, _, _, e => by simp at e
  | k :: ks, a' :: as, u' :: us, 0, a, u, h, e1, e2 => ⟨nk k, by
      obtain rfl : a' = a := by simpa using e1
      obtain rfl : u' = u := by simpa using e2
      rfl⟩
  | k :: ks, a' :: as, u' :: us, j + 1, a, u, h, e1, e2 => by
    obtain ⟨q, hq⟩ := kz_at (ks := ks) (as := as) (us := us) (j := j) (by simpa using h) (by simpa using e1) (by simpa using e2)
    exact ⟨q, by simpa [kz] using hq⟩
def rDicN (K : PySem.W.Frag) : List V → Hp → VK → Prop := fun xs H Q => ∃ (l : Addr) (ps as : List Addr) (ks : List Dt) (vs : List V), xs = [.ref l] ∧ SqL K H l (ps.map V.ref) ∧ PrsA K H ps as vs ∧ RepA K H (as.map V.ref) ks ∧ dkOk ks ∧
  ∀ p, H p = none → Q (.ref p) (upd H p (DicO ks as vs p))
theorem call_dictN (hcalm : X.calm = true) (hu : X.A.units + 64 < cLine) : CallR X (.type "dict") (rDicN X.K) := by
  intro pins s σ H xs us Q I r q
  obtain ⟨l, ps, as, ks, vs, ex, hq, hp, hk, dk, q⟩ := q
  subst ex
  obtain ⟨u, eu, rx⟩ := vals1 r
  subst eu
  obtain rfl : u = Value.ref l := rx
  obtain ⟨its, rv, pl, hz⟩ := I.list hq
  have ei := refs_at rv
  subst ei
  rw [List.length_map] at hz
  obtain ⟨ws, rw, hw⟩ := hp.here I
  obtain ⟨la, lv⟩ := hp.len
  have lw : ws.length = ps.length := by rw [← rw.length]; exact lv
  have lk : as.length = ks.length := by rw [← hk.len, List.length_map]
  have lwk : ws.length = ks.length := by rw [lw, ← la, lk]
  obtain ⟨o, n, ho, hc, hd, hdat⟩ := pl
  have hm : (s.heap.objs.size == sysModules) = false := beq_eq_false_iff_ne.mpr (Nat.ne_of_gt I.big)
  have hzip : ((as.map Value.ref).zip ws).length = ps.length := by rw [List.length_zip, List.length_map, la, lw, Nat.min_self]
  have hat : ∀ (j : Nat) (k v : Value), ((as.map Value.ref).zip ws)[j]? = some (k, v) → ∃ a : Addr, k = Value.ref a ∧ as[j]? = some a ∧ ws[j]? = some v := fun j k v e => by
    rw [List.getElem?_zip_eq_some] at e
    obtain ⟨e1, e2⟩ := e
    rw [List.getElem?_map] at e1
    obtain ⟨a, ea, ek⟩ := Option.map_eq_some_iff.mp e1
    exact ⟨a, ek.symm, ea, e2⟩
  have big : X.A.in1.in1.units + 8 < cLine := by
    rw [units_in1, units_in1]
    omega
  refine call_dict_pairsH (knd := nestedKind X.prog X.w) (ps := kz ks as ws) (PairArg.list l (ps.map Value.ref).toArray (fun j => ps.getD j 0) ((as.map Value.ref).zip ws)) (I.ok.hd hcalm) big
    ⟨⟨o, n, ho, hc, hd, hdat⟩, by rw [List.size_toArray, List.length_map]; exact hzip.symm, fun j k v e => ?_⟩ ⟨by rw [hzip, kz_len lk lwk, ← lk, la], fun i key v e => ?_⟩ (fun h' hk' x hx => ?_) (by rw [hzip]; exact hz) fun h' tk hd' k => ?_
  · obtain ⟨a, rfl, ea, ew⟩ := hat j k v e
    obtain ⟨p, hp1, hp2⟩ := hw j a v ea ew
    have eg : ps.getD j 0 = p := by rw [List.getD_eq_getElem?_getD, hp1]; rfl
    refine ⟨by simp [hp1], .inl ?_⟩
    show s.heap.IsTuple (ps.getD j 0) _
    rw [eg]
    exact hp2
  · obtain ⟨a, rfl, ea, ew⟩ := hat i key v e
    obtain ⟨q, hq⟩ := kz_at lk ea ew
    exact ⟨q, a, hq, rfl⟩
  · exact nestedKind_stays.stays (fun b o vs n e _ => hk' b o (Nat.ne_of_lt (Heap.lt_size e)) (fun z => nomatch z) e) (kz_is I dk.1 hk x hx)
  · rw [storedAllH_nil_of_nodup _ (by rw [kz_keys lk lwk]; exact dk.2)] at hd'
    obtain ⟨o', es, ep, h1, h2, h3, h4, _, _⟩ := hd'
    have hnew : ObjOk X.prog X.w (upd H s.heap.objs.size (DicO ks as vs s.heap.objs.size)) h' s.heap.objs.size (DicO ks as vs s.heap.objs.size) :=
      ⟨⟨hm, o', es, ep, ws, h1, h2, h3, rw, by rw [h4, ents_kz dk.1]⟩, ⟨o', h1⟩, fun _ _ ⟨x0, x1, x2, x3, x4, y1, y2, y3, y4⟩ kk => ⟨x0, x1, x2, x3, x4, kk _ y1, y2, y3, y4⟩⟩
    exact ⟨.ref s.heap.objs.size, _, I.laid (t' := tk) (fun b o e => k b o (fun z => nomatch z) e) (Nat.le_refl _) hnew, rfl, q _ (I.hok.fresh (Nat.le_refl _))⟩
end
/-! ### over data -/
section
variable {K : PySem.W.Frag} {S S1 S2 : Sta} {ρ : List (Option Dt)} {td ty te : TE} {ks xs : List Dt} {q : Dt}
def pairD : List Dt → List Dt → List Dt
  | k :: ks, x :: xs => .tup [k, x] :: pairD ks xs
  | _, _ => []
theorem prs_of {H : Hp} : ∀ {vs : List V} {ks xs : List Dt}, ks.length = xs.length → ks.all nkT = true → RepA K H vs (pairD ks xs) → ∃ ps as ws, vs = ps.map V.ref ∧ PrsA K H ps as ws ∧ RepA K H (as.map V.ref) ks ∧ RepA K H ws xs
  | _, [], [], _, _, r => by
    cases r
    exact ⟨[], [], [], rfl, .nil, .nil, .nil⟩
  | _, [], _ :: _, h, _, _ => by simp at h
  | _, _ :: _, [], h, _, _ => by simp at h
  | _, k :: ks, x :: xs, h, hk, r => by
    simp only [List.all_cons, Bool.and_eq_true] at hk
    cases (show RepA K H _ (.tup [k, x] :: pairD ks xs) from r) with
    | cons r1 rs =>
      obtain ⟨ps, as, ws, rfl, p1, p2, p3⟩ := prs_of (by simpa using h) hk.2 rs
      obtain ⟨p, us, rfl, ht, ra⟩ := r1.tupI
      obtain ⟨v, u, rfl, rv, ru⟩ := ra.twoI
      have hr : ∃ a, v = .ref a := by
        cases k with
        | tup ys =>
          obtain ⟨a, _, rfl, _⟩ := rv.tupI
          exact ⟨a, rfl⟩
        | _ => simp [nkT] at hk
      obtain ⟨a, rfl⟩ := hr
      exact ⟨p :: ps, a :: as, u :: ws, rfl, .cons ht p1, .cons rv p2, .cons ru p3⟩
theorem rep_dct {H : Hp} {v : V} (r : Rep K H v (.dct ks xs)) : ∃ a as vs, v = .ref a ∧ H a = some (DicO ks as vs a) ∧ RepA K H (as.map V.ref) ks ∧ RepA K H vs xs := by
  cases r with
  | dct h r1 r2 => exact ⟨_, _, _, rfl, h, r1, r2⟩
theorem ev_dictN (h : Ev K S S1 ρ te (Eq (.lst (pairD ks xs)))) (hl : ks.length = xs.length) (hk : dkOk ks) : Ev K S S1 ρ (tCB (rDicN K) (tCons te tNil)) (Eq (.dct ks xs)) := fun σ H i s Q q =>
  h σ H i s _ fun v d H1 g1 i1 r1 e => by
    subst e
    obtain ⟨l, vs, rfl, hq, ra⟩ := r1.lstI
    obtain ⟨ps, as, ws, rfl, p1, p2, p3⟩ := prs_of hl hk.1 ra
    refine ⟨l, ps, as, ks, ws, rfl, hq, p1, p2, hk, fun p hp => ?_⟩
    have sm := same_new (o := DicO ks as ws p) hp
    exact q _ _ _ (g1.trans sm.gr) (S1.st i1 sm) (.dct upd_same (p2.mono sm.gr) (p3.mono sm.gr)) rfl
theorem ev_dgetN (h : Ev K S S1 ρ td (Eq (.dct ks xs))) (hl : ks.length = xs.length) (hk : dkOk ks) (h2 : Ev K S1 S2 ρ ty (Eq q)) (hq : nkT q = true) : Ev K S S2 ρ (tDGetN K td ty) (Eq ((lkD ks xs (nk q)).getD .non)) := fun σ H i s Q qq =>
  h σ H i s _ fun v d H1 g1 i1 r1 e => by
    subst e
    obtain ⟨a, as, vs, rfl, ha, rk, rv⟩ := rep_dct r1
    refine ⟨a, ks, as, vs, rfl, ha, rk, hk, by rw [rv.len, hl], h2 σ H1 i1 (s.mono g1) _ fun u d2 H2 g2 i2 r2 e2 => ?_⟩
    subst e2
    exact ⟨g2 _ _ ha rfl, rk.mono g2, q, r2, hq, qq _ _ H2 (g1.trans g2) i2 (lk_rep (rv.mono g2)) rfl⟩
theorem rc_lenN (hl : ks.length = xs.length) (hk : dkOk ks) (hz : ks.length < 2 ^ 62) : RvC K S (rLenN K) [.dct ks xs] (Eq (.int ks.length)) := rc_at fun H vs i r Q q => by
  obtain ⟨v, rfl, r1⟩ := r.oneI
  obtain ⟨a, as, ws, rfl, ha, rk, rv⟩ := rep_dct r1
  exact ⟨a, ks, as, ws, rfl, ha, rk, hk, by rw [rv.len, hl], hz, q _ (.int _)⟩
end
end Bf
namespace Bf
open PySem PySem.Spec PyProof.Rows L2
/-! ## Tables: the defs over data, and their readings -/
/-! ### is_whole, is_whole_from, is_duration, is_bit_count -/
def isW (d : Dt) : Bool := isIntD d && !isBlD d
def isWF (d : Dt) (lo hi : Int) : Bool := match d with
  | .int i => decide (lo ≤ i) && decide (i ≤ hi)
  | _ => false
def one1 (g : Dt → Dt) : List Dt → Dt
  | [d] => g d
  | _ => .non
abbrev p_is_whole (K : PySem.W.Frag) : Sp := spF K 1 (fun ds => ∃ d, ds = [d] ∧ okN d = true) (one1 fun d => .bl (isW d))
def f_wf : List Dt → Dt
  | [d, .int lo, .int hi] => .bl (isWF d lo hi)
  | _ => .non
abbrev p_is_whole_from (K : PySem.W.Frag) : Sp := spF K 3 (fun ds => ∃ d lo hi, ds = [d, .int lo, .int hi] ∧ okN d = true) f_wf
abbrev p_is_duration (K : PySem.W.Frag) : Sp := spF K 1 (fun ds => ∃ d, ds = [d] ∧ okN d = true) (one1 fun d => .bl (isWF d 1 99999))
abbrev p_is_bit_count (K : PySem.W.Frag) : Sp := spF K 1 (fun ds => ∃ d, ds = [d] ∧ okN d = true) (one1 fun d => .bl (isWF d 1 8))
/-- what a pure def's body is to come to -/
abbrev Pu (d : Dt) : Po := { nx := fun _ => d = .non, rt := Eq d }
abbrev t_is_whole (K : PySem.W.Frag) : TS := (tRet (tAndV (tCB (rIsi K) (tCons (tVar 0) (tCons (tC (.ty "int")) tNil))) (tNotV (tCB (rIsi K) (tCons (tVar 0) (tCons (tC (.ty "bool")) tNil))))))
abbrev t_is_whole_from (K : PySem.W.Frag) : TS := (tRet (tAndV (tCall (p_is_whole K) [] E0 (tCons (tVar 0) tNil)) (tChain rLeI rLeI (tVar 1) (tVar 0) (tVar 2))))
abbrev t_is_duration (K : PySem.W.Frag) : TS := (tRet (tCall (p_is_whole_from K) [] E0 (tCons (tVar 0) (tCons (tC (.int 1)) (tCons (tC (.int 99999)) tNil)))))
abbrev t_is_bit_count (K : PySem.W.Frag) : TS := (tRet (tCall (p_is_whole_from K) [] E0 (tCons (tVar 0) (tCons (tC (.int 1)) (tCons (tC (.int 8)) tNil)))))
section
variable {K : PySem.W.Frag} {S : Sta} {ds : List Dt}
theorem so_is_whole (hmu : S.Mu) (hp : ∃ d, ds = [d] ∧ okN d = true) : So K S S [] (t_is_whole K) (startD 1 ds) (Pu (one1 (fun d => .bl (isW d)) ds)) := by
  obtain ⟨d, rfl, hd⟩ := hp
  exact so_retD (ev_and (ev_isInt (ev_var rfl) hd) fun _ => ev_not (ev_isBl (ev_var rfl) hd)) (Sta.Le.refl S) rfl
theorem ev_is_whole {S1 : Sta} {ρ : List (Option Dt)} {ta : TE} {d : Dt} (h : Ev K S S1 ρ ta (Eq d)) (hd : okN d = true) : Ev K S S1 ρ (tCall (p_is_whole K) [] E0 (tCons ta tNil)) (Eq (.bl (isW d))) := ev_callF (ea_cons h ea_nil) rfl ⟨d, rfl, hd⟩
theorem so_is_whole_from (hmu : S.Mu) (hp : ∃ d lo hi, ds = [d, .int lo, .int hi] ∧ okN d = true) : So K S S [] (t_is_whole_from K) (startD 3 ds) (Pu (f_wf ds)) := by
  obtain ⟨d, lo, hi, rfl, hd⟩ := hp
  cases d with
  | int i => exact so_retD (ev_andT (ev_is_whole (ev_var rfl) hd) (ev_lele (ev_var rfl) (ev_var rfl) (ev_var rfl))) (Sta.Le.refl S) rfl
  | _ => exact so_retD (ev_andF (ev_is_whole (ev_var rfl) hd)) (Sta.Le.refl S) rfl
theorem ev_is_whole_from {S1 : Sta} {ρ : List (Option Dt)} {ta : TE} {d : Dt} {lo hi : Int} (h : Ev K S S1 ρ ta (Eq d)) (hd : okN d = true) : Ev K S S1 ρ (tCall (p_is_whole_from K) [] E0 (tCons ta (tCons (tC (.int lo)) (tCons (tC (.int hi)) tNil)))) (Eq (.bl (isWF d lo hi))) :=
  ev_callF (ea_cons h (ea_cons ev_int (ea_cons ev_int ea_nil))) rfl ⟨d, lo, hi, rfl, hd⟩
theorem so_is_duration (hmu : S.Mu) (hp : ∃ d, ds = [d] ∧ okN d = true) : So K S S [] (t_is_duration K) (startD 1 ds) (Pu (one1 (fun d => .bl (isWF d 1 99999)) ds)) := by
  obtain ⟨d, rfl, hd⟩ := hp
  exact so_retD (ev_is_whole_from (ev_var rfl) hd) (Sta.Le.refl S) rfl
theorem so_is_bit_count (hmu : S.Mu) (hp : ∃ d, ds = [d] ∧ okN d = true) : So K S S [] (t_is_bit_count K) (startD 1 ds) (Pu (one1 (fun d => .bl (isWF d 1 8)) ds)) := by
  obtain ⟨d, rfl, hd⟩ := hp
  exact so_retD (ev_is_whole_from (ev_var rfl) hd) (Sta.Le.refl S) rfl
theorem ev_is_duration {S1 : Sta} {ρ : List (Option Dt)} {ta : TE} {d : Dt} (h : Ev K S S1 ρ ta (Eq d)) (hd : okN d = true) : Ev K S S1 ρ (tCall (p_is_duration K) [] E0 (tCons ta tNil)) (Eq (.bl (isWF d 1 99999))) := ev_callF (ea_cons h ea_nil) rfl ⟨d, rfl, hd⟩
theorem ev_is_bit_count {S1 : Sta} {ρ : List (Option Dt)} {ta : TE} {d : Dt} (h : Ev K S S1 ρ ta (Eq d)) (hd : okN d = true) : Ev K S S1 ρ (tCall (p_is_bit_count K) [] E0 (tCons ta tNil)) (Eq (.bl (isWF d 1 8))) := ev_callF (ea_cons h ea_nil) rfl ⟨d, rfl, hd⟩
end
/-! ### are_durations, is_pulse_and_gap -/
def areD : Dt → Bool
  | .tup xs => xs.all fun x => isWF x 1 99999
  | _ => false
def isPG (d : Dt) : Bool := areD d && match d with
  | .tup xs => decide ((xs.length : Int) = 2)
  | _ => false
/-- plain, and its tuple not too long -/
def plS (d : Dt) : Bool := pl d && match d with
  | .tup xs => decide (xs.length ≤ 100000)
  | _ => true
theorem plS_pl {d : Dt} (h : plS d = true) : pl d = true := (Bool.and_eq_true_iff.mp h).1
abbrev p_are_durations (K : PySem.W.Frag) : Sp := spF K 1 (fun ds => ∃ d, ds = [d] ∧ plS d = true) (one1 fun d => .bl (areD d))
abbrev p_is_pulse_and_gap (K : PySem.W.Frag) : Sp := spF K 1 (fun ds => ∃ d, ds = [d] ∧ plS d = true) (one1 fun d => .bl (isPG d))
abbrev t_are_durations (K : PySem.W.Frag) : TS := (tRet (tAndV (tCB (rIsi K) (tCons (tVar 0) (tCons (tC (.ty "tuple")) tNil))) (tCB (rAll K) (tCons (tLc (iTup K (tVar 0)) (gName 1) tYes (tCall (p_is_duration K) [] E0 (tCons (tVar 1) tNil)) [1]) tNil))))
abbrev t_is_pulse_and_gap (K : PySem.W.Frag) : TS := (tRet (tAndV (tCall (p_are_durations K) [] E0 (tCons (tVar 0) tNil)) (tOp rEq (tCB (rLen K) (tCons (tVar 0) tNil)) (tC (.int 2)))))
section
variable {K : PySem.W.Frag} {S : Sta} {ds : List Dt}
theorem so_are_durations (hmu : S.Mu) (hp : ∃ d, ds = [d] ∧ plS d = true) : So K S S [] (t_are_durations K) (startD 2 ds) (Pu (one1 (fun d => .bl (areD d)) ds)) := by
  obtain ⟨d, rfl, hd⟩ := hp
  have ho := pl_okN (plS_pl hd)
  cases d with
  | tup xs =>
    have hl : xs.length ≤ 100000 := of_decide_eq_true (Bool.and_eq_true_iff.mp hd).2
    have hx := pl_tup (plS_pl hd)
    exact so_retD (ev_andT (ev_isTup (ev_var rfl) ho) (ev_allT (p := fun x => isWF x 1 99999) hmu (ev_var rfl) (by decide) hl fun x h => ev_is_duration (ev_var rfl) (pl_okN (hx x h)))) (Sta.Le.refl S) rfl
  | _ => exact so_retD (ev_andF (ev_isTup (ev_var rfl) ho)) (Sta.Le.refl S) rfl
theorem ev_are_durations {S1 : Sta} {ρ : List (Option Dt)} {ta : TE} {d : Dt} (h : Ev K S S1 ρ ta (Eq d)) (hd : plS d = true) : Ev K S S1 ρ (tCall (p_are_durations K) [] E0 (tCons ta tNil)) (Eq (.bl (areD d))) := ev_callF (ea_cons h ea_nil) rfl ⟨d, rfl, hd⟩
theorem so_is_pulse_and_gap (hmu : S.Mu) (hp : ∃ d, ds = [d] ∧ plS d = true) : So K S S [] (t_is_pulse_and_gap K) (startD 1 ds) (Pu (one1 (fun d => .bl (isPG d)) ds)) := by
  obtain ⟨d, rfl, hd⟩ := hp
  cases d with
  | tup xs => exact so_retD (ev_and (ev_are_durations (ev_var rfl) hd) fun _ => ev_op (ev_lenT (ev_var rfl)) ev_int rv_eqI) (Sta.Le.refl S) rfl
  | _ => exact so_retD (ev_andF (ev_are_durations (ev_var rfl) hd)) (Sta.Le.refl S) rfl
theorem ev_is_pulse_and_gap {S1 : Sta} {ρ : List (Option Dt)} {ta : TE} {d : Dt} (h : Ev K S S1 ρ ta (Eq d)) (hd : plS d = true) : Ev K S S1 ρ (tCall (p_is_pulse_and_gap K) [] E0 (tCons ta tNil)) (Eq (.bl (isPG d))) := ev_callF (ea_cons h ea_nil) rfl ⟨d, rfl, hd⟩
end
/-! ### begins_with, the first wrong part -/
def bwD (d : Dt) (n : Str) (k : Int) : Bool := match d with
  | .tup (.str s :: xs) => decide (((xs.length + 1 : Nat) : Int) = k) && decide (s = n)
  | _ => false
def f_bw : List Dt → Dt
  | [d, .str n, .int k] => .bl (bwD d n k)
  | _ => .non
abbrev p_begins_with (K : PySem.W.Frag) : Sp := spF K 3 (fun ds => ∃ d n k, ds = [d, .str n, .int k] ∧ pl d = true ∧ 0 < k) f_bw
def len024 : Dt → Bool
  | .tup xs => decide ((xs.length : Int) ∈ [0, 2, 4])
  | _ => false
/-- of a tuple of six -/
def wrongP : List Dt → Dt
  | [_, h, z, o, s, b] =>
    if !(areD h && len024 h) then .str "header"
    else if !isPG z then .str "zero"
    else if !isPG o || PyData.eqv (py o) (py z) then .str "one"
    else if !isWF s 1 99999 then .str "stop"
    else if !isWF b 1 8 then .str "bits"
    else .non
  | _ => .non
def wrongH : List Dt → Dt
  | [_, u, b] => if !isWF u 1 99999 then .str "unit" else if !isWF b 1 8 then .str "bits" else .non
  | _ => .non
def tupF (g : List Dt → Dt) : List Dt → Dt
  | [.tup xs] => g xs
  | _ => .non
def plSA (xs : List Dt) : Bool := xs.all plS
abbrev p_wrong_part_of_pairs (K : PySem.W.Frag) : Sp := spF K 1 (fun ds => ∃ xs, ds = [.tup xs] ∧ xs.length = 6 ∧ plSA xs = true) (tupF wrongP)
abbrev p_wrong_part_of_halves (K : PySem.W.Frag) : Sp := spF K 1 (fun ds => ∃ xs, ds = [.tup xs] ∧ xs.length = 3 ∧ plSA xs = true) (tupF wrongH)
abbrev t_begins_with (K : PySem.W.Frag) : TS := (tSeq (tIfS (tOr (tNot (tB (tCB (rIsi K) (tCons (tVar 0) (tCons (tC (.ty "tuple")) tNil))))) (tTest (tOp rNe (tCB (rLen K) (tCons (tVar 0) tNil)) (tVar 2)))) (tRet (tC (.bl false))) tNext)
    (tRet (tAndV (tCB (rIsi K) (tCons (tOp (rIx K) (tVar 0) (tC (.int 0))) (tCons (tC (.ty "str")) tNil))) (tOp rEq (tOp (rIx K) (tVar 0) (tC (.int 0))) (tVar 1)))))
abbrev t_wrong_part_of_pairs (K : PySem.W.Frag) : TS := (tSeq (tAsg (tSl (rSlA K) (tVar 0) (tPart (tC (.int 1))) tNoPart) (gTup K 5 (gCons (gName 1) (gCons (gName 2) (gCons (gName 3) (gCons (gName 4) (gCons (gName 5) gNil)))))))
    (tSeq (tIfS (tNot (tAnd (tB (tCall (p_are_durations K) [] E0 (tCons (tVar 1) tNil))) (tTest (tOp (rIn K false) (tCB (rLen K) (tCons (tVar 1) tNil)) (tTup (tCons (tC (.int 0)) (tCons (tC (.int 2)) (tCons (tC (.int 4)) tNil)))))))) (tRet (tC (.str "header"))) tNext)
    (tSeq (tIfS (tNot (tB (tCall (p_is_pulse_and_gap K) [] E0 (tCons (tVar 2) tNil)))) (tRet (tC (.str "zero"))) tNext)
    (tSeq (tIfS (tOr (tNot (tB (tCall (p_is_pulse_and_gap K) [] E0 (tCons (tVar 3) tNil)))) (tTest (tOp (rEqD K) (tVar 3) (tVar 2)))) (tRet (tC (.str "one"))) tNext)
    (tSeq (tIfS (tNot (tB (tCall (p_is_duration K) [] E0 (tCons (tVar 4) tNil)))) (tRet (tC (.str "stop"))) tNext)
    (tSeq (tIfS (tNot (tB (tCall (p_is_bit_count K) [] E0 (tCons (tVar 5) tNil)))) (tRet (tC (.str "bits"))) tNext)
    (tRet (tC .non))))))))
abbrev t_wrong_part_of_halves (K : PySem.W.Frag) : TS := (tSeq (tIfS (tNot (tB (tCall (p_is_duration K) [] E0 (tCons (tOp (rIx K) (tVar 0) (tC (.int 1))) tNil)))) (tRet (tC (.str "unit"))) tNext)
    (tSeq (tIfS (tNot (tB (tCall (p_is_bit_count K) [] E0 (tCons (tOp (rIx K) (tVar 0) (tC (.int 2))) tNil)))) (tRet (tC (.str "bits"))) tNext)
    (tRet (tC .non))))
theorem isPG_shape {d : Dt} (h : isPG d = true) : ∃ a b, d = .tup [.int a, .int b] ∧ 1 ≤ a ∧ a ≤ 99999 ∧ 1 ≤ b ∧ b ≤ 99999 := by
  cases d with
  | tup xs =>
    simp only [isPG, areD, Bool.and_eq_true, decide_eq_true_eq] at h
    obtain ⟨h1, h2⟩ := h
    match xs, h1, h2 with
    | [x, y], h1, _ =>
      simp only [List.all_cons, List.all_nil, Bool.and_true, Bool.and_eq_true] at h1
      obtain ⟨hx, hy⟩ := h1
      cases x <;> simp [isWF] at hx
      cases y <;> simp [isWF] at hy
      exact ⟨_, _, rfl, hx.1, hx.2, hy.1, hy.2⟩
    | [], _, h2 => simp at h2
    | [_], _, h2 => simp at h2
    | _ :: _ :: _ :: _, _, h2 => simp at h2; omega
  | _ => simp [isPG, areD] at h
theorem cmp2 (a b : Int) : cmpOk (.tup [.int a, .int b]) = true := by
  simp [cmpOk, pur, purA, py, pyA, SeqAt.shaped, PyData.canLay0, PyData.canLayAll0, PyData.depth, PyData.depthAll]
section
variable {K : PySem.W.Frag} {S : Sta} {ds : List Dt}
theorem so_begins_with (hmu : S.Mu) (hp : ∃ d n k, ds = [d, .str n, .int k] ∧ pl d = true ∧ 0 < k) : So K S S [] (t_begins_with K) (startD 3 ds) (Pu (f_bw ds)) := by
  obtain ⟨d, n, k, rfl, hd, hk⟩ := hp
  have ho := pl_okN hd
  cases d with
  | tup xs =>
    have hx := pl_tup hd
    refine so_if (et_orF (et_notT (et_B (ev_isTup (ev_var rfl) ho))) (et_test (ev_op (ev_lenT (ev_var rfl)) (ev_var rfl) rv_neI))) (fun e => ?_) fun e => ?_
    · refine so_ret1D ev_bl (Sta.Le.refl S) ?_
      simp only [Bool.not_eq_true', decide_eq_false_iff_not] at e
      show f_bw [.tup xs, .str n, .int k] = .bl false
      cases xs with
      | nil => rfl
      | cons x xs =>
        cases x with
        | str s =>
          have : ¬ (((xs.length + 1 : Nat) : Int) = k) := e
          show Dt.bl (decide (((xs.length + 1 : Nat) : Int) = k) && decide (s = n)) = .bl false
          rw [decide_eq_false this, Bool.false_and]
        | _ => rfl
    · simp only [Bool.not_eq_false', decide_eq_true_eq] at e
      cases xs with
      | nil => simp at e; omega
      | cons x xs =>
        have hox := pl_okN (hx x List.mem_cons_self)
        have e' : decide (((xs.length + 1 : Nat) : Int) = k) = true := decide_eq_true e
        have hat : atI (x :: xs) 0 = some x := atI_nat (j := 0) rfl
        refine so_skip ?_
        cases x with
        | str s =>
          refine so_retD (ev_andT (ev_isStr (ev_ixT (ev_var rfl) ev_int hat) hox) (ev_op (ev_ixT (ev_var rfl) ev_int hat) (ev_var rfl) rv_eqS)) (Sta.Le.refl S) ?_
          show Dt.bl (decide (((xs.length + 1 : Nat) : Int) = k) && decide (s = n)) = .bl (decide (s = n))
          rw [e', Bool.true_and]
        | _ => exact so_retD (ev_andF (ev_isStr (ev_ixT (ev_var rfl) ev_int hat) hox)) (Sta.Le.refl S) rfl
  | _ => exact so_ifT (et_orT (et_notF (et_B (ev_isTup (ev_var rfl) ho)))) (so_ret1D ev_bl (Sta.Le.refl S) rfl)
theorem ev_begins_with {S1 : Sta} {ρ : List (Option Dt)} {ta : TE} {d : Dt} {n : Str} {k : Int} (h : Ev K S S1 ρ ta (Eq d)) (hd : pl d = true) (hk : 0 < k) : Ev K S S1 ρ (tCall (p_begins_with K) [] E0 (tCons ta (tCons (tC (.str n)) (tCons (tC (.int k)) tNil)))) (Eq (.bl (bwD d n k))) :=
  ev_callF (ea_cons h (ea_cons ev_str (ea_cons ev_int ea_nil))) rfl ⟨d, n, k, rfl, hd, hk⟩
theorem so_wrong_part_of_halves (hmu : S.Mu) (hp : ∃ xs, ds = [.tup xs] ∧ xs.length = 3 ∧ plSA xs = true) : So K S S [] (t_wrong_part_of_halves K) (startD 1 ds) (Pu (tupF wrongH ds)) := by
  obtain ⟨xs, rfl, hl, hx⟩ := hp
  match xs, hl, hx with
  | [a, u, b], _, hx =>
    have hu : plS u = true := List.all_eq_true.mp hx u (by simp)
    have hb : plS b = true := List.all_eq_true.mp hx b (by simp)
    refine so_ifD (et_not (et_B (ev_is_duration (ev_ixT (ev_var rfl) ev_int (atI_nat (j := 1) rfl)) (pl_okN (plS_pl hu))))) (fun e => so_ret1D ev_str (Sta.Le.refl S) ?_) fun e => so_skip ?_
    · show wrongH [a, u, b] = _
      simp only [wrongH, e, if_true]
    · refine so_ifD (et_not (et_B (ev_is_bit_count (ev_ixT (ev_var rfl) ev_int (atI_nat (j := 2) rfl)) (pl_okN (plS_pl hb))))) (fun e2 => so_ret1D ev_str (Sta.Le.refl S) ?_) fun e2 => so_skip (so_retD ev_non (Sta.Le.refl S) ?_)
      · show wrongH [a, u, b] = _
        simp only [wrongH, e, e2, if_true, Bool.false_eq_true, if_false]
      · show wrongH [a, u, b] = _
        simp only [wrongH, e, e2, Bool.false_eq_true, if_false]
theorem so_wrong_part_of_pairs (hmu : S.Mu) (hp : ∃ xs, ds = [.tup xs] ∧ xs.length = 6 ∧ plSA xs = true) : So K S S [] (t_wrong_part_of_pairs K) (startD 6 ds) (Pu (tupF wrongP ds)) := by
  obtain ⟨xs, rfl, hl, hx⟩ := hp
  match xs, hl, hx with
  | [a, h, z, o, s, b], _, hx =>
    have hh : plS h = true := List.all_eq_true.mp hx h (by simp)
    have hz : plS z = true := List.all_eq_true.mp hx z (by simp)
    have ho : plS o = true := List.all_eq_true.mp hx o (by simp)
    have hs : plS s = true := List.all_eq_true.mp hx s (by simp)
    have hb : plS b = true := List.all_eq_true.mp hx b (by simp)
    refine so_unp (is := [1, 2, 3, 4, 5]) (xs := [h, z, o, s, b]) ((ev_slT (ev_var rfl) (eo_some ev_int) eo_none).to rfl) rfl rfl rfl ?_
    refine so_ifD (et_not (a := (areD h && len024 h)) ?_) (fun e => so_ret1D ev_str (Sta.Le.refl S) ?_) fun e => so_skip ?_
    · cases h with
      | tup ys => exact et_and (et_B (ev_are_durations (ev_var rfl) hh)) fun _ => et_test (ev_op (ev_lenT (ev_var rfl)) (ev_tup (ea_cons ev_int (ea_cons ev_int (ea_cons ev_int ea_nil))) (by show 3 ≤ sizeLine; decide)) (rv_inT (ns := [0, 2, 4])))
      | _ => exact et_andF (et_B (ev_are_durations (ev_var rfl) hh))
    · show wrongP [a, h, z, o, s, b] = _
      simp only [wrongP, e, if_true]
    refine so_ifD (et_not (et_B (ev_is_pulse_and_gap (ev_var rfl) hz))) (fun e1 => so_ret1D ev_str (Sta.Le.refl S) ?_) fun e1 => so_skip ?_
    · show wrongP [a, h, z, o, s, b] = _
      simp only [wrongP, e, e1, if_true, Bool.false_eq_true, if_false]
    have hz2 : isPG z = true := by simpa using e1
    refine so_ifD (et_or (a := !isPG o) (b := PyData.eqv (py o) (py z)) (et_not (et_B (ev_is_pulse_and_gap (ev_var rfl) ho))) fun e2 => ?_) (fun e2 => so_ret1D ev_str (Sta.Le.refl S) ?_) fun e2 => so_skip ?_
    · have ho2 : isPG o = true := by simpa using e2
      obtain ⟨x1, y1, rfl, _⟩ := isPG_shape hz2
      obtain ⟨x2, y2, rfl, _⟩ := isPG_shape ho2
      exact et_test (ev_op (ev_var rfl) (ev_var rfl) (rv_eqD (cmp2 _ _) (cmp2 _ _)))
    · show wrongP [a, h, z, o, s, b] = _
      simp only [wrongP, e, e1, e2, if_true, Bool.false_eq_true, if_false]
    refine so_ifD (et_not (et_B (ev_is_duration (ev_var rfl) (pl_okN (plS_pl hs))))) (fun e3 => so_ret1D ev_str (Sta.Le.refl S) ?_) fun e3 => so_skip ?_
    · show wrongP [a, h, z, o, s, b] = _
      simp only [wrongP, e, e1, e2, e3, if_true, Bool.false_eq_true, if_false]
    refine so_ifD (et_not (et_B (ev_is_bit_count (ev_var rfl) (pl_okN (plS_pl hb))))) (fun e4 => so_ret1D ev_str (Sta.Le.refl S) ?_) fun e4 => so_skip (so_retD ev_non (Sta.Le.refl S) ?_)
    · show wrongP [a, h, z, o, s, b] = _
      simp only [wrongP, e, e1, e2, e3, e4, if_true, Bool.false_eq_true, if_false]
    · show wrongP [a, h, z, o, s, b] = _
      simp only [wrongP, e, e1, e2, e3, e4, Bool.false_eq_true, if_false]
end
end Bf
namespace Bf
open PySem PySem.Spec PyProof.Rows L2
/-! ## Right tables, words -/
/-- a right table's parts -/
inductive Tab where
  | ha (u b : Int)
  | pa (h : List Int) (z1 z2 o1 o2 s b : Int)
def tI (ns : List Int) : Dt := .tup (ns.map Dt.int)
def Tab.d : Tab → Dt
  | .ha u b => .tup [.str "halves", .int u, .int b]
  | .pa h z1 z2 o1 o2 s b => .tup [.str "pairs", tI h, tI [z1, z2], tI [o1, o2], .int s, .int b]
def Tab.b : Tab → Int
  | .ha _ b => b
  | .pa _ _ _ _ _ _ b => b
def dur (i : Int) : Prop := 1 ≤ i ∧ i ≤ 99999
def Tab.ok : Tab → Prop
  | .ha u b => dur u ∧ 1 ≤ b ∧ b ≤ 8
  | .pa h z1 z2 o1 o2 s b => (h.length = 0 ∨ h.length = 2 ∨ h.length = 4) ∧ (∀ x ∈ h, dur x) ∧ dur z1 ∧ dur z2 ∧ dur o1 ∧ dur o2 ∧ ¬ (o1 = z1 ∧ o2 = z2) ∧ dur s ∧ 1 ≤ b ∧ b ≤ 8
theorem Tab.b1 {T : Tab} (h : T.ok) : 1 ≤ T.b ∧ T.b ≤ 8 := by
  cases T with
  | ha u b => exact h.2
  | pa => exact ⟨h.2.2.2.2.2.2.2.2.1, h.2.2.2.2.2.2.2.2.2⟩
def tabPart (d : Dt) : Dt := if bwD d "pairs" 6 = true then tupF wrongP [d] else if bwD d "halves" 3 = true then tupF wrongH [d] else .str "form"
theorem plA_ints : ∀ ns : List Int, plA (ns.map Dt.int) = true
  | [] => rfl
  | n :: ns => by simp [plA, pl, plA_ints ns]
theorem pl_tI (ns : List Int) : pl (tI ns) = true := by simp [tI, pl, plA_ints]
theorem plS_tI {ns : List Int} (h : ns.length ≤ 100000) : plS (tI ns) = true := by
  simp only [plS, Bool.and_eq_true]
  exact ⟨pl_tI ns, decide_eq_true (by rw [List.length_map]; exact h)⟩
theorem isWF_int {i lo hi : Int} (h1 : lo ≤ i) (h2 : i ≤ hi) : isWF (.int i) lo hi = true := by simp [isWF, h1, h2]
theorem areD_tI {ns : List Int} (h : ∀ x ∈ ns, dur x) : areD (tI ns) = true := by
  simp only [areD, tI, List.all_map, List.all_eq_true]
  intro x hx
  exact isWF_int (h x hx).1 (h x hx).2
theorem isPG_two {a b : Int} (h1 : dur a) (h2 : dur b) : isPG (tI [a, b]) = true := by
  have : areD (tI [a, b]) = true := areD_tI (by intro x hx; simp at hx; rcases hx with rfl | rfl <;> assumption)
  simp only [isPG, this, Bool.true_and]
  rfl
theorem eqv2 (a b c d : Int) : PyData.eqv (py (tI [a, b])) (py (tI [c, d])) = (decide (a = c) && decide (b = d)) := by
  simp only [tI, List.map_cons, List.map_nil, py, pyA, PyData.eqv, PyData.eqvAll, Bool.and_true]
  by_cases h1 : a = c <;> by_cases h2 : b = d <;> simp [h1, h2]
theorem wrong_ok {T : Tab} (h : T.ok) : tabPart T.d = .non := by
  cases T with
  | ha u b =>
    obtain ⟨⟨h1, h2⟩, h3, h4⟩ := h
    show (if bwD (Tab.ha u b).d "pairs" 6 = true then _ else if bwD (Tab.ha u b).d "halves" 3 = true then tupF wrongH [(Tab.ha u b).d] else _) = Dt.non
    rw [if_neg (by simp [bwD, Tab.d]), if_pos (by simp [bwD, Tab.d])]
    show wrongH [.str "halves", .int u, .int b] = _
    simp only [wrongH, isWF_int h1 h2, isWF_int h3 h4, Bool.not_true, Bool.false_eq_true, if_false]
  | pa hd z1 z2 o1 o2 s b =>
    obtain ⟨h0, h1, h2, h3, h4, h5, h6, h7, h8, h9⟩ := h
    show (if bwD (Tab.pa hd z1 z2 o1 o2 s b).d "pairs" 6 = true then tupF wrongP [(Tab.pa hd z1 z2 o1 o2 s b).d] else _) = Dt.non
    rw [if_pos (by simp [bwD, Tab.d])]
    show wrongP [.str "pairs", tI hd, tI [z1, z2], tI [o1, o2], .int s, .int b] = _
    have e1 : len024 (tI hd) = true := by
      simp only [len024, tI, List.length_map]
      rcases h0 with h | h | h <;> rw [h] <;> decide
    have e2 : (decide (o1 = z1) && decide (o2 = z2)) = false := by
      by_cases a : o1 = z1
      · by_cases b : o2 = z2
        · exact absurd ⟨a, b⟩ h6
        · simp [b]
      · simp [a]
    simp only [wrongP, areD_tI h1, e1, isPG_two h2 h3, isPG_two h4 h5, eqv2, e2, isWF_int h7.1 h7.2, isWF_int h8 h9, Bool.and_self, Bool.not_true, Bool.or_self, Bool.false_eq_true, if_false]
theorem pl_tab (T : Tab) : pl T.d = true := by
  cases T <;> simp [Tab.d, pl, plA, tI, plA_ints]
theorem plSA_tab {T : Tab} (h : T.ok) : ∀ xs, T.d = .tup xs → plSA xs = true := by
  intro xs e
  cases T with
  | ha u b => cases e; simp [plSA, plS, pl]
  | pa hd z1 z2 o1 o2 s b =>
    cases e
    have : hd.length ≤ 100000 := by have := h.1; omega
    have h1 : plS (tI [z1, z2]) = true := plS_tI (by show 2 ≤ 100000; decide)
    have h2 : plS (tI [o1, o2]) = true := plS_tI (by show 2 ≤ 100000; decide)
    simp only [plSA, List.all_cons, List.all_nil, plS_tI this, h1, h2]
    rfl
abbrev preTab : List Dt → Prop := fun ds => ∃ T : Tab, T.ok ∧ ds = [T.d]
abbrev p_need_table (K : PySem.W.Frag) : Sp := spF K 1 preTab (one1 fun d => d)
def bitsD : Dt → Dt
  | .tup xs => xs.getLastD .non
  | _ => .non
abbrev p_bits_of (K : PySem.W.Frag) : Sp := spF K 1 preTab (one1 bitsD)
theorem bits_tab (T : Tab) : bitsD T.d = .int T.b := by cases T <;> rfl
theorem at_tab (T : Tab) : ∃ xs, T.d = .tup xs ∧ atI xs (-1) = some (.int T.b) := by
  cases T with
  | ha u b => exact ⟨_, rfl, atI_last [Dt.str "halves", Dt.int u] (Dt.int b)⟩
  | pa hd z1 z2 o1 o2 s b => exact ⟨_, rfl, atI_last [Dt.str "pairs", tI hd, tI [z1, z2], tI [o1, o2], Dt.int s] (Dt.int b)⟩
abbrev t_need_table (K : PySem.W.Frag) : TS := (tSeq (tIfS (tB (tCall (p_begins_with K) [] E0 (tCons (tVar 0) (tCons (tC (.str "pairs")) (tCons (tC (.int 6)) tNil))))) (tAsg (tCall (p_wrong_part_of_pairs K) [] E0 (tCons (tVar 0) tNil)) (gName 1)) (tIfS (tB (tCall (p_begins_with K) [] E0 (tCons (tVar 0) (tCons (tC (.str "halves")) (tCons (tC (.int 3)) tNil))))) (tAsg (tCall (p_wrong_part_of_halves K) [] E0 (tCons (tVar 0) tNil)) (gName 1)) (tAsg (tC (.str "form")) (gName 1))))
    (tSeq (tIfS (tTest (tOp rNoNo (tVar 1) (tC .non))) tNever tNext)
    (tRet (tVar 0))))
abbrev t_bits_of (K : PySem.W.Frag) : TS := (tRet (tOp (rIx K) (tVar 0) (tUn rNegI (tC (.int 1)))))
section
variable {K : PySem.W.Frag} {S : Sta} {ds : List Dt}
theorem so_bits_of (hmu : S.Mu) (hp : preTab ds) : So K S S [] (t_bits_of K) (startD 1 ds) (Pu (one1 bitsD ds)) := by
  obtain ⟨T, hT, rfl⟩ := hp
  obtain ⟨xs, e, ha⟩ := at_tab T
  show So K S S [] _ (startD 1 [T.d]) (Pu (bitsD T.d))
  rw [bits_tab, e]
  exact so_retD (ev_ixT (ev_var rfl) (ev_neg ev_int) ha) (Sta.Le.refl S) rfl
theorem ev_bits_of {S1 : Sta} {ρ : List (Option Dt)} {ta : TE} {T : Tab} (h : Ev K S S1 ρ ta (Eq T.d)) (hT : T.ok) : Ev K S S1 ρ (tCall (p_bits_of K) [] E0 (tCons ta tNil)) (Eq (.int T.b)) := (ev_callF (ea_cons h ea_nil) rfl ⟨T, hT, rfl⟩).to (bits_tab T)
theorem so_need_table (hmu : S.Mu) (hp : preTab ds) : So K S S [] (t_need_table K) (startD 2 ds) (Pu (one1 (fun d => d) ds)) := by
  obtain ⟨T, hT, rfl⟩ := hp
  have hpl := pl_tab T
  have hw := wrong_ok hT
  have hsa := plSA_tab hT
  -- what follows the choice
  have rest : So K S S [] (tSeq (tIfS (tTest (tOp rNoNo (tVar 1) (tC .non))) tNever tNext) (tRet (tVar 0))) [some T.d, some .non] (Pu T.d) :=
    so_ifF (et_test (ev_op (ev_var rfl) ev_non rv_noNo)) (so_skip (so_retD (ev_var rfl) (Sta.Le.refl S) rfl))
  cases e : bwD T.d "pairs" 6 with
  | true =>
    have hw2 : tupF wrongP [T.d] = .non := by
      have : tabPart T.d = tupF wrongP [T.d] := if_pos e
      rw [← this, hw]
    refine so_ifT ((et_B (ev_begins_with (ev_var rfl) hpl (by decide))).to e) ?_
    cases T with
    | ha u b => simp [bwD, Tab.d] at e
    | pa hd z1 z2 o1 o2 s b => exact so_setD ((ev_callF (ea_cons (ev_var rfl) ea_nil) rfl ⟨_, rfl, rfl, hsa _ rfl⟩).to hw2) rest
  | false =>
    refine so_ifF ((et_B (ev_begins_with (ev_var rfl) hpl (by decide))).to e) ?_
    cases T with
    | pa hd z1 z2 o1 o2 s b => simp [bwD, Tab.d] at e
    | ha u b =>
      have hw2 : tupF wrongH [(Tab.ha u b).d] = .non := by
        have : tabPart (Tab.ha u b).d = tupF wrongH [(Tab.ha u b).d] := (if_neg (by rw [e]; decide)).trans (if_pos (by simp [bwD, Tab.d]))
        rw [← this, hw]
      refine so_ifT ((et_B (ev_begins_with (ev_var rfl) hpl (by decide))).to (by simp [bwD, Tab.d])) ?_
      exact so_setD ((ev_callF (ea_cons (ev_var rfl) ea_nil) rfl ⟨_, rfl, rfl, hsa _ rfl⟩).to hw2) rest
theorem ev_need_table {S1 : Sta} {ρ : List (Option Dt)} {ta : TE} {T : Tab} (h : Ev K S S1 ρ ta (Eq T.d)) (hT : T.ok) : Ev K S S1 ρ (tCall (p_need_table K) [] E0 (tCons ta tNil)) (Eq T.d) := ev_callF (ea_cons h ea_nil) rfl ⟨T, hT, rfl⟩
end
/-! ### is_word -/
def isWd (b : Int) : Dt → Bool
  | .tup xs => decide ((xs.length : Int) = b) && xs.all fun x => isWF x 0 1
  | _ => false
def f_isw : List Dt → Dt
  | [t, d] => match bitsD t with
    | .int b => .bl (isWd b d)
    | _ => .non
  | _ => .non
abbrev p_is_word (K : PySem.W.Frag) : Sp := spF K 2 (fun ds => ∃ (T : Tab) (d : Dt), T.ok ∧ ds = [T.d, d] ∧ plS d = true) f_isw
theorem f_isw_tab (T : Tab) (d : Dt) : f_isw [T.d, d] = .bl (isWd T.b d) := by
  show (match bitsD T.d with | .int b => Dt.bl (isWd b d) | _ => .non) = _
  rw [bits_tab]
abbrev t_is_word (K : PySem.W.Frag) : TS := (tSeq (tDrop (tCall (p_need_table K) [] E0 (tCons (tVar 0) tNil)))
    (tSeq (tIfS (tOr (tNot (tB (tCB (rIsi K) (tCons (tVar 1) (tCons (tC (.ty "tuple")) tNil))))) (tTest (tOp rNe (tCB (rLen K) (tCons (tVar 1) tNil)) (tCall (p_bits_of K) [] E0 (tCons (tVar 0) tNil))))) (tRet (tC (.bl false))) tNext)
    (tRet (tCB (rAll K) (tCons (tLc (iTup K (tVar 1)) (gName 2) tYes (tCall (p_is_whole_from K) [] E0 (tCons (tVar 2) (tCons (tC (.int 0)) (tCons (tC (.int 1)) tNil)))) [2]) tNil)))))
section
variable {K : PySem.W.Frag} {S : Sta} {ds : List Dt}
theorem so_is_word (hmu : S.Mu) (hp : ∃ (T : Tab) (d : Dt), T.ok ∧ ds = [T.d, d] ∧ plS d = true) : So K S S [] (t_is_word K) (startD 3 ds) (Pu (f_isw ds)) := by
  obtain ⟨T, d, hT, rfl, hd⟩ := hp
  rw [f_isw_tab]
  have ho := pl_okN (plS_pl hd)
  refine so_drop (ev_need_table (ev_var rfl) hT) ?_
  cases d with
  | tup xs =>
    have hl : xs.length ≤ 100000 := of_decide_eq_true (Bool.and_eq_true_iff.mp hd).2
    have hx := pl_tup (plS_pl hd)
    refine so_if (et_orF (et_notT (et_B (ev_isTup (ev_var rfl) ho))) (et_test (ev_op (ev_lenT (ev_var rfl)) (ev_bits_of (ev_var rfl) hT) rv_neI))) (fun e => so_ret1D ev_bl (Sta.Le.refl S) ?_) fun e => so_skip ?_
    · have e' : ¬ ((xs.length : Int) = T.b) := by simpa using e
      simp [isWd, e']
    · have e' : (xs.length : Int) = T.b := by simpa using e
      refine so_retD (ev_allT (p := fun x => isWF x 0 1) hmu (ev_var rfl) (by decide) hl fun x h => ev_is_whole_from (ev_var rfl) (pl_okN (hx x h))) (Sta.Le.refl S) ?_
      simp [isWd, e']
  | _ => exact so_ifT (et_orT (et_notF (et_B (ev_isTup (ev_var rfl) ho)))) (so_ret1D ev_bl (Sta.Le.refl S) rfl)
theorem ev_is_word {S1 S2 : Sta} {ρ : List (Option Dt)} {ta tb : TE} {T : Tab} {d : Dt} (h : Ev K S S1 ρ ta (Eq T.d)) (hT : T.ok) (h2 : Ev K S1 S2 ρ tb (Eq d)) (hd : plS d = true) : Ev K S S2 ρ (tCall (p_is_word K) [] E0 (tCons ta (tCons tb tNil))) (Eq (.bl (isWd T.b d))) :=
  (ev_callF (ea_cons h (ea_cons h2 ea_nil)) rfl ⟨T, d, hT, rfl, hd⟩).to (f_isw_tab T d)
end
/-! ### words -/
def wordsL : Nat → List (List Int)
  | 0 => [[]]
  | n + 1 => (wordsL n).flatMap fun w => [w ++ [0], w ++ [1]]
def wordsR : Nat → List (List Int)
  | 0 => [[]]
  | n + 1 => (wordsR n).map (0 :: ·) ++ (wordsR n).map (1 :: ·)
theorem wordsR_step : ∀ n, wordsR (n + 1) = (wordsR n).flatMap fun w => [w ++ [0], w ++ [1]]
  | 0 => rfl
  | n + 1 => by
    have ih := wordsR_step n
    show (wordsR (n + 1)).map (0 :: ·) ++ (wordsR (n + 1)).map (1 :: ·) = _
    have h : ∀ (a : Int) (l : List (List Int)), (l.map (a :: ·)).flatMap (fun w => [w ++ [0], w ++ [1]]) = (l.flatMap fun w => [w ++ [0], w ++ [1]]).map (a :: ·) := by
      intro a l
      induction l with
      | nil => rfl
      | cons x l ih => simp only [List.map_cons, List.flatMap_cons, List.map_append, ih]; rfl
    conv => rhs; rw [show wordsR (n + 1) = (wordsR n).map (0 :: ·) ++ (wordsR n).map (1 :: ·) from rfl, List.flatMap_append, h, h, ← ih]
theorem words_eq : ∀ n, wordsR n = wordsL n
  | 0 => rfl
  | n + 1 => by rw [wordsR_step, words_eq n]; rfl
theorem wordsL_len : ∀ n, (wordsL n).length = 2 ^ n
  | 0 => rfl
  | n + 1 => by
    have h : ∀ l : List (List Int), (l.flatMap fun w => [w ++ [0], w ++ [1]]).length = 2 * l.length := by
      intro l
      induction l with
      | nil => rfl
      | cons x l ih => simp only [List.flatMap_cons, List.length_append, ih, List.length_cons, List.length_nil]; omega
    show ((wordsL n).flatMap fun w => [w ++ [0], w ++ [1]]).length = _
    rw [h, wordsL_len n, Nat.pow_succ, Nat.mul_comm]
/-- a word: so many bits -/
def isBits (n : Nat) (w : List Int) : Prop := w.length = n ∧ ∀ x ∈ w, x = 0 ∨ x = 1
theorem wordsL_bits : ∀ (n : Nat) (w : List Int), w ∈ wordsL n → isBits n w
  | 0, w, h => by
    have : w = [] := by simpa [wordsL] using h
    subst this
    exact ⟨rfl, fun _ z => nomatch z⟩
  | n + 1, w, h => by
    obtain ⟨u, hu, hw⟩ := List.mem_flatMap.mp h
    obtain ⟨h1, h2⟩ := wordsL_bits n u hu
    have : w = u ++ [0] ∨ w = u ++ [1] := by simpa using hw
    rcases this with rfl | rfl <;> refine ⟨by simp [h1], fun x hx => ?_⟩ <;> rcases List.mem_append.mp hx with hx | hx
    · exact h2 x hx
    · exact .inl (List.mem_singleton.mp hx)
    · exact h2 x hx
    · exact .inr (List.mem_singleton.mp hx)
def wordsD (b : Int) : List Dt := (wordsL b.toNat).map tI
def f_words : List Dt → List Dt
  | [t] => match bitsD t with
    | .int b => wordsD b
    | _ => []
  | _ => []
theorem f_words_tab (T : Tab) : f_words [T.d] = wordsD T.b := by
  show (match bitsD T.d with | .int b => wordsD b | _ => []) = _
  rw [bits_tab]
abbrev p_words_of (K : PySem.W.Frag) : Sp := spN K 1 preTab f_words
abbrev t_words_of (K : PySem.W.Frag) : TS := (tSeq (tDrop (tCall (p_need_table K) [] E0 (tCons (tVar 0) tNil)))
    (tSeq (tAsg (tLst (tCons (tTup tNil) tNil)) (gName 1))
    (tSeq (tFor (iRng1 (tCons (tCall (p_bits_of K) [] E0 (tCons (tVar 0) tNil)) tNil)) (gName 2) (tAsg (tLc2 (iList K (tVar 1)) (gName 3) tYes (iTup K (tTup (tCons (tC (.int 0)) (tCons (tC (.int 1)) tNil)))) (gName 4) tYes (tTup (StX.tStar K (tVar 3) (tCons (tVar 4) tNil))) [3, 4] [4]) (gName 1)))
    (tRet (tVar 1)))))
section
variable {K : PySem.W.Frag} {S : Sta} {ds : List Dt}
theorem nol_tI (ns : List Int) : nol (tI ns) = true := by
  have : ∀ ns : List Int, nolA (ns.map Dt.int) = true := fun ns => nolA_all.mpr fun x hx => by
    obtain ⟨n, _, rfl⟩ := List.mem_map.mp hx
    rfl
  simp [tI, nol, this]
def app1 : Dt → Dt → Dt
  | .tup xs, y => .tup (xs ++ [y])
  | _, _ => .non
theorem app1_words (ws : List (List Int)) : ((ws.map tI).flatMap fun x => [Dt.int 0, .int 1].map (app1 x)) = (ws.flatMap fun w => [w ++ [0], w ++ [1]]).map tI := by
  induction ws with
  | nil => rfl
  | cons w ws ih =>
    simp only [List.map_cons, List.flatMap_cons, List.map_append, ih]
    congr 1
    simp [app1, tI]
theorem so_words_of {H0 : Hp} (hp : preTab ds) : So K (staSame H0) (staSame H0) [] (t_words_of K) (startD 5 ds) { rt := fun d => ∃ p, d = .lat p (f_words ds) ∧ H0 p = none } := by
  obtain ⟨T, hT, rfl⟩ := hp
  rw [f_words_tab]
  obtain ⟨b1, b2⟩ := Tab.b1 hT
  have hb : ((T.b.toNat : Nat) : Int) = T.b := Int.toNat_of_nonneg (by omega)
  refine so_drop (ev_need_table (ev_var rfl) hT) ?_
  refine so_newS (en_lst (ea_cons (ev_tup ea_nil (by decide)) ea_nil) (by show 1 ≤ sizeLine; decide)) fun p hp => ?_
  refine so_seq (M := fun ρ' => ∃ p x y z, ρ' = [some T.d, some (.lat p (wordsD T.b)), x, y, z] ∧ H0 p = none) (so_forR (n := T.b.toNat) (Z := fun _ => staSame H0) (ea_cons ((ev_bits_of (ev_var rfl) hT).to (by rw [hb])) ea_nil) (by omega) (fun _ _ => Sta.Le.refl _) (fun _ _ => Sta.Le.refl _)
    (fun i ρ' => ∃ p x y z, ρ' = [some T.d, some (.lat p ((wordsL i).map tI)), x, y, z] ∧ H0 p = none) ⟨p, _, _, _, rfl, hp⟩ (fun i ρ' hi hJ => ?_) fun ρ' hJ => hJ) fun ρ' hM => ?_
  · obtain ⟨q, x, y, z, rfl, hq⟩ := hJ
    have hpow : (wordsL i).length ≤ 256 := by
      rw [wordsL_len]
      exact Nat.pow_le_pow_right (n := 2) (by decide) (show i ≤ 8 by omega)
    refine so_newS0 ((en_lc2 (xs := (wordsL i).map tI) (ys := [.int 0, .int 1]) (f := app1) staSame_mu (ev_lat (ev_var rfl)) (by decide) (by decide) (by rw [List.length_map]; show _ * 2 ≤ _; omega) (fun x hx => ev_tup (ea_cons ev_int (ea_cons ev_int ea_nil)) (by show 2 ≤ sizeLine; decide)) (fun x hx y hy => ?_) (fun x hx y hy => ?_) rfl).to (app1_words (wordsL i))) (Sta.Le.refl _) fun r hr => ⟨r, _, _, _, rfl, hr⟩
    · obtain ⟨w, hw, rfl⟩ := List.mem_map.mp hx
      have hl := (wordsL_bits i w hw).1
      exact ev_tup (ea_starT (ev_var rfl) (ea_cons (ev_var rfl) ea_nil)) (by rw [List.length_append, List.length_map, hl]; show i + 1 ≤ sizeLine; exact Nat.le_trans (show i + 1 ≤ 9 by omega) (by decide))
    · obtain ⟨w, hw, rfl⟩ := List.mem_map.mp hx
      have hyy : y = .int 0 ∨ y = .int 1 := by simpa using hy
      have e : ∀ k : Int, app1 (tI w) (.int k) = tI (w ++ [k]) := fun k => by simp [app1, tI]
      rcases hyy with rfl | rfl <;> rw [e] <;> exact nol_tI _
  · obtain ⟨q, x, y, z, rfl, hq⟩ := hM
    exact so_retD (ev_var rfl) (Sta.Le.refl _) ⟨q, rfl, hq⟩
theorem en_words_of {S1 : Sta} {ρ : List (Option Dt)} {ta : TE} {T : Tab} (h : Ev K S S1 ρ ta (Eq T.d)) (hT : T.ok) : EvN K S S1 ρ (tCall (p_words_of K) [] E0 (tCons ta tNil)) (wordsD T.b) := (en_call (ea_cons h ea_nil) rfl ⟨T, hT, rfl⟩).to (f_words_tab T)
end
end Bf
namespace Bf
open PySem PySem.Spec PyProof.Rows L2
/-! ## Frames and places -/
structure Site where
  k : Int
  rest : List Int
  o : Str
def Site.d (s : Site) : Dt := .tup [.int s.k, tI s.rest, .str s.o]
def fhS (bit : Int) : Str := if bit = 1 then "pulse" else "gap"
def ohS (h : Str) : Str := if h = "pulse" then "gap" else "pulse"
def Tab.isPa : Tab → Bool
  | .ha _ _ => false
  | .pa .. => true
def Tab.beg : Tab → Site
  | .ha u _ => ⟨0, [u], "gap"⟩
  | .pa h .. => ⟨0, h, ""⟩
/-- what a bit of halves leaves: the durations, the half under way -/
def haP (u bit : Int) (o : Str) : List Int × Str := if fhS bit = o then ([2 * u], ohS o) else ([u, u], o)
def haS (u bit : Int) (o : Str) (last : Bool) : List Int × Str := if last && decide ((haP u bit o).2 = "pulse") then ((haP u bit o).1 ++ [u], "gap") else haP u bit o
def Tab.sett : Tab → Site → Int → Site
  | .ha u b, s, bit => ⟨s.k + 1, (haS u bit s.o (decide (s.k + 1 = b))).1, (haS u bit s.o (decide (s.k + 1 = b))).2⟩
  | .pa _ z1 z2 o1 o2 st b, s, bit => ⟨s.k + 1, (if bit = 1 then [o1, o2] else [z1, z2]) ++ (if decide (s.k + 1 = b) = true then [st] else []), ""⟩
/-- what a step tells -/
def stD (x : Dt) (s : Site) : Dt := .tup [x, .int (s.rest.headD 0), (Site.mk s.k s.rest.tail s.o).d]
def Tab.steps (T : Tab) (s : Site) : List Dt :=
  if decide (s.k = T.b) && decide (s.rest = []) then [] else if s.rest ≠ [] then [stD .non s] else [stD (.int 0) (T.sett s 0), stD (.int 1) (T.sett s 1)]
/-- the durations from a place on, with these bits to come -/
def Tab.ahead (T : Tab) : Site → List Int → List Int
  | s, [] => s.rest
  | s, bit :: ws => s.rest ++ T.ahead ⟨(T.sett s bit).k, (T.sett s bit).rest, (T.sett s bit).o⟩ ws
theorem ahead_cons (T : Tab) (s : Site) (bit : Int) (ws : List Int) : T.ahead s (bit :: ws) = s.rest ++ T.ahead (T.sett s bit) ws := rfl
theorem ahead_app (T : Tab) (k : Int) (xs ys : List Int) (o : Str) : ∀ ws, T.ahead ⟨k, xs ++ ys, o⟩ ws = xs ++ T.ahead ⟨k, ys, o⟩ ws
  | [] => rfl
  | bit :: ws => by
    have e : T.sett ⟨k, xs ++ ys, o⟩ bit = T.sett ⟨k, ys, o⟩ bit := by cases T <;> rfl
    rw [ahead_cons, ahead_cons, e, List.append_assoc]
/-- the frame -/
def Tab.frame (T : Tab) (w : List Int) : List Int := T.ahead T.beg w
/-! ### pairs -/
def paBits (z1 z2 o1 o2 : Int) (w : List Int) : List Int := w.flatMap fun bit => if bit = 1 then [o1, o2] else [z1, z2]
theorem frame_pa {h : List Int} {z1 z2 o1 o2 st b : Int} : ∀ (w : List Int) (k : Int) (rest : List Int) (o : Str), k + w.length = b → w ≠ [] → (Tab.pa h z1 z2 o1 o2 st b).ahead ⟨k, rest, o⟩ w = rest ++ (paBits z1 z2 o1 o2 w ++ [st])
  | [], _, _, _, _, h => absurd rfl h
  | [bit], k, rest, o, hk, _ => by
    have : k + 1 = b := by simpa using hk
    simp [Tab.ahead, Tab.sett, this, paBits]
  | bit :: c :: ws, k, rest, o, hk, _ => by
    have h1 : ¬ (k + 1 = b) := by simp only [List.length_cons] at hk; omega
    have ih := frame_pa (h := h) (z1 := z1) (z2 := z2) (o1 := o1) (o2 := o2) (st := st) (b := b) (c :: ws) (k + 1) ((if bit = 1 then [o1, o2] else [z1, z2]) ++ []) "" (by simp only [List.length_cons] at hk ⊢; omega) (by simp)
    rw [ahead_cons]
    have e : (Tab.pa h z1 z2 o1 o2 st b).sett ⟨k, rest, o⟩ bit = ⟨k + 1, (if bit = 1 then [o1, o2] else [z1, z2]) ++ [], ""⟩ := by
      simp [Tab.sett, h1]
    rw [e, ih]
    simp [paBits]
/-! ### halves -/
/-- durations of halves: one under way since cur -/
def runs (u : Int) : Str → Int → List Str → List Int
  | _, cur, [] => [cur]
  | prev, cur, l :: ls => if l = prev then runs u l (cur + u) ls else cur :: runs u l u ls
def hvs (w : List Int) : List Str := w.flatMap fun bit => [fhS bit, ohS (fhS bit)]
def cutG (l : List Str) : List Str := if l.getLast? = some "gap" then l.dropLast else l
theorem cutG_two (a b : Str) {l : List Str} (h : l ≠ []) : cutG (a :: b :: l) = a :: b :: cutG l := by
  unfold cutG
  cases l with
  | nil => exact absurd rfl h
  | cons c l =>
    rw [show (a :: b :: c :: l).getLast? = (c :: l).getLast? by simp [List.getLast?_cons]]
    split
    · simp [List.dropLast]
    · rfl
theorem gap_ne : ("gap" : Str) ≠ "pulse" := by decide
theorem fh_or (bit : Int) : fhS bit = "pulse" ∨ fhS bit = "gap" := by
  unfold fhS
  split
  · exact .inl rfl
  · exact .inr rfl
theorem hvs_ne {w : List Int} (h : w ≠ []) : hvs w ≠ [] := by
  cases w with
  | nil => exact absurd rfl h
  | cons a w => simp [hvs]
theorem frame_ha {u b : Int} : ∀ (w : List Int) (k : Int) (o : Str), k + w.length = b → w ≠ [] → (o = "pulse" ∨ o = "gap") → (Tab.ha u b).ahead ⟨k, [], o⟩ w = runs u o u (cutG (hvs w))
  | [], _, _, _, h, _ => absurd rfl h
  | [bit], k, o, hk, _, ho => by
    have hl : k + 1 = b := by simpa using hk
    have hg : ("gap" : Str) ≠ "pulse" := gap_ne
    have hg2 : ("pulse" : Str) ≠ "gap" := gap_ne.symm
    rcases fh_or bit with hf | hf <;> rcases ho with rfl | rfl <;> simp [Tab.ahead, Tab.sett, haS, haP, hvs, ohS, hf, hl, cutG, runs, hg, hg2] <;> omega
  | bit :: c :: ws, k, o, hk, _, ho => by
    have hl : ¬ (k + 1 = b) := by simp only [List.length_cons] at hk; omega
    have hg : ("gap" : Str) ≠ "pulse" := gap_ne
    have hg2 : ("pulse" : Str) ≠ "gap" := gap_ne.symm
    have hne : hvs (c :: ws) ≠ [] := hvs_ne (by simp)
    have ehv : hvs (bit :: c :: ws) = fhS bit :: ohS (fhS bit) :: hvs (c :: ws) := rfl
    rw [ehv, cutG_two _ _ hne, ahead_cons]
    have ih := fun o' ho' => frame_ha (u := u) (b := b) (c :: ws) (k + 1) o' (by simp only [List.length_cons] at hk ⊢; omega) (by simp) ho'
    have e : (Tab.ha u b).sett ⟨k, [], o⟩ bit = ⟨k + 1, (haP u bit o).1 ++ [], (haP u bit o).2⟩ := by
      simp [Tab.sett, haS, hl]
    rw [e, ahead_app]
    rcases fh_or bit with hf | hf <;> rcases ho with rfl | rfl
    · rw [show (haP u bit "pulse") = ([2 * u], ("gap" : Str)) by simp [haP, hf, ohS], ih "gap" (.inr rfl)]
      simp [hf, ohS, runs, hg, hg2]; omega
    · rw [show (haP u bit "gap") = ([u, u], ("gap" : Str)) by simp [haP, hf, ohS, hg2], ih "gap" (.inr rfl)]
      simp [hf, ohS, runs, hg, hg2]
    · rw [show (haP u bit "pulse") = ([u, u], ("pulse" : Str)) by simp [haP, hf, ohS, hg], ih "pulse" (.inl rfl)]
      simp [hf, ohS, runs, hg, hg2]
    · rw [show (haP u bit "gap") = ([2 * u], ("pulse" : Str)) by simp [haP, hf, ohS, hg], ih "pulse" (.inl rfl)]
      simp [hf, ohS, runs, hg, hg2]; omega
end Bf
namespace Bf
open PySem PySem.Spec PyProof.Rows L2
/-! ## frames.py over data -/
theorem nolA_ints (ns : List Int) : nolA (ns.map Dt.int) = true := nolA_all.mpr fun x hx => by
  obtain ⟨n, _, rfl⟩ := List.mem_map.mp hx
  rfl
theorem nolA_strs (ns : List Str) : nolA (ns.map Dt.str) = true := nolA_all.mpr fun x hx => by
  obtain ⟨n, _, rfl⟩ := List.mem_map.mp hx
  rfl
theorem nol_tab (T : Tab) : nol T.d = true := by
  cases T <;> simp [Tab.d, nol, nolA, nol_tI]
theorem nol_site (s : Site) : nol s.d = true := by simp [Site.d, nol, nolA, nol_tI]
theorem offOk_nol {p : Addr} {d : Dt} (h : nol d = true) : offOk p d := by
  cases d <;> first | exact h | simp [nol] at h
theorem off_int {p : Addr} {i : Int} : offOk p (.int i) := rfl
theorem off_str {p : Addr} {i : Str} : offOk p (.str i) := rfl
theorem off_tI {p : Addr} {ns : List Int} : offOk p (tI ns) := offOk_nol (nol_tI ns)
theorem off_tab {p : Addr} {T : Tab} : offOk p T.d := offOk_nol (nol_tab T)
section
variable {K : PySem.W.Frag} {S : Sta} {ds : List Dt} {d : Dt}
abbrev p_is_pairs (K : PySem.W.Frag) : Sp := spR K 1 fun ds d => ∃ T : Tab, T.ok ∧ ds = [T.d] ∧ d = .bl T.isPa
abbrev t_is_pairs (K : PySem.W.Frag) : TS := (tRet (tOp rEq (tOp (rIx K) (tVar 0) (tC (.int 0))) (tC (.str "pairs"))))
theorem so_is_pairs (hp : ∃ T : Tab, T.ok ∧ ds = [T.d] ∧ d = .bl T.isPa) : So K S S [] (t_is_pairs K) (startD 1 ds) (Pu d) := by
  obtain ⟨T, hT, rfl, rfl⟩ := hp
  cases T with
  | ha u b => exact so_retD ((ev_op (ev_ixT (ev_var rfl) ev_int (atI_nat (j := 0) rfl)) ev_str rv_eqS).to rfl) (Sta.Le.refl _) rfl
  | pa h z1 z2 o1 o2 s b => exact so_retD ((ev_op (ev_ixT (ev_var rfl) ev_int (atI_nat (j := 0) rfl)) ev_str rv_eqS).to rfl) (Sta.Le.refl _) rfl
abbrev p_first_half (K : PySem.W.Frag) : Sp := spR K 1 fun ds d => ∃ i : Int, ds = [.int i] ∧ d = .str (fhS i)
abbrev t_first_half (K : PySem.W.Frag) : TS := (tRet (tIf (tTest (tOp rEq (tVar 0) (tC (.int 1)))) (tC (.str "pulse")) (tC (.str "gap"))))
theorem so_first_half (hp : ∃ i : Int, ds = [.int i] ∧ d = .str (fhS i)) : So K S S [] (t_first_half K) (startD 1 ds) (Pu d) := by
  obtain ⟨i, rfl, rfl⟩ := hp
  exact so_retD (ev_if (b := decide (i = 1)) (et_test (ev_op (ev_var rfl) ev_int rv_eqI)) (fun e => ev_str.to (by rw [fhS, if_pos (of_decide_eq_true e)])) (fun e => ev_str.to (by rw [fhS, if_neg (of_decide_eq_false e)]))) (Sta.Le.refl S) rfl
abbrev p_other_half (K : PySem.W.Frag) : Sp := spR K 1 fun ds d => ∃ h : Str, ds = [.str h] ∧ d = .str (ohS h)
abbrev t_other_half (K : PySem.W.Frag) : TS := (tRet (tIf (tTest (tOp rEq (tVar 0) (tC (.str "pulse")))) (tC (.str "gap")) (tC (.str "pulse"))))
theorem so_other_half (hp : ∃ h : Str, ds = [.str h] ∧ d = .str (ohS h)) : So K S S [] (t_other_half K) (startD 1 ds) (Pu d) := by
  obtain ⟨h, rfl, rfl⟩ := hp
  exact so_retD (ev_if (b := decide (h = "pulse")) (et_test (ev_op (ev_var rfl) ev_str rv_eqS)) (fun e => ev_str.to (by rw [ohS, if_pos (of_decide_eq_true e)])) (fun e => ev_str.to (by rw [ohS, if_neg (of_decide_eq_false e)]))) (Sta.Le.refl S) rfl
section
variable {S1 : Sta} {ρ : List (Option Dt)} {ta tb tc td : TE}
theorem ev_is_pairs {T : Tab} (h : Ev K S S1 ρ ta (Eq T.d)) (hT : T.ok) : Ev K S S1 ρ (tCall (p_is_pairs K) [] E0 (tCons ta tNil)) (Eq (.bl T.isPa)) := ev_callR (ea_cons h ea_nil) rfl ⟨T, hT, rfl, rfl⟩
theorem ev_first_half {i : Int} (h : Ev K S S1 ρ ta (Eq (.int i))) : Ev K S S1 ρ (tCall (p_first_half K) [] E0 (tCons ta tNil)) (Eq (.str (fhS i))) := ev_callR (ea_cons h ea_nil) rfl ⟨i, rfl, rfl⟩
theorem ev_other_half {i : Str} (h : Ev K S S1 ρ ta (Eq (.str i))) : Ev K S S1 ρ (tCall (p_other_half K) [] E0 (tCons ta tNil)) (Eq (.str (ohS i))) := ev_callR (ea_cons h ea_nil) rfl ⟨i, rfl, rfl⟩
end
/-! ### the frame of pairs -/
def r_fop (ds : List Dt) (d : Dt) : Prop := ∃ (h : List Int) (z1 z2 o1 o2 s b : Int) (w : List Int), (Tab.pa h z1 z2 o1 o2 s b).ok ∧ isBits b.toNat w ∧ ds = [(Tab.pa h z1 z2 o1 o2 s b).d, tI w] ∧ d = tI (h ++ (paBits z1 z2 o1 o2 w ++ [s]))
abbrev p_frame_of_pairs (K : PySem.W.Frag) : Sp := spR K 2 r_fop
abbrev t_frame_of_pairs (K : PySem.W.Frag) : TS := (tSeq (tAsg (tSl (rSlA K) (tVar 0) (tPart (tC (.int 1))) (tPart (tC (.int 5)))) (gTup K 4 (gCons (gName 2) (gCons (gName 3) (gCons (gName 4) (gCons (gName 5) gNil))))))
    (tSeq (tAsg (tCB (rLstO K) (tCons (tVar 2) tNil)) (gName 6))
    (tSeq (tFor (iTup K (tVar 1)) (gName 7) (tDrop (tBM K "list" (rExtendT K) (tVar 6) (tCons (tIf (tTest (tOp rEq (tVar 7) (tC (.int 1)))) (tVar 4) (tVar 3)) tNil))))
    (tSeq (tDrop (tBM K "list" rAppend (tVar 6) (tCons (tVar 5) tNil)))
    (tRet (tCB (rTupO K) (tCons (tVar 6) tNil)))))))
theorem paBits_len (z1 z2 o1 o2 : Int) : ∀ w, (paBits z1 z2 o1 o2 w).length = 2 * w.length
  | [] => rfl
  | bit :: w => by
    have ih := paBits_len z1 z2 o1 o2 w
    simp only [paBits, List.flatMap_cons, List.length_append, List.length_cons] at ih ⊢
    rw [ih]
    split <;> simp <;> omega
theorem paBits_take (z1 z2 o1 o2 : Int) {w : List Int} {i : Nat} {bit : Int} (h : w[i]? = some bit) : paBits z1 z2 o1 o2 (w.take (i + 1)) = paBits z1 z2 o1 o2 (w.take i) ++ (if bit = 1 then [o1, o2] else [z1, z2]) := by
  rw [List.take_add_one, h, paBits, List.flatMap_append]
  simp [paBits]
theorem so_frame_of_pairs (hmu : S.Mu) (hp : r_fop ds d) : So K S S [] (t_frame_of_pairs K) (startD 8 ds) (Pu d) := by
  obtain ⟨h, z1, z2, o1, o2, s, b, w, hT, hw, rfl, rfl⟩ := hp
  have hh : h.length ≤ 4 := by have := hT.1; omega
  have hwl : w.length ≤ 8 := by
    have := Tab.b1 hT
    rw [hw.1]
    show b.toNat ≤ 8
    have : b ≤ 8 := this.2
    omega
  refine so_unp (is := [2, 3, 4, 5]) (xs := [tI h, tI [z1, z2], tI [o1, o2], .int s]) ((ev_slT (ev_var rfl) (eo_some ev_int) (eo_some ev_int)).to rfl) rfl rfl rfl ?_
  refine so_new (en_listT (xs := h.map Dt.int) (ev_var rfl)) (Sta.Le.refl _) fun p => ?_
  refine so_seqG (S1 := S) (M := fun ρ' => ∃ x : Option Dt, (∀ d, x = some d → nol d = true) ∧ ρ' = [some (Tab.pa h z1 z2 o1 o2 s b).d, some (tI w), some (tI h), some (tI [z1, z2]), some (tI [o1, o2]), some (.int s), some (.lat p ((h ++ paBits z1 z2 o1 o2 w).map Dt.int)), x]) (Sta.Le.refl _)
    (so_forTX (xs := w.map Dt.int) (ev_var rfl) (nolA_ints w) (fun i ρ' => ∃ x : Option Dt, (∀ d, x = some d → nol d = true) ∧ ρ' = [some (Tab.pa h z1 z2 o1 o2 s b).d, some (tI w), some (tI h), some (tI [z1, z2]), some (tI [o1, o2]), some (.int s), some (.lat p ((h ++ paBits z1 z2 o1 o2 (w.take i)).map Dt.int)), x])
      ⟨none, (fun _ e => nomatch e), by simp [paBits]; rfl⟩ (fun S' le lo mu i x ρ' hx hJ => ?_) (fun ρ' hJ => ?_)) fun ρ' hM => ?_
  · obtain ⟨y, _, rfl⟩ := hJ
    obtain ⟨bit, hbit, rfl⟩ : ∃ bit, w[i]? = some bit ∧ x = .int bit := by
      rw [List.getElem?_map] at hx
      cases e : w[i]? with
      | none => rw [e] at hx; simp at hx
      | some bit => rw [e] at hx; exact ⟨bit, rfl, by simpa using hx.symm⟩
    have hl2 : (paBits z1 z2 o1 o2 (w.take i)).length ≤ 16 := by rw [paBits_len, List.length_take]; omega
    refine sg_last (so_extT (Φ := fun _ => True) (ys := (if bit = 1 then [o1, o2] else [z1, z2]).map Dt.int) List.mem_cons_self (lo _ _ (mu_looseP hmu)) rfl (nolA_ints _) (Offs.mk ?_) (ev_if (b := decide (bit = 1)) (et_test (ev_op (ev_var rfl) ev_int rv_eqI)) (fun e => (ev_var (d := tI [o1, o2]) rfl).to ?_) (fun e => (ev_var (d := tI [z1, z2]) rfl).to ?_)) (nolA_ints _) ?_ (so_next (Sta.Le.refl _) ⟨some (.int bit), (fun _ e => by cases e; rfl), ?_⟩))
    · simp [offL, off_int, off_str, off_tI, off_tab]
    · rw [if_pos (of_decide_eq_true e)]; rfl
    · rw [if_neg (of_decide_eq_false e)]; rfl
    · simp only [List.length_map, List.length_append]
      split <;> simp only [List.length_cons, List.length_nil] <;> omega
    · rw [paBits_take _ _ _ _ hbit, ← List.append_assoc, List.map_append (f := Dt.int) (l₁ := h ++ _)]
      rfl
  · obtain ⟨y, hy, e⟩ := hJ
    rw [List.length_map, List.take_length] at e
    exact ⟨y, hy, e⟩
  · obtain ⟨y, hy, rfl⟩ := hM
    refine so_appP (d := .int s) List.mem_cons_self (mu_looseP hmu) rfl (nolA_ints _) (Offs.mk ?_) ?_ (ev_var rfl) rfl ?_
    · simp only [offL]
      exact ⟨fun _ d e => by cases e; exact offOk_nol (nol_tab _), fun _ d e => by cases e; exact offOk_nol (nol_tI _), fun _ d e => by cases e; exact offOk_nol (nol_tI _), fun _ d e => by cases e; exact offOk_nol (nol_tI _), fun _ d e => by cases e; exact offOk_nol (nol_tI _), fun _ d e => by cases e; rfl, fun e => absurd rfl e, fun _ d e => offOk_nol (hy d e), trivial⟩
    · rw [List.length_map, List.length_append, paBits_len]
      omega
    · refine so_retD (ev_cb (ea_cons (ev_lat (ev_var rfl)) ea_nil) rc_tupL) (Sta.Le.refl _) ?_
      show tI _ = _
      simp [tI]
end
end Bf
namespace Bf
open PySem PySem.Spec PyProof.Rows L2
/-! ## The law's draws -/
/-- a number below ds' one -/
def nextR : List Dt → Dt → Prop := fun ds d => ∃ m r, ds = [.int m] ∧ d = .int r ∧ 0 ≤ r ∧ r < m
abbrev p__law_next (K : PySem.W.Frag) : Sp := spD K 1 (fun ds => ∃ m, ds = [.int m] ∧ 0 < m ∧ m.natAbs < 2 ^ 8000) nextR 1
abbrev t__law_next (K : PySem.W.Frag) : TS := (tSeq (tIfS (tTest (tOp rGtI (tDGet (tVar 0) (tC (.str "left"))) (tC (.int 0)))) (tSeq (tAsg (tTup (tCons (tDGet (tVar 0) (tC (.str "left"))) (tCons (tOp rDivW (tDGet (tVar 0) (tC (.str "left"))) (tVar 1)) tNil))) (gTup K 2 (gCons (gName 2) (gCons (gSub (tVar 0) (tC (.str "left")) rSetD) gNil))))
    (tRet (tOp rModI (tVar 2) (tVar 1)))) tNext)
    (tSeq (tAsg (tDGet (tVar 0) (tC (.str "cells"))) (gName 3))
    (tSeq (tAsg (tOp (rIx K) (tVar 3) (tOp rModI (tDGet (tVar 0) (tC (.str "at"))) (tCB (rLen K) (tCons (tVar 3) tNil)))) (gName 2))
    (tSeq (tAsg (tOp rAddI (tDGet (tVar 0) (tC (.str "at"))) (tC (.int 1))) (gSub (tVar 0) (tC (.str "at")) rSetD))
    (tSeq (tIfS (tAnd (tTest (tOp rGeI (tVar 2) (tOp rPowI (tC (.int 10)) (tC (.int 18))))) (tTest (tOp rLeI (tDGet (tVar 0) (tC (.str "at"))) (tCB (rLen K) (tCons (tVar 3) tNil))))) (tSeq (tAsg (tOp rDivW (tVar 2) (tVar 1)) (gSub (tVar 0) (tC (.str "left")) rSetD))
    (tRet (tOp rModI (tVar 2) (tVar 1)))) tNext)
    (tSeq (tAsg (tOp rAddI (tDGet (tVar 0) (tC (.str "used"))) (tC (.int 1))) (gSub (tVar 0) (tC (.str "used")) rSetD))
    (tSeq (tAsg (tOp rAddI (tOp rModI (tVar 2) (tC (.int 1000000007))) (tOp rMulW (tOp rMulW (tC (.int 7919)) (tDGet (tVar 0) (tC (.str "used")))) (tDGet (tVar 0) (tC (.str "used"))))) (gName 4))
    (tSeq (tFor (iTup K (tTup (tCons (tDGet (tVar 0) (tC (.str "at"))) (tCons (tDGet (tVar 0) (tC (.str "used"))) tNil)))) (gName 5) (tSeq (tAsg (tOp rModI (tOp rMulW (tOp rAddI (tOp rAddI (tVar 4) (tOp rMulW (tC (.int 31)) (tVar 5))) (tC (.int 7))) (tC (.int 48271))) (tC (.int 2147483647))) (gName 4))
    (tAsg (tOp rModI (tOp rMulW (tVar 4) (tOp rAddI (tC (.int 69621)) (tOp rMulW (tC (.int 2)) (tOp rModI (tVar 5) (tC (.int 1000)))))) (tC (.int 2147483629))) (gName 4))))
    (tRet (tOp rModI (tOp rDivW (tVar 4) (tC (.int 7))) (tVar 1)))))))))))
theorem mul_in {x y B C : Int} (h1 : 0 ≤ x) (h2 : x ≤ B) (h3 : 0 ≤ y) (h4 : y ≤ C) : 0 ≤ x * y ∧ x * y ≤ B * C :=
  ⟨Int.mul_nonneg h1 h3, Int.mul_le_mul h2 h4 h3 (Int.le_trans h1 h2)⟩
theorem cmul {x y : Int} (h1 : 0 ≤ x) (h2 : x < 2 ^ 100) (h3 : 0 ≤ y) (h4 : y < 2 ^ 100) : CMulW x y := wide_mul (a := 100) (b := 100) (by omega) (by omega) (by decide) (by decide) (by decide)
theorem cdivs {x y : Int} (h : 0 < y) (hb : y.natAbs < 2 ^ 8000) : CDivW x y := wide_div (b := 8000) h hb (by decide) (by decide)
section
variable {K : PySem.W.Frag} {a c : Addr} {cs : List Int} {n : Nat} {ds : List Dt}
theorem so__law_next (hc : cs ≠ []) (hn : n + 1 ≤ 1000000) (hp : ∃ m, ds = [.int m] ∧ 0 < m ∧ m.natAbs < 2 ^ 8000) :
    So K (DW K a c cs n) (DW K a c cs (n + 1)) [] (t__law_next K) (startD 6 (.raw (.ref a) :: ds)) { nx := fun _ => nextR ds .non, rt := nextR ds } := by
  obtain ⟨m, rfl, hm, hmb⟩ := hp
  refine so_open fun i l u i0 i1 l0 u0 u1 => ?_
  have fin : ∀ x : Int, nextR [.int m] (.int (x % m)) := fun x => ⟨m, _, rfl, rfl, Int.emod_nonneg _ (by omega), Int.emod_lt_of_pos _ hm⟩
  refine so_ifD (et_test (ev_op (ev_dleft rfl) ev_int rv_gt)) (fun e => ?_) fun e => so_skip ?_
  · have hl : 0 < l := of_decide_eq_true e
    refine so_assoc (so_dset2 (ea_cons (ev_dleft rfl) (ea_cons (ev_op (ev_dleft rfl) (ev_var rfl) (rv_div (cdivs hm hmb))) ea_nil)) rfl (by decide) ?_)
    exact so_ret1D (ev_op (ev_var rfl) (ev_var rfl) (rv_mod hm)) (dw_of i0 (by omega) (Int.ediv_nonneg (by omega) (by omega)) u0 (by omega)) (fin _)
  · have hcl : 0 < cs.length := List.length_pos_iff.mpr hc
    have hcm : (0 : Int) < ((cs.map Dt.int).length : Nat) := by rw [List.length_map]; omega
    have hix : 0 ≤ i % ((cs.map Dt.int).length : Nat) ∧ i % ((cs.map Dt.int).length : Nat) < (cs.length : Nat) := ⟨Int.emod_nonneg _ (by omega), by have := Int.emod_lt_of_pos i hcm; rw [List.length_map] at this ⊢; exact this⟩
    obtain ⟨cell, hcell⟩ : ∃ cell : Int, atI (cs.map Dt.int) (i % ((cs.map Dt.int).length : Nat)) = some (.int cell) := by
      have hlt : (i % ((cs.map Dt.int).length : Nat)).toNat < cs.length := by omega
      refine ⟨cs[(i % ((cs.map Dt.int).length : Nat)).toNat], ?_⟩
      have e1 : ((i % ((cs.map Dt.int).length : Nat)).toNat : Int) = i % ((cs.map Dt.int).length : Nat) := Int.toNat_of_nonneg hix.1
      have := atI_nat (xs := cs.map Dt.int) (j := (i % ((cs.map Dt.int).length : Nat)).toNat) (v := .int cs[(i % ((cs.map Dt.int).length : Nat)).toNat]) (by rw [List.getElem?_map, List.getElem?_eq_getElem hlt]; rfl)
      rwa [e1] at this
    refine so_setD (ev_dcells rfl) ?_
    refine so_setD (ev_ixL (ev_var rfl) (ev_op (ev_dat rfl) (ev_lenL (ev_var rfl)) (rv_mod hcm)) hcell) ?_
    refine so_dset (ev_op (ev_dat rfl) ev_int rv_add) rfl dr_pat ?_
    refine so_ifD (et_and (et_test (ev_op (ev_var rfl) (ev_op ev_int ev_int (rv_pow ⟨by decide, by decide, by decide⟩)) rv_ge)) fun _ => et_test (ev_op (ev_dat rfl) (ev_lenL (ev_var rfl)) rv_le)) (fun e2 => ?_) fun e2 => so_skip ?_
    · have hbig : (10 : Int) ^ (18 : Int).toNat ≤ cell := of_decide_eq_true (Bool.and_eq_true_iff.mp e2).1
      have hpos : 0 ≤ cell := Int.le_trans (by decide) hbig
      refine so_assoc (so_dset (ev_op (ev_var rfl) (ev_var rfl) (rv_div (cdivs hm hmb))) rfl dr_pleft ?_)
      exact so_ret1D (ev_op (ev_var rfl) (ev_var rfl) (rv_mod hm)) (dw_of (by omega) (by omega) (Int.ediv_nonneg hpos (by omega)) u0 (by omega)) (fin _)
    · refine so_dset (ev_op (ev_dused rfl) ev_int rv_add) rfl dr_pused ?_
      have u2 : 0 ≤ u + 1 ∧ u + 1 ≤ 1000001 := by omega
      have q1 := mul_in (x := 7919) (y := u + 1) (B := 7919) (C := 1000001) (by decide) (Int.le_refl _) u2.1 u2.2
      have q2 := mul_in (x := 7919 * (u + 1)) (y := u + 1) (B := 7919 * 1000001) (C := 1000001) q1.1 q1.2 u2.1 u2.2
      have c0 := Int.emod_nonneg cell (show (1000000007 : Int) ≠ 0 by decide)
      have c1 := Int.emod_lt_of_pos cell (show (0 : Int) < 1000000007 by decide)
      refine so_setD (ev_op (ev_op (ev_var rfl) ev_int (rv_mod (by decide))) (ev_op (ev_op ev_int (ev_dused rfl) (rv_mul (cmul (by decide) (by decide) u2.1 (by omega)))) (ev_dused rfl) (rv_mul (cmul q1.1 (by omega) u2.1 (by omega)))) rv_add) ?_
      have le1 : (DS K a c cs (i + 1) l (u + 1)).Le (DW K a c cs (n + 1)) := dw_of (by omega) (by omega) l0 u2.1 (by omega)
      refine so_mid (M := fun ρ' => ∃ (num : Int) (x : Option Dt), 0 ≤ num ∧ num < 2 ^ 64 ∧ ρ' = [some (.raw (.ref a)), some (.int m), some (.int cell), some (.lst (cs.map Dt.int)), some (.int num), x]) le1
        (so_forT (xs := [.int (i + 1), .int (u + 1)]) (ev_tup (ea_cons (ev_dat rfl) (ea_cons (ev_dused rfl) ea_nil)) (by show 2 ≤ sizeLine; decide)) (fun _ ρ' => ∃ (num : Int) (x : Option Dt), 0 ≤ num ∧ num < 2 ^ 64 ∧ ρ' = [some (.raw (.ref a)), some (.int m), some (.int cell), some (.lst (cs.map Dt.int)), some (.int num), x])
          ⟨_, _, ?_, ?_, rfl⟩ (fun t x ρ' hx hJ => ?_) fun ρ' h => h) fun ρ' hM => ?_
      · omega
      · have e7 : (7919 * 1000001 * 1000001 : Int) = 7919015838007919 := by decide
        omega
      · obtain ⟨num, y, n0, n1, rfl⟩ := hJ
        obtain ⟨k, rfl, k0, k1⟩ : ∃ k : Int, x = .int k ∧ 0 ≤ k ∧ k ≤ 1000001 := by
          match t, hx with
          | 0, hx => exact ⟨i + 1, (by simpa using hx.symm), by omega, by omega⟩
          | 1, hx => exact ⟨u + 1, (by simpa using hx.symm), by omega, by omega⟩
          | t + 2, hx => simp at hx
        have s0 := Int.emod_nonneg ((num + 31 * k + 7) * 48271) (show (2147483647 : Int) ≠ 0 by decide)
        have s1 := Int.emod_lt_of_pos ((num + 31 * k + 7) * 48271) (show (0 : Int) < 2147483647 by decide)
        have k2 := Int.emod_nonneg k (show (1000 : Int) ≠ 0 by decide)
        have k3 := Int.emod_lt_of_pos k (show (0 : Int) < 1000 by decide)
        refine so_setD (ev_op (ev_op (ev_op (ev_op (ev_var rfl) (ev_op ev_int (ev_var rfl) (rv_mul (cmul (by decide) (by decide) k0 (by omega)))) rv_add) ev_int rv_add) ev_int (rv_mul (cmul (by omega) (by omega) (by decide) (by decide)))) ev_int (rv_mod (by decide))) ?_
        refine so_set0D (ev_op (ev_op (ev_var rfl) (ev_op ev_int (ev_op ev_int (ev_op (ev_var rfl) ev_int (rv_mod (by decide))) (rv_mul (cmul (by decide) (by decide) k2 (by omega)))) rv_add) (rv_mul (cmul s0 (by omega) (by omega) (by omega)))) ev_int (rv_mod (by decide))) (Sta.Le.refl _) ⟨_, _, Int.emod_nonneg _ (by decide), ?_, rfl⟩
        have := Int.emod_lt_of_pos ((num + 31 * k + 7) * 48271 % 2147483647 * (69621 + 2 * (k % 1000))) (show (0 : Int) < 2147483629 by decide)
        omega
      · obtain ⟨num, y, n0, n1, rfl⟩ := hM
        exact so_retD (ev_op (ev_op (ev_var rfl) ev_int (rv_div (cdivs (by decide) (by decide)))) (ev_var rfl) (rv_mod hm)) le1 (fin _)
theorem ev__law_next {S : Sta} {ρ : List (Option Dt)} {ta tm : TE} {m : Int} (h : EvA K S (DW K a c cs n) ρ (tCons ta (tCons tm tNil)) (Eq [.raw (.ref a), .int m])) (hc : cs ≠ []) (hn : n + 1 ≤ 1000000) (h0 : 0 < m) (h1 : m.natAbs < 2 ^ 8000) :
    Ev K S (DW K a c cs (n + 1)) ρ (tCall (p__law_next K) [] E0 (tCons ta (tCons tm tNil))) (fun d => ∃ r, d = .int r ∧ 0 ≤ r ∧ r < m) :=
  (ev_callD (ds := [.int m]) h rfl ⟨m, rfl, h0, h1⟩ hc hn).weak fun d ⟨m', r, e, e2, r0, r1⟩ => by cases e; exact ⟨r, e2, r0, r1⟩
end
/-! ### _law_pick -/
def pickR : List Dt → Dt → Prop := fun ds d => ∃ xs, (ds = [.lst xs] ∨ ds = [.tup xs]) ∧ d ∈ xs
abbrev p__law_pick (K : PySem.W.Frag) : Sp := spD K 1 (fun ds => ∃ xs, (ds = [.lst xs] ∨ ds = [.tup xs]) ∧ xs ≠ [] ∧ xs.length ≤ 100000) pickR 1
abbrev t__law_pick (K : PySem.W.Frag) : TS := (tRet (tOp (rIx K) (tVar 1) (tCall (p__law_next K) [] E0 (tCons (tVar 0) (tCons (tCB (rLen K) (tCons (tVar 1) tNil)) tNil)))))
section
variable {K : PySem.W.Frag} {a c : Addr} {cs : List Int} {n : Nat} {ds : List Dt}
theorem at_in {xs : List Dt} {r : Int} (h0 : 0 ≤ r) (h1 : r < (xs.length : Nat)) : ∃ d, atI xs r = some d ∧ d ∈ xs := by
  have hlt : r.toNat < xs.length := by omega
  have e1 : (r.toNat : Int) = r := Int.toNat_of_nonneg h0
  have := atI_nat (xs := xs) (j := r.toNat) (v := xs[r.toNat]) (List.getElem?_eq_getElem hlt)
  rw [e1] at this
  exact ⟨_, this, List.getElem_mem hlt⟩
theorem so__law_pick (hc : cs ≠ []) (hn : n + 1 ≤ 1000000) (hp : ∃ xs, (ds = [.lst xs] ∨ ds = [.tup xs]) ∧ xs ≠ [] ∧ xs.length ≤ 100000) :
    So K (DW K a c cs n) (DW K a c cs (n + 1)) [] (t__law_pick K) (startD 2 (.raw (.ref a) :: ds)) { nx := fun _ => pickR ds .non, rt := pickR ds } := by
  obtain ⟨xs, h, hx, hz⟩ := hp
  have hl : 0 < xs.length := List.length_pos_iff.mpr hx
  have hb : (xs.length : Int).natAbs < 2 ^ 8000 := Nat.lt_of_le_of_lt (show (xs.length : Int).natAbs ≤ 100000 by omega) (by decide)
  rcases h with rfl | rfl
  · refine so_ret (ev_ixLP (ev_var rfl) (ev__law_next (ea_cons (ev_var rfl) (ea_cons (ev_lenL (ev_var rfl)) ea_nil)) hc hn (by omega) hb) (fun y ⟨r, e, r0, r1⟩ => ?_)) (Sta.Le.refl _) fun d p => p
    obtain ⟨d, h1, h2⟩ := at_in r0 r1
    exact ⟨r, d, e, h1, xs, .inl rfl, h2⟩
  · refine so_ret (ev_opP (ev_var rfl) (ev__law_next (ea_cons (ev_var rfl) (ea_cons (ev_lenT (ev_var rfl)) ea_nil)) hc hn (by omega) hb) (fun x y e ⟨r, e2, r0, r1⟩ => ?_)) (Sta.Le.refl _) fun d p => p
    obtain ⟨d, h1, h2⟩ := at_in r0 r1
    subst e e2
    exact fun H v u i r1 r2 Q q => rv_ixST h1 H v u i r1 r2 Q fun v' d' H' g i' r e => q v' d' H' g i' r (e ▸ ⟨xs, .inr rfl, h2⟩)
theorem ev__law_pick {S : Sta} {ρ : List (Option Dt)} {ta tm : TE} {xs : List Dt} (h : EvA K S (DW K a c cs n) ρ (tCons ta (tCons tm tNil)) (Eq [.raw (.ref a), .lst xs])) (hc : cs ≠ []) (hn : n + 1 ≤ 1000000) (h0 : xs ≠ []) (h1 : xs.length ≤ 100000) :
    Ev K S (DW K a c cs (n + 1)) ρ (tCall (p__law_pick K) [] E0 (tCons ta (tCons tm tNil))) (fun d => d ∈ xs) :=
  (ev_callD (ds := [.lst xs]) h rfl ⟨xs, .inl rfl, h0, h1⟩ hc hn).weak fun d ⟨ys, e, hd⟩ => by
    rcases e with e | e <;> cases e
    exact hd
end
/-! ### _law_size, _law_table -/
def sizeR : List Dt → Dt → Prop := fun _ d => ∃ s, d = .int s ∧ dur s
abbrev p__law_size (K : PySem.W.Frag) : Sp := spD K 0 (fun ds => ds = []) sizeR 3
abbrev t__law_size (K : PySem.W.Frag) : TS := (tSeq (tPar 1 2 (tCons (tOp rAddI (tC (.int 1)) (tCall (p__law_next K) [] E0 (tCons (tVar 0) (tCons (tC (.int 6)) tNil)))) (tCons (tOp rAddI (tC (.int 100)) (tCall (p__law_next K) [] E0 (tCons (tVar 0) (tCons (tC (.int 900)) tNil)))) tNil)))
    (tRet (tCall (p__law_pick K) [] E0 (tCons (tVar 0) (tCons (tLst (tCons (tVar 1) (tCons (tVar 1) (tCons (tOp rAddI (tVar 1) (tC (.int 3))) (tCons (tVar 2) (tCons (tC (.int 560)) (tCons (tC (.int 99999)) tNil))))))) tNil)))))
section
variable {K : PySem.W.Frag} {a c : Addr} {cs : List Int} {n : Nat} {ds : List Dt}
theorem ev_addP {S S1 S2 : Sta} {ρ : List (Option Dt)} {ta tb : TE} {i : Int} {Φ : Dt → Prop} (ha : Ev K S S1 ρ ta (Eq (.int i))) (hb : Ev K S1 S2 ρ tb Φ) {Θ : Dt → Prop} (h : ∀ y, Φ y → ∃ r, y = .int r ∧ Θ (.int (i + r))) : Ev K S S2 ρ (tOp rAddI ta tb) Θ := ev_opP ha hb fun x y e p => by
  obtain ⟨r, rfl, q⟩ := h y p
  subst e
  exact fun H v u i' r1 r2 Q k => rv_add H v u i' r1 r2 Q fun v' d' H' g i2 r e => k v' d' H' g i2 r (e ▸ q)
theorem so__law_size (hc : cs ≠ []) (hn : n + 3 ≤ 1000000) (hp : ds = []) :
    So K (DW K a c cs n) (DW K a c cs (n + 3)) [] (t__law_size K) (startD 3 (.raw (.ref a) :: ds)) { nx := fun _ => sizeR ds .non, rt := sizeR ds } := by
  subst hp
  refine so_par (ea_consP (Φ := fun d => ∃ r, d = .int r ∧ 1 ≤ r ∧ r ≤ 6) (ev_addP ev_int (ev__law_next (ea_cons (ev_var rfl) (ea_cons ev_int ea_nil)) hc (by omega) (by decide) (by decide)) fun y ⟨r, e, r0, r1⟩ => ⟨r, e, _, rfl, by omega, by omega⟩)
    (ea_consP (Φ := fun d => ∃ r, d = .int r ∧ 100 ≤ r ∧ r ≤ 999) (ev_addP ev_int (ev__law_next (n := n + 1) (ea_cons (ev_var rfl) (ea_cons ev_int ea_nil)) hc (by omega) (by decide) (by decide)) fun y ⟨r, e, r0, r1⟩ => ⟨r, e, _, rfl, by omega, by omega⟩) ea_nil)) (fun l ⟨x, xs, e, _, y, ys, e2, _, e3⟩ => by subst e e2 e3; rfl) fun x y hxy => ?_
  obtain ⟨x', xs, e, ⟨r, rfl, r0, r1⟩, y', ys, e2, ⟨s, rfl, s0, s1⟩, e3⟩ := hxy
  subst e3
  subst e2
  cases e
  refine so_ret (ev__law_pick (n := n + 1 + 1) (xs := [.int r, .int r, .int (r + 3), .int s, .int 560, .int 99999]) (ea_cons (ev_var rfl) (ea_cons (ev_lst (ea_cons (ev_var rfl) (ea_cons (ev_var rfl) (ea_cons (ev_op (ev_var rfl) ev_int rv_add) (ea_cons (ev_var rfl) (ea_cons ev_int (ea_cons ev_int ea_nil)))))) (by show 6 ≤ sizeLine; decide)) ea_nil)) hc (by omega) (by simp) (by show 6 ≤ 100000; decide)) (Sta.Le.refl _) fun d hd => ?_
  simp only [List.mem_cons, List.not_mem_nil, or_false] at hd
  rcases hd with rfl | rfl | rfl | rfl | rfl | rfl <;> exact ⟨_, rfl, by omega, by omega⟩
theorem ev__law_size {S : Sta} {ρ : List (Option Dt)} {ta : TE} (h : Ev K S (DW K a c cs n) ρ ta (Eq (.raw (.ref a)))) (hc : cs ≠ []) (hn : n + 3 ≤ 1000000) :
    Ev K S (DW K a c cs (n + 3)) ρ (tCall (p__law_size K) [] E0 (tCons ta tNil)) (fun d => ∃ s, d = .int s ∧ dur s) := ev_callD (ds := []) (ea_cons h ea_nil) rfl rfl hc hn
end
def tableR : List Dt → Dt → Prop := fun ds d => ∃ (T : Tab) (m : Int), ds = [.int m] ∧ T.ok ∧ d = T.d ∧ T.b ≤ m
abbrev p__law_table (K : PySem.W.Frag) : Sp := spD K 1 (fun ds => ∃ m, ds = [.int m] ∧ 1 ≤ m ∧ m ≤ 8) tableR 40
abbrev t__law_table (K : PySem.W.Frag) : TS := (tSeq (tAsg (tOp rAddI (tC (.int 1)) (tCall (p__law_next K) [] E0 (tCons (tVar 0) (tCons (tVar 1) tNil)))) (gName 2))
    (tSeq (tIfS (tTest (tOp rEq (tCall (p__law_next K) [] E0 (tCons (tVar 0) (tCons (tC (.int 3)) tNil))) (tC (.int 0)))) (tRet (tTup (tCons (tC (.str "halves")) (tCons (tCall (p__law_size K) [] E0 (tCons (tVar 0) tNil)) (tCons (tVar 2) tNil))))) tNext)
    (tSeq (tAsg (tCB (rTupO K) (tCons (tLc (iRng1 (tCons (tOp (rIxL K) (tLst (tCons (tC (.int 0)) (tCons (tC (.int 0)) (tCons (tC (.int 2)) (tCons (tC (.int 4)) tNil))))) (tCall (p__law_next K) [] E0 (tCons (tVar 0) (tCons (tC (.int 4)) tNil)))) tNil)) (gName 4) tYes (tCall (p__law_size K) [] E0 (tCons (tVar 0) tNil)) [4]) tNil)) (gName 3))
    (tSeq (tPar 5 6 (tCons (tTup (tCons (tCall (p__law_size K) [] E0 (tCons (tVar 0) tNil)) (tCons (tCall (p__law_size K) [] E0 (tCons (tVar 0) tNil)) tNil))) (tCons (tTup (tCons (tCall (p__law_size K) [] E0 (tCons (tVar 0) tNil)) (tCons (tCall (p__law_size K) [] E0 (tCons (tVar 0) tNil)) tNil))) tNil)))
    (tSeq (tIfS (tTest (tOp (rEqD K) (tVar 6) (tVar 5))) (tAsg (tTup (tCons (tOp (rIx K) (tVar 5) (tC (.int 0))) (tCons (tOp rAddI (tOp rAddI (tOp rModI (tOp (rIx K) (tVar 5) (tC (.int 1))) (tC (.int 9))) (tC (.int 1))) (tCB rInt1 (tCons (tOp rGtI (tOp (rIx K) (tVar 5) (tC (.int 1))) (tC (.int 9))) tNil))) tNil))) (gName 6)) tNext)
    (tRet (tTup (tCons (tC (.str "pairs")) (tCons (tVar 3) (tCons (tVar 5) (tCons (tVar 6) (tCons (tCall (p__law_size K) [] E0 (tCons (tVar 0) tNil)) (tCons (tVar 2) tNil)))))))))))))
section
variable {K : PySem.W.Frag} {a c : Addr} {cs : List Int} {n : Nat} {ds : List Dt}
theorem ea_twoP {S S1 S2 : Sta} {ρ : List (Option Dt)} {ta tb : TE} {Φ Ψ : Dt → Prop} (ha : Ev K S S1 ρ ta Φ) (hb : Ev K S1 S2 ρ tb Ψ) : EvA K S S2 ρ (tCons ta (tCons tb tNil)) (fun l => ∃ x y, l = [x, y] ∧ Φ x ∧ Ψ y) := fun σ H i s Q q =>
  ea_consP ha (ea_consP hb ea_nil) σ H i s Q fun vs ds H' g i' r ⟨x, xs, e, hx, y, ys, e2, hy, e3⟩ => q vs ds H' g i' r ⟨x, y, by rw [e, e2, ← e3], hx, hy⟩
theorem ev_two {S S1 S2 : Sta} {ρ : List (Option Dt)} {ta tb : TE} (ha : Ev K S S1 ρ ta (fun d => ∃ s, d = .int s ∧ dur s)) (hb : Ev K S1 S2 ρ tb (fun d => ∃ s, d = .int s ∧ dur s)) :
    Ev K S S2 ρ (tTup (tCons ta (tCons tb tNil))) (fun d => ∃ x y, d = tI [x, y] ∧ dur x ∧ dur y) := (ev_tupP (ea_twoP ha hb) fun l ⟨x, y, e, _⟩ => by rw [e]; show 2 ≤ sizeLine; decide).weak fun d h => by
  obtain ⟨l, e, x, y, e2, ⟨s, e3, hs⟩, ⟨t, e4, ht⟩⟩ := h
  exact ⟨s, t, by rw [e, e2, e3, e4]; rfl, hs, ht⟩
theorem ints_of : ∀ {ds : List Dt}, (∀ x ∈ ds, ∃ s, x = .int s ∧ dur s) → ∃ ns : List Int, ds = ns.map Dt.int ∧ ∀ x ∈ ns, dur x
  | [], _ => ⟨[], rfl, fun _ z => nomatch z⟩
  | d :: ds, h => by
    obtain ⟨s, rfl, hs⟩ := h d List.mem_cons_self
    obtain ⟨ns, rfl, hn⟩ := ints_of (ds := ds) fun x hx => h x (List.mem_cons_of_mem _ hx)
    exact ⟨s :: ns, rfl, fun x hx => by
      rcases List.mem_cons.mp hx with e | hx
      · rw [e]; exact hs
      · exact hn x hx⟩
theorem ev_tupL {S S1 : Sta} {ρ : List (Option Dt)} {ta : TE} {Φ : List Dt → Prop} (h : Ev K S S1 ρ ta (fun d => ∃ xs, d = .lst xs ∧ Φ xs)) : Ev K S S1 ρ (tCB (rTupO K) (tCons ta tNil)) (fun d => ∃ xs, d = .tup xs ∧ Φ xs) :=
  ev_cbP (Φl := fun l => ∃ xs, l = [.lst xs] ∧ Φ xs) (fun σ H i s Q q => ea_consP h ea_nil σ H i s Q fun vs ds H' g i' r ⟨d, ds', e, ⟨xs, e2, p⟩, e3⟩ => q vs ds H' g i' r ⟨xs, by rw [e, e2, ← e3], p⟩) fun l ⟨xs, e, p⟩ => by
    subst e
    exact fun H vs i r Q q => rc_tupL H vs i r Q fun v' d H' g i' r' e => q v' d H' g i' r' ⟨xs, e.symm, p⟩
theorem so__law_table (hc : cs ≠ []) (hn : n + 40 ≤ 1000000) (hp : ∃ m, ds = [.int m] ∧ 1 ≤ m ∧ m ≤ 8) :
    So K (DW K a c cs n) (DW K a c cs (n + 40)) [] (t__law_table K) (startD 7 (.raw (.ref a) :: ds)) { nx := fun _ => tableR ds .non, rt := tableR ds } := by
  obtain ⟨m, rfl, m1, m8⟩ := hp
  refine so_set (ev_addP (Θ := fun d => ∃ b, d = .int b ∧ 1 ≤ b ∧ b ≤ m) ev_int (ev__law_next (ea_cons (ev_var rfl) (ea_cons (ev_var rfl) ea_nil)) hc (by omega) (by omega) (Nat.lt_of_le_of_lt (show m.natAbs ≤ 8 by omega) (by decide))) fun y ⟨r, e, r0, r1⟩ => ⟨r, e, _, rfl, by omega, by omega⟩) fun d hd => ?_
  obtain ⟨b, rfl, b1, b2⟩ := hd
  refine so_if (Φb := fun _ => True) (et_testP (ev_opP (Θ := fun d => ∃ k, d = .bl k ∧ True) (ev__law_next (n := n + 1) (ea_cons (ev_var rfl) (ea_cons ev_int ea_nil)) hc (by omega) (by decide) (by decide)) ev_int fun x y ⟨r, e, _⟩ e2 => ?_)) (fun _ => ?_) fun _ => so_skip ?_
  · subst e e2
    exact fun H v u i r1 r2 Q q => rv_eqI H v u i r1 r2 Q fun v' d' H' g i' r e => q v' d' H' g i' r ⟨_, e.symm, trivial⟩
  · -- halves
    refine so_ret1 (ev_tupP (ea_consP ev_str (ea_twoP (ev__law_size (n := n + 1 + 1) (ev_var rfl) hc (by omega)) (ev_var (d := .int b) rfl))) fun l ⟨x, xs, e, _, y, z, e2, _⟩ => by rw [e, e2]; show 3 ≤ sizeLine; decide) (dw_le (by omega)) fun d hd => ?_
    obtain ⟨l, rfl, x, xs, rfl, rfl, y, z, rfl, ⟨s, rfl, hs⟩, rfl⟩ := hd
    exact ⟨.ha s b, m, rfl, ⟨hs, b1, by omega⟩, rfl, b2⟩
  · -- pairs: the header
    refine so_set (S1 := DW K a c cs (n + 15)) (Φ := fun d => ∃ xs, d = .tup xs ∧ ((xs.length = 0 ∨ xs.length = 2 ∨ xs.length = 4) ∧ ∀ x ∈ xs, ∃ s, x = .int s ∧ dur s)) (ev_tupL ?_) fun d hd => ?_
    · intro σ H i s Q q
      -- how many: drawn
      have hix : ∀ y : Dt, (∃ r, y = .int r ∧ 0 ≤ r ∧ r < 4) → ∃ k d, y = .int k ∧ atI [Dt.int 0, .int 0, .int 2, .int 4] k = some d ∧ ∃ k : Nat, d = .int k ∧ (k = 0 ∨ k = 2 ∨ k = 4) := by
        rintro y ⟨r, e, r0, r1⟩
        have : r = 0 ∨ r = 1 ∨ r = 2 ∨ r = 3 := by omega
        rcases this with rfl | rfl | rfl | rfl
        · exact ⟨0, .int 0, e, atI_nat (j := 0) rfl, 0, rfl, .inl rfl⟩
        · exact ⟨1, .int 0, e, atI_nat (j := 1) rfl, 0, rfl, .inl rfl⟩
        · exact ⟨2, .int 2, e, atI_nat (j := 2) rfl, 2, rfl, .inr (.inl rfl)⟩
        · exact ⟨3, .int 4, e, atI_nat (j := 3) rfl, 4, rfl, .inr (.inr rfl)⟩
      have hcount := ev_ixLPL (K := K) (S := DW K a c cs (n + 1 + 1)) (ρ := [some (.raw (.ref a)), some (.int m), some (.int b), none, none, none, none]) (ev_lst (ea_cons (ev_int (i := 0)) (ea_cons (ev_int (i := 0)) (ea_cons (ev_int (i := 2)) (ea_cons (ev_int (i := 4)) ea_nil)))) (by show 4 ≤ sizeLine; decide)) (ev__law_next (a := a) (c := c) (cs := cs) (n := n + 1 + 1) (ea_cons (ev_var (i := 0) (d := .raw (.ref a)) rfl) (ea_cons (ev_int (i := 4)) ea_nil)) hc (by omega) (by decide) (by decide)) hix
      refine hcount σ H i s _ fun v d H1 g1 i1 r1 p1 => ?_
      obtain ⟨k, rfl, hk⟩ := p1
      -- from here on the count is known
      have hcomp : Ev K (DW K a c cs (n + 3)) (DW K a c cs (n + 3 + 3 * k)) [some (.raw (.ref a)), some (.int m), some (.int b), none, none, none, none] (tLc (iRng1 (tCons (tC (.int k)) tNil)) (gName 4) tYes (tCall (p__law_size K) [] E0 (tCons (tVar 0) tNil)) [4]) (fun d => ∃ ds, d = .lst ds ∧ ds.length = k ∧ nolA ds = true ∧ ∀ x ∈ ds, ∃ s, x = .int s ∧ dur s) :=
        ev_lcRP (Z := fun i => DW K a c cs (n + 3 + 3 * i)) (fun h1 g hD h => dw_off h1 g hD h) (fun i => dw_le (by omega)) (ea_cons ev_int ea_nil) (by omega) (by decide) fun i hi => (ev__law_size (n := n + 3 + 3 * i) (ev_var rfl) hc (by omega)).weak fun d ⟨s, e, hs⟩ => ⟨⟨s, e, hs⟩, by rw [e]; rfl⟩
      obtain rfl := r1.intI
      refine hcomp σ H1 i1 (s.mono g1) Q fun v' d' H2 g2 i2 r2 p2 => ?_
      obtain ⟨xs, e, hl, _, hx⟩ := p2
      exact q v' d' H2 (g1.trans g2) (dw_le (by omega) _ i2) r2 ⟨xs, e, by rw [hl]; exact hk, hx⟩
    obtain ⟨xs, rfl, hl, hx⟩ := hd
    obtain ⟨hs, rfl, hh⟩ := ints_of hx
    rw [List.length_map] at hl
    refine so_par (ea_twoP (ev_two (ev__law_size (n := n + 15) (ev_var rfl) hc (by omega)) (ev__law_size (n := n + 15 + 3) (ev_var rfl) hc (by omega))) (ev_two (ev__law_size (n := n + 15 + 3 + 3) (ev_var rfl) hc (by omega)) (ev__law_size (n := n + 15 + 3 + 3 + 3) (ev_var rfl) hc (by omega)))) (fun l ⟨x, y, e, _⟩ => by rw [e]; rfl) fun x y hxy => ?_
    obtain ⟨x', y', e, ⟨z1, z2, rfl, hz1, hz2⟩, ⟨o1, o2, rfl, ho1, ho2⟩⟩ := hxy
    cases e
    -- the rest
    have rest : ∀ p1 p2 : Int, dur p1 → dur p2 → ¬ (p1 = z1 ∧ p2 = z2) → So K (DW K a c cs (n + 15 + 3 + 3 + 3 + 3)) (DW K a c cs (n + 40)) [] (tRet (tTup (tCons (tC (.str "pairs")) (tCons (tVar 3) (tCons (tVar 5) (tCons (tVar 6) (tCons (tCall (p__law_size K) [] E0 (tCons (tVar 0) tNil)) (tCons (tVar 2) tNil))))))))
        [some (.raw (.ref a)), some (.int m), some (.int b), some (.tup (hs.map Dt.int)), none, some (tI [z1, z2]), some (tI [p1, p2])] { nx := fun _ => tableR [.int m] .non, rt := tableR [.int m] } := fun p1 p2 hp1 hp2 hne => by
      refine so_ret (ev_tupP (ea_consP ev_str (ea_consP (ev_var (d := .tup (hs.map Dt.int)) rfl) (ea_consP (ev_var (d := tI [z1, z2]) rfl) (ea_consP (ev_var (d := tI [p1, p2]) rfl) (ea_twoP (ev__law_size (n := n + 15 + 3 + 3 + 3 + 3) (ev_var rfl) hc (by omega)) (ev_var (d := .int b) rfl)))))) fun l ⟨_, _, e, _, _, _, e1, _, _, _, e2, _, _, _, e3, _, _, _, e4, _⟩ => by rw [e, e1, e2, e3, e4]; show 6 ≤ sizeLine; decide) (dw_le (by omega)) fun d hd => ?_
      obtain ⟨l, rfl, _, _, rfl, rfl, _, _, rfl, rfl, _, _, rfl, rfl, _, _, rfl, rfl, _, _, rfl, ⟨s, rfl, hs'⟩, rfl⟩ := hd
      exact ⟨.pa hs z1 z2 p1 p2 s b, m, rfl, ⟨hl, hh, hz1, hz2, hp1, hp2, hne, hs', b1, by omega⟩, rfl, b2⟩
    refine so_ifD (et_test (ev_op (ev_var rfl) (ev_var rfl) (rv_eqD (cmp2 _ _) (cmp2 _ _)))) (fun e => ?_) fun e => so_skip ?_
    · have e' : (decide (o1 = z1) && decide (o2 = z2)) = true := by rw [← eqv2]; exact e
      simp only [Bool.and_eq_true, decide_eq_true_eq] at e'
      obtain ⟨rfl, rfl⟩ := e'
      refine so_setD (d := tI [o1, o2 % 9 + 1 + (if decide (9 < o2) = true then 1 else 0)]) (ev_tup (ea_cons (ev_ixT (ev_var rfl) ev_int (atI_nat (j := 0) rfl)) (ea_cons (ev_op (ev_op (ev_op (ev_ixT (ev_var rfl) ev_int (atI_nat (j := 1) rfl)) ev_int (rv_mod (by decide))) ev_int rv_add) (ev_cb (ea_cons (ev_op (ev_ixT (ev_var rfl) ev_int (atI_nat (j := 1) rfl)) ev_int rv_gt) ea_nil) rc_intB) rv_add) ea_nil)) (by show 2 ≤ sizeLine; decide)) ?_
      obtain ⟨z2a, z2b⟩ := hz2
      refine rest _ _ hz1 ⟨?_, ?_⟩ ?_
      · split <;> omega
      · split <;> omega
      · rintro ⟨_, q⟩
        split at q
        · rename_i h9
          have := of_decide_eq_true h9
          omega
        · rename_i h9
          have : ¬ (9 < o2) := fun z => h9 (decide_eq_true z)
          omega
    · refine rest o1 o2 ho1 ho2 ?_
      rintro ⟨rfl, rfl⟩
      have : PyData.eqv (py (tI [o1, o2])) (py (tI [o1, o2])) = false := e
      rw [eqv2] at this
      simp at this
theorem ev__law_table {S : Sta} {ρ : List (Option Dt)} {ta tm : TE} {m : Int} (h : EvA K S (DW K a c cs n) ρ (tCons ta (tCons tm tNil)) (Eq [.raw (.ref a), .int m])) (hc : cs ≠ []) (hn : n + 40 ≤ 1000000) (h0 : 1 ≤ m) (h1 : m ≤ 8) :
    Ev K S (DW K a c cs (n + 40)) ρ (tCall (p__law_table K) [] E0 (tCons ta (tCons tm tNil))) (fun d => ∃ T : Tab, T.ok ∧ d = T.d ∧ T.b ≤ m) :=
  (ev_callD (ds := [.int m]) h rfl ⟨m, rfl, h0, h1⟩ hc hn).weak fun d ⟨T, m', e, h1, h2, h3⟩ => by cases e; exact ⟨T, h1, h2, h3⟩
end
end Bf
namespace Bf
open PySem PySem.Spec PyProof.Rows L2
/-! ## The end: the law's def is called with the script -/
theorem lt70 {k : Nat} {A : Around} (hr : Room k A) : A.units + 70 < cLine := by
  have := hr.un
  omega
section
variable {P : Program} {w : World} {K : PySem.W.Frag} {mg mb : Str → Option Value} {k : Nat} {fa a : Addr} {fd : FuncData} {x : Str} {sp : Sp} {s₁ : Shared} {vs : List Value} {ns : List Int}
/-- where H knows the script at a and nothing else -/
theorem law_from {H : Hp} (KX : K.In s₁.heap) (hns : s₁.heap.Ns mainGlobals mg) (hb : s₁.heap.Ns builtinsNs mb) (hbb : ∀ y : Str, y ≠ "__name__" → mb y = bootBuiltins y) (hlim : s₁.heap.NoLimit) (hg : s₁.gens = #[])
    (ha : s₁.heap.get? a = some { cls := .type "list", data := .seq vs.toArray }) (hr : Room k callerA) (F : ∀ base : Heap, K.In base → base.Ns mainGlobals mg → GOk P w K mg base k fa fd [x] sp) (hbind : ∀ (s : Shared) (u : Value), BindsTo s fd ⟨[u], []⟩ [(x, u)])
    (hsp : sp [.ref a] H (fun v _ => v = .bl true) fun _ _ _ => False) (hO : Only H) (hok : HOk P w H s₁.heap) (hA : ∀ b, H b ≠ none → b = a) (hK : H a ≠ none → K.lookup a = none) :
    codeAny (model P w) callerA (.call (.ref fa) ⟨[.ref a], []⟩) (fun r s' => r = .ok (.ret (.bool true)) ∧ OldK s₁.heap s'.heap ∧ s'.os = s₁.os ∧ AllBare s'.gens) s₁ := by
  have below : ∀ {b : Addr} {o : Obj}, s₁.heap.get? b = some o → H b = none → (hidT s₁.heap H).get? b = some o := fun e z => hidT_get e z
  have free : ∀ {b : Addr} {o : Obj} {es : Array DictEntry} {ep : Nat}, s₁.heap.get? b = some o → o.data = .dict es ep → H b = none := by
    intro b o es ep e d
    cases q : H b with
    | none => rfl
    | some y =>
      obtain rfl := hA b (by rw [q]; exact Option.some_ne_none y)
      rw [ha] at e
      cases e
      exact nomatch (show Data.seq vs.toArray _ = Data.dict es ep from d)
  have lift : ∀ {b : Addr} {m : Str → Option Value}, s₁.heap.Ns b m → (hidT s₁.heap H).Ns b m := fun {b m} z => by
    obtain ⟨o, es, ep, e, d, r⟩ := z
    exact ⟨o, es, ep, below e (free e d), d, r⟩
  have inK : K.In (hidT s₁.heap H) := fun b o e => below (KX b o e) (by
    cases q : H b with
    | none => rfl
    | some y =>
      obtain rfl := hA b (by rw [q]; exact Option.some_ne_none y)
      rw [hK (by rw [q]; exact Option.some_ne_none y)] at e
      cases e)
  obtain ⟨mc, l1, l2⟩ := hlim
  have e0 : Env0 P w K mg (hidT s₁.heap H) callerA [] s₁ H :=
    ⟨rfl, ⟨inK, lift hns, ⟨mb, lift hb, hbb⟩, ⟨mc, lift l1, l2⟩⟩, fun b o e => of_hidT e, Nat.le_of_eq (hidT_size _ _), trivial, fun b z => absurd (show b ∈ ([] : List Addr) from z) (by simp), hok, .of_eq hg⟩
  have run := (F _ inK (lift hns)).go callerA [] s₁ H ⟨[.ref a], []⟩ [.ref a] [.ref a] _ _ hr rfl e0 (hbind s₁ (.ref a)) (.cons rfl .nil) hsp
  refine codeAny_mono run fun r s' h => ?_
  match r, h with
  | .error e, h =>
    obtain ⟨_, _, _, _, _, _, _, _, _, _, _, _, z⟩ := h
    exact z.elim
  | .ok .next, h => exact h.elim
  | .ok .brk, h => exact h.elim
  | .ok .cont, h => exact h.elim
  | .ok (.ret u), h =>
    obtain ⟨v, H', os, bare, un, hok', rv, q⟩ := h
    obtain rfl : v = V.bl true := q
    obtain rfl : u = Value.bool true := rv
    refine ⟨rfl, OldK.of_keep fun b o e => ?_, os, bare⟩
    rcases hO b with z | ⟨ob, ys, z⟩
    · exact un.keep b o e z (fun y => absurd (show b ∈ ([] : List Addr) from y) (by simp)) (by simp)
    · obtain ⟨e1, _⟩ := hok b _ z
      obtain ⟨e2, _⟩ := hok' b _ (un.frzs b ob _ z)
      rw [e] at e1
      cases e1
      exact e2
theorem law_callG (KX : K.In s₁.heap) (hns : s₁.heap.Ns mainGlobals mg) (hb : s₁.heap.Ns builtinsNs mb) (hbb : ∀ y : Str, y ≠ "__name__" → mb y = bootBuiltins y) (hlim : s₁.heap.NoLimit) (hg : s₁.gens = #[])
    (ha : s₁.heap.get? a = some { cls := .type "list", data := .seq vs.toArray }) (hi : IntsAre vs ns) (hl : ns.length ≤ sizeLine) (hr : Room k callerA) (F : ∀ base : Heap, K.In base → base.Ns mainGlobals mg → GOk P w K mg base k fa fd [x] sp)
    (hbind : ∀ (s : Shared) (u : Value), BindsTo s fd ⟨[u], []⟩ [(x, u)]) (hsp : ∀ H : Hp, Only H → SqL K H a (ns.map V.int) → sp [.ref a] H (fun v _ => v = .bl true) fun _ _ _ => False) :
    codeAny (model P w) callerA (.call (.ref fa) ⟨[.ref a], []⟩) (fun r s' => r = .ok (.ret (.bool true)) ∧ OldK s₁.heap s'.heap ∧ s'.os = s₁.os ∧ AllBare s'.gens) s₁ := by
  have rv := vals_ints hi
  have lv := hi.length
  cases hk : K.lookup a with
  | some o =>
    have e := KX a o hk
    rw [ha] at e
    cases e
    have none_ : Only (fun _ => none) := fun _ => .inl rfl
    exact law_from KX hns hb hbb hlim hg ha hr F hbind (hsp _ none_ (.inr ⟨_, vs.toArray, _, hk, rfl, rfl, rfl, by rw [List.size_toArray, lv]; exact hl, by simpa using rv⟩)) none_
      (fun b u z => nomatch (show (none : Option HO) = some u from z)) (fun b z => absurd rfl z) fun z => absurd rfl z
  | none =>
    let H : Hp := fun b => if b = a then some (.frz { cls := .type "list", data := .seq vs.toArray } (.lst (ns.map V.int))) else none
    have at_ : H a = some (.frz { cls := .type "list", data := .seq vs.toArray } (.lst (ns.map V.int))) := if_pos rfl
    have off : ∀ {b}, b ≠ a → H b = none := fun hb => if_neg hb
    have only : Only H := fun b => by
      by_cases h : b = a
      · subst h
        exact .inr ⟨_, _, at_⟩
      · exact .inl (off h)
    refine law_from (H := H) KX hns hb hbb hlim hg ha hr F hbind (hsp H only (.inl (.inr ⟨_, at_⟩))) only (fun b u z => ?_) (fun b z => ?_) fun _ => hk
    · by_cases h : b = a
      · subst h
        rw [at_] at z
        cases z
        exact ⟨ha, by rw [List.length_map]; exact hl, vs, _, rv, ha⟩
      · rw [off h] at z
        cases z
    · by_cases h : b = a
      · exact h
      · exact absurd (off h) z
end
/-- a constant of the module -/
theorem pe_gc {X : Cx} {x : Str} {v : V} {pos : Pos} (hg : Gl X x) (hm : ∃ u, X.mg x = some u ∧ RelV v u) (hd : (x == ("__debug__" : Str)) = false := by decide) : PE X (.Name x pos) (tC v) := by
  obtain ⟨u, e, r⟩ := hm
  exact pe_glob hg e r hd
/-- what k_head leaves, from the law's promise -/
theorem walk_g {l : PySem.W.OpenLaw} {n k : Nat} {q : Program} {loose : List Str} {XP : (Str → Option Value) → Heap → Prop} {YP : World → Heap → Prop} {d : DefRec} {K : Params → PySem.W.Frag} {sp : PySem.W.Frag → Sp} {x : Str}
    (hn : l.most = some n) (hn2 : n ≤ sizeLine) (hdf : d.params.defaults = []) (hr : Room k callerA) (hY : ∀ (w : World) (h : Heap), YP w h → (K w.params).In h)
    (F : ∀ (w : World) (mg : Str → Option Value) (fa : Addr) (h : Heap), (K w.params).In h → h.Ns mainGlobals mg → mg d.name = some (.ref fa) →
      ∃ fd : FuncData, (∀ (s : Shared) (u : Value), BindsTo s fd ⟨[u], []⟩ [(x, u)]) ∧ ∀ base : Heap, (K w.params).In base → base.Ns mainGlobals mg → GOk l.prog w (K w.params) mg base k fa fd [x] (sp (K w.params)))
    (hsp : ∀ (K : PySem.W.Frag) (H : Hp) (a : Addr) (ns : List Int), ns.length ≤ n → Only H → SqL K H a (ns.map V.int) → sp K [.ref a] H (fun v _ => v = .bl true) fun _ _ _ => False) :
    PySem.W.WalkO q loose XP YP l.row.toRowW d [] (fun f vs => PySem.call f vs) := by
  refine Att.attach_call hn hdf fun w s₀ s₁ mg mb fa o pm cd doc a vs ns G Y ho hd hcd hmg hobj hints hlen hg => ?_
  have KX := hY w _ Y
  obtain ⟨fd, hb, hF⟩ := F w mg fa _ KX G.T.g hmg
  exact law_callG KX G.T.g G.T.b G.T.builtins G.T.nolimit hg hobj hints (Nat.le_trans hlen hn2) hr hF hb fun H hO hS => hsp _ H a ns hlen hO hS
/-- the law's promise: True, whatever the script -/
def spLaw (K : PySem.W.Frag) : Sp := fun vs H Q _ => ∃ (s : Addr) (ns : List Int), vs = [.ref s] ∧ SqL K H s (ns.map V.int) ∧ ns.length ≤ 63 ∧ ∀ H', Q (.bl true) H'
end Bf
namespace Bf
open PySem PySem.Spec PyProof.Rows L2
/-! ## _law_begin, _law_words -/
def spB (K : PySem.W.Frag) : Sp := fun vs H Q _ => ∃ s ns, vs = [.ref s] ∧ SqL K H s (ns.map V.int) ∧ ns.length ≤ 63 ∧ ∀ p c H', Gr H H' → (DS K p c (ns ++ [0]) 0 0 0).I H' → Q (.ref p) H'
abbrev p__law_begin (K : PySem.W.Frag) : Sp := spB K
abbrev t__law_begin (K : PySem.W.Frag) : TS := (tRet (tDisp [((tC (.str "cells")), (tOp (rCatS K) (tVar 0) (tLst (tCons (tC (.int 0)) tNil)))), ((tC (.str "at")), (tC (.int 0))), ((tC (.str "left")), (tC (.int 0))), ((tC (.str "used")), (tC (.int 0)))]))
theorem rd__law_begin {K : PySem.W.Frag} {D : Ends} {σ : L2.St} {H : Hp} {s : Addr} {ns : List Int} (hs : σ[0]? = some (some (.ref s))) (h : SqL K H s (ns.map V.int)) (hl : ns.length ≤ 63)
    (q : ∀ p c H', Gr H H' → (DS K p c (ns ++ [0]) 0 0 0).I H' → D.rt (.ref p) H') : t__law_begin K D σ H := by
  intro p hp
  have s1 := same_new (o := .dK []) hp
  refine ⟨.ref s, hs, (by show 1 ≤ sizeLine; decide), fun t ht => ?_⟩
  have s2 := same_new (o := .lst [.int 0]) ht
  refine ⟨s, t, ns.map V.int, [.int 0], rfl, rfl, s2.seq (s1.seq h), SqL.of upd_same, (by rw [List.length_map]; exact Nat.le_trans (show ns.length + 1 ≤ 64 by omega) (by decide)), fun c hc => ?_⟩
  have s3 := same_new (o := .lst (ns.map V.int ++ [.int 0])) hc
  have hp3 := s3 _ _ (s2 _ _ (upd_same (H := H) (a := p) (o := .dK [])))
  refine ⟨hp3, [((.inr "cells" : Key), V.ref c), (.inr "at", .int 0), (.inr "left", .int 0), (.inr "used", .int 0)], rfl, (by show 4 ≤ 15; decide), ?_⟩
  rw [dr_merge]
  have hcp : c ≠ p := fun e => by
    rw [e] at hc
    rw [s2 _ _ (upd_same (H := H) (a := p) (o := .dK []))] at hc
    cases hc
  refine q p c _ (fun b o e d => ?_) ⟨upd_same, SqL.of ?_⟩
  · rw [upd_ne (ne_of_none e hp)]
    exact s3 _ _ (s2 _ _ (s1 _ _ e))
  · rw [upd_ne hcp, upd_same, List.map_append]
    rfl
def consI (i : Int) : Dt → Dt
  | .tup xs => .tup (.int i :: xs)
  | _ => .non
def f_lw : List Dt → Dt
  | [.int b] => .lst (wordsD b)
  | _ => .non
abbrev p__law_words (K : PySem.W.Frag) : Sp := spF K 1 (fun ds => ∃ b, ds = [.int b] ∧ 0 ≤ b ∧ b ≤ 8) f_lw
abbrev t__law_words (K : PySem.W.Frag) : TS := (tSeq (tAsg (tLst (tCons (tTup tNil) tNil)) (gName 1))
    (tSeq (tFor (iRng1 (tCons (tVar 0) tNil)) (gName 2) (tAsg (tOp (rCatS K) (tLc (iList K (tVar 1)) (gName 3) tYes (tOp (rCatA K) (tTup (tCons (tC (.int 0)) tNil)) (tVar 3)) [3]) (tLc (iList K (tVar 1)) (gName 3) tYes (tOp (rCatA K) (tTup (tCons (tC (.int 1)) tNil)) (tVar 3)) [3])) (gName 1)))
    (tRet (tVar 1))))
section
variable {K : PySem.W.Frag} {S : Sta} {ds : List Dt}
theorem wordsR_len (n : Nat) : (wordsR n).length = 2 ^ n := by rw [words_eq, wordsL_len]
theorem so__law_words (hmu : S.Mu) (hp : ∃ b, ds = [.int b] ∧ 0 ≤ b ∧ b ≤ 8) : So K S S [] (t__law_words K) (startD 4 ds) (Pu (f_lw ds)) := by
  obtain ⟨b, rfl, b0, b8⟩ := hp
  have hb : ((b.toNat : Nat) : Int) = b := Int.toNat_of_nonneg b0
  refine so_setD (ev_lst (ea_cons (ev_tup ea_nil (by decide)) ea_nil) (by show 1 ≤ sizeLine; decide)) ?_
  refine so_seq (M := fun ρ' => ∃ x y, ρ' = [some (.int b), some (.lst ((wordsR b.toNat).map tI)), x, y]) (so_forR (n := b.toNat) (Z := fun _ => S) (ea_cons ((ev_var rfl).to (by rw [hb])) ea_nil) (by omega) (fun _ _ => Sta.Le.refl _) (fun _ _ => Sta.Le.refl _)
    (fun i ρ' => ∃ x y, ρ' = [some (.int b), some (.lst ((wordsR i).map tI)), x, y]) ⟨_, _, rfl⟩ (fun i ρ' hi hJ => ?_) fun ρ' hJ => hJ) fun ρ' hM => ?_
  · obtain ⟨x, y, rfl⟩ := hJ
    have hpow : (wordsR i).length ≤ 256 := by
      rw [wordsR_len]
      exact Nat.pow_le_pow_right (n := 2) (by decide) (show i ≤ 8 by omega)
    have part : ∀ k : Int, Ev K S S [some (.int b), some (.lst ((wordsR i).map tI)), some (.int i), y] (tLc (iList K (tVar 1)) (gName 3) tYes (tOp (rCatA K) (tTup (tCons (tC (.int k)) tNil)) (tVar 3)) [3]) (Eq (.lst (((wordsR i).map (k :: ·)).map tI))) := fun k => by
      refine (ev_lcL (xs := (wordsR i).map tI) (f := consI k) (p := fun _ => true) hmu (ev_var rfl) (by decide) (by rw [List.length_map]; omega) (fun _ _ => et_yes) (fun z hz _ => ?_) (fun z hz _ => ?_)).to ?_
      · obtain ⟨w, hw, rfl⟩ := List.mem_map.mp hz
        have hl := (wordsL_bits i w (by rw [← words_eq]; exact hw)).1
        exact ev_op (ev_tup (ea_cons ev_int ea_nil) (by show 1 ≤ sizeLine; decide)) (ev_var rfl) (rv_catT (by rw [List.length_map, hl]; show 1 + i ≤ sizeLine; exact Nat.le_trans (show 1 + i ≤ 9 by omega) (by decide)))
      · obtain ⟨w, hw, rfl⟩ := List.mem_map.mp hz
        exact nol_tI (k :: w)
      · rw [List.filter_eq_self.mpr fun _ _ => rfl, List.map_map, List.map_map]
        rfl
    refine so_set0D ((ev_op (part 0) (part 1) (rv_catL (by simp only [List.length_map]; exact Nat.le_trans (show _ ≤ 512 by omega) (by decide)))).to ?_) (Sta.Le.refl _) ⟨_, _, rfl⟩
    rw [← List.map_append]
    rfl
  · obtain ⟨x, y, rfl⟩ := hM
    refine so_retD (ev_var rfl) (Sta.Le.refl _) ?_
    show Dt.lst (wordsD b) = _
    rw [words_eq]
    rfl
theorem ev__law_words {S1 : Sta} {ρ : List (Option Dt)} {ta : TE} {b : Int} (h : Ev K S S1 ρ ta (Eq (.int b))) (h0 : 0 ≤ b) (h8 : b ≤ 8) : Ev K S S1 ρ (tCall (p__law_words K) [] E0 (tCons ta tNil)) (Eq (.lst (wordsD b))) := ev_callF (ea_cons h ea_nil) rfl ⟨b, rfl, h0, h8⟩
end
/-! ### all words of up to eight bits may be compared and shown -/
theorem words_cmp : ∀ n : _root_.Fin 9, cmpOk (.lst ((wordsL n.val).map tI)) = true := by decide +kernel
theorem words_short : ∀ n : _root_.Fin 9, (py (.lst ((wordsL n.val).map tI))).leavesShort 13 = true := by decide +kernel
theorem words_shows : ∀ n : _root_.Fin 9, (py (.lst ((wordsL n.val).map tI))).showable = true := by decide +kernel
theorem words_light : ∀ n : _root_.Fin 9, (py (.lst ((wordsL n.val).map tI))).weight ≤ 2 ^ 20 := by decide +kernel
theorem wordsD_cmp {b : Int} (h8 : b ≤ 8) : cmpOk (.lst (wordsD b)) = true := words_cmp ⟨b.toNat, by omega⟩
theorem wordsD_shw {b : Int} (h8 : b ≤ 8) : shwOk (.lst (wordsD b)) := ⟨wordsD_cmp h8, words_shows ⟨b.toNat, by omega⟩, PyData.shown_fits (by decide) (by decide) (words_short ⟨b.toNat, by omega⟩) (words_light ⟨b.toNat, by omega⟩)⟩
theorem cmp_refl {d : Dt} (h : cmpOk d = true) : PyData.eqv (py d) (py d) = true := by
  simp only [cmpOk, Bool.and_eq_true] at h
  exact SeqAt.eqv_refl _ (SeqAt.canLay_of_shaped h.2)
/-! ### the word in the middle of which something else is put -/
theorem isWd_bad {b : Int} {xs ys : List Dt} {x : Dt} (h : isWF x 0 1 = false) : isWd b (.tup (xs ++ [x] ++ ys)) = false := by
  simp [isWd, List.all_append, h]
theorem isWd_len {b : Int} {xs : List Dt} (h : (xs.length : Int) ≠ b) : isWd b (.tup xs) = false := by simp [isWd, h]
theorem isWd_word {b : Int} {w : List Int} (h0 : 0 ≤ b) (h : isBits b.toNat w) : isWd b (tI w) = true := by
  simp only [isWd, tI, Bool.and_eq_true, decide_eq_true_eq, List.length_map, List.all_map, List.all_eq_true]
  refine ⟨by rw [h.1]; exact Int.toNat_of_nonneg h0, fun x hx => ?_⟩
  rcases h.2 x hx with rfl | rfl <;> rfl
theorem cutD_sub {xs : List Dt} {lo hi : Option Int} {x : Dt} (h : x ∈ cutD xs lo hi) : x ∈ xs := List.mem_of_mem_drop (List.mem_of_mem_take h)
theorem cutD_le (xs : List Dt) (lo hi : Option Int) : (cutD xs lo hi).length ≤ xs.length := by
  unfold cutD
  rw [List.length_take, List.length_drop]
  omega
theorem cutD_tail (x : Dt) (xs : List Dt) : cutD (x :: xs) (some 1) none = xs := by
  unfold cutD
  have e : HT.sIx (x :: xs).length 0 (some 1) = 1 := by
    have := HT.sIx_nat (x :: xs).length 0 1
    rw [show ((1 : Nat) : Int) = 1 from rfl] at this
    rw [this, List.length_cons]
    omega
  rw [e, HT.sIx_none, List.length_cons, List.drop_one, List.tail_cons, Nat.add_sub_cancel, List.take_length]
theorem plS_tup {xs : List Dt} (h : ∀ x ∈ xs, pl x = true) (hl : xs.length ≤ 100000) : plS (.tup xs) = true := by
  simp only [plS, pl, Bool.and_eq_true]
  exact ⟨plA_all.mpr h, decide_eq_true hl⟩
end Bf
namespace Bf
open PySem PySem.Spec PyProof.Rows L2
section
variable {K : PySem.W.Frag} {S : Sta} {ds : List Dt} {d : Dt}
/-! ### the frame of halves -/
def r_foh (ds : List Dt) (d : Dt) : Prop := ∃ (u b : Int) (w : List Int), (Tab.ha u b).ok ∧ isBits b.toNat w ∧ ds = [(Tab.ha u b).d, tI w] ∧ d = tI (u :: runs u "gap" u (cutG (hvs w)))
abbrev p_frame_of_halves (K : PySem.W.Frag) : Sp := spR K 2 r_foh
abbrev t_frame_of_halves (K : PySem.W.Frag) : TS := (tSeq (tAsg (tOp (rIx K) (tVar 0) (tC (.int 1))) (gName 2))
    (tSeq (tAsg (tLst (tCons (tC (.str "pulse")) (tCons (tC (.str "gap")) tNil))) (gName 3))
    (tSeq (tFor (iTup K (tVar 1)) (gName 4) (tDrop (tBM K "list" rExtend (tVar 3) (tCons (tLst (tCons (tCall (p_first_half K) [] E0 (tCons (tVar 4) tNil)) (tCons (tCall (p_other_half K) [] E0 (tCons (tCall (p_first_half K) [] E0 (tCons (tVar 4) tNil)) tNil)) tNil))) tNil))))
    (tSeq (tIfS (tTest (tOp rEq (tOp (rIx K) (tVar 3) (tUn rNegI (tC (.int 1)))) (tC (.str "gap")))) (tDrop (tBM0 K "list" rPop (tVar 3))) tNext)
    (tSeq (tAsg (tLst (tCons (tVar 2) tNil)) (gName 5))
    (tSeq (tFor (iZip K (tCons (tVar 3) (tCons (tSl (rSlL K) (tVar 3) (tPart (tC (.int 1))) tNoPart) tNil))) (gTup K 2 (gCons (gName 6) (gCons (gName 7) gNil))) (tIfS (tTest (tOp rEq (tVar 7) (tVar 6))) (tAugS (tVar 5) (tUn rNegI (tC (.int 1))) (tVar 2) (rIxL K) (ipI fun i j => i + j) rSetL) (tDrop (tBM K "list" rAppend (tVar 5) (tCons (tVar 2) tNil)))))
    (tRet (tCB (rTupO K) (tCons (tVar 5) tNil)))))))))
theorem hvs_len : ∀ w, (hvs w).length = 2 * w.length
  | [] => rfl
  | bit :: w => by
    have ih := hvs_len w
    simp only [hvs, List.flatMap_cons, List.length_append, List.length_cons, List.length_nil] at ih ⊢
    omega
theorem hvs_take {w : List Int} {i : Nat} {bit : Int} (h : w[i]? = some bit) : hvs (w.take (i + 1)) = hvs (w.take i) ++ [fhS bit, ohS (fhS bit)] := by
  rw [List.take_add_one, h, hvs, List.flatMap_append]
  simp [hvs]
theorem cutG_len (l : List Str) : (cutG l).length ≤ l.length := by
  unfold cutG
  split <;> simp
theorem runs_len (u : Int) : ∀ (ls : List Str) (p : Str) (c : Int), (runs u p c ls).length ≤ ls.length + 1
  | [], _, _ => Nat.le_refl _
  | l :: ls, p, c => by
    unfold runs
    split
    · have := runs_len u ls l (c + u); simp only [List.length_cons]; omega
    · have := runs_len u ls l u; simp only [List.length_cons]; omega
theorem atI_end (xs : List Dt) (x : Dt) : atI (xs ++ [x]) (-1) = some x := by
  unfold atI ixN
  rw [if_neg (by decide), if_pos (by rw [List.length_append, List.length_singleton]; omega)]
  have : ((-1 : Int) + ((xs ++ [x]).length : Nat)).toNat = xs.length := by rw [List.length_append, List.length_singleton]; omega
  rw [this]
  simp
abbrev pgL (l : List Str) : List Str := "pulse" :: "gap" :: l
theorem so_frame_of_halves (hmu : S.Mu) (hp : r_foh ds d) : So K S S [] (t_frame_of_halves K) (startD 8 ds) (Pu d) := by
  obtain ⟨u, b, w, hT, hw, rfl, rfl⟩ := hp
  have hb := Tab.b1 hT
  have hb1 : 1 ≤ b := hb.1
  have hb8 : b ≤ 8 := hb.2
  have hwl : w.length ≤ 8 := by rw [hw.1]; omega
  have hwne : w ≠ [] := fun e => by
    have := hw.1
    rw [e] at this
    simp at this
    omega
  refine so_setD (d := .int u) (ev_ixT (ev_var rfl) ev_int (atI_nat (j := 1) rfl)) ?_
  refine so_newF (xs := (["pulse", "gap"] : List Str).map Dt.str) (en_lst (ea_cons ev_str (ea_cons ev_str ea_nil)) (by show 2 ≤ sizeLine; decide)) (Sta.Le.refl _) fun p _ => ?_
  -- the halves
  refine so_seqG (S1 := S) (M := fun ρ' => ∃ x : Option Dt, (∀ d, x = some d → nol d = true) ∧ ρ' = [some (Tab.ha u b).d, some (tI w), some (.int u), some (.lat p ((pgL (hvs w)).map Dt.str)), x, none, none, none]) (Sta.Le.refl _)
    (so_forTX (xs := w.map Dt.int) (ev_var rfl) (nolA_ints w) (fun i ρ' => ∃ x : Option Dt, (∀ d, x = some d → nol d = true) ∧ ρ' = [some (Tab.ha u b).d, some (tI w), some (.int u), some (.lat p ((pgL (hvs (w.take i))).map Dt.str)), x, none, none, none])
      ⟨none, (fun _ e => nomatch e), rfl⟩ (fun S' le lo mu i x ρ' hx hJ => ?_) (fun ρ' hJ => ?_)) fun ρ' hM => ?_
  · obtain ⟨y, _, rfl⟩ := hJ
    obtain ⟨bit, hbit, rfl⟩ : ∃ bit, w[i]? = some bit ∧ x = .int bit := by
      rw [List.getElem?_map] at hx
      cases e : w[i]? with
      | none => rw [e] at hx; simp at hx
      | some bit => rw [e] at hx; exact ⟨bit, rfl, by simpa using hx.symm⟩
    have hl2 : (hvs (w.take i)).length ≤ 16 := by rw [hvs_len, List.length_take]; omega
    refine sg_last (so_extN (ys := [fhS bit, ohS (fhS bit)].map Dt.str) List.mem_cons_self (lo _ _ (mu_looseP hmu)) rfl (nolA_strs _) (Offs.mk ?_) (en_lst (ea_cons (ev_first_half (ev_var rfl)) (ea_cons (ev_other_half (ev_first_half (ev_var rfl))) ea_nil)) (by show 2 ≤ sizeLine; decide)) (nolA_strs _) ?_ (so_next (Sta.Le.refl _) ⟨some (.int bit), (fun _ e => by cases e; rfl), ?_⟩))
    · simp [offL, off_int, off_str, off_tI, off_tab]
    · simp only [List.length_map, List.length_cons, List.length_nil]
      omega
    · rw [hvs_take hbit, ← List.map_append]
      rfl
  · obtain ⟨y, hy, e⟩ := hJ
    rw [List.length_map, List.take_length] at e
    exact ⟨y, hy, e⟩
  obtain ⟨y, hy, rfl⟩ := hM
  -- a gap at the end is left out
  have hvne : pgL (hvs w) ≠ [] := List.cons_ne_nil _ _
  obtain ⟨ini, l, hini⟩ : ∃ ini l, pgL (hvs w) = ini ++ [l] := ⟨_, _, (List.dropLast_concat_getLast hvne).symm⟩
  have hcut : pgL (cutG (hvs w)) = (if l = "gap" then ini else ini ++ [l]) := by
    rw [pgL, ← cutG_two _ _ (hvs_ne hwne), show ("pulse" : Str) :: "gap" :: hvs w = ini ++ [l] from hini, cutG]
    simp
  have hclen : (cutG (hvs w)).length ≤ 16 := Nat.le_trans (cutG_len _) (by rw [hvs_len]; omega)
  have offp : offL p 3 0 [some (Tab.ha u b).d, some (tI w), some (.int u), some (.lat p ((pgL (hvs w)).map Dt.str)), y, none, none, none] := by
    simp only [offL]
    exact ⟨fun _ d e => by cases e; exact off_tab, fun _ d e => by cases e; exact off_tI, fun _ d e => by cases e; rfl, fun e => absurd rfl e, fun _ d e => offOk_nol (hy d e), (fun _ d e => nomatch e), (fun _ d e => nomatch e), (fun _ d e => nomatch e), trivial⟩
  refine so_seqG (S1 := S) (M := fun ρ' => ρ' = [some (Tab.ha u b).d, some (tI w), some (.int u), some (.lat p ((pgL (cutG (hvs w))).map Dt.str)), y, none, none, none]) (Sta.Le.refl _)
    (so_if0 (Φb := Eq (decide (l = "gap"))) (et_test (ev_op (ev_ixL (d := .str l) (ev_lat (ev_var rfl)) (ev_neg ev_int) (by rw [hini, List.map_append]; exact atI_end _ _)) ev_str rv_eqS)) (fun e => ?_) (fun e => ?_)) fun ρ' hM => ?_
  · have hl : l = "gap" := of_decide_eq_true e
    refine sg_last (so_pop (d := .str l) (xs := ini.map Dt.str) List.mem_cons_self (mu_looseP hmu) (by show some (some _) = _; rw [hini, List.map_append]; rfl) (nolA_strs _) (Offs.mk offp) (so_next (Sta.Le.refl _) ?_))
    rw [hcut, if_pos hl]
    rfl
  · have hl : ¬ l = "gap" := of_decide_eq_false e
    refine so_next (Sta.Le.refl _) ?_
    rw [hcut, if_neg hl, hini]
  subst hM
  -- like ones together
  refine so_newF (xs := [u].map Dt.int) (en_lst (ea_cons (ev_var rfl) ea_nil) (by show 1 ≤ sizeLine; decide)) (Sta.Le.refl _) fun q hq => ?_
  have hpq : p ≠ q := hq 3 p _ rfl
  let hs : List Str := pgL (cutG (hvs w))
  let tl : List Str := "gap" :: cutG (hvs w)
  refine so_seqG (S1 := S) (M := fun ρ' => ∃ y6 y7 : Option Dt, ρ' = [some (Tab.ha u b).d, some (tI w), some (.int u), some (.lat p (hs.map Dt.str)), y, some (.lat q ((runs u "pulse" u tl).map Dt.int)), y6, y7]) (Sta.Le.refl _)
    (so_forZX (q := p) (xs := hs.map Dt.str) (ys := tl.map Dt.str) (ev_var rfl) (by
        have := en_slL (K := K) (S := S) (ρ := [some (Tab.ha u b).d, some (tI w), some (.int u), some (.lat p (hs.map Dt.str)), y, some (.lat q ([u].map Dt.int)), none, none]) (ev_lat (ev_var (i := 3) rfl)) (eo_some (ev_int (i := 1))) eo_none
        exact this.to (cutD_tail _ _)) (nolA_strs _) (nolA_strs _)
      (fun i ρ' => ∃ (acc : List Int) (cur : Int) (prev : Str) (y6 y7 : Option Dt), (∀ d, y6 = some d → nol d = true) ∧ (∀ d, y7 = some d → nol d = true) ∧ hs[i]? = some prev ∧ acc ++ runs u prev cur (tl.drop i) = runs u "pulse" u tl ∧ acc.length ≤ i ∧ ρ' = [some (Tab.ha u b).d, some (tI w), some (.int u), some (.lat p (hs.map Dt.str)), y, some (.lat q ((acc ++ [cur]).map Dt.int)), y6, y7])
      ⟨[], u, "pulse", none, none, (fun _ e => nomatch e), (fun _ e => nomatch e), rfl, rfl, Nat.le_refl _, rfl⟩ (fun S' r le hr lo i x z ρ' hx hz hJ => ?_) (fun ρ' hJ => ?_)) fun ρ' hM => ?_
  · obtain ⟨acc, cur, prev, y6, y7, _, _, hprev, hacc, hal, rfl⟩ := hJ
    have hqr : q ≠ r := hr 5 q _ rfl
    obtain rfl : x = .str prev := by
      rw [List.getElem?_map, hprev] at hx
      simpa using hx.symm
    obtain ⟨l2, hl2, rfl⟩ : ∃ l2, tl[i]? = some l2 ∧ z = .str l2 := by
      rw [List.getElem?_map] at hz
      cases e : tl[i]? with
      | none => rw [e] at hz; simp at hz
      | some l2 => rw [e] at hz; exact ⟨l2, rfl, by simpa using hz.symm⟩
    have hlt : i < tl.length := (List.getElem?_eq_some_iff.mp hl2).1
    have htl : tl.length ≤ 17 := by show (cutG (hvs w)).length + 1 ≤ 17; omega
    have hdrop : tl.drop i = l2 :: tl.drop (i + 1) := by
      rw [List.drop_eq_getElem_cons hlt]
      congr 1
      exact (List.getElem?_eq_some_iff.mp hl2).2
    rw [hdrop] at hacc
    have hoff : ∀ (cs : List Dt), offL q 5 0 [some (Tab.ha u b).d, some (tI w), some (.int u), some (.lat p (hs.map Dt.str)), y, some (.lat q cs), some (.str prev), some (.str l2)] := fun cs => by
      simp only [offL]
      exact ⟨fun _ d e => by cases e; exact off_tab, fun _ d e => by cases e; exact off_tI, fun _ d e => by cases e; rfl, fun _ d e => by cases e; exact ⟨hpq, nolA_strs _⟩, fun _ d e => offOk_nol (hy d e), fun e => absurd rfl e, fun _ d e => by cases e; rfl, fun _ d e => by cases e; rfl, trivial⟩
    have hlo : LooseP S' S q := lo S q (Ne.symm hpq) hqr (mu_looseP hmu)
    refine so_if0 (Φb := Eq (decide (l2 = prev))) (et_test (ev_op (ev_var rfl) (ev_var rfl) rv_eqS)) (fun e => ?_) fun e => ?_
    · have e' : l2 = prev := of_decide_eq_true e
      refine sg_last (so_aug (p := q) (xs := acc.map Dt.int) (n := cur) (m := u) List.mem_cons_self hlo (by show some (some _) = _; rw [List.map_append]; rfl) (nolA_ints _) (Offs.mk (hoff _)) (ev_var rfl) (so_next (Sta.Le.refl _) ⟨acc, cur + u, l2, some (.str prev), some (.str l2), (fun _ e => by cases e; rfl), (fun _ e => by cases e; rfl), ?_, ?_, by omega, ?_⟩))
      · exact hl2
      · rw [← hacc]
        show _ = acc ++ (if l2 = prev then _ else _)
        rw [if_pos e']
      · simp only [List.map_append]
        rfl
    · have e' : ¬ l2 = prev := of_decide_eq_false e
      refine sg_last (so_appP (p := q) (d := .int u) List.mem_cons_self hlo rfl (nolA_ints _) (Offs.mk (hoff _)) (by rw [List.length_map, List.length_append]; simp only [List.length_cons, List.length_nil]; omega) (ev_var rfl) rfl (so_next (Sta.Le.refl _) ⟨acc ++ [cur], u, l2, some (.str prev), some (.str l2), (fun _ e => by cases e; rfl), (fun _ e => by cases e; rfl), ?_, ?_, by simp only [List.length_append, List.length_cons, List.length_nil]; omega, ?_⟩))
      · exact hl2
      · rw [← hacc]
        show _ = acc ++ (if l2 = prev then _ else _)
        rw [if_neg e', List.append_assoc]
        rfl
      · simp only [List.map_append]
        rfl
  · obtain ⟨acc, cur, prev, y6, y7, _, _, hprev, hacc, hal, rfl⟩ := hJ
    have hmin : min (hs.map Dt.str).length (tl.map Dt.str).length = tl.length := by
      simp only [List.length_map]
      show min (tl.length + 1) tl.length = tl.length
      omega
    rw [hmin, List.drop_length] at hacc
    refine ⟨y6, y7, ?_⟩
    rw [← hacc]
    rfl
  obtain ⟨y6, y7, rfl⟩ := hM
  refine so_retD (ev_cb (ea_cons (ev_lat (ev_var rfl)) ea_nil) rc_tupL) (Sta.Le.refl _) ?_
  have hg : ¬ (("gap" : Str) = "pulse") := gap_ne
  show tI (u :: runs u "gap" u (cutG (hvs w))) = .tup ((runs u "pulse" u ("gap" :: cutG (hvs w))).map Dt.int)
  rw [runs, if_neg hg]
  rfl
end
end Bf
namespace Bf
open PySem PySem.Spec PyProof.Rows L2
open AutoSeq1 (wpAny_loadPart')
/-! ## enumerate(a tuple) -/
section
variable {prog : Program} {w : World} {A : Around} {E : Value → Shared → Prop} {s : Shared}
theorem nextOf_tuple_item {it t : Addr} {i : Nat} {items : Array Value} {x : Value} {Q : Value → Shared → Prop} (hit : IsTupIter s.heap it t i) (ht : IsTup s.heap t items) (hx : items[i]? = some x)
    (hQ : ∀ h', IsTupIter h' it t (i + 1) → Heap.SameBut it s.heap h' → Q x { s with heap := h' }) : wpAny (model prog w) A (Builtin.SmallTypes.nextOf (.ref it)) Q E s := by
  obtain ⟨o, ho, hc, hd⟩ := id hit
  obtain ⟨ol, hol, _, nl, hdl⟩ := ht
  unfold Builtin.SmallTypes.nextOf
  refine wpAny_bind (wpAny_callSpecial?_slot (name := Str.ofString "__next__") hit.typeIs slot_tupleiter_next
    (wpAny_call_entry slot_tupleiter_next hit.typeIs entry_tupleiter_next ?_ (args_tupleiter_next _)))
  show wpAny _ _ (field (.ref it) 0 >>= _) _ _ s
  refine wpAny_bind (wpAny_field ho hd (x := .ref t) rfl ?_)
  show wpAny _ _ (if (Value.ref t == Value.none) = true then _ else _) _ _ s
  rw [if_neg (show ¬ ((Value.ref t == Value.none) = true) from Bool.false_ne_true)]
  show wpAny _ _ (field (.ref it) 1 >>= _) _ _ s
  refine wpAny_bind (wpAny_field ho hd (x := .int i 0) rfl ?_)
  show wpAny _ _ (seqItems? (.ref t) >>= _) _ _ s
  refine wpAny_bind (wpAny_seqItems hol hdl ?_)
  simp only [Int.toNat_natCast, hx]
  refine wpAny_bind (wpAny_setField ho hd (by simp) (wpAny_pure ⟨x, rfl, wpAny_pure (hQ _ ?_ (Heap.SameBut.update ..))⟩))
  exact ⟨_, Heap.get?_update_self _ ho (Obj.isFreed_of_fields (Obj.data_mapFields hd _)), (Obj.cls_mapFields ..).trans hc, by
    rw [Obj.data_mapFields hd]; simp [rawInt]⟩
theorem nextOf_tuple_end {it t : Addr} {i : Nat} {items : Array Value} {Q : Value → Shared → Prop} (hh : A.handled = none) (hit : IsTupIter s.heap it t i) (ht : IsTup s.heap t items) (hx : items[i]? = none)
    (hE : ∀ h' e, Heap.ExtBut it s.heap h' → (∃ o, h'.get? e = some o ∧ o.cls = .type "StopIteration") → E (.ref e) { s with heap := h' }) :
    wpAny (model prog w) A (Builtin.SmallTypes.nextOf (.ref it)) Q E s := by
  obtain ⟨o, ho, hc, hd⟩ := id hit
  obtain ⟨ol, hol, _, nl, hdl⟩ := ht
  unfold Builtin.SmallTypes.nextOf
  refine wpAny_bind (wpAny_callSpecial?_slot (name := Str.ofString "__next__") hit.typeIs slot_tupleiter_next
    (wpAny_call_entry slot_tupleiter_next hit.typeIs entry_tupleiter_next ?_ (args_tupleiter_next _)))
  show wpAny _ _ (field (.ref it) 0 >>= _) _ _ s
  refine wpAny_bind (wpAny_field ho hd (x := .ref t) rfl ?_)
  show wpAny _ _ (if (Value.ref t == Value.none) = true then _ else _) _ _ s
  rw [if_neg (show ¬ ((Value.ref t == Value.none) = true) from Bool.false_ne_true)]
  show wpAny _ _ (field (.ref it) 1 >>= _) _ _ s
  refine wpAny_bind (wpAny_field ho hd (x := .int i 0) rfl ?_)
  show wpAny _ _ (seqItems? (.ref t) >>= _) _ _ s
  refine wpAny_bind (wpAny_seqItems hol hdl ?_)
  simp only [Int.toNat_natCast, hx]
  refine wpAny_bind (wpAny_rule (wpAny_bind (wpAny_setField ho hd (by simp) ?_)))
  show wpAny _ _ (newExc (.type "StopIteration") [] >>= _) _ _ _
  refine wpAny_bind ?_
  simp only [newExc, newTuple]
  refine wpAny_bind (wpAny_newObj_type ?_ (by size_fits))
  refine wpAny_bind (m := firstArgMember _ _) (wpAny_of_eq (a := Value.none) (by first | rfl | (simp only [firstArgMember]; rfl)) ?_)
  refine wpAny_newObj_type ?_ (by size_fits)
  simp only [raiseNew]
  refine wpAny_bind (wpAny_handled ?_)
  first | rw [show A.in1.handled = none from hh] | rw [hh]
  refine wpAny_bind (wpAny_pure (wpAny_throw ?_))
  exact hE _ _ (((Heap.SameBut.update ..).extBut.push _).push _) ⟨_, Heap.get?_push_size _ rfl, rfl⟩
end
theorem draws_tuple {prog : Program} {w : World} {A : Around} (hh : A.handled = none) (it t : Addr) (hne : t ≠ it) (items : Array Value) :
    Draws prog w A it [it, t] items.size (fun i v => items[i]? = some v) (fun i h => IsTupIter h it t i ∧ IsTup h t items) where
  live := fun _ _ st => let ⟨o, ho, _⟩ := st.1; ⟨o, ho⟩
  frame := fun _ _ _ st hk => ⟨let ⟨o, ho, r⟩ := st.1; ⟨o, hk it (by simp) o ho, r⟩, let ⟨o, ho, r⟩ := st.2; ⟨o, hk t (by simp) o ho, r⟩⟩
  item := fun i s Q E hi st hQ => by
    refine nextOf_tuple_item st.1 st.2 (x := items[i]) (by simp [hi]) fun h' hit' hs' => ?_
    exact hQ _ h' s.toks (by simp [hi]) ⟨hit', st.2.extBut hs'.extBut hne⟩ hs'
  done := fun s Q E st hE => nextOf_tuple_end hh st.1 st.2 (by simp) hE
theorem meets_enumerate_newT (l : Addr) (items : Array Value) (n : Nat) (dct : Option Addr) (sl : Array (Option Value)) :
    Meets (Builtin.«enumerate.__new__» ⟨[.type "enumerate", .ref l], []⟩) (fun _ R s => s.heap.get? l = some { cls := .type "tuple", dict := dct, data := .seq items n, slots := sl } ∧
      R (.ok (.ret (.ref (s.heap.push { cls := .type "tuple_iterator", data := .fields #[.ref l, .int 0 0] }).objs.size)))
        { s with heap := (s.heap.push { cls := .type "tuple_iterator", data := .fields #[.ref l, .int 0 0] }).push { cls := .type "enumerate", data := .fields #[.none, .bool false, .ref s.heap.objs.size, rawInt 0, .none, .none] } }) :=
  .of_wp fun prog w A R s h => by
    obtain ⟨hp, g, d, tk, os⟩ := s; obtain ⟨hl, h⟩ := h
    have hsub := sub_enumerate
    have hL : IsTup (Shared.heap ⟨hp, g, d, tk, os⟩) l items := ⟨_, hl, rfl, n, rfl⟩
    wp_walk using wpAny_loadPart' hl
    refine wpAny_stack_any fun st => wpAny_pure ?_
    split
    · rename_i c _ _ _ _ _
      cases (c == Value.type "enumerate")
      · wp_walk using wpAny_loadPart' hl, iter_tuple hL
        exact ⟨_, rfl, h⟩
      · wp_walk using wpAny_loadPart' hl, iter_tuple hL
        exact ⟨_, rfl, h⟩
    · wp_walk using wpAny_loadPart' hl, iter_tuple hL
      exact ⟨_, rfl, h⟩
section
variable {prog : Program} {w : World} {A : Around} {E : Value → Shared → Prop} {s : Shared}
theorem call_enumerate_tuple {l : Addr} {items : Array Value} {Q : Value → Shared → Prop} (hL : IsTup s.heap l items)
    (h : ∀ h', IsEnum h' (s.heap.objs.size + 1) s.heap.objs.size 0 .none → IsTupIter h' s.heap.objs.size l 0 → h'.objs.size = s.heap.objs.size + 2 →
      (∀ b o, s.heap.get? b = some o → h'.get? b = some o) → Q (.ref (s.heap.objs.size + 1)) { s with heap := h' }) :
    wpAny (model prog w) A (call (.type "enumerate") [.ref l]) Q E s := by
  obtain ⟨⟨c, dct, dt, sl⟩, hl, hc, n, hd⟩ := hL
  replace hc : c = .type "tuple" := hc
  replace hd : dt = .seq items n := hd
  subst hc hd
  refine callType_new F.called_enumerate (by decide) (F.typeCall_enumerate_1 _) (F.newCall_enumerate_1 _) (fun obj => F.args_object_init_2 obj _) F.entry_enumerate_new
    (meets_enumerate_newT l items n dct sl) ⟨hl, ?_⟩
  have hz : (s.heap.push { cls := .type "tuple_iterator", data := .fields #[.ref l, .int 0 0] }).objs.size = s.heap.objs.size + 1 := Heap.size_push ..
  show _ ∧ _
  rw [hz]
  have he : IsEnum ((s.heap.push { cls := .type "tuple_iterator", data := .fields #[.ref l, .int 0 0] }).push
      { cls := .type "enumerate", data := .fields #[.none, .bool false, .ref s.heap.objs.size, rawInt 0, .none, .none] }) (s.heap.objs.size + 1) s.heap.objs.size 0 .none := by
    have := Heap.get?_push_size (s.heap.push { cls := .type "tuple_iterator", data := .fields #[.ref l, .int 0 0] })
      (o := { cls := .type "enumerate", data := .fields #[.none, .bool false, .ref s.heap.objs.size, rawInt 0, .none, .none] }) rfl
    rw [hz] at this; exact this
  refine ⟨⟨_, he, rfl⟩, h _ he ⟨_, Heap.get?_push_of_some _ (Heap.get?_push_size _ rfl), rfl, rfl⟩ (by rw [Heap.size_push, hz]) fun b o x => Heap.get?_push_of_some _ (Heap.get?_push_of_some _ x)⟩
end
/-- the tuple at a, each item in a new pair -/
def IteT (K : PySem.W.Frag) (a : Addr) : It :=
  ⟨fun i H => ∃ (xs : List V) (x : V), SqT K H a xs ∧ xs[i]? = some x, fun i H v H' => ∃ T x, v = .ref T ∧ H T = none ∧ H' = upd H T (.tup [.int (i : Nat), x]) ∧ ∀ xs, SqT K H a xs → xs[i]? = some x, fun i H => ∃ xs : List V, SqT K H a xs ∧ xs.length ≤ i⟩
theorem enum_ne_tup {h : Heap} {e it a : Addr} {i : Int} {old : Value} {items : Array Value} (he : IsEnum h e it i old) (ht : IsTup h a items) : e ≠ a := fun z => by
  obtain ⟨o, ho, hc, _⟩ := ht
  subst z
  have : h.get? e = _ := he
  rw [ho] at this
  cases this
  injection hc with q
  exact absurd q (by decide)
theorem tupit_ne_tup {h : Heap} {it a : Addr} {i : Nat} {items : Array Value} (hi : IsTupIter h it a i) (ht : IsTup h a items) : a ≠ it := fun z => by
  obtain ⟨o, ho, hc, _⟩ := ht
  obtain ⟨o2, ho2, hc2, _⟩ := hi
  subst z
  rw [ho] at ho2
  cases ho2
  rw [hc] at hc2
  injection hc2 with q
  exact absurd q (by decide)
theorem turn_enumT {P : Program} {w : World} {K : PySem.W.Frag} {elts : List Expr} {kk : Nat} {tpos : Pos} (a e it : Addr) :
    Turn P w K (.Tuple elts kk tpos) (IteT K a) [e, it] e (fun i h => (∃ old, IsEnum h e it ((i : Nat) : Int) old) ∧ IsTupIter h it a i ∧ e ≠ it) where
  mem := by simp
  obj := fun i h st b hb => by
    obtain ⟨⟨old, he⟩, ⟨o, ho, hc, hd⟩, _⟩ := st
    have e' : b = e ∨ b = it := by simpa using hb
    rcases e' with z | z
    · rw [z]; exact ⟨_, he, fun v q => nomatch q⟩
    · rw [z]; exact ⟨o, ho, fun v q => by rw [hd] at q; cases q⟩
  keep := fun i h h' st k => let ⟨⟨old, he⟩, ⟨o, ho, r⟩, hne⟩ := st; ⟨⟨old, k e (by simp) _ he⟩, ⟨o, k it (by simp) o ho, r⟩, hne⟩
  item := by
    intro X hP hw hK hc i pins s σ H E I hf st hg
    subst hP hw hK
    obtain ⟨⟨old, he⟩, hit, hne⟩ := st
    obtain ⟨xs, x, hq, hx⟩ := hg
    obtain ⟨its, rv, p, hz⟩ := I.tuple hq
    obtain ⟨u, hu, ru⟩ := rv.get hx
    have hel : e < s.heap.objs.size := Heap.lt_size he
    have hil : it < s.heap.objs.size := by obtain ⟨_, q, _⟩ := hit; exact Heap.lt_size q
    have hlt : i < its.toArray.size := by
      rw [List.size_toArray]
      exact (List.getElem?_eq_some_iff.mp hu).1
    refine wpAny_pyNext_enum_itemD (draws_tuple (show X.A.in1.handled = none from I.ok.hd hc) it a (tupit_ne_tup hit p) its.toArray) he ⟨hit, p⟩ hlt hne (by simp [hne, enum_ne_tup he p]) fun v h' tk hv ho hst' hT hsz hk => ?_
    have hvu : v = u := by
      have : its.toArray[i]? = some u := by simpa using hu
      rw [hv] at this
      exact Option.some.inj this
    subst hvu
    have hit' := hst'.1
    refine ⟨_, rfl, wpAny_letOwnedTupleGo_enum (s := { s with heap := h', toks := tk + 1 }) ho fun h'' he' sb => ?_⟩
    have hT2 : h''.get? s.heap.objs.size = some { cls := .type "tuple", data := .seq #[.int i tk, v] } := (sb.2 _ (Nat.ne_of_gt hel)).trans hT
    have new : ObjOk X.prog X.w (upd H s.heap.objs.size (.tup [.int (i : Nat), x])) h'' s.heap.objs.size (.tup [.int (i : Nat), x]) :=
      ⟨by show 2 ≤ sizeLine; decide, [.int i tk, v], .cons ⟨_, rfl⟩ (.cons ru .nil), ⟨_, hT2, rfl, _, rfl⟩⟩
    have I1 : L2.Inv X pins σ (upd H s.heap.objs.size (.tup [.int (i : Nat), x])) { s with heap := h'', toks := tk + 1 } :=
      I.turnedNew (ch := [e, it]) (fun b ob hb q => (sb.2 b (fun z => hb (by simp [z]))).trans (hk b ob (fun z => hb (by simp [z])) (fun z => hb (by simp [z])) q)) hf (Nat.le_refl _) new
    refine ⟨.ref s.heap.objs.size, _, I1, rfl, ⟨_, x, rfl, I.hok.fresh (Nat.le_refl _), rfl, fun ys hy => by rw [I.tuple_inj hy hq]; exact hx⟩, ⟨⟨v, ?_⟩, ?_, hne⟩, fun b hb => ?_⟩
    · have e1 : ((i + 1 : Nat) : Int) = (i : Int) + 1 := by omega
      rw [e1]; exact he'
    · obtain ⟨o, ho', r⟩ := hit'
      exact ⟨o, (sb.2 it (Ne.symm hne)).trans ho', r⟩
    · have hb' : b < s.heap.objs.size := by
        have e' : b = e ∨ b = it := by simpa using hb
        rcases e' with z | z
        · rw [z]; exact hel
        · rw [z]; exact hil
      rw [upd_ne (Nat.ne_of_lt hb')]
      exact (hf b hb).1
  done := by
    intro X hP hw hK hc i pins s σ H E I hf st hg
    subst hP hw hK
    obtain ⟨⟨old, he⟩, hit, hne⟩ := st
    obtain ⟨xs, hq, hx⟩ := hg
    obtain ⟨its, rv, p, hz⟩ := I.tuple hq
    obtain ⟨f0, f1, f2, f3, f4, f5⟩ := hf it (by simp)
    have hl := rv.length
    have hh : X.A.in1.handled = none := I.ok.hd hc
    refine wpAny_bind (wpAny_attempt (wpAny_callSpecial?_slot (name := Str.ofString "__next__") (T := "enumerate") ⟨_, he, rfl⟩ F.slot_enumerate_next
      (wpAny_call_entry F.slot_enumerate_next ⟨_, he, rfl⟩ F.entry_enumerate_next ?_ (F.args_enumerate_next_1 _))))
    show wpAny _ _ (field (.ref e) 2 >>= _) _ _ _
    refine wpAny_bind (wpAny_field he rfl (x := .ref it) rfl ?_)
    refine wpAny_bind (nextOf_tuple_end hh hit p (by simp; omega) fun h' x he' hx' => ?_)
    obtain ⟨o, ho, hc'⟩ := hx'
    refine wpAny_bind (wpAny_isInstance (T := "StopIteration") (b := true) ⟨o, ho, hc'⟩ isSubtype_stop ?_)
    exact wpAny_pure ⟨rfl, I.turned (t' := s.toks) (fun b o hb q => he' b o hb q) f0 f1 f3 f4 f5⟩
  self := fun A i s Q E st h => let ⟨⟨_, he⟩, _⟩ := st; wpAny_pyIter_enum he h
def iEnumT (K : PySem.W.Frag) (ta : TA) : TI := fun σ H R => ta σ H fun vs H1 => ∃ a xs, vs = [.ref a] ∧ SqT K H1 a xs ∧ R (IteT K a) H1
theorem pi_enumT {X : Cx} {e : Expr} {ta : TA} {p pos tpos : Pos} {elts : List Expr} {kk : Nat} (hg : Gl X "enumerate") (hm : X.mg "enumerate" = none) (ha : PA X [e] ta) (hs : starEach [e] X.env = [(false, eval e X.env)] := by rfl) :
    PI X (.Tuple elts kk tpos) (.Call (.Name "enumerate" p) [e] [] pos) (iEnumT X.K ta) := by
  refine ⟨fun pins s σ H R I h => ?_⟩
  refine Call_ (ld_blt I hg hm boot_enumerate (PyProof.Rows.callWith_type1 (thn (ha.run pos pins s σ H _ I h) fun us s1 ⟨vs, H1, I1, r1, q1⟩ => ?_) hs rfl))
  obtain ⟨a, xs, ex, hq, q⟩ := q1
  subst ex
  cases r1 with
  | cons r rr =>
    cases rr
    cases r
    obtain ⟨its, rv, p', hz⟩ := I1.tuple hq
    refine call_enumerate_tuple p' fun h' he hit hsz hk => wpAny_pyIter_enum he ?_
    have I2 : L2.Inv X pins σ H1 { s1 with heap := h' } := I1.kept (t' := s1.toks) hk
    refine ⟨s1.heap.objs.size + 1, [s1.heap.objs.size + 1, s1.heap.objs.size], _, _, H1, rfl, I2, turn_enumT a (s1.heap.objs.size + 1) s1.heap.objs.size, ⟨⟨.none, he⟩, hit, Nat.succ_ne_self _⟩, fun b hb => ?_, q⟩
    have e' : b = s1.heap.objs.size + 1 ∨ b = s1.heap.objs.size := by simpa using hb
    have hle : s1.heap.objs.size ≤ b := by
      rcases e' with z | z
      · rw [z]; exact Nat.le_add_right _ _
      · rw [z]; exact Nat.le_refl _
    exact I1.fpOk hle (I1.hok.fresh hle)
theorem walk_enumT {K : PySem.W.Frag} {a : Addr} {xs : List V} : Walk (IteT K a) xs.length (fun H => SqT K H a xs) (YPair (fun i => some (.int (i : Nat))) (fun i => xs[i]?)) := by
  refine ⟨fun i _ hi q => ⟨xs, xs[i], q, by simp [hi]⟩, fun _ q => ⟨xs, q, Nat.le_refl _⟩, fun i H v H' _ q y => ?_⟩
  obtain ⟨T, x, h1, h2, h3, h4⟩ := y
  exact ⟨T, .int (i : Nat), x, h1, h2, h3, rfl, h4 xs q⟩
section
variable {K : PySem.W.Frag} {S SB : Sta} {L : List Addr} {ρ : List (Option Dt)} {P : Po} {tl : TE} {t : TS}
/-- for j1, j2 in enumerate(a tuple) -/
theorem so_forET {j1 j2 : Nat} {xs : List Dt} (h : Ev K S S ρ tl (Eq (.tup xs))) (J : Nat → List (Option Dt) → Prop) (h0 : J 0 ρ)
    (hs : ∀ (i : Nat) x ρ', xs[i]? = some x → J i ρ' → So K S S [] t ((ρ'.set j1 (some (.int i))).set j2 (some x)) { P with nx := J (i + 1), ct := J (i + 1), bk := P.nx }) (hd : ∀ ρ', J xs.length ρ' → P.nx ρ') :
    Sg K S SB S L (tFor (iEnumT K (tCons tl tNil)) (gTup K 2 (gCons (gName j1) (gCons (gName j2) gNil))) t) ρ P := fun D σ B H b i s f0 =>
  have f := f0.mono b.gr
  h σ H i s _ fun v d H1 g1 i1 r1 p1 => by
    subst p1
    obtain ⟨a, vs, rfl, ht, ra⟩ := r1.tupI
    refine ⟨a, vs, rfl, ht, for_it walk_enumT (fun n σ' H' => Gr H1 H' ∧ S.I H' ∧ ∃ ρ', Slots K H' σ' ρ' ∧ J n ρ') ⟨Gr.refl H1, i1, ρ, s.mono g1, h0⟩ (fun n σ' H' _ p => p.1.sqT ht) (fun n x σ' H' H2 hn p y => ?_) fun σ' H' p => ?_⟩
    · obtain ⟨g2, i2, ρ', s2, jn⟩ := p
      obtain ⟨T, x1, x2, rfl, hT, rfl, e1, e2⟩ := y
      cases e1
      obtain ⟨d, hd', rd⟩ := ra.ta e2
      have sn := same_new (o := .tup [.int (n : Nat), x2]) hT
      refine ⟨T, [.int (n : Nat), x2], rfl, SqT.of upd_same, rfl, names_run (is := [j1, j2]) (ds := [.int (n : Nat), d]) (s2.mono sn.gr) (.cons (.int _) (.cons (rd.mono (g2.trans sn.gr)) .nil)) rfl fun σ5 s5 => ?_⟩
      have g3 := g2.trans sn.gr
      exact hs n d ρ' hd' jn _ _ _ _ ⟨Gr.refl _, S.st i2 sn, fun _ z => nomatch z⟩ (S.st i2 sn) s5 ⟨fun σ3 ρ3 H3 g4 i3 s3 q => ⟨g3.trans g4, i3, ρ3, s3, q⟩, fun v3 d3 H3 g4 => f.rt v3 d3 H3 ((g1.trans g3).trans g4), fun σ3 ρ3 H3 g4 i3 s3 q => f.nx σ3 ρ3 H3 ((g1.trans g3).trans g4) i3 s3 q, fun σ3 ρ3 H3 g4 i3 s3 q => ⟨g3.trans g4, i3, ρ3, s3, q⟩⟩
    · obtain ⟨g2, i2, ρ', s2, jn⟩ := p
      rw [ra.len] at jn
      exact f.nx σ' ρ' H' (g1.trans g2) i2 s2 (hd ρ' jn)
end
end Bf
namespace Bf
open PySem PySem.Spec PyProof.Rows L2
/-! ## The parts of a frame: what each bit adds -/
def Tab.oOk : Tab → Str → Prop
  | .ha _ _, o => o = "pulse" ∨ o = "gap"
  | .pa .., o => o = ""
def Tab.part : Tab → Str → Int → Bool → List Int
  | .ha u _, o, bit, l => (haS u bit o l).1
  | .pa _ z1 z2 o1 o2 st _, _, bit, l => (if bit = 1 then [o1, o2] else [z1, z2]) ++ (if l = true then [st] else [])
/-- what is under way behind so many durations -/
def Tab.uw : Tab → Nat → Str
  | .ha _ _, n => if n % 2 = 0 then "pulse" else "gap"
  | .pa .., _ => ""
theorem sett_rest (T : Tab) (s : Site) (bit : Int) : (T.sett s bit).rest = T.part s.o bit (decide (s.k + 1 = T.b)) := by cases T <;> rfl
theorem uw_ok (T : Tab) (n : Nat) : T.oOk (T.uw n) := by
  cases T with
  | ha u b =>
    simp only [Tab.oOk, Tab.uw]
    split
    · exact .inl rfl
    · exact .inr rfl
  | pa => rfl
theorem beg_ok (T : Tab) : T.oOk T.beg.o := by
  cases T with
  | ha => exact .inr rfl
  | pa => rfl
theorem oOk_any {T : Tab} {o : Str} (h : T.oOk o) : o = "" ∨ o = "pulse" ∨ o = "gap" := by
  cases T with
  | ha => exact .inr h
  | pa => exact .inl h
theorem ohS_pg {o : Str} (h : o = "pulse" ∨ o = "gap") : ohS o = "pulse" ∨ ohS o = "gap" := by
  unfold ohS
  split
  · exact .inr rfl
  · exact .inl rfl
theorem haS_ok {u bit : Int} {o : Str} {l : Bool} (h : o = "pulse" ∨ o = "gap") : (haS u bit o l).2 = "pulse" ∨ (haS u bit o l).2 = "gap" := by
  unfold haS
  split
  · exact .inr rfl
  · unfold haP
    split
    · exact ohS_pg h
    · exact h
theorem sett_ok {T : Tab} {s : Site} {bit : Int} (h : T.oOk s.o) : T.oOk (T.sett s bit).o := by
  cases T with
  | ha u b => exact haS_ok h
  | pa => rfl
theorem haP_len {u bit : Int} {o : Str} : (haP u bit o).1.length ≤ 2 := by
  unfold haP
  split <;> simp
theorem haP_hb {u bit : Int} {o : Str} : (if (haP u bit o).1.length = 2 then o else ohS o) = (haP u bit o).2 := by
  unfold haP
  split <;> simp
theorem part_len {T : Tab} {o : Str} {bit : Int} {l : Bool} : 1 ≤ (T.part o bit l).length ∧ (T.part o bit l).length ≤ 3 := by
  cases T with
  | ha u b =>
    simp only [Tab.part, haS, haP]
    repeat' split
    all_goals exact ⟨by simp, by simp⟩
  | pa h z1 z2 o1 o2 st b =>
    simp only [Tab.part]
    repeat' split
    all_goals exact ⟨by simp, by simp⟩
/-- how it goes on behind a bit that is not the last one -/
theorem uw_next (T : Tab) (n : Nat) (bit : Int) (s : Site) (hs : s.o = T.uw n) (hl : ¬ s.k + 1 = T.b) : (T.sett s bit).o = T.uw (n + (T.part (T.uw n) bit false).length) := by
  cases T with
  | ha u b =>
    have e : decide (s.k + 1 = b) = false := decide_eq_false hl
    show (haS u bit s.o (decide (s.k + 1 = b))).2 = _
    rw [e, hs]
    simp only [haS, Bool.false_and, Bool.false_eq_true, if_false, Tab.part, Tab.uw]
    have hg : ("gap" : Str) ≠ "pulse" := gap_ne
    have hg2 : ("pulse" : Str) ≠ "gap" := gap_ne.symm
    by_cases hn : n % 2 = 0
    · rw [if_pos hn]
      rcases fh_or bit with hf | hf
      · rw [show (haP u bit "pulse") = ([2 * u], ("gap" : Str)) by simp [haP, hf, ohS]]
        exact (if_neg (show ¬ (n + 1) % 2 = 0 by omega)).symm
      · rw [show (haP u bit "pulse") = ([u, u], ("pulse" : Str)) by simp [haP, hf, hg]]
        exact (if_pos (show (n + 2) % 2 = 0 by omega)).symm
    · rw [if_neg hn]
      rcases fh_or bit with hf | hf
      · rw [show (haP u bit "gap") = ([u, u], ("gap" : Str)) by simp [haP, hf, hg2]]
        exact (if_neg (show ¬ (n + 2) % 2 = 0 by omega)).symm
      · rw [show (haP u bit "gap") = ([2 * u], ("pulse" : Str)) by simp [haP, hf, ohS, hg]]
        exact (if_pos (show (n + 1) % 2 = 0 by omega)).symm
  | pa => rfl
section
variable {K : PySem.W.Frag} {S : Sta} {ds : List Dt} {d : Dt}
def r_uw (ds : List Dt) (d : Dt) : Prop := ∃ (T : Tab) (n : Nat), T.ok ∧ ds = [T.d, .int n] ∧ d = .str (T.uw n)
abbrev p_under_way_at (K : PySem.W.Frag) : Sp := spR K 2 r_uw
abbrev t_under_way_at (K : PySem.W.Frag) : TS := (tSeq (tIfS (tB (tCall (p_is_pairs K) [] E0 (tCons (tVar 0) tNil))) (tRet (tC (.str ""))) tNext)
    (tRet (tIf (tTest (tOp rEq (tOp rModI (tVar 1) (tC (.int 2))) (tC (.int 0)))) (tC (.str "pulse")) (tC (.str "gap")))))
theorem so_under_way_at (hp : r_uw ds d) : So K S S [] (t_under_way_at K) (startD 2 ds) (Pu d) := by
  obtain ⟨T, n, hT, rfl, rfl⟩ := hp
  cases T with
  | ha u b =>
    refine so_if (Φb := Eq false) (et_B (ev_is_pairs (ev_var rfl) hT)) (fun e => nomatch e) fun _ => so_skip ?_
    refine so_retD (d := .str (if n % 2 = 0 then "pulse" else "gap")) (ev_if (b := decide (n % 2 = 0)) ((et_test (ev_op (ev_op (ev_var rfl) ev_int (rv_mod (by decide))) ev_int rv_eqI)).to (decide_eq_decide.mpr (by omega))) (fun e => ev_str.to (by rw [if_pos (of_decide_eq_true e)])) (fun e => ev_str.to (by rw [if_neg (of_decide_eq_false e)]))) (Sta.Le.refl _) rfl
  | pa h z1 z2 o1 o2 s b => exact so_if (Φb := Eq true) (et_B (ev_is_pairs (ev_var rfl) hT)) (fun _ => so_ret1D ev_str (Sta.Le.refl _) rfl) fun e => nomatch e
def r_hb (ds : List Dt) (d : Dt) : Prop := ∃ (o : Str) (ns : List Int), ds = [.str o, tI ns] ∧ d = .str (if ns.length = 2 then o else ohS o)
abbrev p_half_behind (K : PySem.W.Frag) : Sp := spR K 2 r_hb
abbrev t_half_behind (K : PySem.W.Frag) : TS := (tRet (tIf (tTest (tOp rEq (tCB (rLen K) (tCons (tVar 1) tNil)) (tC (.int 2)))) (tVar 0) (tCall (p_other_half K) [] E0 (tCons (tVar 0) tNil))))
theorem so_half_behind (hp : r_hb ds d) : So K S S [] (t_half_behind K) (startD 2 ds) (Pu d) := by
  obtain ⟨o, ns, rfl, rfl⟩ := hp
  exact so_retD (ev_if (b := decide (ns.length = 2)) ((et_test (ev_op (ev_lenT (ev_var rfl)) ev_int rv_eqI)).to (decide_eq_decide.mpr (by rw [List.length_map]; omega))) (fun e => (ev_var (d := .str o) rfl).to (by rw [if_pos (of_decide_eq_true e)])) (fun e => (ev_other_half (i := o) (ev_var rfl)).to (by rw [if_neg (of_decide_eq_false e)]))) (Sta.Le.refl _) rfl
section
variable {S1 : Sta} {ρ : List (Option Dt)} {ta tb tc td : TE} {T : Tab} {o : Str} {bit : Int} {l : Bool}
theorem ev_under_way_at {n : Nat} (h : Ev K S S ρ ta (Eq T.d)) (hT : T.ok) (h2 : Ev K S S ρ tb (Eq (.int n))) : Ev K S S ρ (tCall (p_under_way_at K) [] E0 (tCons ta (tCons tb tNil))) (Eq (.str (T.uw n))) := ev_callR (ea_cons h (ea_cons h2 ea_nil)) rfl ⟨T, n, hT, rfl, rfl⟩
theorem ev_half_behind {ns : List Int} (h : Ev K S S ρ ta (Eq (.str o))) (h2 : Ev K S S ρ tb (Eq (tI ns))) : Ev K S S ρ (tCall (p_half_behind K) [] E0 (tCons ta (tCons tb tNil))) (Eq (.str (if ns.length = 2 then o else ohS o))) := ev_callR (ea_cons h (ea_cons h2 ea_nil)) rfl ⟨o, ns, rfl, rfl⟩
end
def r_po (ds : List Dt) (d : Dt) : Prop := ∃ (T : Tab) (o : Str) (bit : Int) (l : Bool), T.ok ∧ ds = [T.d, .str o, .int bit, .bl l] ∧ d = tI (T.part o bit l)
abbrev p_part_of (K : PySem.W.Frag) : Sp := spR K 4 r_po
abbrev t_part_of (K : PySem.W.Frag) : TS := (tSeq (tIfS (tB (tCall (p_is_pairs K) [] E0 (tCons (tVar 0) tNil))) (tSeq (tAsg (tSl (rSlA K) (tVar 0) (tPart (tC (.int 2))) (tPart (tC (.int 5)))) (gTup K 3 (gCons (gName 4) (gCons (gName 5) (gCons (gName 6) gNil)))))
    (tSeq (tAsg (tIf (tTest (tOp rEq (tVar 2) (tC (.int 1)))) (tVar 5) (tVar 4)) (gName 7))
    (tRet (tIf (tB (tVar 3)) (tTup (StX.tStar K (tVar 7) (tCons (tVar 6) tNil))) (tVar 7))))) tNext)
    (tSeq (tAsg (tOp (rIx K) (tVar 0) (tC (.int 1))) (gName 8))
    (tSeq (tAsg (tIf (tTest (tOp rEq (tCall (p_first_half K) [] E0 (tCons (tVar 2) tNil)) (tVar 1))) (tTup (tCons (tOp rMulW (tC (.int 2)) (tVar 8)) tNil)) (tTup (tCons (tVar 8) (tCons (tVar 8) tNil)))) (gName 7))
    (tSeq (tIfS (tAnd (tB (tVar 3)) (tTest (tOp rEq (tCall (p_half_behind K) [] E0 (tCons (tVar 1) (tCons (tVar 7) tNil))) (tC (.str "pulse"))))) (tRet (tTup (StX.tStar K (tVar 7) (tCons (tVar 8) tNil)))) tNext)
    (tRet (tVar 7))))))
theorem so_part_of (hp : r_po ds d) : So K S S [] (t_part_of K) (startD 9 ds) (Pu d) := by
  obtain ⟨T, o, bit, l, hT, rfl, rfl⟩ := hp
  cases T with
  | ha u b =>
    have hu := hT.1
    refine so_if (Φb := Eq false) (et_B (ev_is_pairs (ev_var rfl) hT)) (fun e => nomatch e) fun _ => so_skip ?_
    refine so_setD (d := .int u) (ev_ixT (ev_var rfl) ev_int (atI_nat (j := 1) rfl)) ?_
    refine so_setD (d := tI (haP u bit o).1) (ev_if (b := decide (fhS bit = o)) (et_test (ev_op (ev_first_half (ev_var rfl)) (ev_var rfl) rv_eqS))
      (fun e => (ev_tup (ea_cons (ev_op ev_int (ev_var rfl) (rv_mul (cmul (by decide) (by decide) (by have := hu.1; omega) (by have := hu.2; omega)))) ea_nil) (by show 1 ≤ sizeLine; decide)).to (by rw [haP, if_pos (of_decide_eq_true e)]; rfl))
      (fun e => (ev_tup (ea_cons (ev_var rfl) (ea_cons (ev_var rfl) ea_nil)) (by show 2 ≤ sizeLine; decide)).to (by rw [haP, if_neg (of_decide_eq_false e)]; rfl))) ?_
    refine so_ifD (k := l && decide ((haP u bit o).2 = "pulse")) (et_and (et_B (ev_var rfl)) fun _ => (et_test (ev_op (ev_half_behind (ev_var rfl) (ev_var rfl)) ev_str rv_eqS)).to (by rw [haP_hb])) (fun e => ?_) fun e => so_skip ?_
    · refine so_ret1D (ev_tup (ea_starT (ev_var rfl) (ea_cons (ev_var rfl) ea_nil)) (by rw [List.length_append, List.length_map]; exact Nat.le_trans (show _ ≤ 3 by have := @haP_len u bit o; simp only [List.length_cons, List.length_nil]; omega) (by decide))) (Sta.Le.refl _) ?_
      show tI (haS u bit o l).1 = _
      rw [haS, if_pos e]
      simp [tI]
    · refine so_retD (ev_var rfl) (Sta.Le.refl _) ?_
      show tI (haS u bit o l).1 = _
      rw [haS, if_neg (by rw [e]; decide)]
  | pa h z1 z2 o1 o2 s b =>
    refine so_if (Φb := Eq true) (et_B (ev_is_pairs (ev_var rfl) hT)) (fun _ => ?_) fun e => nomatch e
    refine so_assoc (so_unp (is := [4, 5, 6]) (xs := [tI [z1, z2], tI [o1, o2], .int s]) ((ev_slT (ev_var rfl) (eo_some ev_int) (eo_some ev_int)).to rfl) rfl rfl rfl ?_)
    refine so_assoc (so_setD (d := tI (if bit = 1 then [o1, o2] else [z1, z2])) (ev_if (b := decide (bit = 1)) (et_test (ev_op (ev_var rfl) ev_int rv_eqI)) (fun e => (ev_var (d := tI [o1, o2]) rfl).to (by rw [if_pos (of_decide_eq_true e)])) (fun e => (ev_var (d := tI [z1, z2]) rfl).to (by rw [if_neg (of_decide_eq_false e)]))) ?_)
    have hlen : ((if bit = 1 then [o1, o2] else [z1, z2]).map Dt.int).length = 2 := by split <;> rfl
    refine so_ret1D (ev_if (b := l) (et_B (ev_var rfl)) (fun e => (ev_tup (ea_starT (ev_var rfl) (ea_cons (ev_var rfl) ea_nil)) (by rw [List.length_append, hlen]; show 3 ≤ sizeLine; decide)).to (y := tI ((Tab.pa h z1 z2 o1 o2 s b).part o bit l)) ?_) (fun e => (ev_var (d := tI (if bit = 1 then [o1, o2] else [z1, z2])) rfl).to ?_)) (Sta.Le.refl _) rfl
    · show _ = tI ((if bit = 1 then [o1, o2] else [z1, z2]) ++ (if l = true then [s] else []))
      rw [if_pos e]
      simp [tI]
    · show _ = tI ((if bit = 1 then [o1, o2] else [z1, z2]) ++ (if l = true then [s] else []))
      rw [e]
      simp
section
variable {S1 : Sta} {ρ : List (Option Dt)} {ta tb tc td : TE} {T : Tab} {o : Str} {bit : Int} {l : Bool}
theorem ev_part_of (h : Ev K S S ρ ta (Eq T.d)) (hT : T.ok) (h2 : Ev K S S ρ tb (Eq (.str o))) (h3 : Ev K S S ρ tc (Eq (.int bit))) (h4 : Ev K S S ρ td (Eq (.bl l))) : Ev K S S ρ (tCall (p_part_of K) [] E0 (tCons ta (tCons tb (tCons tc (tCons td tNil))))) (Eq (tI (T.part o bit l))) := ev_callR (ea_cons h (ea_cons h2 (ea_cons h3 (ea_cons h4 ea_nil)))) rfl ⟨T, o, bit, l, hT, rfl, rfl⟩
end
/-! ### enumerate of a tuple while lists change -/
section
variable {SB : Sta} {L : List Addr} {ρ : List (Option Dt)} {P : Po} {tl : TE} {t : TS}
theorem so_forETX {j1 j2 : Nat} {xs : List Dt} (h : Ev K S S ρ tl (Eq (.tup xs))) (hx : nolA xs = true) (J : Nat → List (Option Dt) → Prop) (h0 : J 0 ρ)
    (hs : ∀ (S' : Sta), S'.Le S → (∀ S0 p, LooseP S S0 p → LooseP S' S0 p) → (S.Mu → S'.Mu) → ∀ (i : Nat) x ρ', xs[i]? = some x → J i ρ' → Sg K S' SB S' L t ((ρ'.set j1 (some (.int i))).set j2 (some x)) { P with nx := J (i + 1), ct := J (i + 1), bk := P.nx })
    (hd : ∀ ρ', J xs.length ρ' → P.nx ρ') : Sg K S SB S L (tFor (iEnumT K (tCons tl tNil)) (gTup K 2 (gCons (gName j1) (gCons (gName j2) gNil))) t) ρ P := fun D σ B H b i s f =>
  h σ H i s _ fun v d H1 g1 i1 r1 p1 => by
    subst p1
    obtain ⟨a, vs, rfl, ht, ra⟩ := r1.tupI
    have le : (staT K S a vs xs).Le S := fun _ z => z.1
    have lo : ∀ S0 p, LooseP S S0 p → LooseP (staT K S a vs xs) S0 p := fun S0 p l => fun iB g hp e z => ⟨l iB g hp e z.1, SqT.offP e z.2.1, z.2.2.off e hx⟩
    have mu : S.Mu → (staT K S a vs xs).Mu := fun m => fun i1 g hD z => ⟨m i1.1 g hD z.1, (gr_off g hD).sqT i1.2.1, i1.2.2.mono (gr_off g hD)⟩
    refine ⟨a, vs, rfl, ht, for_it walk_enumT (fun n σ' H' => Gr B H' ∧ (staT K S a vs xs).I H' ∧ ∃ ρ', Slots K H' σ' ρ' ∧ J n ρ') ⟨b.gr.trans g1, ⟨i1, ht, ra⟩, ρ, s.mono g1, h0⟩ (fun n σ' H' _ p => p.2.1.2.1) (fun n x σ' H' H2 hn p y => ?_) fun σ' H' p => ?_⟩
    · obtain ⟨g2, i2, ρ', s2, jn⟩ := p
      obtain ⟨T, x1, x2, rfl, hT, rfl, e1, e2⟩ := y
      cases e1
      obtain ⟨d, hd', rd⟩ := i2.2.2.ta e2
      have sn := same_new (o := .tup [.int (n : Nat), x2]) hT
      refine ⟨T, [.int (n : Nat), x2], rfl, SqT.of upd_same, rfl, names_run (is := [j1, j2]) (ds := [.int (n : Nat), d]) (s2.mono sn.gr) (.cons (.int _) (.cons (rd.mono sn.gr) .nil)) rfl fun σ5 s5 => ?_⟩
      have i3 := (staT K S a vs xs).st i2 sn
      refine hs _ le lo mu n d ρ' hd' jn _ _ B _ ⟨g2.trans sn.gr, b.i, b.new⟩ i3 s5 ⟨fun σ3 ρ3 H3 g3 i3 s3 q => ⟨g3, i3, ρ3, s3, q⟩, fun v3 d3 H3 g3 i3 => f.rt v3 d3 H3 g3 (le _ i3), fun σ3 ρ3 H3 g3 i3 s3 q => f.nx σ3 ρ3 H3 g3 (le _ i3) s3 q, fun σ3 ρ3 H3 g3 i3 s3 q => ⟨g3, i3, ρ3, s3, q⟩⟩
    · obtain ⟨g2, i2, ρ', s2, jn⟩ := p
      rw [ra.len] at jn
      exact f.nx σ' ρ' H' g2 i2.1 s2 (hd ρ' jn)
end
end
end Bf
namespace Bf
open PySem PySem.Spec PyProof.Rows L2
section
variable {K : PySem.W.Frag} {S : Sta} {ds xs : List Dt} {d : Dt}
/-! ### settled -/
section
variable {S1 S2 S3 S4 : Sta} {ρ : List (Option Dt)} {ta tb tc td : TE}
theorem ev_siteK {s : Site} (h : Ev K S S1 ρ ta (Eq s.d)) : Ev K S S1 ρ (tOp (rIx K) ta (tC (.int 0))) (Eq (.int s.k)) := ev_ixT h ev_int rfl
theorem ev_siteR {s : Site} (h : Ev K S S1 ρ ta (Eq s.d)) : Ev K S S1 ρ (tOp (rIx K) ta (tC (.int 1))) (Eq (tI s.rest)) := ev_ixT h ev_int rfl
theorem ev_siteO {s : Site} (h : Ev K S S1 ρ ta (Eq s.d)) : Ev K S S1 ρ (tOp (rIx K) ta (tC (.int 2))) (Eq (.str s.o)) := ev_ixT h ev_int rfl
end
def r_se (ds : List Dt) (d : Dt) : Prop := ∃ (T : Tab) (s : Site) (bit : Int), T.ok ∧ T.oOk s.o ∧ ds = [T.d, s.d, .int bit] ∧ d = (T.sett s bit).d
abbrev p_settled (K : PySem.W.Frag) : Sp := spR K 3 r_se
abbrev t_settled (K : PySem.W.Frag) : TS := (tSeq (tAsg (tVar 1) (gTup K 3 (gCons (gName 3) (gCons (gName 4) (gCons (gName 5) gNil)))))
    (tSeq (tAsg (tOp rEq (tOp rAddI (tVar 3) (tC (.int 1))) (tCall (p_bits_of K) [] E0 (tCons (tVar 0) tNil))) (gName 6))
    (tSeq (tAsg (tCall (p_part_of K) [] E0 (tCons (tVar 0) (tCons (tVar 5) (tCons (tVar 2) (tCons (tVar 6) tNil))))) (gName 7))
    (tSeq (tIfS (tTest (tOp rNe (tVar 5) (tC (.str "")))) (tAsg (tIf (tB (tVar 6)) (tC (.str "gap")) (tCall (p_half_behind K) [] E0 (tCons (tVar 5) (tCons (tVar 7) tNil)))) (gName 5)) tNext)
    (tRet (tTup (tCons (tOp rAddI (tVar 3) (tC (.int 1))) (tCons (tVar 7) (tCons (tVar 5) tNil)))))))))
theorem haS_last {u bit : Int} {o : Str} (h : o = "pulse" ∨ o = "gap") : (haS u bit o true).2 = "gap" := by
  have h2 : (haP u bit o).2 = "pulse" ∨ (haP u bit o).2 = "gap" := by
    unfold haP
    split
    · exact ohS_pg h
    · exact h
  unfold haS
  rcases h2 with e | e
  · rw [if_pos (by rw [e]; decide)]
  · rw [if_neg (by rw [e]; decide), e]
theorem so_settled (hp : r_se ds d) : So K S S [] (t_settled K) (startD 8 ds) (Pu d) := by
  obtain ⟨T, ⟨k, rest, o⟩, bit, hT, ho, rfl, rfl⟩ := hp
  refine so_unp (is := [3, 4, 5]) (xs := [.int k, tI rest, .str o]) (ev_var rfl) rfl rfl rfl ?_
  refine so_setD (ev_op (ev_op (ev_var rfl) ev_int rv_add) (ev_bits_of (ev_var rfl) hT) rv_eqI) ?_
  refine so_setD (ev_part_of (ev_var rfl) hT (ev_var rfl) (ev_var rfl) (ev_var rfl)) ?_
  have ret : ∀ o' : Str, (T.sett ⟨k, rest, o⟩ bit).o = o' → So K S S [] (tRet (tTup (tCons (tOp rAddI (tVar 3) (tC (.int 1))) (tCons (tVar 7) (tCons (tVar 5) tNil)))))
      [some T.d, some (Site.mk k rest o).d, some (.int bit), some (.int k), some (tI rest), some (.str o'), some (.bl (decide (k + 1 = T.b))), some (tI (T.part o bit (decide (k + 1 = T.b))))] (Pu (T.sett ⟨k, rest, o⟩ bit).d) := fun o' e => by
    refine so_retD (ev_tup (ea_cons (ev_op (ev_var rfl) ev_int rv_add) (ea_cons (ev_var rfl) (ea_cons (ev_var rfl) ea_nil))) (by show 3 ≤ sizeLine; decide)) (Sta.Le.refl _) ?_
    subst e
    cases T <;> rfl
  cases T with
  | ha u b =>
    have hne : ¬ o = "" := by rcases ho with rfl | rfl <;> decide
    refine so_ifT ((et_test (ev_op (ev_var rfl) ev_str rv_neS)).to (by rw [decide_eq_false hne]; rfl)) ?_
    refine so_setD (d := .str ((Tab.ha u b).sett ⟨k, rest, o⟩ bit).o) (ev_if (b := decide (k + 1 = (Tab.ha u b).b)) (et_B (ev_var rfl)) (fun e => ev_str.to ?_) (fun e => (ev_half_behind (ev_var rfl) (ev_var rfl)).to ?_)) (ret _ rfl)
    · show _ = Dt.str (haS u bit o (decide (k + 1 = b))).2
      rw [show decide (k + 1 = b) = true from e, haS_last ho]
    · show _ = Dt.str (haS u bit o (decide (k + 1 = b))).2
      rw [show decide (k + 1 = b) = false from e]
      show Dt.str (if ((Tab.ha u b).part o bit (decide (k + 1 = b))).length = 2 then o else ohS o) = _
      rw [show decide (k + 1 = b) = false from e]
      exact congrArg Dt.str haP_hb
  | pa h z1 z2 o1 o2 st b =>
    obtain rfl : o = "" := ho
    exact so_ifF ((et_test (ev_op (ev_var rfl) ev_str rv_neS)).to rfl) (so_skip (ret _ rfl))
/-! ### a step -/
def r_st (ds : List Dt) (d : Dt) : Prop := ∃ (x : Dt) (s : Site), s.rest ≠ [] ∧ ds = [x, s.d] ∧ d = stD x s
abbrev p_step_from (K : PySem.W.Frag) : Sp := spR K 2 r_st
abbrev t_step_from (K : PySem.W.Frag) : TS := (tSeq (tAsg (tVar 1) (gTup K 3 (gCons (gName 2) (gCons (gName 3) (gCons (gName 4) gNil)))))
    (tRet (tTup (tCons (tVar 0) (tCons (tOp (rIx K) (tVar 3) (tC (.int 0))) (tCons (tTup (tCons (tVar 2) (tCons (tSl (rSlA K) (tVar 3) (tPart (tC (.int 1))) tNoPart) (tCons (tVar 4) tNil)))) tNil))))))
theorem so_step_from (hp : r_st ds d) : So K S S [] (t_step_from K) (startD 5 ds) (Pu d) := by
  obtain ⟨x, ⟨k, rest, o⟩, hr, rfl, rfl⟩ := hp
  cases rest with
  | nil => exact absurd rfl hr
  | cons r rs =>
    refine so_unp (is := [2, 3, 4]) (xs := [.int k, tI (r :: rs), .str o]) (ev_var rfl) rfl rfl rfl ?_
    refine so_retD (ev_tup (ea_cons (ev_var rfl) (ea_cons (ev_ixT (ev_var rfl) ev_int (atI_nat (j := 0) rfl)) (ea_cons (ev_tup (ea_cons (ev_var rfl) (ea_cons ((ev_slT (xs := (r :: rs).map Dt.int) (ev_var rfl) (eo_some ev_int) eo_none).to (y := tI rs) ?_) (ea_cons (ev_var rfl) ea_nil))) (by show 3 ≤ sizeLine; decide)) ea_nil))) (by show 3 ≤ sizeLine; decide)) (Sta.Le.refl _) rfl
    show Dt.tup (cutD (.int r :: rs.map Dt.int) (some 1) none) = tI rs
    rw [cutD_tail]
    rfl
/-! ### begin_of, is_end, steps_of, frame_of -/
def r_be (ds : List Dt) (d : Dt) : Prop := ∃ T : Tab, T.ok ∧ ds = [T.d] ∧ d = T.beg.d
abbrev p_begin_of (K : PySem.W.Frag) : Sp := spR K 1 r_be
abbrev t_begin_of (K : PySem.W.Frag) : TS := (tSeq (tDrop (tCall (p_need_table K) [] E0 (tCons (tVar 0) tNil)))
    (tSeq (tIfS (tB (tCall (p_is_pairs K) [] E0 (tCons (tVar 0) tNil))) (tRet (tTup (tCons (tC (.int 0)) (tCons (tOp (rIx K) (tVar 0) (tC (.int 1))) (tCons (tC (.str "")) tNil))))) tNext)
    (tRet (tTup (tCons (tC (.int 0)) (tCons (tTup (tCons (tOp (rIx K) (tVar 0) (tC (.int 1))) tNil)) (tCons (tC (.str "gap")) tNil)))))))
theorem so_begin_of (hp : r_be ds d) : So K S S [] (t_begin_of K) (startD 1 ds) (Pu d) := by
  obtain ⟨T, hT, rfl, rfl⟩ := hp
  refine so_drop (ev_need_table (ev_var rfl) hT) ?_
  cases T with
  | ha u b => exact so_if (Φb := Eq false) (et_B (ev_is_pairs (ev_var rfl) hT)) (fun e => nomatch e) fun _ => so_skip (so_retD (ev_tup (ea_cons ev_int (ea_cons (ev_tup (ea_cons (ev_ixT (ev_var rfl) ev_int (atI_nat (j := 1) rfl)) ea_nil) (by show 1 ≤ sizeLine; decide)) (ea_cons ev_str ea_nil))) (by show 3 ≤ sizeLine; decide)) (Sta.Le.refl _) rfl)
  | pa h z1 z2 o1 o2 s b => exact so_if (Φb := Eq true) (et_B (ev_is_pairs (ev_var rfl) hT)) (fun _ => so_ret1D (ev_tup (ea_cons ev_int (ea_cons (ev_ixT (ev_var rfl) ev_int (atI_nat (j := 1) rfl)) (ea_cons ev_str ea_nil))) (by show 3 ≤ sizeLine; decide)) (Sta.Le.refl _) rfl) fun e => nomatch e
theorem eqv_nil (ns : List Int) : PyData.eqv (py (tI ns)) (py (.tup [])) = decide (ns = []) := by
  cases ns with
  | nil => rfl
  | cons n ns => simp [tI, py, pyA, PyData.eqv, PyData.eqvAll]
theorem cmp_tI (ns : List Int) : cmpOk (tI ns) = true := by
  have h : ∀ ns : List Int, purA (ns.map Dt.int) = true ∧ PyData.canLayAll0 (pyA (ns.map Dt.int)) = true ∧ PyData.depthAll (pyA (ns.map Dt.int)) = 0 := fun ns => by
    induction ns with
    | nil => exact ⟨rfl, rfl, rfl⟩
    | cons n ns ih => simp [purA, pur, pyA, py, PyData.canLayAll0, PyData.canLay0, PyData.depthAll, PyData.depth, ih]
  obtain ⟨h1, h2, h3⟩ := h ns
  simp [cmpOk, tI, pur, py, SeqAt.shaped, PyData.canLay0, PyData.depth, h1, h2, h3]
def endB (T : Tab) (s : Site) : Bool := decide (s.k = T.b) && decide (s.rest = [])
def r_ie (ds : List Dt) (d : Dt) : Prop := ∃ (T : Tab) (s : Site), T.ok ∧ ds = [T.d, s.d] ∧ d = .bl (endB T s)
abbrev p_is_end (K : PySem.W.Frag) : Sp := spR K 2 r_ie
abbrev t_is_end (K : PySem.W.Frag) : TS := (tSeq (tDrop (tCall (p_need_table K) [] E0 (tCons (tVar 0) tNil)))
    (tSeq (tAsg (tVar 1) (gTup K 3 (gCons (gName 2) (gCons (gName 3) (gCons (gName 4) gNil)))))
    (tRet (tAndV (tOp rEq (tVar 2) (tCall (p_bits_of K) [] E0 (tCons (tVar 0) tNil))) (tOp (rEqD K) (tVar 3) (tTup tNil))))))
theorem so_is_end (hp : r_ie ds d) : So K S S [] (t_is_end K) (startD 5 ds) (Pu d) := by
  obtain ⟨T, s, hT, rfl, rfl⟩ := hp
  refine so_drop (ev_need_table (ev_var rfl) hT) ?_
  refine so_unp (is := [2, 3, 4]) (xs := [.int s.k, tI s.rest, .str s.o]) (ev_var rfl) rfl rfl rfl ?_
  exact so_retD (ev_and (b := decide (s.rest = [])) (ev_op (ev_var rfl) (ev_bits_of (ev_var rfl) hT) rv_eqI) fun _ => (ev_op (ev_var rfl) (ev_tup ea_nil (by decide)) (rv_eqD (cmp_tI _) (cmp_tI []))).to (congrArg Dt.bl (eqv_nil _))) (Sta.Le.refl _) rfl
def r_ss (ds : List Dt) (xs : List Dt) : Prop := ∃ (T : Tab) (s : Site), T.ok ∧ T.oOk s.o ∧ ds = [T.d, s.d] ∧ xs = T.steps s
abbrev p_steps_of (K : PySem.W.Frag) : Sp := spM K 2 r_ss
abbrev t_steps_of (K : PySem.W.Frag) : TS := (tSeq (tIfS (tB (tCall (p_is_end K) [] E0 (tCons (tVar 0) (tCons (tVar 1) tNil)))) (tRet (tLst tNil)) tNext)
    (tSeq (tIfS (tTest (tOp (rNeD K) (tOp (rIx K) (tVar 1) (tC (.int 1))) (tTup tNil))) (tRet (tLst (tCons (tCall (p_step_from K) [] E0 (tCons (tC .non) (tCons (tVar 1) tNil))) tNil))) tNext)
    (tRet (tLc (iTup K (tTup (tCons (tC (.int 0)) (tCons (tC (.int 1)) tNil)))) (gName 2) tYes (tCall (p_step_from K) [] E0 (tCons (tVar 2) (tCons (tCall (p_settled K) [] E0 (tCons (tVar 0) (tCons (tVar 1) (tCons (tVar 2) tNil)))) tNil))) [2]))))
section
variable {S1 S2 : Sta} {ρ : List (Option Dt)} {ta tb tc : TE}
theorem ev_is_end {T : Tab} {s : Site} (h : Ev K S S1 ρ ta (Eq T.d)) (hT : T.ok) (h2 : Ev K S1 S2 ρ tb (Eq s.d)) : Ev K S S2 ρ (tCall (p_is_end K) [] E0 (tCons ta (tCons tb tNil))) (Eq (.bl (endB T s))) := ev_callR (ea_cons h (ea_cons h2 ea_nil)) rfl ⟨T, s, hT, rfl, rfl⟩
theorem ev_step {s : Site} {x : Dt} (h : Ev K S S1 ρ ta (Eq x)) (h2 : Ev K S1 S2 ρ tb (Eq s.d)) (hr : s.rest ≠ []) : Ev K S S2 ρ (tCall (p_step_from K) [] E0 (tCons ta (tCons tb tNil))) (Eq (stD x s)) := ev_callR (ea_cons h (ea_cons h2 ea_nil)) rfl ⟨x, s, hr, rfl, rfl⟩
theorem ev_settled {T : Tab} {s : Site} {bit : Int} (h : Ev K S S ρ ta (Eq T.d)) (hT : T.ok) (ho : T.oOk s.o) (h2 : Ev K S S ρ tb (Eq s.d)) (h3 : Ev K S S ρ tc (Eq (.int bit))) : Ev K S S ρ (tCall (p_settled K) [] E0 (tCons ta (tCons tb (tCons tc tNil)))) (Eq (T.sett s bit).d) := ev_callR (ea_cons h (ea_cons h2 (ea_cons h3 ea_nil))) rfl ⟨T, s, bit, hT, ho, rfl, rfl⟩
end
theorem sett_ne (T : Tab) (s : Site) (bit : Int) : (T.sett s bit).rest ≠ [] := by
  cases T with
  | ha u b =>
    simp only [Tab.sett, haS, haP]
    repeat' split
    all_goals simp
  | pa h z1 z2 o1 o2 st b =>
    simp only [Tab.sett]
    split <;> simp
theorem nol_st {x : Dt} (s : Site) (h : nol x = true) : nol (stD x s) = true := by simp [stD, nol, nolA, h, nol_site]
theorem so_steps_of {H0 : Hp} (hp : r_ss ds xs) : So K (staSame H0) (staSame H0) [] (t_steps_of K) (startD 3 ds) { rt := fun d => ∃ p, d = .lat p xs ∧ H0 p = none } := by
  obtain ⟨T, s, hT, ho, rfl, rfl⟩ := hp
  refine so_if (Φb := Eq (endB T s)) (et_B (ev_is_end (ev_var rfl) hT (ev_var rfl))) (fun e => ?_) fun e => so_skip ?_
  · refine so_retN1 (en_lst ea_nil (by decide)) (Sta.Le.refl _) fun p hp => ⟨p, ?_, hp⟩
    rw [Tab.steps, if_pos (show (decide (s.k = T.b) && decide (s.rest = [])) = true from e)]
  · refine so_if (Φb := Eq (!decide (s.rest = []))) ((et_test (ev_op (ev_siteR (s := s) (ev_var rfl)) (ev_tup ea_nil (by decide)) (rv_neD (cmp_tI _) (cmp_tI [])))).to (by rw [show (Dt.tup []) = tI [] from rfl, show PyData.eqv (py (tI s.rest)) (py (tI [])) = _ from eqv_nil _])) (fun e2 => ?_) fun e2 => so_skip ?_
    · have hr : s.rest ≠ [] := by simpa using e2
      refine so_retN1 (en_lst (ea_cons (ev_step ev_non (ev_var rfl) hr) ea_nil) (by show 1 ≤ sizeLine; decide)) (Sta.Le.refl _) fun p hp => ⟨p, ?_, hp⟩
      have e' : ¬ ((decide (s.k = T.b) && decide (s.rest = [])) = true) := by rw [show (decide (s.k = T.b) && decide (s.rest = [])) = endB T s from rfl, e]; decide
      rw [Tab.steps, if_neg e', if_pos hr]
    · have hr : s.rest = [] := by simpa using e2
      refine so_retN0 (en_lcT (xs := [.int 0, .int 1]) (f := fun x => match x with | .int i => stD (.int i) (T.sett s i) | _ => .non) staSame_mu (ev_tup (ea_cons ev_int (ea_cons ev_int ea_nil)) (by show 2 ≤ sizeLine; decide)) (by decide) (by show 2 ≤ 100000; decide) (fun x hx => ?_) (fun x hx => ?_)) (Sta.Le.refl _) fun p hp => ⟨p, ?_, hp⟩
      · simp only [List.mem_cons, List.not_mem_nil, or_false] at hx
        rcases hx with rfl | rfl <;> exact ev_step (ev_var rfl) (ev_settled (ev_var rfl) hT ho (ev_var rfl) (ev_var rfl)) (sett_ne _ _ _)
      · simp only [List.mem_cons, List.not_mem_nil, or_false] at hx
        rcases hx with rfl | rfl <;> exact nol_st _ rfl
      · have e' : ¬ ((decide (s.k = T.b) && decide (s.rest = [])) = true) := by rw [show (decide (s.k = T.b) && decide (s.rest = [])) = endB T s from rfl, e]; decide
        rw [Tab.steps, if_neg e', if_neg (fun z => z hr)]
        rfl
def r_fo (ds : List Dt) (d : Dt) : Prop := ∃ (T : Tab) (w : List Int), T.ok ∧ isBits T.b.toNat w ∧ ds = [T.d, tI w] ∧ d = tI (T.frame w)
abbrev p_frame_of (K : PySem.W.Frag) : Sp := spR K 2 r_fo
abbrev t_frameT (K : PySem.W.Frag) : TS := (tSeq (tAsg (tCB (rLstO K) (tCons (tOp (rIx K) (tCall (p_begin_of K) [] E0 (tCons (tVar 0) tNil)) (tC (.int 1))) tNil)) (gName 2))
    (tSeq (tFor (iEnumT K (tCons (tVar 1) tNil)) (gTup K 2 (gCons (gName 3) (gCons (gName 4) gNil))) (tDrop (tBM K "list" (rExtendT K) (tVar 2) (tCons (tCall (p_part_of K) [] E0 (tCons (tVar 0) (tCons (tCall (p_under_way_at K) [] E0 (tCons (tVar 0) (tCons (tCB (rLen K) (tCons (tVar 2) tNil)) tNil))) (tCons (tVar 4) (tCons (tOp rEq (tOp rAddI (tVar 3) (tC (.int 1))) (tCB (rLen K) (tCons (tVar 1) tNil))) tNil))))) tNil))))
    (tRet (tCB (rTupO K) (tCons (tVar 2) tNil)))))
abbrev t_frame_of (K : PySem.W.Frag) : TS := (tSeq (tIfS (tNot (tB (tCall (p_is_word K) [] E0 (tCons (tVar 0) (tCons (tVar 1) tNil))))) tNever tNext) (t_frameT K))
/-- bit by bit -/
theorem so_frameT {T : Tab} {w : List Int} {P : Po} (hmu : S.Mu) (hT : T.ok) (hw : isBits T.b.toNat w) (hP : P.rt (tI (T.frame w))) : So K S S [] (t_frameT K) [some T.d, some (tI w), none, none, none] P := by
  have hb := Tab.b1 hT
  have hwl : (w.length : Int) = T.b := by rw [hw.1]; exact Int.toNat_of_nonneg (by omega)
  have hbeg : T.beg.rest.length ≤ 4 := by
    cases T with
    | ha => exact (by decide : 1 ≤ 4)
    | pa h => exact (by have := hT.1; show h.length ≤ 4; omega)
  have hbegO : T.beg.rest.length % 2 = (T.beg.rest.length) % 2 := rfl
  have huw : T.beg.o = T.uw T.beg.rest.length := by cases T <;> rfl
  refine so_newF (xs := T.beg.rest.map Dt.int) (en_listT (ev_siteR (s := T.beg) (ev_callR (R := r_be) (ea_cons (ev_var rfl) ea_nil) rfl ⟨T, hT, rfl, rfl⟩))) (Sta.Le.refl _) fun p _ => ?_
  refine so_seqG (S1 := S) (M := fun ρ' => ∃ x y : Option Dt, ρ' = [some T.d, some (tI w), some (.lat p ((T.frame w).map Dt.int)), x, y]) (Sta.Le.refl _)
    (so_forETX (xs := w.map Dt.int) (ev_var rfl) (nolA_ints w) (fun i ρ' => ∃ (acc : List Int) (x y : Option Dt), (∀ d, x = some d → nol d = true) ∧ (∀ d, y = some d → nol d = true) ∧ acc.length ≤ 4 + 3 * i ∧ acc ++ T.ahead ⟨i, [], T.uw acc.length⟩ (w.drop i) = T.frame w ∧ ρ' = [some T.d, some (tI w), some (.lat p (acc.map Dt.int)), x, y])
      ⟨T.beg.rest, none, none, (fun _ e => nomatch e), (fun _ e => nomatch e), by omega, ?_, rfl⟩ (fun S' le lo mu i x ρ' hx hJ => ?_) (fun ρ' hJ => ?_)) fun ρ' hM => ?_
  · have := ahead_app T 0 T.beg.rest [] T.beg.o w
    rw [List.append_nil] at this
    rw [← huw]
    exact (this.symm.trans (by cases T <;> rfl))
  · obtain ⟨acc, y3, y4, h3, h4, hal, hac, rfl⟩ := hJ
    obtain ⟨bit, hbit, rfl⟩ : ∃ bit, w[i]? = some bit ∧ x = .int bit := by
      rw [List.getElem?_map] at hx
      cases e : w[i]? with
      | none => rw [e] at hx; simp at hx
      | some bit => rw [e] at hx; exact ⟨bit, rfl, by simpa using hx.symm⟩
    have hlt : i < w.length := (List.getElem?_eq_some_iff.mp hbit).1
    have hdrop : w.drop i = bit :: w.drop (i + 1) := by
      rw [List.drop_eq_getElem_cons hlt]
      congr 1
      exact (List.getElem?_eq_some_iff.mp hbit).2
    let s : Site := ⟨i, [], T.uw acc.length⟩
    let l : Bool := decide (s.k + 1 = T.b)
    have hpl := @part_len T (T.uw acc.length) bit l
    refine sg_last (so_extT (Φ := fun _ => True) (ys := (T.part (T.uw acc.length) bit l).map Dt.int) List.mem_cons_self (lo _ _ (mu_looseP hmu)) rfl (nolA_ints _) (Offs.mk ?_)
      (ev_part_of (ev_var rfl) hT (ev_under_way_at (n := acc.length) (ev_var rfl) hT ((ev_lenL (ev_lat (ev_var rfl))).to (by rw [List.length_map]))) (ev_var rfl) ((ev_op (ev_op (ev_var rfl) ev_int rv_add) (ev_lenT (xs := w.map Dt.int) (ev_var rfl)) rv_eqI).to (by
        rw [List.length_map, hwl]))) (nolA_ints _) ?_ (so_next (Sta.Le.refl _) ⟨acc ++ T.part (T.uw acc.length) bit l, some (.int i), some (.int bit), (fun _ e => by cases e; rfl), (fun _ e => by cases e; rfl), ?_, ?_, ?_⟩))
    · show offL p 2 0 [some T.d, some (tI w), some (.lat p (acc.map Dt.int)), some (.int i), some (.int bit)]
      simp only [offL]
      exact ⟨fun _ d e => by cases e; exact off_tab, fun _ d e => by cases e; exact off_tI, fun e => absurd rfl e, fun _ d e => by cases e; rfl, fun _ d e => by cases e; rfl, trivial⟩
    · simp only [List.length_map]
      omega
    · rw [List.length_append]; omega
    · rw [← hac, hdrop, ahead_cons]
      show _ = acc ++ ([] ++ T.ahead (T.sett s bit) (w.drop (i + 1)))
      have e1 : T.sett s bit = ⟨s.k + 1, T.part (T.uw acc.length) bit l ++ [], (T.sett s bit).o⟩ := by
        rw [List.append_nil]
        cases T <;> rfl
      rw [e1, ahead_app, List.nil_append, List.append_assoc, List.length_append]
      congr 2
      by_cases hl : s.k + 1 = T.b
      · have hnil : w.drop (i + 1) = [] := List.drop_eq_nil_of_le (by show w.length ≤ i + 1; have : ((i : Nat) : Int) + 1 = T.b := hl; omega)
        rw [hnil]
        rfl
      · have hlf : l = false := decide_eq_false hl
        rw [uw_next T acc.length bit s rfl hl, hlf]
        rfl
    · rw [List.map_append]
      rfl
  · obtain ⟨acc, y3, y4, _, _, _, hac, rfl⟩ := hJ
    rw [List.length_map, List.drop_length] at hac
    have : acc = T.frame w := by
      rw [← hac]
      show acc = acc ++ []
      rw [List.append_nil]
    exact ⟨y3, y4, by rw [this]⟩
  · obtain ⟨x, y, rfl⟩ := hM
    exact so_retD (ev_cb (ea_cons (ev_lat (ev_var rfl)) ea_nil) rc_tupL) (Sta.Le.refl _) hP
theorem so_frame_of (hmu : S.Mu) (hp : r_fo ds d) : So K S S [] (t_frame_of K) (startD 5 ds) (Pu d) := by
  obtain ⟨T, w, hT, hw, rfl, rfl⟩ := hp
  have hb := Tab.b1 hT
  have hwl : (w.length : Int) = T.b := by rw [hw.1]; exact Int.toNat_of_nonneg (by omega)
  have hws : plS (tI w) = true := plS_tI (by omega)
  refine so_ifF ((et_not (et_B (ev_is_word (ev_var rfl) hT (ev_var rfl) hws))).to (by rw [isWd_word (by omega) hw]; rfl)) (so_skip ?_)
  exact so_frameT hmu hT hw rfl
end
end Bf
namespace Bf
open PySem PySem.Spec PyProof.Rows L2
/-! ## The law's frames: two lists, one made anew, one changed -/
section
variable {K : PySem.W.Frag} {S S1 S2 SB SF : Sta} {L : List Addr} {ρ : List (Option Dt)} {P : Po} {ta tb te : TE} {w t : TS} {xs ys : List Dt} {p q : Addr} {j : Nat}
theorem en_catL (ha : Ev K S S1 ρ ta (Eq (.lst xs))) (hb : Ev K S1 S2 ρ tb (Eq (.lst ys))) (hz : xs.length + ys.length ≤ sizeLine) : EvN K S S2 ρ (tOp (rCatS K) ta tb) (xs ++ ys) := fun σ H i s Q q =>
  ha σ H i s _ fun v d H1 g1 i1 r1 e1 => by
    subst e1
    exact hb σ H1 i1 (s.mono g1) _ fun u d2 H2 g2 i2 r2 e2 => by
      subst e2
      obtain ⟨a, vs, rfl, h1, ra⟩ := (r1.mono g2).lstI
      obtain ⟨b, us, rfl, h2, rb⟩ := r2.lstI
      exact ⟨a, b, vs, us, rfl, rfl, h1, h2, by rw [ra.len, rb.len]; exact hz, fun p hp => q p _ H2 _ (g1.trans g2) i2 hp (same_new hp).gr (S2.st i2 (same_new hp)) upd_same ((ra.app rb).mono (same_new hp).gr)⟩
/-- x = a new list, the loose ones stay loose -/
theorem so_newK0 {i : Nat} (h : EvN K S S1 ρ te xs) (l : S1.Le SF) (k : ∀ q, (∀ (i : Nat) (p' : Addr) (zs : List Dt), ρ[i]? = some (some (Dt.lat p' zs)) → p' ≠ q) → P.nx (ρ.set i (some (.lat q xs)))) : Sg K S SB SF L (tAsg te (gName i)) ρ P := fun D σ B H b i s f =>
  h σ H i s _ fun p vs H1 H2 g1 i1 hp g2 i2 e r => f.nx _ _ H2 (b.gr.trans (g1.trans g2)) (l _ i2) ((s.mono (g1.trans g2)).set (.lat e r) _) (k p fun i p' zs e2 e3 => by
      obtain ⟨v, _, rv⟩ := (s.mono g1).val i _ e2
      obtain ⟨_, vs', hp', _⟩ := rv.latI
      rw [e3, hp] at hp'
      cases hp')
/-- x, y = [], [a, b] -/
theorem so_par01 {i j : Nat} {x y : Int} (l : S.Le SF) (k : ∀ p q, p ≠ q → So K S SF [p] w ((ρ.set i (some (.lat p []))).set j (some (.lat q [.int x, .int y]))) P) :
    Sg K S SB SF L (tSeq (tPar i j (tCons (tLst tNil) (tCons (tLst (tCons (tC (.int x)) (tCons (tC (.int y)) tNil))) tNil))) w) ρ P := fun D σ B H b hi s f =>
  ⟨Nat.zero_le _, fun p hp => ⟨by show 2 ≤ sizeLine; decide, fun q hq => by
    have sp := same_new (o := .lst []) hp
    have sq := same_new (o := .lst [.int x, .int y]) hq
    have hpq : p ≠ q := fun e => by
      subst e
      rw [upd_same] at hq
      cases hq
    have s1 := ((s.mono sp.gr).set (v := .ref p) (d := .lat p []) (.lat upd_same .nil) i).mono sq.gr
    have s2 := s1.set (v := .ref q) (d := .lat q [.int x, .int y]) (.lat upd_same (.cons (.int x) (.cons (.int y) .nil))) j
    exact ⟨.ref p, .ref q, rfl, k p q hpq D _ H _ ⟨sp.gr.trans sq.gr, l _ hi, fun a ha => by rw [List.mem_singleton.mp ha]; exact hp⟩ (S.st (S.st hi sp) sq) s2 (f.mono b.gr)⟩⟩⟩
/-- xs[-1] = e -/
theorem so_setL {n m : Int} (hL : p ∈ L) (hlo : LooseP S SB p) (hj : ρ[j]? = some (some (.lat p (xs ++ [.int n])))) (hx : nolA xs = true) (hn : Offs p ρ j) (h : Ev K S S ρ te (Eq (.int m)))
    (k : Sg K S SB SF L w (ρ.set j (some (.lat p (xs ++ [.int m])))) P) : Sg K S SB SF L (tSeq (tAsg te (gSub (tVar j) (tUn (rU fun i => .int (-i)) (tC (.int 1))) rSetL)) w) ρ P := fun D σ B H b i s f =>
  h σ H i s _ fun u d' H1 g1 i1 r1 e => by
    subst e
    obtain rfl := r1.intI
    obtain ⟨v, hv, rv⟩ := (s.mono g1).val j _ hj
    obtain ⟨rfl, vs, hp1, ra1⟩ := rv.latI
    have hl : vs.length = xs.length + 1 := by rw [ra1.len, List.length_append]; rfl
    refine ⟨.ref p, hv, 1, rfl, p, vs, -1, xs.length, rfl, rfl, hp1, ?_, ?_⟩
    · unfold ixN
      rw [if_neg (by decide), if_pos (by omega)]
      congr 1
      omega
    · have hnol : nolA (xs ++ [.int n]) = true := by rw [nolA_app, hx]; rfl
      have := (ra1.off (o := .lst (vs.set xs.length (.int m))) hp1 hnol).setI (i := xs.length) (Rep.int m)
      rw [set_last] at this
      exact sg_put (w := w) (D := D) hL hlo hj hn (b.up g1) i1 (s.mono g1) f hp1 this k
def staQ (K : PySem.W.Frag) (S : Sta) (q : Addr) (vs : List V) (xs : List Dt) : Sta := ⟨fun H => S.I H ∧ H q = some (.lst vs) ∧ RepA K H vs xs, fun h s => ⟨S.st h.1 s, s _ _ h.2.1, h.2.2.mono s.gr⟩⟩
/-- for j1, j2 in enumerate(a list of ours), another one may be changed -/
theorem so_forEX {k j1 j2 : Nat} (hq : ρ[k]? = some (some (.lat q xs))) (hx : nolA xs = true) (J : Nat → List (Option Dt) → Prop) (h0 : J 0 ρ)
    (hs : ∀ (S' : Sta), S'.Le S → (∀ S0 p, p ≠ q → LooseP S S0 p → LooseP S' S0 p) → ∀ i x ρ', xs[i]? = some x → J i ρ' → Sg K S' SB S' L t ((ρ'.set j1 (some (.int i))).set j2 (some x)) { P with nx := J (i + 1), ct := J (i + 1), bk := P.nx })
    (hd : ∀ ρ', J xs.length ρ' → P.nx ρ') : Sg K S SB S L (tFor (iEnum K (tCons (tVar k) tNil)) (gTup K 2 (gCons (gName j1) (gCons (gName j2) gNil))) t) ρ P := fun D σ B H b i s f => by
  obtain ⟨v, hv, rv⟩ := s.val k _ hq
  obtain ⟨rfl, vs, hp, ra⟩ := rv.latI
  have le : (staQ K S q vs xs).Le S := fun _ z => z.1
  have lo : ∀ S0 p, p ≠ q → LooseP S S0 p → LooseP (staQ K S q vs xs) S0 p := fun S0 p hne l => fun iB g hp e z => ⟨l iB g hp e z.1, by rw [upd_ne (Ne.symm hne)]; exact z.2.1, z.2.2.off e hx⟩
  refine ⟨.ref q, hv, q, vs, rfl, SqL.of hp, for_it walk_enum (fun n σ' H' => Gr B H' ∧ (staQ K S q vs xs).I H' ∧ ∃ ρ', Slots K H' σ' ρ' ∧ J n ρ') ⟨b.gr, ⟨i, hp, ra⟩, ρ, s, h0⟩ (fun n σ' H' _ p => SqL.of p.2.1.2.1) (fun n x σ' H' H2 hn p y => ?_) fun σ' H' p => ?_⟩
  · obtain ⟨g2, i2, ρ', s2, jn⟩ := p
    obtain ⟨T, x1, x2, rfl, hT, rfl, e1, e2⟩ := y
    cases e1
    obtain ⟨d, hd', rd⟩ := i2.2.2.ta e2
    have sn := same_new (o := .tup [.int (n : Nat), x2]) hT
    refine ⟨T, [.int (n : Nat), x2], rfl, SqT.of upd_same, rfl, names_run (is := [j1, j2]) (ds := [.int (n : Nat), d]) (s2.mono sn.gr) (.cons (.int _) (.cons (rd.mono sn.gr) .nil)) rfl fun σ5 s5 => ?_⟩
    have g3 := g2.trans sn.gr
    exact hs _ le lo n d ρ' hd' jn _ _ B _ ⟨g3, b.i, b.new⟩ ((staQ K S q vs xs).st i2 sn) s5 ⟨fun σ3 ρ3 H3 g4 i3 s3 q => ⟨g4, i3, ρ3, s3, q⟩, fun v3 d3 H3 g4 i3 => f.rt v3 d3 H3 g4 (le _ i3), fun σ3 ρ3 H3 g4 i3 s3 q => f.nx σ3 ρ3 H3 g4 (le _ i3) s3 q, fun σ3 ρ3 H3 g4 i3 s3 q => ⟨g4, i3, ρ3, s3, q⟩⟩
  · obtain ⟨g2, i2, ρ', s2, jn⟩ := p
    rw [ra.len] at jn
    exact f.nx σ' ρ' H' g2 i2.1 s2 (hd ρ' jn)
end
end Bf
namespace Bf
open PySem PySem.Spec PyProof.Rows L2
/-! ## _law_frame -/
def lvI (w : List Int) : List Int := w.flatMap fun bit => [bit, 1 - bit]
theorem lvI_len : ∀ w, (lvI w).length = 2 * w.length
  | [] => rfl
  | bit :: w => by
    have ih := lvI_len w
    simp only [lvI, List.flatMap_cons, List.length_append, List.length_cons, List.length_nil] at ih ⊢
    omega
theorem lvI_take {w : List Int} {i : Nat} {bit : Int} (h : w[i]? = some bit) : lvI (w.take (i + 1)) = lvI (w.take i) ++ [bit, 1 - bit] := by
  rw [List.take_add_one, h, lvI, List.flatMap_append]
  simp [lvI]
theorem lvI_bit {w : List Int} (h : ∀ x ∈ w, x = 0 ∨ x = 1) {x : Int} (hx : x ∈ lvI w) : x = 0 ∨ x = 1 := by
  obtain ⟨b, hb, hxb⟩ := List.mem_flatMap.mp hx
  simp only [List.mem_cons, List.not_mem_nil, or_false] at hxb
  rcases h b hb with rfl | rfl <;> rcases hxb with rfl | rfl <;> simp
theorem lvI_hvs {w : List Int} (h : ∀ x ∈ w, x = 0 ∨ x = 1) : (lvI w).map fhS = hvs w := by
  induction w with
  | nil => rfl
  | cons b w ih =>
    have e : fhS (1 - b) = ohS (fhS b) := by
      rcases h b (by simp) with rfl | rfl <;> decide +kernel
    have ih := ih fun x hx => h x (by simp [hx])
    show fhS b :: fhS (1 - b) :: (lvI w).map fhS = fhS b :: ohS (fhS b) :: hvs w
    rw [e, ih]
theorem fhS_inj {a b : Int} (ha : a = 0 ∨ a = 1) (hb : b = 0 ∨ b = 1) : (fhS a = fhS b) ↔ a = b := by
  rcases ha with rfl | rfl <;> rcases hb with rfl | rfl <;> decide +kernel
theorem runs_two (u : Int) {x y : Str} (h : ¬ y = x) : ∀ (l : List Str) (p : Str) (c : Int), runs u p c (l ++ [x, y]) = runs u p c (l ++ [x]) ++ [u]
  | [], p, c => by
    simp only [List.nil_append, runs]
    split <;> simp [h]
  | a :: l, p, c => by
    have ih := runs_two u h l
    simp only [List.cons_append, runs]
    split
    · exact ih _ _
    · rw [ih]; rfl
theorem cut_last {xs : List Dt} {x : Dt} : cutD (xs ++ [x]) none (some (-1)) = xs := by
  unfold cutD
  have e : HT.sIx (xs ++ [x]).length (xs ++ [x]).length (some (-1)) = xs.length := by
    show (if (-1 : Int) < 0 then ((-1 : Int) + ((xs ++ [x]).length : Int)).toNat else min (-1 : Int).toNat (xs ++ [x]).length) = _
    rw [if_pos (by decide), List.length_append]
    show ((-1 : Int) + ((xs.length + 1 : Nat) : Int)).toNat = _
    omega
  rw [e, HT.sIx_none, List.drop_zero, Nat.sub_zero, List.take_left]
abbrev p__law_frame (K : PySem.W.Frag) : Sp := spR K 2 r_fo
abbrev t__law_frame (K : PySem.W.Frag) : TS := (tSeq (tIfS (tTest (tOp rEq (tOp (rIx K) (tVar 0) (tC (.int 0))) (tC (.str "pairs")))) (tSeq (tAsg (tCB (rLstO K) (tCons (tOp (rIx K) (tVar 0) (tC (.int 1))) tNil)) (gName 2))
    (tSeq (tFor (iTup K (tVar 1)) (gName 3) (tAsg (tOp (rCatS K) (tVar 2) (tCB (rLstO K) (tCons (tOp (rIx K) (tVar 0) (tOp rAddI (tC (.int 2)) (tVar 3))) tNil))) (gName 2)))
    (tRet (tCB (rTupO K) (tCons (tOp (rCatS K) (tVar 2) (tLst (tCons (tOp (rIx K) (tVar 0) (tC (.int 4))) tNil))) tNil))))) tNext)
    (tSeq (tPar 2 4 (tCons (tLst tNil) (tCons (tLst (tCons (tC (.int 1)) (tCons (tC (.int 0)) tNil))) tNil)))
    (tSeq (tFor (iTup K (tVar 1)) (gName 3) (tAsg (tOp (rCatS K) (tVar 4) (tLst (tCons (tVar 3) (tCons (tOp rSubI (tC (.int 1)) (tVar 3)) tNil)))) (gName 4)))
    (tSeq (tFor (iEnum K (tCons (tVar 4) tNil)) (gTup K 2 (gCons (gName 5) (gCons (gName 6) gNil))) (tIfS (tAnd (tTest (tOp rGtI (tVar 5) (tC (.int 0)))) (tTest (tOp rEq (tOp (rIx K) (tVar 4) (tOp rSubI (tVar 5) (tC (.int 1)))) (tVar 6)))) (tAsg (tOp rAddI (tOp (rIx K) (tVar 2) (tUn rNegI (tC (.int 1)))) (tOp (rIx K) (tVar 0) (tC (.int 1)))) (gSub (tVar 2) (tUn rNegI (tC (.int 1))) rSetL)) (tDrop (tBM K "list" rAppend (tVar 2) (tCons (tOp (rIx K) (tVar 0) (tC (.int 1))) tNil)))))
    (tRet (tCB (rTupO K) (tCons (tIf (tTest (tOp rEq (tOp (rIx K) (tVar 4) (tUn rNegI (tC (.int 1)))) (tC (.int 0)))) (tSl (rSlL K) (tVar 2) tNoPart (tPart (tUn rNegI (tC (.int 1))))) (tVar 2)) tNil)))))))
section
variable {K : PySem.W.Frag} {S : Sta} {ds : List Dt} {d : Dt}
/-- where the walk of all levels is -/
def lvJ (u : Int) (L : List Int) (tot : List Int) (i : Nat) (fs : List Int) : Prop :=
  (i = 0 ∧ fs = []) ∨ ∃ (acc : List Int) (cur prev : Int), 1 ≤ i ∧ L[i - 1]? = some prev ∧ acc ++ runs u (fhS prev) cur ((L.drop i).map fhS) = tot ∧ fs = acc ++ [cur] ∧ acc.length < i
theorem so__law_frame (hmu : S.Mu) (hp : r_fo ds d) : So K S S [] (t__law_frame K) (startD 7 ds) (Pu d) := by
  obtain ⟨T, w, hT, hw, rfl, rfl⟩ := hp
  have hb := Tab.b1 hT
  have hwl : (w.length : Int) = T.b := by rw [hw.1]; exact Int.toNat_of_nonneg (by omega)
  have hwne : w ≠ [] := fun e => by rw [e] at hwl; simp at hwl; omega
  have hw8 : w.length ≤ 8 := by omega
  have hbit : ∀ x ∈ w, x = 0 ∨ x = 1 := hw.2
  have item : ∀ {i : Nat} {x : Dt}, (w.map Dt.int)[i]? = some x → ∃ bit, w[i]? = some bit ∧ x = .int bit := fun {i x} hx => by
    rw [List.getElem?_map] at hx
    cases e : w[i]? with
    | none => rw [e] at hx; simp at hx
    | some bit => rw [e] at hx; exact ⟨bit, rfl, by simpa using hx.symm⟩
  cases T with
  | pa h z1 z2 o1 o2 s b =>
    have hh : h.length ≤ 4 := by have := hT.1; omega
    refine so_ifT ((et_test (ev_op (ev_ixT (ev_var rfl) ev_int (atI_nat (j := 0) rfl)) ev_str rv_eqS)).to (by decide +kernel)) ?_
    refine so_assoc (so_setD (d := .lst (h.map Dt.int)) (ev_cb (ea_cons (ev_ixT (d := tI h) (ev_var rfl) ev_int (atI_nat (j := 1) rfl)) ea_nil) rc_lstT) ?_)
    refine so_assoc (so_seqG (S1 := S) (M := fun ρ' => ∃ x : Option Dt, ρ' = [some (Tab.pa h z1 z2 o1 o2 s b).d, some (tI w), some (.lst ((h ++ paBits z1 z2 o1 o2 w).map Dt.int)), x, none, none, none]) (Sta.Le.refl _)
      (so_forT (xs := w.map Dt.int) (ev_var rfl) (fun i ρ' => ∃ x : Option Dt, ρ' = [some (Tab.pa h z1 z2 o1 o2 s b).d, some (tI w), some (.lst ((h ++ paBits z1 z2 o1 o2 (w.take i)).map Dt.int)), x, none, none, none])
        ⟨none, by simp [paBits]; rfl⟩ (fun i x ρ' hx hJ => ?_) (fun ρ' hJ => ?_)) fun ρ' hM => ?_)
    · obtain ⟨y, rfl⟩ := hJ
      obtain ⟨bit, hbi, rfl⟩ := item hx
      have hl2 : (paBits z1 z2 o1 o2 (w.take i)).length ≤ 16 := by rw [paBits_len, List.length_take]; omega
      have hix : Ev K S S [some (Tab.pa h z1 z2 o1 o2 s b).d, some (tI w), some (.lst ((h ++ paBits z1 z2 o1 o2 (w.take i)).map Dt.int)), some (.int bit), none, none, none] (tOp (rIx K) (tVar 0) (tOp rAddI (tC (.int 2)) (tVar 3))) (Eq (tI (if bit = 1 then [o1, o2] else [z1, z2]))) := by
        rcases hbit bit (List.mem_of_getElem? hbi) with rfl | rfl
        · exact ev_ixT (ev_var rfl) (ev_op ev_int (ev_var rfl) rv_add) (atI_nat (j := 2) rfl)
        · exact ev_ixT (ev_var rfl) (ev_op ev_int (ev_var rfl) rv_add) (atI_nat (j := 3) rfl)
      refine so_set0D (ev_op (ev_var rfl) (ev_cb (ea_cons hix ea_nil) rc_lstT) (rv_catL ?_)) (Sta.Le.refl _) ⟨some (.int bit), ?_⟩
      · simp only [List.length_map, List.length_append]
        refine Nat.le_trans (show _ ≤ 40 from ?_) (by decide)
        split <;> simp only [List.length_cons, List.length_nil] <;> omega
      · rw [paBits_take _ _ _ _ hbi, ← List.append_assoc, List.map_append (f := Dt.int) (l₁ := h ++ _)]
        rfl
    · obtain ⟨y, e⟩ := hJ
      rw [List.length_map, List.take_length] at e
      exact ⟨y, e⟩
    · obtain ⟨y, rfl⟩ := hM
      refine so_ret1D (ev_cb (ea_cons (ev_op (ev_var rfl) (ev_lst (ea_cons (ev_ixT (ev_var rfl) ev_int (atI_nat (j := 4) rfl)) ea_nil) (by show 1 ≤ sizeLine; decide)) (rv_catL ?_)) ea_nil) rc_tupL) (Sta.Le.refl _) ?_
      · rw [List.length_map, List.length_append, paBits_len]
        exact Nat.le_trans (show _ ≤ 40 by simp only [List.length_cons, List.length_nil]; omega) (by decide)
      · have := frame_pa (h := h) (z1 := z1) (z2 := z2) (o1 := o1) (o2 := o2) (st := s) (b := b) w 0 h "" (by rw [Int.zero_add]; exact hwl) hwne
        show tI (Tab.frame _ w) = _
        rw [show Tab.frame _ w = _ from this]
        simp [tI]
  | ha u b =>
    refine so_ifF ((et_test (ev_op (ev_ixT (ev_var rfl) ev_int (atI_nat (j := 0) rfl)) ev_str rv_eqS)).to (by decide +kernel)) (so_skip ?_)
    refine so_par01 (Sta.Le.refl _) fun p q0 hpq0 => ?_
    -- all levels
    refine so_seqG (S1 := S) (M := fun ρ' => ∃ (q : Addr) (x : Option Dt), (∀ d, x = some d → nol d = true) ∧ p ≠ q ∧ ρ' = [some (Tab.ha u b).d, some (tI w), some (.lat p []), x, some (.lat q ((1 :: 0 :: lvI w).map Dt.int)), none, none]) (Sta.Le.refl _)
      (so_forTX (xs := w.map Dt.int) (ev_var rfl) (nolA_ints w) (fun i ρ' => ∃ (q : Addr) (x : Option Dt), (∀ d, x = some d → nol d = true) ∧ p ≠ q ∧ ρ' = [some (Tab.ha u b).d, some (tI w), some (.lat p []), x, some (.lat q ((1 :: 0 :: lvI (w.take i)).map Dt.int)), none, none])
        ⟨q0, none, (fun _ e => nomatch e), hpq0, rfl⟩ (fun S' le lo mu i x ρ' hx hJ => ?_) (fun ρ' hJ => ?_)) fun ρ' hM => ?_
    · obtain ⟨q, y, _, hpq, rfl⟩ := hJ
      obtain ⟨bit, hbi, rfl⟩ := item hx
      have hl2 : (lvI (w.take i)).length ≤ 16 := by rw [lvI_len, List.length_take]; omega
      refine so_newK0 (en_catL (xs := (1 :: 0 :: lvI (w.take i)).map Dt.int) (ys := [.int bit, .int (1 - bit)]) (ev_lat (ev_var rfl)) (ev_lst (ea_cons (ev_var rfl) (ea_cons (ev_op ev_int (ev_var rfl) rv_sub) ea_nil)) (by show 2 ≤ sizeLine; decide)) ?_) (Sta.Le.refl _) fun q' hq' => ⟨q', some (.int bit), (fun _ e => by cases e; rfl), hq' 2 p _ rfl, ?_⟩
      · simp only [List.length_map, List.length_cons, List.length_nil]
        exact Nat.le_trans (show _ ≤ 40 by omega) (by decide)
      · rw [lvI_take hbi]
        show _ = [_, _, _, _, some (Dt.lat q' (((1 :: 0 :: lvI (w.take i)) ++ [bit, 1 - bit]).map Dt.int)), none, none]
        rw [List.map_append]
        rfl
    · obtain ⟨q, y, hy, hpq, e⟩ := hJ
      rw [List.length_map, List.take_length] at e
      exact ⟨q, y, hy, hpq, e⟩
    obtain ⟨q, y, hy, hpq, rfl⟩ := hM
    -- like ones together
    have hlen : (lvI w).length ≤ 16 := by rw [lvI_len]; omega
    have hLb : ∀ {x : Int}, x ∈ (1 :: 0 :: lvI w) → x = 0 ∨ x = 1 := fun {x} hx => by
      simp only [List.mem_cons] at hx
      rcases hx with rfl | rfl | hx
      · exact .inr rfl
      · exact .inl rfl
      · exact lvI_bit hbit hx
    let tot := runs u "pulse" u ((0 :: lvI w).map fhS)
    refine so_seqG (S1 := S) (M := fun ρ' => ∃ y5 y6 : Option Dt, ρ' = [some (Tab.ha u b).d, some (tI w), some (.lat p (tot.map Dt.int)), y, some (.lat q ((1 :: 0 :: lvI w).map Dt.int)), y5, y6]) (Sta.Le.refl _)
      (so_forEX (q := q) (xs := (1 :: 0 :: lvI w).map Dt.int) rfl (nolA_ints _)
        (fun i ρ' => ∃ (fs : List Int) (y5 y6 : Option Dt), (∀ d, y5 = some d → nol d = true) ∧ (∀ d, y6 = some d → nol d = true) ∧ lvJ u (1 :: 0 :: lvI w) tot i fs ∧ ρ' = [some (Tab.ha u b).d, some (tI w), some (.lat p (fs.map Dt.int)), y, some (.lat q ((1 :: 0 :: lvI w).map Dt.int)), y5, y6])
        ⟨[], none, none, (fun _ e => nomatch e), (fun _ e => nomatch e), .inl ⟨rfl, rfl⟩, rfl⟩ (fun S' le lo i x ρ' hx hJ => ?_) (fun ρ' hJ => ?_)) fun ρ' hM => ?_
    · obtain ⟨fs, y5, y6, _, _, hinv, rfl⟩ := hJ
      obtain ⟨l, hl, rfl⟩ : ∃ l, (1 :: 0 :: lvI w)[i]? = some l ∧ x = .int l := by
        rw [List.getElem?_map] at hx
        cases e : (1 :: 0 :: lvI w)[i]? with
        | none => rw [e] at hx; simp at hx
        | some l => rw [e] at hx; exact ⟨l, rfl, by simpa using hx.symm⟩
      have hlt : i < (1 :: 0 :: lvI w).length := (List.getElem?_eq_some_iff.mp hl).1
      have hlt' : i < 18 := by simp only [List.length_cons] at hlt; omega
      have hdrop : (1 :: 0 :: lvI w).drop i = l :: (1 :: 0 :: lvI w).drop (i + 1) := by
        rw [List.drop_eq_getElem_cons hlt]
        congr 1
        exact (List.getElem?_eq_some_iff.mp hl).2
      have hlo : LooseP S' S p := lo S p hpq (mu_looseP hmu)
      have hoff : ∀ (cs : List Dt), offL p 2 0 [some (Tab.ha u b).d, some (tI w), some (.lat p cs), y, some (.lat q ((1 :: 0 :: lvI w).map Dt.int)), some (.int i), some (.int l)] := fun cs => by
        simp only [offL]
        exact ⟨fun _ d e => by cases e; exact off_tab, fun _ d e => by cases e; exact off_tI, fun e => absurd rfl e, fun _ d e => offOk_nol (hy d e), fun _ d e => by cases e; exact ⟨Ne.symm hpq, nolA_ints _⟩, fun _ d e => by cases e; rfl, fun _ d e => by cases e; rfl, trivial⟩
      have hu : ∀ {ρ : List (Option Dt)}, ρ[0]? = some (some (Tab.ha u b).d) → Ev K S' S' ρ (tOp (rIx K) (tVar 0) (tC (.int 1))) (Eq (.int u)) := fun {ρ} h => ev_ixT (ev_var h) ev_int (atI_nat (j := 1) rfl)
      rcases hinv with ⟨rfl, rfl⟩ | ⟨acc, cur, prev, h1, hprev, hacc, rfl, hal⟩
      · have hl1 : l = 1 := by simpa using hl.symm
        subst hl1
        refine so_if0F (et_andF ((et_test (ev_op (ev_var rfl) ev_int rv_gt)).to (by decide))) ?_
        refine sg_last (so_appP (p := p) (xs := []) (d := .int u) List.mem_cons_self hlo rfl rfl (Offs.mk (hoff _)) (by decide) (hu rfl) rfl (so_next (Sta.Le.refl _) ⟨[u], some (.int ((0 : Nat) : Int)), some (.int 1), (fun _ e => by cases e; rfl), (fun _ e => by cases e; rfl), .inr ⟨[], u, 1, Nat.le_refl _, rfl, ?_, rfl, by decide⟩, rfl⟩))
        rfl
      · rw [hdrop] at hacc
        have hpb := hLb (List.mem_of_getElem? hprev)
        have hlb := hLb (List.mem_of_getElem? hl)
        have hidx : atI ((1 :: 0 :: lvI w).map Dt.int) ((i : Int) - 1) = some (.int prev) := by
          have := atI_nat (xs := (1 :: 0 :: lvI w).map Dt.int) (j := i - 1) (v := .int prev) (by rw [List.getElem?_map, hprev]; rfl)
          rwa [show ((i - 1 : Nat) : Int) = (i : Int) - 1 by omega] at this
        refine so_if0 (Φb := Eq (decide (prev = l))) (et_andT ((et_test (ev_op (ev_var rfl) ev_int rv_gt)).to (decide_eq_true (by omega))) (et_test (ev_op (ev_ixL (ev_lat (ev_var rfl)) (ev_op (ev_var rfl) ev_int rv_sub) hidx) (ev_var rfl) rv_eqI))) (fun e => ?_) fun e => ?_
        · have e' : prev = l := of_decide_eq_true e
          subst e'
          refine sg_last (so_setL (p := p) (xs := acc.map Dt.int) (n := cur) (m := cur + u) List.mem_cons_self hlo (by show some (some _) = _; rw [List.map_append]; rfl) (nolA_ints _) (Offs.mk (hoff _)) (ev_op (ev_ixL (ev_lat (ev_var rfl)) (ev_neg ev_int) (by rw [List.map_append]; exact atI_end _ _)) (hu rfl) rv_add) (so_next (Sta.Le.refl _) ⟨acc ++ [cur + u], some (.int i), some (.int prev), (fun _ e => by cases e; rfl), (fun _ e => by cases e; rfl), .inr ⟨acc, cur + u, prev, by omega, hl, ?_, rfl, by omega⟩, ?_⟩))
          · rw [← hacc]
            show _ = acc ++ (if fhS prev = fhS prev then _ else _)
            rw [if_pos rfl]
          · simp only [List.map_append]
            rfl
        · have e' : ¬ prev = l := of_decide_eq_false e
          have e2 : ¬ fhS l = fhS prev := fun z => e' ((fhS_inj hlb hpb).mp z).symm
          refine sg_last (so_appP (p := p) (d := .int u) List.mem_cons_self hlo rfl (nolA_ints _) (Offs.mk (hoff _)) (by rw [List.length_map, List.length_append]; simp only [List.length_cons, List.length_nil]; omega) (hu rfl) rfl (so_next (Sta.Le.refl _) ⟨acc ++ [cur] ++ [u], some (.int i), some (.int l), (fun _ e => by cases e; rfl), (fun _ e => by cases e; rfl), .inr ⟨acc ++ [cur], u, l, by omega, hl, ?_, rfl, by simp only [List.length_append, List.length_cons, List.length_nil]; omega⟩, ?_⟩))
          · rw [← hacc]
            show _ = acc ++ (if fhS l = fhS prev then _ else _)
            rw [if_neg e2, List.append_assoc]
            rfl
          · simp only [List.map_append]
            rfl
    · obtain ⟨fs, y5, y6, _, _, hinv, rfl⟩ := hJ
      refine ⟨y5, y6, ?_⟩
      rw [List.length_map] at hinv
      rcases hinv with ⟨h, _⟩ | ⟨acc, cur, prev, _, _, hacc, rfl, _⟩
      · simp at h
      · rw [List.drop_length] at hacc
        rw [← hacc]
        rfl
    obtain ⟨y5, y6, rfl⟩ := hM
    -- a gap at the end is left out
    obtain ⟨ini, bit, rfl⟩ : ∃ ini bit, w = ini ++ [bit] := ⟨_, _, (List.dropLast_concat_getLast hwne).symm⟩
    have hbl := hbit bit (by simp)
    have hini : ∀ x ∈ ini, x = 0 ∨ x = 1 := fun x hx => hbit x (by simp [hx])
    have hlv : lvI (ini ++ [bit]) = lvI ini ++ [bit, 1 - bit] := by simp [lvI]
    have hhv : hvs (ini ++ [bit]) = hvs ini ++ [fhS bit, ohS (fhS bit)] := by simp [hvs]
    have htot : tot = runs u "pulse" u ("gap" :: hvs (ini ++ [bit])) := by
      show runs u "pulse" u (fhS 0 :: (lvI (ini ++ [bit])).map fhS) = _
      rw [lvI_hvs hbit]
      rfl
    have hfr : Tab.frame (.ha u b) (ini ++ [bit]) = runs u "pulse" u ("gap" :: cutG (hvs (ini ++ [bit]))) := by
      have := frame_ha (u := u) (b := b) (ini ++ [bit]) 0 "gap" (by rw [Int.zero_add]; exact hwl) hwne (.inr rfl)
      have e2 := ahead_app (.ha u b) 0 [u] [] "gap" (ini ++ [bit])
      rw [this] at e2
      have hg : ¬ (("gap" : Str) = "pulse") := gap_ne
      rw [runs, if_neg hg]
      exact e2
    have hlast : atI ((1 :: 0 :: lvI (ini ++ [bit])).map Dt.int) (-1) = some (.int (1 - bit)) := by
      rw [hlv, show (1 :: 0 :: (lvI ini ++ [bit, 1 - bit])) = (1 :: 0 :: (lvI ini ++ [bit])) ++ [1 - bit] by simp, List.map_append]
      exact atI_end _ _
    have c1 : EvT K S S [some (Tab.ha u b).d, some (tI (ini ++ [bit])), some (.lat p (tot.map Dt.int)), y, some (.lat q ((1 :: 0 :: lvI (ini ++ [bit])).map Dt.int)), y5, y6] (tTest (tOp rEq (tOp (rIx K) (tVar 4) (tUn rNegI (tC (.int 1)))) (tC (.int 0)))) (Eq (decide (1 - bit = 0))) :=
      et_test (ev_op (ev_ixL (ev_lat (ev_var rfl)) (ev_neg ev_int) hlast) ev_int rv_eqI)
    rcases hbl with rfl | rfl
    · refine so_retD (ev_cb (ea_cons (ev_ifF (c1.to (by decide)) (ev_lat (ev_var rfl))) ea_nil) rc_tupL) (Sta.Le.refl _) ?_
      have hc : cutG (hvs (ini ++ [0])) = hvs (ini ++ [0]) := by
        rw [hhv]; unfold cutG
        have e1 : (hvs ini ++ [fhS 0, ohS (fhS 0)]).getLast? = some ("pulse" : Str) := by
          rw [show hvs ini ++ [fhS 0, ohS (fhS 0)] = (hvs ini ++ [fhS 0]) ++ ([("pulse" : Str)] : List Str) by rw [List.append_assoc]; rfl, List.getLast?_concat]
        refine if_neg fun z => ?_
        have z' : (hvs ini ++ [fhS 0, ohS (fhS 0)]).getLast? = some ("gap" : Str) := z
        rw [e1] at z'
        exact absurd (Option.some.inj z').symm gap_ne
      show tI (Tab.frame (.ha u b) (ini ++ [0])) = tI tot
      rw [hfr, hc, htot]
    · have hc : cutG (hvs (ini ++ [1])) = hvs ini ++ ([("pulse" : Str)] : List Str) := by
        rw [hhv]; unfold cutG
        have e0 : hvs ini ++ [fhS 1, ohS (fhS 1)] = (hvs ini ++ ([("pulse" : Str)] : List Str)) ++ ([("gap" : Str)] : List Str) := by rw [List.append_assoc]; rfl
        rw [e0]
        exact (if_pos (List.getLast?_concat ..)).trans (List.dropLast_concat ..)
      have ht2 : tot = runs u "pulse" u ("gap" :: (hvs ini ++ ([("pulse" : Str)] : List Str))) ++ [u] := by
        rw [htot, hhv]
        exact runs_two u gap_ne ("gap" :: hvs ini) "pulse" u
      have hlT : EvO K S S [some (Tab.ha u b).d, some (tI (ini ++ [1])), some (.lat p (tot.map Dt.int)), y, some (.lat q ((1 :: 0 :: lvI (ini ++ [1])).map Dt.int)), y5, y6] (tPart (tUn rNegI (tC (.int 1)))) (Eq (some (-1))) := eo_some (ev_neg ev_int)
      refine so_retD (ev_cb (ea_cons (ev_ifT (c1.to (by decide)) (en_slL (ev_lat (ev_var rfl)) eo_none hlT).ev) ea_nil) rc_tupL) (Sta.Le.refl _) ?_
      show tI (Tab.frame (.ha u b) (ini ++ [1])) = .tup (cutD (tot.map Dt.int) none (some (-1)))
      rw [hfr, hc, ht2, List.map_append]
      exact congrArg Dt.tup cut_last.symm
end
end Bf
namespace Bf
open PySem PySem.Spec PyProof.Rows L2
/-! ## Fact 1: different words have different frames -/
theorem runs_head {u : Int} (hu : 0 < u) : ∀ (l : List Str) (p : Str) (c : Int), ∃ h t, runs u p c l = h :: t ∧ c ≤ h
  | [], p, c => ⟨c, [], rfl, Int.le_refl c⟩
  | x :: l, p, c => by
    unfold runs
    split
    · obtain ⟨h, t, e, hc⟩ := runs_head hu l x (c + u)
      exact ⟨h, t, e, by omega⟩
    · exact ⟨c, _, rfl, Int.le_refl c⟩
def twoS (l : List Str) : Prop := ∀ x ∈ l, x = "pulse" ∨ x = "gap"
theorem two_eq {x y p : Str} (hx : x = "pulse" ∨ x = "gap") (hy : y = "pulse" ∨ y = "gap") (hp : p = "pulse" ∨ p = "gap") (a : x ≠ p) (b : y ≠ p) : x = y := by
  rcases hx with rfl | rfl <;> rcases hy with rfl | rfl <;> rcases hp with rfl | rfl <;> first | rfl | exact absurd rfl a | exact absurd rfl b
theorem runs_inj {u : Int} (hu : 0 < u) : ∀ (l l' : List Str) (p : Str) (c : Int), twoS l → twoS l' → (p = "pulse" ∨ p = "gap") → runs u p c l = runs u p c l' → l = l'
  | [], [], _, _, _, _, _, _ => rfl
  | [], y :: l', p, c, h1, h2, hp, e => by
    exfalso
    unfold runs at e
    split at e
    · obtain ⟨h, t, e2, hc⟩ := runs_head hu l' y (c + u)
      rw [e2] at e
      injection e with e3 _
      omega
    · obtain ⟨h, t, e2, _⟩ := runs_head hu l' y u
      rw [e2] at e
      injection e with _ e3
      cases e3
  | x :: l, [], p, c, h1, h2, hp, e => by
    exfalso
    unfold runs at e
    split at e
    · obtain ⟨h, t, e2, hc⟩ := runs_head hu l x (c + u)
      rw [e2] at e
      injection e with e3 _
      omega
    · obtain ⟨h, t, e2, _⟩ := runs_head hu l x u
      rw [e2] at e
      injection e with _ e3
      cases e3
  | x :: l, y :: l', p, c, h1, h2, hp, e => by
    have hx := h1 x List.mem_cons_self
    have hy := h2 y List.mem_cons_self
    have t1 : twoS l := fun z hz => h1 z (List.mem_cons_of_mem _ hz)
    have t2 : twoS l' := fun z hz => h2 z (List.mem_cons_of_mem _ hz)
    by_cases ex : x = p <;> by_cases ey : y = p
    · simp only [runs, if_pos ex, if_pos ey] at e
      subst ex
      subst ey
      rw [runs_inj hu l l' _ _ t1 t2 hp e]
    · exfalso
      simp only [runs, if_pos ex, if_neg ey] at e
      obtain ⟨h, t, e2, hc⟩ := runs_head hu l x (c + u)
      rw [e2] at e
      injection e with e3 _
      omega
    · exfalso
      simp only [runs, if_neg ex, if_pos ey] at e
      obtain ⟨h, t, e2, hc⟩ := runs_head hu l' y (c + u)
      rw [e2] at e
      injection e with e3 _
      omega
    · simp only [runs, if_neg ex, if_neg ey] at e
      injection e with _ e3
      have exy := two_eq hx hy hp ex ey
      subst exy
      rw [runs_inj hu l l' _ _ t1 t2 hx e3]
theorem hvs_two (w : List Int) : twoS (hvs w) := fun x hx => by
  obtain ⟨b, _, hb⟩ := List.mem_flatMap.mp hx
  simp only [List.mem_cons, List.not_mem_nil, or_false] at hb
  rcases hb with rfl | rfl
  · exact fh_or b
  · unfold ohS
    split
    · exact .inr rfl
    · exact .inl rfl
theorem cutG_two' {l : List Str} (h : twoS l) : twoS (cutG l) := fun x hx => by
  unfold cutG at hx
  split at hx
  · exact h x (List.dropLast_subset _ hx)
  · exact h x hx
theorem hvs_inj : ∀ {w w' : List Int}, (∀ x ∈ w, x = 0 ∨ x = 1) → (∀ x ∈ w', x = 0 ∨ x = 1) → hvs w = hvs w' → w = w'
  | [], [], _, _, _ => rfl
  | [], b :: w', _, _, e => by cases (show [] = fhS b :: ohS (fhS b) :: hvs w' from e)
  | a :: w, [], _, _, e => by cases (show fhS a :: ohS (fhS a) :: hvs w = [] from e)
  | a :: w, b :: w', h1, h2, e => by
    have e' : fhS a :: ohS (fhS a) :: hvs w = fhS b :: ohS (fhS b) :: hvs w' := e
    injection e' with e1 e2
    injection e2 with _ e3
    rw [(fhS_inj (h1 a List.mem_cons_self) (h2 b List.mem_cons_self)).mp e1, hvs_inj (fun x hx => h1 x (List.mem_cons_of_mem _ hx)) (fun x hx => h2 x (List.mem_cons_of_mem _ hx)) e3]
theorem cutG_inj {l l' : List Str} (hl : l.length = l'.length) (e : cutG l = cutG l') : l = l' := by
  unfold cutG at e
  split at e <;> split at e
  · rename_i a b
    obtain ⟨ys, rfl⟩ := List.getLast?_eq_some_iff.mp a
    obtain ⟨zs, rfl⟩ := List.getLast?_eq_some_iff.mp b
    simpa using e
  · rename_i a b
    have := congrArg List.length e
    rw [List.length_dropLast] at this
    cases l with
    | nil => simp at a
    | cons x l => simp only [List.length_cons] at this hl; omega
  · rename_i a b
    have := congrArg List.length e
    rw [List.length_dropLast] at this
    cases l' with
    | nil => simp at b
    | cons x l' => simp only [List.length_cons] at this hl; omega
  · exact e
theorem paBits_inj {z1 z2 o1 o2 : Int} (hne : ¬ (z1 = o1 ∧ z2 = o2)) : ∀ {w w' : List Int}, (∀ x ∈ w, x = 0 ∨ x = 1) → (∀ x ∈ w', x = 0 ∨ x = 1) → paBits z1 z2 o1 o2 w = paBits z1 z2 o1 o2 w' → w.length = w'.length → w = w'
  | [], [], _, _, _, _ => rfl
  | [], _ :: _, _, _, _, h => by simp at h
  | _ :: _, [], _, _, _, h => by simp at h
  | a :: w, b :: w', h1, h2, e, h => by
    have e' : (if a = 1 then [o1, o2] else [z1, z2]) ++ paBits z1 z2 o1 o2 w = (if b = 1 then [o1, o2] else [z1, z2]) ++ paBits z1 z2 o1 o2 w' := e
    have ih := fun q => paBits_inj hne (w := w) (w' := w') (fun x hx => h1 x (List.mem_cons_of_mem _ hx)) (fun x hx => h2 x (List.mem_cons_of_mem _ hx)) q (by simpa using h)
    rcases h1 a List.mem_cons_self with rfl | rfl <;> rcases h2 b List.mem_cons_self with rfl | rfl <;> simp at e'
    · rw [ih e']
    · exact absurd ⟨e'.1, e'.2.1⟩ hne
    · exact absurd ⟨e'.1.symm, e'.2.1.symm⟩ hne
    · rw [ih e']
theorem frame_inj {T : Tab} (hT : T.ok) {w w' : List Int} (hw : isBits T.b.toNat w) (hw' : isBits T.b.toNat w') (e : T.frame w = T.frame w') : w = w' := by
  have hb := Tab.b1 hT
  have hwl : (w.length : Int) = T.b := by rw [hw.1]; exact Int.toNat_of_nonneg (by omega)
  have hwl' : (w'.length : Int) = T.b := by rw [hw'.1]; exact Int.toNat_of_nonneg (by omega)
  have hne : w ≠ [] := fun q => by rw [q] at hwl; simp at hwl; omega
  have hne' : w' ≠ [] := fun q => by rw [q] at hwl'; simp at hwl'; omega
  have hll : w.length = w'.length := by rw [hw.1, hw'.1]
  cases T with
  | ha u b =>
    have f : ∀ v : List Int, (v.length : Int) = b → v ≠ [] → (Tab.ha u b).frame v = u :: runs u "gap" u (cutG (hvs v)) := fun v h1 h2 => by
      have := frame_ha (u := u) (b := b) v 0 "gap" (by rw [Int.zero_add]; exact h1) h2 (.inr rfl)
      have e2 := ahead_app (.ha u b) 0 [u] [] "gap" v
      rw [this] at e2
      exact e2
    rw [f w hwl hne, f w' hwl' hne'] at e
    injection e with _ e
    have h0 := runs_inj (show 0 < u by have := hT.1.1; omega) _ _ _ _ (cutG_two' (hvs_two w)) (cutG_two' (hvs_two w')) (.inr rfl) e
    exact hvs_inj hw.2 hw'.2 (cutG_inj (by rw [hvs_len, hvs_len, hll]) h0)
  | pa h z1 z2 o1 o2 s b =>
    have f : ∀ v : List Int, (v.length : Int) = b → v ≠ [] → (Tab.pa h z1 z2 o1 o2 s b).frame v = h ++ (paBits z1 z2 o1 o2 v ++ [s]) := fun v h1 h2 => frame_pa (h := h) (z1 := z1) (z2 := z2) (o1 := o1) (o2 := o2) (st := s) (b := b) v 0 h "" (by rw [Int.zero_add]; exact h1) h2
    rw [f w hwl hne, f w' hwl' hne'] at e
    have e1 := List.append_cancel_right (List.append_cancel_left e)
    exact paBits_inj (fun q => hT.2.2.2.2.2.2.1 ⟨q.1.symm, q.2.symm⟩) hw.2 hw'.2 e1 hll
end Bf
namespace Bf
open PySem PySem.Spec PyProof.Rows L2
/-! ## need_table for any plain data -/
def plD (d : Dt) : Prop := pl d = true ∧ ∀ xs, d = .tup xs → plSA xs = true
def ntO (C : Addr) (d : Dt) : Out := if (tabPart d).isNon = true then .ok d else .er C "part" (tabPart d)
def r_nt (C : Addr) (ds : List Dt) (o : Out) : Prop := ∃ d, ds = [d] ∧ plD d ∧ o = ntO C d
abbrev p_need_tableX (K : PySem.W.Frag) (C : Addr) : Sp := spX K 1 (r_nt C)
abbrev t_need_tableX (K : PySem.W.Frag) (C : Addr) (E : XK) : TS := (tSeq (tIfS (tB (tCall (p_begins_with K) [] E0 (tCons (tVar 0) (tCons (tC (.str "pairs")) (tCons (tC (.int 6)) tNil))))) (tAsg (tCall (p_wrong_part_of_pairs K) [] E0 (tCons (tVar 0) tNil)) (gName 1)) (tIfS (tB (tCall (p_begins_with K) [] E0 (tCons (tVar 0) (tCons (tC (.str "halves")) (tCons (tC (.int 3)) tNil))))) (tAsg (tCall (p_wrong_part_of_halves K) [] E0 (tCons (tVar 0) tNil)) (gName 1)) (tAsg (tC (.str "form")) (gName 1))))
    (tSeq (tIfS (tTest (tOp rNoNo (tVar 1) (tC .non))) (tRaiseB C "part" (fun cls d _ H => E cls d H) (tCons (tVar 1) tNil)) tNext)
    (tRet (tVar 0))))
theorem bwD_shape {d : Dt} {n : Str} {k : Int} (h : bwD d n k = true) : ∃ xs, d = .tup xs ∧ (xs.length : Int) = k := by
  unfold bwD at h
  split at h
  · simp only [Bool.and_eq_true, decide_eq_true_eq] at h
    exact ⟨_, rfl, by simpa using h.1⟩
  · cases h
section
variable {K : PySem.W.Frag} {S : Sta} {ds : List Dt} {o : Out} {C : Addr} {E : XK}
theorem so_need_tableX (hmu : S.Mu) (hp : r_nt C ds o) (hw : ∀ C' f d, o = .er C' f d → XW K S C' f d E) : So K S S [] (t_need_tableX K C E) (startD 2 ds) (PO o) := by
  obtain ⟨d, rfl, ⟨hpl, hsa⟩, rfl⟩ := hp
  have rest : ∀ p, tabPart d = p → So K S S [] (tSeq (tIfS (tTest (tOp rNoNo (tVar 1) (tC .non))) (tRaiseB C "part" (fun cls d _ H => E cls d H) (tCons (tVar 1) tNil)) tNext) (tRet (tVar 0))) [some d, some p] (PO (ntO C d)) := fun p hpp => by
    refine so_ifD (k := !p.isNon) (et_test (ev_op (ev_var rfl) ev_non rv_noNo)) (fun e => ?_) fun e => so_skip ?_
    · have hn : ¬ ((tabPart d).isNon = true) := by rw [hpp]; simpa using e
      have ho : ntO C d = .er C "part" p := by rw [ntO, if_neg hn, hpp]
      exact so_raise1B (ev_var rfl) (hw C "part" p ho)
    · have hn : (tabPart d).isNon = true := by rw [hpp]; simpa using e
      have ho : ntO C d = .ok d := by rw [ntO, if_pos hn]
      rw [ho]
      exact so_retD (ev_var rfl) (Sta.Le.refl S) rfl
  refine so_if (Φb := Eq (bwD d "pairs" 6)) (et_B (ev_begins_with (ev_var rfl) hpl (by decide))) (fun e => ?_) fun e => ?_
  · obtain ⟨xs, rfl, hl⟩ := bwD_shape e
    exact so_setD (ev_callF (ea_cons (ev_var rfl) ea_nil) rfl ⟨xs, rfl, by omega, hsa xs rfl⟩) (rest _ (if_pos e))
  · refine so_if (Φb := Eq (bwD d "halves" 3)) (et_B (ev_begins_with (ev_var rfl) hpl (by decide))) (fun e2 => ?_) fun e2 => ?_
    · obtain ⟨xs, rfl, hl⟩ := bwD_shape e2
      exact so_setD (ev_callF (ea_cons (ev_var rfl) ea_nil) rfl ⟨xs, rfl, by omega, hsa xs rfl⟩) (rest _ (by rw [tabPart, if_neg (by rw [e]; decide), if_pos e2]))
    · exact so_setD ev_str (rest _ (by rw [tabPart, if_neg (by rw [e]; decide), if_neg (by rw [e2]; decide)]))
end
end Bf
namespace Bf
open PySem PySem.Spec PyProof.Rows L2
/-! ## The law of tables: what is said, what is due -/
/-- tabPart is none or a text -/
theorem tabPart_str (d : Dt) : tabPart d = .non ∨ ∃ p : Str, tabPart d = .str p := by
  have hP : ∀ xs, wrongP xs = .non ∨ ∃ p : Str, wrongP xs = .str p := fun xs => by
    unfold wrongP
    split
    · repeat' split
      all_goals first | exact .inl rfl | exact .inr ⟨_, rfl⟩
    · exact .inl rfl
  have hH : ∀ xs, wrongH xs = .non ∨ ∃ p : Str, wrongH xs = .str p := fun xs => by
    unfold wrongH
    split
    · repeat' split
      all_goals first | exact .inl rfl | exact .inr ⟨_, rfl⟩
    · exact .inl rfl
  unfold tabPart
  split
  · cases d with
    | tup xs => exact hP xs
    | _ => exact .inl rfl
  · split
    · cases d with
      | tup xs => exact hH xs
      | _ => exact .inl rfl
    · exact .inr ⟨_, rfl⟩
section
variable {K : PySem.W.Frag} {S : Sta} {ds : List Dt} {d : Dt} {C : Addr}
def r_said (ds : List Dt) (a : Dt) : Prop := ∃ d, ds = [d] ∧ plD d ∧ (tabPart d = .non → shwOk d) ∧ a = tabPart d
abbrev p__law_said (K : PySem.W.Frag) : Sp := spR K 1 r_said
abbrev t__law_saidX (K : PySem.W.Frag) (C : Addr) : TS := (tSeq (tAsg (tC (.str "begun")) (gName 1))
    (tSeq (fun D σ H => (fun W => (tAsg (tIf (tTest (tOp rEq (tCB (rRepr K) (tCons (tCallS (p_need_tableX K C) (WE W) (tCons (tVar 0) tNil)) tNil)) (tCB (rRepr K) (tCons (tVar 0) tNil)))) (tC .non) (tC (.str "another"))) (gName 1))) (wAs K (.ref C) 2 (fun a cls d => (tAsg (tFld C "part" a cls d (tVar 2)) (gName 1))) (fun _ _ _ _ => False) D) D σ H)
    (tRet (tVar 1))))
theorem so__law_said (hmu : S.Mu) (hte : PySem.W.exmOne K (.ref C) (.ref C) = some true) (hp : r_said ds d) : So K S S [] (t__law_saidX K C) (startD 3 ds) (Pu d) := by
  obtain ⟨x, rfl, hpl, hsh, rfl⟩ := hp
  refine so_setD ev_str ?_
  rcases tabPart_str x with h | ⟨p, h⟩
  · have ho : ntO C x = .ok x := by rw [ntO, h]; rfl
    have hs := hsh h
    refine so_seqG (S1 := S) (M := fun ρ' => ρ' = [some x, some .non, none]) (Sta.Le.refl _) (so_tryOk fun W => so_set0D (ev_ifT ((et_test (ev_op (ev_cb (ea_cons (ev_callXS (R := r_nt C) (d := x) (ea_cons (ev_var rfl) ea_nil) rfl ⟨x, rfl, hpl, ho.symm⟩) ea_nil) (rc_repr hs)) (ev_cb (ea_cons (ev_var rfl) ea_nil) (rc_repr hs)) rv_eqS)).to (by simp)) ev_non) (Sta.Le.refl _) rfl) fun ρ' hM => ?_
    subst hM
    exact so_retD (ev_var rfl) (Sta.Le.refl _) h
  · have ho : ntO C x = .er C "part" (.str p) := by rw [ntO, h]; rfl
    refine so_seqG (S1 := S) (M := fun ρ' => ρ' = [some x, some (.str p), none]) (Sta.Le.refl _) (so_tryEr (S1 := S) (C := C) (f := "part") (d := .str p) (i := 2) (c := .ref C) (Wout := fun _ _ _ _ => False) (tw := fun W => tAsg (tIf (tTest (tOp rEq (tCB (rRepr K) (tCons (tCallS (p_need_tableX K C) (WE W) (tCons (tVar 0) tNil)) tNil)) (tCB (rRepr K) (tCons (tVar 0) tNil)))) (tC .non) (tC (.str "another"))) (gName 1)) (ts := fun a cls d => tAsg (tFld C "part" a cls d (tVar 2)) (gName 1)) hte (fun W D σ H i s hW => ?_) (fun e a v => ?_)) fun ρ' hM => ?_
    · exact pr_asg (pr_if (pr_test (pr_op (pr_cb (pr_args (pr_callS (R := r_nt C) i s (ea_cons (ev_var rfl) ea_nil) rfl ⟨x, rfl, hpl, ho.symm⟩ hW))))))
    · exact so_set0D (ev_fld (K := K) (S := S) (i := 2) rfl) (fun _ h => h.1) rfl
    · subst hM
      exact so_retD (ev_var rfl) (Sta.Le.refl _) h
end
end Bf
namespace Bf
open PySem PySem.Spec PyProof.Rows L2
/-! ## a tuple backwards; a tuple many times -/
theorem adjust_rev (n : Nat) : Builtin.Slice.sliceAdjust none none (-1) (n : Int) = ((n : Int) - 1, -1) := by
  unfold Builtin.Slice.sliceAdjust
  simp
theorem places_rev (n : Nat) : Builtin.Slice.slicePlaces ((n : Int) - 1) (-1) (-1) = n := by
  unfold Builtin.Slice.slicePlaces
  have h1 : ¬ ((-1 : Int) > 0) := by omega
  have h2 : (- -1 : Int) = 1 := rfl
  simp only [h1, if_false, h2, Int.ediv_one]
  split <;> omega
theorem fm_map {α β : Type} {f : α → Option β} {g : α → β} : ∀ {l : List α}, (∀ m ∈ l, f m = some (g m)) → l.filterMap f = l.map g
  | [], _ => rfl
  | m :: l, h => by rw [List.filterMap_cons, h m List.mem_cons_self, List.map_cons, fm_map fun x hx => h x (List.mem_cons_of_mem _ hx)]
theorem pick_rev (xs : Array Value) : ((List.range xs.size).filterMap fun (m : Nat) => xs[(((xs.size : Int) - 1) + (m : Int) * (-1)).toNat]?).toArray = xs.toList.reverse.toArray := by
  congr 1
  rw [fm_map (g := fun m => xs.toList.reverse.getD m .none) fun m hm => ?_]
  · apply List.ext_getElem?
    intro i
    by_cases hi : i < xs.size
    · rw [List.getElem?_map, List.getElem?_range hi, List.getElem?_eq_getElem (by simpa using hi)]
      simp [hi]
    · rw [List.getElem?_eq_none (by simpa using hi), List.getElem?_eq_none (by simpa using hi)]
  · have hm' := List.mem_range.mp hm
    have e2 : (((xs.size : Int) - 1) + (m : Int) * (-1)).toNat = xs.size - 1 - m := by omega
    show xs[(((xs.size : Int) - 1) + (m : Int) * (-1)).toNat]? = _
    rw [e2, Array.getElem?_eq_getElem (by omega)]
    simp [hm']
section
variable {prog : Program} {w : World} {A : Around} {E : Value → Shared → Prop} {s : Shared}
theorem sliceApplied_rev {sl : Addr} {vs : Value} {n : Nat} {Q : Int × Int × Nat → Shared → Prop} (hs : s.heap.IsSliceOf sl .none .none vs) (ps : IsPart vs (some (-1)))
    (h : Q ((n : Int) - 1, -1, n) s) : wpAny (model prog w) A (Builtin.Slice.sliceApplied (.ref sl) (pure (n : Int))) Q E s := by
  obtain ⟨os, hos, hcs, hds⟩ := id hs
  unfold Builtin.Slice.sliceApplied Builtin.Slice.sliceFields
  refine wpAny_bind (wpAny_bind (wpAny_field hos hds (x := .none) rfl (wpAny_bind (wpAny_field hos hds (x := .none) rfl (wpAny_bind (wpAny_field hos hds (x := vs) rfl (wpAny_pure ?_)))))))
  refine wpAny_bind (HT.slicePart_ ps ?_)
  show wpAny _ _ (if ((-1 : Int) == 0) = true then _ else _) _ _ s
  rw [if_neg (by decide)]
  refine wpAny_bind (HT.slicePart_ .none (wpAny_bind (HT.slicePart_ .none (wpAny_bind (wpAny_pure ?_)))))
  show wpAny _ _ (match Builtin.Slice.sliceAdjust none none (-1) (n : Int) with | (lo, hi) => pure (lo, (-1 : Int), Builtin.Slice.slicePlaces lo hi (-1))) _ _ s
  rw [adjust_rev n]
  show wpAny _ _ (pure ((n : Int) - 1, (-1 : Int), Builtin.Slice.slicePlaces ((n : Int) - 1) (-1) (-1))) _ _ s
  rw [places_rev]
  exact wpAny_pure h
theorem getItem_tuple_rev {t sl : Addr} {items : Array Value} {vs : Value} {Q : Value → Shared → Prop} (ht : IsTup s.heap t items) (hs : s.heap.IsSliceOf sl .none .none vs) (ps : IsPart vs (some (-1)))
    (h : Q (.ref s.heap.objs.size) { s with heap := s.heap.push { cls := .type "tuple", data := .seq items.toList.reverse.toArray } })
    (hsz : items.size ≤ sizeLine) : wpAny (model prog w) A (getItem (.ref t) (.ref sl)) Q E s := by
  have htake : sizeOk (.seq items.toList.reverse.toArray) := by
    show items.toList.reverse.toArray.size ≤ sizeLine
    rw [List.size_toArray, List.length_reverse, Array.length_toList]
    exact hsz
  obtain ⟨os, hos, hcs, hds⟩ := id hs
  have hTs : s.TypeIs (.ref sl) "slice" := ⟨os, hos, hcs⟩
  unfold getItem
  try with_reducible refine wpAny_holding ?_
  first | refine wpAny_bind (wpAny_pure ?_) | skip
  refine wpAny_bind (wpAny_sequenceKey ht.typeIs (by decide) ?_)
  refine wpAny_bind (wpAny_callSpecial?_slot (name := Str.ofString "__getitem__") ht.typeIs PyProof.Rows.slot_tuple_getitem
    (wpAny_call_entry PyProof.Rows.slot_tuple_getitem ht.typeIs entry_tuple_getitem ?_ (args_tuple_getitem _ _)))
  show wpAny _ _ (Builtin.Tuple.tupleItemsOf (.ref t) >>= _) _ _ s
  refine wpAny_bind (tupleItemsOf_ ht ?_)
  refine wpAny_bind (wpAny_typeOf hTs ?_)
  rw [if_pos (by decide)]
  refine wpAny_bind (sliceApplied_rev hs ps ?_)
  have hno : ¬ (((((items.size : Nat) : Int) - 1) == 0 && (-1 : Int) == 1 && items.size == items.size) = true) := by
    simp
  show wpAny _ _ (if ((((items.size : Nat) : Int) - 1) == 0 && (-1 : Int) == 1 && items.size == items.size) = true then _ else _) _ _ s
  rw [if_neg hno, pick_rev]
  first
    | exact wpAny_bind (m := Builtin.Tuple.tupleExact _) (wpAny_newObj_type (wpAny_pure ⟨_, rfl, wpAny_pure h⟩) htake)
    | exact wpAny_bind (m := Builtin.Tuple.tupleExact _) (wpAny_newObj_type (wpAny_bind (wpAny_pure (wpAny_pure ⟨_, rfl, wpAny_pure h⟩))) htake)
    | exact wpAny_bind (wpAny_bind (m := Builtin.Tuple.tupleExact _) (wpAny_newObj_type (wpAny_pure (wpAny_pure ⟨_, rfl, wpAny_pure h⟩)) htake))
    | exact wpAny_bind (wpAny_bind (m := Builtin.Tuple.tupleExact _) (wpAny_newObj_type (wpAny_pure ⟨_, rfl, wpAny_pure h⟩) htake))
end
/-- t[::-1], t a tuple -/
def tRevT (K : PySem.W.Frag) (te : TE) : TE := fun σ H Q => te σ H fun x H1 => ∃ a xs, x = .ref a ∧ SqT K H1 a xs ∧ ∀ p, H1 p = none → Q (.ref p) (upd H1 p (.tup xs.reverse))
theorem pe_revT {X : Cx} {e : Expr} {te : TE} {k : Nat} {p1 p2 p3 pos : Pos} (he : PE X e te) : PE X (.Subscript e (.Slice none none (some (.UnaryOp .USub (.Constant (.int 1) k p1) p2)) p3) pos) (tRevT X.K te) := by
  refine ⟨fun pins s σ H Q I h => ?_⟩
  refine Subscript_ (thn (he.run pins s σ H _ I h) fun v s1 ⟨x, H1, I1, r1, q1⟩ => ?_)
  obtain ⟨a, xs, ex, hx, q⟩ := q1
  subst ex
  cases r1
  have hst : L2.PO X (some (.UnaryOp .USub (.Constant (.int 1) k p1) p2)) (tPart (tUn (rU fun i => .int (-i)) (tC (.int 1)))) := po_some (pe_un un_neg pe_int)
  refine wpAny_Slice (thn (po_none.run pins s1 σ H1 (fun o H2 => o = none ∧ H2 = H1) I1 ⟨rfl, rfl⟩) fun vl s2 ⟨l, H2, I2, pl, el, e2⟩ => ?_)
  subst el e2
  refine thn (po_none.run pins s2 σ H2 (fun o H3 => o = none ∧ H3 = H2) I2 ⟨rfl, rfl⟩) fun vu s3 ⟨u, H3, I3, pu, eu, e3⟩ => ?_
  subst eu e3
  refine thn (hst.run pins s3 σ H3 (fun o H4 => o = some (-1) ∧ H4 = H3) I3 ⟨1, rfl, -1, rfl, rfl, rfl⟩) fun vs s4 ⟨o, H4, I4, ps, eo, e4⟩ => ?_
  subst eo e4
  cases pl
  cases pu
  have I5 : Inv X pins σ H4 { s4 with heap := s4.heap.push { cls := .type "slice", data := .fields #[.none, .none, vs] } } := I4.kept (t' := s4.toks) fun b ob q => Heap.get?_push_of_some _ q
  obtain ⟨its, r, ht, hz⟩ := I5.tuple hx
  have hlen := r.length
  show wpAny (model X.prog X.w) X.A (subscriptTail e (.Slice none none (some (.UnaryOp .USub (.Constant (.int 1) k p1) p2)) p3) (.ref a) (.ref s4.heap.objs.size)) (EP X pins σ Q) X.xe { s4 with heap := s4.heap.push { cls := .type "slice", data := .fields #[.none, .none, vs] } }
  refine tail_any (ops := [.ref a, .ref s4.heap.objs.size]) ht.typeIs (PyProof.Rows.slot_tuple_getitem.lookup) ?_ (by with_unfolding_all rfl)
  refine getItem_tuple_rev ht (Heap.IsSliceOf.new _ .none .none vs) ps ?_ (by rw [List.size_toArray]; omega)
  refine ⟨.ref _, _, I5.laid (t' := s4.toks) (o := .tup xs.reverse) (fun b ob q => Heap.get?_push_of_some _ q) (Nat.le_refl _) ?_, rfl, q _ (I5.hok.fresh (Nat.le_refl _))⟩
  exact ⟨by rw [List.length_reverse]; exact hz, _, r.reverse, IsTup.new _ _⟩
theorem RepA.rev {K : PySem.W.Frag} {H : Hp} : ∀ {vs : List V} {ds : List Dt}, RepA K H vs ds → RepA K H vs.reverse ds.reverse
  | _, _, .nil => .nil
  | _, _, .cons h r => by
    rw [List.reverse_cons, List.reverse_cons]
    exact r.rev.app (.cons h .nil)
theorem RepA.rep {K : PySem.W.Frag} {H : Hp} {vs : List V} {ds : List Dt} (r : RepA K H vs ds) : ∀ n : Nat, RepA K H (List.replicate n vs).flatten (List.replicate n ds).flatten
  | 0 => .nil
  | n + 1 => by
    rw [List.replicate_succ, List.replicate_succ, List.flatten_cons, List.flatten_cons]
    exact r.app (r.rep n)
section
variable {K : PySem.W.Frag} {S S1 : Sta} {ρ : List (Option Dt)} {te : TE} {xs : List Dt}
theorem ev_revT (h : Ev K S S1 ρ te (Eq (.tup xs))) : Ev K S S1 ρ (tRevT K te) (Eq (.tup xs.reverse)) := fun σ H i s Q q =>
  h σ H i s _ fun v d H1 g1 i1 r1 e => by
    subst e
    obtain ⟨a, us, rfl, ht, ra⟩ := r1.tupI
    exact ⟨a, us, rfl, ht, fun p hp => q _ _ _ (g1.trans (same_new hp).gr) (S1.st i1 (same_new hp)) (.tup (SqT.of upd_same) (ra.rev.mono (same_new hp).gr)) rfl⟩
theorem rv_repT {k : Nat} (hx : xs ≠ []) (h2 : 2 ≤ k) (h3 : k ≤ 1000) (h4 : xs.length ≤ 1000) : Rv2 K S (rRepT K) (.tup xs) (.int k) (Eq (.tup (List.replicate k xs).flatten)) := fun H v u i r1 r2 Q q => by
  obtain ⟨a, vs, rfl, ht, ra⟩ := r1.tupI
  obtain rfl := r2.intI
  refine ⟨a, _, vs, rfl, rfl, ht, fun e => ?_, by omega, by omega, by rw [ra.len]; exact h4, fun p hp => ?_⟩
  · rw [e] at ra
    cases ra
    exact hx rfl
  · rw [Int.toNat_natCast]
    exact q _ _ _ (same_new hp).gr (S.st i (same_new hp)) (.tup (SqT.of upd_same) ((ra.rep k).mono (same_new hp).gr)) rfl
end
end Bf
namespace Bf
open PySem PySem.Spec PyProof.Rows L2
/-! ## The law of frames: frame_of that refuses, word_of -/
def iV : Dt → Int
  | .int i => i
  | _ => 0
def bitsI : Dt → List Int
  | .tup xs => xs.map iV
  | _ => []
theorem ints_back : ∀ {xs : List Dt}, (∀ x ∈ xs, isW x = true) → xs = (xs.map iV).map Dt.int
  | [], _ => rfl
  | x :: xs, h => by
    have hx := h x List.mem_cons_self
    have ih := ints_back (xs := xs) fun y hy => h y (List.mem_cons_of_mem _ hy)
    cases x with
    | int i =>
      show _ = Dt.int i :: (xs.map iV).map Dt.int
      rw [← ih]
    | _ => simp [isW, isIntD, isBlD] at hx
theorem bitsI_tI (ns : List Int) : bitsI (tI ns) = ns := by
  simp [bitsI, tI, iV, Function.comp_def]
theorem isWd_bits {b : Int} {x : Dt} (hb : 0 ≤ b) (h : isWd b x = true) : x = tI (bitsI x) ∧ isBits b.toNat (bitsI x) := by
  cases x with
  | tup xs =>
    simp only [isWd, Bool.and_eq_true, decide_eq_true_eq, List.all_eq_true] at h
    obtain ⟨h1, h2⟩ := h
    have hw : ∀ y ∈ xs, isW y = true := fun y hy => by
      have := h2 y hy
      cases y with
      | int i => rfl
      | _ => simp [isWF] at this
    have e := ints_back hw
    refine ⟨congrArg Dt.tup e, by simp [bitsI]; omega, fun z hz => ?_⟩
    obtain ⟨y, hy, rfl⟩ := List.mem_map.mp hz
    have := h2 y hy
    cases y with
    | int i =>
      simp only [isWF, Bool.and_eq_true, decide_eq_true_eq] at this
      show i = 0 ∨ i = 1
      omega
    | _ => simp [isWF] at this
  | _ => simp [isWd] at h
def r_foX (C : Addr) (ds : List Dt) (o : Out) : Prop := ∃ (T : Tab) (x : Dt), T.ok ∧ ds = [T.d, x] ∧ plS x = true ∧ o = if isWd T.b x = true then .ok (tI (T.frame (bitsI x))) else .er C "given" x
abbrev p_frame_ofX (K : PySem.W.Frag) (C : Addr) : Sp := spX K 2 (r_foX C)
abbrev t_frame_ofX (K : PySem.W.Frag) (C : Addr) (E : XK) : TS := (tSeq (tIfS (tNot (tB (tCall (p_is_word K) [] E0 (tCons (tVar 0) (tCons (tVar 1) tNil))))) (tRaiseB C "given" (fun cls d _ H => E cls d H) (tCons (tVar 1) tNil)) tNext) (t_frameT K))
section
variable {K : PySem.W.Frag} {S S1 S2 : Sta} {ρ : List (Option Dt)} {ds : List Dt} {d : Dt} {o : Out} {C : Addr} {E : XK} {ta tb te tl : TE} {T : Tab}
theorem so_frame_ofX (hmu : S.Mu) (hp : r_foX C ds o) (hw : ∀ C' f d, o = .er C' f d → XW K S C' f d E) : So K S S [] (t_frame_ofX K C E) (startD 5 ds) (PO o) := by
  obtain ⟨T, x, hT, rfl, hx, rfl⟩ := hp
  have hb := Tab.b1 hT
  by_cases hq : isWd T.b x = true
  · rw [if_pos hq]
    obtain ⟨ex, hbits⟩ := isWd_bits (by omega) hq
    generalize bitsI x = w at ex hbits
    subst ex
    refine so_ifF ((et_not (et_B (ev_is_word (ev_var rfl) hT (ev_var rfl) hx))).to (by rw [hq]; rfl)) (so_skip ?_)
    exact so_frameT hmu hT hbits rfl
  · rw [if_neg hq]
    have hq' : isWd T.b x = false := by simpa using hq
    refine so_ifT ((et_not (et_B (ev_is_word (ev_var rfl) hT (ev_var rfl) hx))).to (by rw [hq']; rfl)) ?_
    exact so_raise1B (ev_var rfl) (hw C "given" x (by rw [if_neg hq]))
theorem foX_word {w : List Int} (hT : T.ok) (hw : isBits T.b.toNat w) : r_foX C [T.d, tI w] (.ok (tI (T.frame w))) := by
  have hb := Tab.b1 hT
  have hl := hw.1
  exact ⟨T, tI w, hT, rfl, plS_tI (by omega), by rw [if_pos (isWd_word (by omega) hw), bitsI_tI]⟩
theorem ev_frame_ofX {w : List Int} {E : XK} (h : Ev K S S1 ρ ta (Eq T.d)) (hT : T.ok) (h2 : Ev K S1 S2 ρ tb (Eq (tI w))) (hw : isBits T.b.toNat w) : Ev K S S2 ρ (tCall (p_frame_ofX K C) [] E (tCons ta (tCons tb tNil))) (Eq (tI (T.frame w))) :=
  ev_callX (ea_cons h (ea_cons h2 ea_nil)) rfl (foX_word hT hw)
/-! ### word_of -/
theorem eqv_tI : ∀ (a b : List Int), PyData.eqv (py (tI a)) (py (tI b)) = decide (a = b)
  | [], [] => rfl
  | [], _ :: _ => rfl
  | _ :: _, [] => rfl
  | a :: as, b :: bs => by
    have ih := eqv_tI as bs
    simp only [tI, List.map_cons, py, pyA, PyData.eqv, PyData.eqvAll] at ih ⊢
    rw [ih]
    by_cases h1 : a = b <;> by_cases h2 : as = bs <;> simp [h1, h2]
def wordOf (T : Tab) (x : Dt) : Dt := match x with
  | .tup xs => if xs.all isW = true then (match (wordsL T.b.toNat).find? (fun w => decide (T.frame w = xs.map iV)) with
    | some w => tI w
    | none => .non) else .non
  | _ => .non
theorem words_all : ∀ (n : Nat) (w : List Int), isBits n w → w ∈ wordsL n
  | 0, w, h => by
    have : w = [] := List.eq_nil_of_length_eq_zero h.1
    subst this
    exact List.mem_singleton.mpr rfl
  | n + 1, w, h => by
    rw [← words_eq]
    cases w with
    | nil => exact absurd h.1 (by simp)
    | cons a w =>
      have ih := words_all n w ⟨by simpa using h.1, fun x hx => h.2 x (List.mem_cons_of_mem _ hx)⟩
      rw [← words_eq] at ih
      show a :: w ∈ (wordsR n).map (0 :: ·) ++ (wordsR n).map (1 :: ·)
      rcases h.2 a List.mem_cons_self with rfl | rfl
      · exact List.mem_append_left _ (List.mem_map.mpr ⟨w, ih, rfl⟩)
      · exact List.mem_append_right _ (List.mem_map.mpr ⟨w, ih, rfl⟩)
theorem wordOf_frame {w : List Int} (hT : T.ok) (hw : isBits T.b.toNat w) : wordOf T (tI (T.frame w)) = tI w := by
  have h1 : ((T.frame w).map Dt.int).all isW = true := by
    simp [isW, isIntD, isBlD]
  have h2 : ((T.frame w).map Dt.int).map iV = T.frame w := bitsI_tI _
  simp only [wordOf, tI, h1, if_true, h2]
  cases e : (wordsL T.b.toNat).find? (fun v => decide (T.frame v = T.frame w)) with
  | none =>
    have := List.find?_eq_none.mp e w (words_all _ _ hw)
    simp at this
  | some v =>
    have hv := List.find?_some e
    have hm := List.mem_of_find?_eq_some e
    have := frame_inj hT (wordsL_bits _ _ hm) hw (by simpa using hv)
    rw [this]
def r_wo (ds : List Dt) (d : Dt) : Prop := ∃ (T : Tab) (x : Dt), T.ok ∧ ds = [T.d, x] ∧ plS x = true ∧ d = wordOf T x
abbrev p_word_of (K : PySem.W.Frag) : Sp := spR K 2 r_wo
abbrev t_word_of (K : PySem.W.Frag) (C : Addr) : TS := (tSeq (tDrop (tCall (p_need_table K) [] E0 (tCons (tVar 0) tNil)))
    (tSeq (tIfS (tOr (tNot (tB (tCB (rIsi K) (tCons (tVar 1) (tCons (tC (.ty "tuple")) tNil))))) (tNot (tB (tCB (rAll K) (tCons (tLc (iTup K (tVar 1)) (gName 2) tYes (tCall (p_is_whole K) [] E0 (tCons (tVar 2) tNil)) [2]) tNil))))) (tRet (tC .non)) tNext)
    (tSeq (tFor (iList K (tCall (p_words_of K) [] E0 (tCons (tVar 0) tNil))) (gName 3) (tIfS (tTest (tOp (rEqD K) (tCall (p_frame_ofX K C) [] E0 (tCons (tVar 0) (tCons (tVar 3) tNil))) (tVar 1))) (tRet (tVar 3)) tNext))
    (tRet (tC .non)))))
theorem so_word_of (hmu : S.Mu) (hp : r_wo ds d) : So K S S [] (t_word_of K C) (startD 4 ds) (Pu d) := by
  obtain ⟨T, x, hT, rfl, hx, rfl⟩ := hp
  have ho := pl_okN (plS_pl hx)
  have hb := Tab.b1 hT
  refine so_drop (ev_need_table (ev_var rfl) hT) ?_
  cases x with
  | tup xs =>
    have hl : xs.length ≤ 100000 := of_decide_eq_true (Bool.and_eq_true_iff.mp hx).2
    have hxs := pl_tup (plS_pl hx)
    refine so_if (Φb := Eq (!(xs.all isW))) (et_orF ((et_not (et_B (ev_isTup (ev_var rfl) ho))).to rfl) (et_not (et_B (ev_allT (p := isW) hmu (ev_var rfl) (by decide) hl fun y hy => ev_is_whole (ev_var rfl) (pl_okN (hxs y hy)))))) (fun e => ?_) fun e => so_skip ?_
    · have e' : ¬ xs.all isW = true := by simpa using e
      exact so_ret1D ev_non (Sta.Le.refl S) (by simp only [wordOf, if_neg e'])
    · have e' : xs.all isW = true := by simpa using e
      have ex : xs = (xs.map iV).map Dt.int := ints_back (List.all_eq_true.mp e')
      have hwo : wordOf T (.tup xs) = (match (wordsL T.b.toNat).find? (fun w => decide (T.frame w = xs.map iV)) with | some w => tI w | none => .non) := by
        simp only [wordOf, if_pos e']
      rw [hwo]
      clear hwo
      generalize xs.map iV = ns at ex
      subst ex
      refine so_seqG (S1 := S) (M := fun ρ' => ∃ y, ρ' = [some T.d, some (tI ns), none, y] ∧ ∀ w ∈ wordsL T.b.toNat, ¬ T.frame w = ns) (Sta.Le.refl _)
        (so_forL (xs := wordsD T.b) (en_words_of (ev_var rfl) hT).ev (fun i ρ' => ∃ y, ρ' = [some T.d, some (tI ns), none, y] ∧ ∀ w ∈ (wordsL T.b.toNat).take i, ¬ T.frame w = ns) ⟨none, rfl, fun w hw => by simp at hw⟩ (fun i z ρ' hz hJ => ?_) (fun ρ' hJ => ?_)) fun ρ' hM => ?_
      · obtain ⟨y, rfl, hJ⟩ := hJ
        obtain ⟨w, hwi, rfl⟩ : ∃ w, (wordsL T.b.toNat)[i]? = some w ∧ z = tI w := by
          rw [wordsD, List.getElem?_map] at hz
          obtain ⟨w, h1, h2⟩ := Option.map_eq_some_iff.mp hz
          exact ⟨w, h1, h2.symm⟩
        have hwm := List.mem_of_getElem? hwi
        have hwb := wordsL_bits _ w hwm
        refine so_if0 (Φb := Eq (decide (T.frame w = ns))) ((et_test (ev_op (ev_frame_ofX (w := w) (ev_var rfl) hT (ev_var rfl) hwb) (ev_var rfl) (rv_eqD (cmp_tI _) (cmp_tI _)))).to (eqv_tI _ _)) (fun e => ?_) fun e => ?_
        · have e : T.frame w = ns := of_decide_eq_true e
          refine so_retD (ev_var rfl) (Sta.Le.refl _) ?_
          subst e
          have h2 := wordOf_frame hT hwb
          have h1 : ((T.frame w).map Dt.int).all isW = true := by simp [isW, isIntD, isBlD]
          simp only [wordOf, tI, h1, if_true] at h2
          rw [show ((T.frame w).map Dt.int).map iV = T.frame w from bitsI_tI _] at h2
          exact h2
        · have e : ¬ T.frame w = ns := of_decide_eq_false e
          refine so_next (Sta.Le.refl _) ⟨_, rfl, fun v hv => ?_⟩
          rw [List.take_add_one, hwi] at hv
          rcases List.mem_append.mp hv with hv | hv
          · exact hJ v hv
          · obtain rfl : v = w := by simpa using hv
            exact e
      · obtain ⟨y, rfl, hJ⟩ := hJ
        rw [show (wordsD T.b).length = (wordsL T.b.toNat).length by rw [wordsD, List.length_map], List.take_length] at hJ
        exact ⟨y, rfl, hJ⟩
      · obtain ⟨y, rfl, hM⟩ := hM
        refine so_retD ev_non (Sta.Le.refl _) ?_
        rw [List.find?_eq_none.mpr fun w hw => by simpa using hM w hw]
  | _ => exact so_ifT (et_orT ((et_not (et_B (ev_isTup (ev_var rfl) ho))).to rfl)) (so_ret1D ev_non (Sta.Le.refl S) rfl)
end
end Bf
namespace Bf
open PySem PySem.Spec PyProof.Rows L2
/-! ## The law of frames: what is said, a bent frame -/
def r_said5 (ds : List Dt) (d : Dt) : Prop := ∃ (T : Tab) (x : Dt), T.ok ∧ ds = [T.d, x] ∧ plS x = true ∧ d = if isWd T.b x = true then .lst [tI (T.frame (bitsI x))] else .tup [.str "word", x]
abbrev p__law_said5 (K : PySem.W.Frag) : Sp := spR K 2 r_said5
abbrev t__law_said5 (K : PySem.W.Frag) (C : Addr) : TS := (tSeq (tAsg (tTup (tCons (tC .non) (tCons (tC .non) tNil))) (gTup K 2 (gCons (gName 2) (gCons (gName 3) gNil))))
    (tSeq (fun D σ H => (fun W => (tAsg (tCallS (p_frame_ofX K C) (WE W) (tCons (tVar 0) (tCons (tVar 1) tNil))) (gName 3))) (wKp (fun cls => PySem.W.exmOne K cls (.ref C)) 4 (fun a cls d => (tAsg (tVar 4) (gName 2))) (fun _ _ _ _ => False) D) D σ H)
    (tRet (tIf (tTest (tOp rIsNo (tVar 2) (tC .non))) (tLst (tCons (tVar 3) tNil)) (tTup (tCons (tC (.str "word")) (tCons (tKFld [C] "given" (tVar 2)) tNil)))))))
section
variable {K : PySem.W.Frag} {S S1 S2 : Sta} {ρ : List (Option Dt)} {ds : List Dt} {d : Dt} {C : Addr} {ta tb te tl : TE} {tt : TT} {T : Tab} {vs : List Nat} {j : Nat} {xs : List Dt}
theorem so__law_said5 (hte : PySem.W.exmOne K (.ref C) (.ref C) = some true) (hp : r_said5 ds d) : So K S S [] (t__law_said5 K C) (startD 5 ds) (Pu d) := by
  obtain ⟨T, x, hT, rfl, hx, rfl⟩ := hp
  refine so_unp (is := [2, 3]) (xs := [.non, .non]) (ev_tup (ea_cons ev_non (ea_cons ev_non ea_nil)) (by show 2 ≤ sizeLine; decide)) rfl rfl rfl ?_
  by_cases hq : isWd T.b x = true
  · rw [if_pos hq]
    refine so_seqG (S1 := S) (M := fun ρ' => ρ' = [some T.d, some x, some .non, some (tI (T.frame (bitsI x))), none]) (Sta.Le.refl _) (so_keepOk fun W => so_set0D (ev_callXS (R := r_foX C) (d := tI (T.frame (bitsI x))) (ea_cons (ev_var rfl) (ea_cons (ev_var rfl) ea_nil)) rfl ⟨T, x, hT, rfl, hx, by rw [if_pos hq]⟩) (Sta.Le.refl _) rfl) fun ρ' hM => ?_
    subst hM
    exact so_retD (ev_ifT ((et_test (ev_op (ev_var rfl) ev_non rv_isNo)).to rfl) (ev_lst (ea_cons (ev_var rfl) ea_nil) (by show 1 ≤ sizeLine; decide))) (Sta.Le.refl _) rfl
  · rw [if_neg hq]
    refine so_seqG (S1 := S) (M := fun ρ' => ρ' = [some T.d, some x, some (.err C "given" x), some .non, none]) (Sta.Le.refl _) (so_keepEr (S1 := S) (C := C) (f := "given") (d := x) (i := 4) (j := 2) (tw := fun W => tAsg (tCallS (p_frame_ofX K C) (WE W) (tCons (tVar 0) (tCons (tVar 1) tNil))) (gName 3)) hte (by decide) (by show 4 < 5; decide) (fun W D σ H i s hW => ?_) (Sta.Le.refl _) rfl) fun ρ' hM => ?_
    · exact pr_asg (pr_callS (R := r_foX C) i s (ea_cons (ev_var rfl) (ea_cons (ev_var rfl) ea_nil)) rfl ⟨T, x, hT, rfl, hx, by rw [if_neg hq]⟩ hW)
    · subst hM
      exact so_retD (ev_ifF ((et_test (ev_op (ev_var rfl) ev_non rv_isNo)).to rfl) (ev_tup (ea_cons ev_str (ea_cons (ev_kfld (ev_var rfl) (by simp)) ea_nil)) (by show 2 ≤ sizeLine; decide))) (Sta.Le.refl _) rfl
theorem ev__law_said5 {x : Dt} (h : Ev K S S1 ρ ta (Eq T.d)) (hT : T.ok) (h2 : Ev K S1 S2 ρ tb (Eq x)) (hx : plS x = true) : Ev K S S2 ρ (tCall (p__law_said5 K) [] E0 (tCons ta (tCons tb tNil))) (Eq (if isWd T.b x = true then .lst [tI (T.frame (bitsI x))] else .tup [.str "word", x])) :=
  ev_callR (ea_cons h (ea_cons h2 ea_nil)) rfl ⟨T, x, hT, rfl, hx, rfl⟩
/-! ### [x for x in a tuple if tt]: how many -/
theorem ev_lcTn {p : Dt → Bool} (hmu : S.Mu) (h : Ev K S S ρ tl (Eq (.tup xs))) (hj : j ∈ vs) (hjl : j < ρ.length) (hz : xs.length ≤ 100000) (ht : ∀ x ∈ xs, EvT K S S ((wipeD ρ vs).set j (some x)) tt (Eq (p x))) :
    Ev K S S ρ (tLc (iTup K tl) (gName j) tt (tVar j) vs) (fun d => ∃ ds, d = .lst ds ∧ ds.length = (xs.filter p).length) := fun σ H i s Q q =>
  h σ H i s _ fun v d H1 g1 i1 r1 p1 => by
    subst p1
    obtain ⟨a, us, rfl, hT, ra⟩ := r1.tupI
    refine ⟨a, rfl, ⟨us, hT⟩, fun D hD => lc_tup (K := K) (a := a) (xs := us) (fun n H' => Gr H1 H' ∧ S.I H' ∧ ∃ acc ds, H' D = some (.lst acc) ∧ RepA K H' acc ds ∧ nolA ds = true ∧ ds.length = ((xs.take n).filter p).length) ⟨(same_new hD).gr, S.st i1 (same_new hD), [], [], upd_same, .nil, rfl, rfl⟩
      (fun n H' _ q' => q'.1.sqT hT) (fun n x H' hx q' => ?_) fun H' q' => ?_⟩
    · obtain ⟨g2, i2, acc, ds, ha, rac, hno, hln⟩ := q'
      obtain ⟨dx, hdx, rdx⟩ := ra.ta hx
      have hmem : dx ∈ xs := List.mem_of_getElem? hdx
      have htake : xs.take (n + 1) = xs.take n ++ [dx] := by rw [List.take_add_one, hdx]; rfl
      have hwl : ∀ (vs : List Nat) (ρ : List (Option Dt)), (wipeD ρ vs).length = ρ.length := fun vs ρ => by
        induction vs with
        | nil => rfl
        | cons v vs ih => show ((wipeD ρ vs).set v none).length = _; rw [List.length_set, ih]
      refine lc_turns (g := σ) (Z := fun _ _ => True) (i := n) (acc := acc) (ds := ds) (dx := dx) (p := p dx) (Φ := fun _ => True) (S := S) (S1 := S) (fun g i => hmu i1 g hD i) (Sta.Le.refl S) hD hj (s.mono g1) g2 i2 ha rac hno (rdx.mono g2) ?_ (ht dx hmem) (fun e => fun σ2 H2 i2 s2 Q2 q2 => ?_) (fun e H2 acc' d e1 en g3 i3 h3 r3 => ?_) fun e H2 g3 i3 h3 r3 => ?_
      · rw [hln]
        refine Nat.lt_of_le_of_lt (List.length_filter_le _ _) (Nat.lt_of_le_of_lt (List.length_take_le _ _) (Nat.lt_of_le_of_lt (Nat.le_trans (Nat.le_of_lt (List.getElem?_eq_some_iff.mp hdx).1) hz) (by decide)))
      · obtain ⟨v, hv, rv⟩ := s2.val j dx (by rw [List.getElem?_set_self (by rw [hwl]; exact hjl)])
        exact ⟨v, hv, q2 v (.raw v) H2 (Gr.refl _) i2 (.raw v) ⟨trivial, rfl⟩⟩
      · refine ⟨g3, i3, acc', ds ++ [d], h3, r3, by rw [nolA_app, hno]; simp [nolA, en], ?_⟩
        rw [htake, List.filter_append, List.length_append, List.length_append, hln]
        simp [List.filter_cons, e]
      · refine ⟨g3, i3, acc, ds, h3, r3, hno, ?_⟩
        rw [htake, List.filter_append, List.length_append, hln]
        simp [List.filter_cons, e]
    · obtain ⟨g2, i2, acc, ds, ha, rac, hno, hln⟩ := q'
      rw [ra.len, List.take_length] at hln
      exact q _ _ H' (g1.trans g2) i2 (.lst (SqL.of ha) rac) ⟨ds, rfl, hln⟩
end
/-! ### str(n) -/
def rStrI : List V → Hp → VK → Prop := fun xs H Q => ∃ i, xs = [.int i] ∧ i.natAbs.log2 < 1920 ∧ Q (.str (toString i)) H
theorem rc_strI {K : PySem.W.Frag} {S : Sta} {i : Int} (h : i.natAbs.log2 < 1920) : RvC K S rStrI [.int i] (Eq (.str (toString i))) := rc_at fun H vs _ r Q q => by
  obtain ⟨v, rfl, r1⟩ := r.oneI
  obtain rfl := r1.intI
  exact ⟨i, rfl, h, q _ (.str _)⟩
end Bf
namespace Bf
open PySem PySem.Spec PyProof.Rows L2
/-! ## a tuple times some number -/
def rRepA (K : PySem.W.Frag) : R2 := fun x y H Q => rRep01 K x y H Q ∨ rRepT K x y H Q
theorem op_repA {X : Cx} : OpR X (binaryOp .Mult) (rRepA X.K) := fun pins s σ H x y v u Q I rx ry h => h.elim (op_rep01 pins s σ H x y v u Q I rx ry) (op_repT pins s σ H x y v u Q I rx ry)
theorem rv_repA {K : PySem.W.Frag} {S : Sta} {xs : List Dt} {k : Nat} (hx : xs ≠ []) (h1 : 1 ≤ k) (h3 : k ≤ 1000) (h4 : xs.length ≤ 1000) : Rv2 K S (rRepA K) (.tup xs) (.int k) (Eq (.tup (List.replicate k xs).flatten)) := fun H v u i r1 r2 Q q => by
  by_cases h2 : 2 ≤ k
  · exact .inr (rv_repT hx h2 h3 h4 H v u i r1 r2 Q q)
  · obtain rfl : k = 1 := by omega
    refine .inl (rv_rep01 (b := true) hx H v u i r1 r2 Q fun v' d H' g i' r e => q v' d H' g i' r ?_)
    simpa using e
/-! ## frames are small -/
theorem runs_le {u : Int} (hu : 0 ≤ u) : ∀ (l : List Str) (p : Str) (c : Int), 0 ≤ c → (runs u p c l).length ≤ l.length + 1 ∧ ∀ x ∈ runs u p c l, 0 ≤ x ∧ x ≤ c + u * l.length
  | [], p, c, hc => ⟨Nat.le_refl _, fun x hx => by
      obtain rfl : x = c := by simpa [runs] using hx
      exact ⟨hc, by simp⟩⟩
  | y :: l, p, c, hc => by
    have hm : u * ((l.length + 1 : Nat) : Int) = u * l.length + u := by
      rw [Int.natCast_add, Int.mul_add]
      simp
    have h0 : 0 ≤ u * (l.length : Int) := Int.mul_nonneg hu (by omega)
    unfold runs
    rw [List.length_cons]
    split
    · obtain ⟨h1, h2⟩ := runs_le hu l y (c + u) (by omega)
      refine ⟨by omega, fun x hx => ?_⟩
      have := h2 x hx
      rw [hm]
      omega
    · obtain ⟨h1, h2⟩ := runs_le hu l y u hu
      refine ⟨by rw [List.length_cons]; omega, fun x hx => ?_⟩
      rw [hm]
      rcases List.mem_cons.mp hx with rfl | hx
      · omega
      · have := h2 x hx
        omega
def frOk (fr : List Int) : Prop := 1 ≤ fr.length ∧ fr.length ≤ 21 ∧ ∀ x ∈ fr, 0 ≤ x ∧ x ≤ 2000000
theorem frame_ok {T : Tab} (hT : T.ok) {w : List Int} (hw : isBits T.b.toNat w) : frOk (T.frame w) := by
  have hb := Tab.b1 hT
  have hwl : (w.length : Int) = T.b := by rw [hw.1]; exact Int.toNat_of_nonneg (by omega)
  have hne : w ≠ [] := fun q => by rw [q] at hwl; simp at hwl; omega
  have hw8 : w.length ≤ 8 := by omega
  cases T with
  | ha u b =>
    have e : (Tab.ha u b).frame w = u :: runs u "gap" u (cutG (hvs w)) := by
      have := frame_ha (u := u) (b := b) w 0 "gap" (by rw [Int.zero_add]; exact hwl) hne (.inr rfl)
      have e2 := ahead_app (.ha u b) 0 [u] [] "gap" w
      rw [this] at e2
      exact e2
    have hu := hT.1
    have hcl : (cutG (hvs w)).length ≤ 16 := by
      have : (cutG (hvs w)).length ≤ (hvs w).length := by
        unfold cutG
        split
        · rw [List.length_dropLast]; omega
        · exact Nat.le_refl _
      rw [hvs_len] at this
      omega
    obtain ⟨h1, h2⟩ := runs_le (u := u) (by have := hu.1; omega) (cutG (hvs w)) "gap" u (by have := hu.1; omega)
    rw [e]
    have hu1 := hu.1
    have hu2 := hu.2
    refine ⟨by rw [List.length_cons]; omega, by rw [List.length_cons]; omega, fun x hx => ?_⟩
    rcases List.mem_cons.mp hx with rfl | hx
    · omega
    · obtain ⟨a, b⟩ := h2 x hx
      have : u * ((cutG (hvs w)).length : Int) ≤ 99999 * 16 := Int.le_trans (Int.mul_le_mul_of_nonneg_left (show ((cutG (hvs w)).length : Int) ≤ 16 by omega) (by omega)) (Int.mul_le_mul_of_nonneg_right hu2 (by decide))
      omega
  | pa h z1 z2 o1 o2 s b =>
    have e : (Tab.pa h z1 z2 o1 o2 s b).frame w = h ++ (paBits z1 z2 o1 o2 w ++ [s]) := frame_pa (h := h) (z1 := z1) (z2 := z2) (o1 := o1) (o2 := o2) (st := s) (b := b) w 0 h "" (by rw [Int.zero_add]; exact hwl) hne
    have hd : ∀ y : Int, dur y → 0 ≤ y ∧ y ≤ 2000000 := fun y hy => by
      have h1 := hy.1
      have h2 := hy.2
      omega
    have hh : h.length ≤ 4 := by have := hT.1; omega
    rw [e]
    refine ⟨by simp only [List.length_append, List.length_cons]; omega, by simp only [List.length_append, paBits_len, List.length_cons, List.length_nil]; omega, fun x hx => ?_⟩
    rcases List.mem_append.mp hx with hx | hx
    · exact hd x (hT.2.1 x hx)
    · rcases List.mem_append.mp hx with hx | hx
      · obtain ⟨bit, _, hx⟩ := List.mem_flatMap.mp hx
        split at hx <;> simp only [List.mem_cons, List.not_mem_nil, or_false] at hx <;> rcases hx with rfl | rfl
        · exact hd _ hT.2.2.2.2.1
        · exact hd _ hT.2.2.2.2.2.1
        · exact hd _ hT.2.2.1
        · exact hd _ hT.2.2.2.1
      · obtain rfl := List.mem_singleton.mp hx
        exact hd _ hT.2.2.2.2.2.2.2.1
/-! ## a frame with one thing otherwise -/
def okPart : Dt → Bool
  | .int _ => true
  | .non => true
  | .bl _ => true
  | .str _ => true
  | .dic => true
  | .lst xs => plA xs
  | _ => false
theorem okPart_pl {x : Dt} (h : okPart x = true) : pl x = true := by
  cases x <;> first | rfl | (simpa [okPart, pl] using h) | simp [okPart] at h
def bentOk (d : Dt) : Prop := (∃ xs, d = .tup xs ∧ xs.length ≤ 64 ∧ ∀ x ∈ xs, okPart x = true) ∨ (isTupD d = false ∧ plS d = true)
def bentR : List Dt → Dt → Prop := fun _ d => bentOk d
abbrev p__law_bent (K : PySem.W.Frag) : Sp := spD K 1 (fun ds => ∃ fr, ds = [tI fr] ∧ frOk fr) bentR 5
abbrev r__law_bent (K : PySem.W.Frag) : TS := (tSeq (tAsg (tLst (tCons (tOp (rCatA K) (tOp (rCatA K) (tSl (rSlA K) (tVar 1) tNoPart (tPart (tVar 2))) (tTup (tCons (tVar 4) tNil))) (tSl (rSlA K) (tVar 1) (tPart (tOp rAddI (tVar 2) (tC (.int 1)))) tNoPart)) (tCons (tOp (rCatA K) (tSl (rSlA K) (tVar 1) tNoPart (tPart (tVar 2))) (tSl (rSlA K) (tVar 1) (tPart (tOp rAddI (tVar 2) (tC (.int 1)))) tNoPart)) tNil))) (gName 5))
    (tSeq (tAsg (tOp (rCatS K) (tVar 5) (tLst (tCons (tOp (rCatA K) (tVar 1) (tSl (rSlA K) (tVar 1) (tPart (tUn rNegI (tC (.int 1)))) tNoPart)) (tCons (tCB (rLstO K) (tCons (tVar 1) tNil)) tNil)))) (gName 5))
    (tSeq (tAsg (tOp (rCatS K) (tVar 5) (tLst (tCons (tSl (rSlA K) (tVar 1) tNoPart (tPart (tUn rNegI (tC (.int 1))))) (tCons (tTup tNil) (tCons (tC .non) (tCons (tOp (rIx K) (tVar 1) (tC (.int 0))) (tCons (tOp (rCatA K) (tVar 1) (tTup (tCons (tC (.int 1)) (tCons (tC (.int 1)) tNil)))) tNil))))))) (gName 5))
    (tRet (tCall (p__law_pick K) [] E0 (tCons (tVar 0) (tCons (tOp (rCatS K) (tVar 5) (tLst (tCons (tRevT K (tVar 1)) tNil))) tNil)))))))
abbrev t__law_bent (K : PySem.W.Frag) : TS := (tSeq (tAsg (tCall (p__law_next K) [] E0 (tCons (tVar 0) (tCons (tCB (rLen K) (tCons (tVar 1) tNil)) tNil))) (gName 2))
    (tSeq (tAsg (tOp (rIx K) (tVar 1) (tVar 2)) (gName 3))
    (tSeq (tAsg (tCall (p__law_pick K) [] E0 (tCons (tVar 0) (tCons (tLst (tCons (tOp rAddI (tVar 3) (tC (.int 1))) (tCons (tOp rSubI (tVar 3) (tC (.int 1))) (tCons (tOp rMulW (tVar 3) (tC (.int 2))) (tCons (tC .non) (tCons (tC (.bl true)) tNil)))))) tNil))) (gName 4))
    (tSeq (tIfS (tTest (tOp rEq (tCall (p__law_next K) [] E0 (tCons (tVar 0) (tCons (tC (.int 2)) tNil))) (tC (.int 0)))) (tAsg (tCall (p__law_pick K) [] E0 (tCons (tVar 0) (tCons (tLst (tCons (tCB rStrI (tCons (tVar 3) tNil)) (tCons (tC (.int 0)) (tCons (tC (.int 1)) (tCons (tLst (tCons (tC (.int 1)) tNil)) (tCons tDNewK tNil)))))) tNil))) (gName 4)) tNext)
    (r__law_bent K)))))
section
variable {K : PySem.W.Frag} {a c : Addr} {cs : List Int} {n : Nat} {ds : List Dt}
theorem so__law_bent (hc : cs ≠ []) (hn : n + 5 ≤ 1000000) (hp : ∃ fr, ds = [tI fr] ∧ frOk fr) :
    So K (DW K a c cs n) (DW K a c cs (n + 5)) [] (t__law_bent K) (startD 6 (.raw (.ref a) :: ds)) { nx := fun _ => bentR ds .non, rt := bentR ds } := by
  obtain ⟨fr, rfl, f1, f21, fb⟩ := hp
  have hl : (fr.map Dt.int).length = fr.length := List.length_map _
  refine so_set (ev__law_next (n := n) (ea_cons (ev_var rfl) (ea_cons (ev_lenT (xs := fr.map Dt.int) (ev_var rfl)) ea_nil)) hc (by omega) (by rw [hl]; omega) (Nat.lt_of_le_of_lt (show ((fr.map Dt.int).length : Int).natAbs ≤ 21 by omega) (by decide))) fun d hd => ?_
  obtain ⟨r, rfl, r0, r1⟩ := hd
  rw [hl] at r1
  obtain ⟨size, hsz⟩ : ∃ size, fr[r.toNat]? = some size := ⟨fr[r.toNat]'(by omega), List.getElem?_eq_getElem _⟩
  obtain ⟨s0, s1⟩ := fb size (List.mem_of_getElem? hsz)
  have hix : atI (fr.map Dt.int) r = some (.int size) := by
    have := atI_nat (xs := fr.map Dt.int) (j := r.toNat) (v := .int size) (by rw [List.getElem?_map, hsz]; rfl)
    rwa [show ((r.toNat : Nat) : Int) = r by omega] at this
  obtain ⟨f0, hf0⟩ : ∃ f0, fr[0]? = some f0 := ⟨fr[0]'(by omega), List.getElem?_eq_getElem _⟩
  refine so_setD (d := .int size) (ev_ixT (ev_var rfl) (ev_var rfl) hix) ?_
  -- from here on, whatever the part is
  have rest : ∀ (y : Dt) (m : Nat), m + 1 ≤ n + 5 → okPart y = true → So K (DW K a c cs m) (DW K a c cs (n + 5)) [] (r__law_bent K) [some (.raw (.ref a)), some (tI fr), some (.int r), some (.int size), some y, none] { nx := fun _ => bentR [tI fr] .non, rt := bentR [tI fr] } := fun y m hm hy => by
    have hI : ∀ x ∈ fr.map Dt.int, okPart x = true := fun x hx => by
      obtain ⟨i, _, rfl⟩ := List.mem_map.mp hx
      rfl
    have lA := cutD_le (fr.map Dt.int) none (some r)
    have lB := cutD_le (fr.map Dt.int) (some (r + 1)) none
    have lC := cutD_le (fr.map Dt.int) (some (-1)) none
    have lD := cutD_le (fr.map Dt.int) none (some (-1))
    have big : ∀ k : Nat, k ≤ 64 → k ≤ sizeLine := fun k hk => Nat.le_trans hk (by decide)
    have hsp : ∀ {S : Sta} {ρ : List (Option Dt)}, ρ[1]? = some (some (tI fr)) → Ev K S S ρ (tVar 1) (Eq (.tup (fr.map Dt.int))) := fun h => ev_var h
    refine so_setD (d := .lst [.tup (cutD (fr.map Dt.int) none (some r) ++ [y] ++ cutD (fr.map Dt.int) (some (r + 1)) none), .tup (cutD (fr.map Dt.int) none (some r) ++ cutD (fr.map Dt.int) (some (r + 1)) none)]) (ev_lst (ea_cons (ev_op (ev_op (ev_slT (hsp rfl) eo_none (eo_some (ev_var rfl))) (ev_tup (ea_cons (ev_var (d := y) rfl) ea_nil) (by show 1 ≤ sizeLine; decide)) (rv_catT (big _ (by simp only [List.length_cons, List.length_nil]; omega)))) (ev_slT (hsp rfl) (eo_some (ev_op (ev_var rfl) ev_int rv_add)) eo_none) (rv_catT (big _ (by simp only [List.length_append, List.length_cons, List.length_nil]; omega)))) (ea_cons (ev_op (ev_slT (hsp rfl) eo_none (eo_some (ev_var rfl))) (ev_slT (hsp rfl) (eo_some (ev_op (ev_var rfl) ev_int rv_add)) eo_none) (rv_catT (big _ (by omega)))) ea_nil)) (by show 2 ≤ sizeLine; decide)) ?_
    refine so_setD (ev_op (ev_var rfl) (ev_lst (ea_cons (ev_op (hsp rfl) (ev_slT (hsp rfl) (eo_some (ev_neg ev_int)) eo_none) (rv_catT (big _ (by omega)))) (ea_cons (ev_cb (ea_cons (hsp rfl) ea_nil) rc_lstT) ea_nil)) (by show 2 ≤ sizeLine; decide)) (rv_catL (big _ (by show 4 ≤ 64; decide)))) ?_
    refine so_setD (ev_op (ev_var rfl) (ev_lst (ea_cons (ev_slT (hsp rfl) eo_none (eo_some (ev_neg ev_int))) (ea_cons (ev_tup ea_nil (by decide)) (ea_cons ev_non (ea_cons (ev_ixT (d := .int f0) (hsp rfl) ev_int (atI_nat (j := 0) (by rw [List.getElem?_map, hf0]; rfl))) (ea_cons (ev_op (hsp rfl) (ev_tup (ea_cons ev_int (ea_cons ev_int ea_nil)) (by show 2 ≤ sizeLine; decide)) (rv_catT (big _ (by simp only [List.length_cons, List.length_nil]; omega)))) ea_nil))))) (by show 5 ≤ sizeLine; decide)) (rv_catL (big _ (by show 9 ≤ 64; decide)))) ?_
    refine so_ret (ev__law_pick (n := m) (ea_cons (ev_var rfl) (ea_cons (ev_op (ev_var rfl) (ev_lst (ea_cons (ev_revT (hsp rfl)) ea_nil) (by show 1 ≤ sizeLine; decide)) (rv_catL (big _ (by show 10 ≤ 64; decide)))) ea_nil)) hc (by omega) (by simp) (by show 10 ≤ 100000; decide)) (dw_le (by omega)) fun d hd => ?_
    simp only [List.cons_append, List.nil_append, List.mem_cons, List.not_mem_nil, or_false] at hd
    rcases hd with rfl | rfl | rfl | rfl | rfl | rfl | rfl | rfl | rfl | rfl
    · refine .inl ⟨_, rfl, by simp only [List.length_append, List.length_cons, List.length_nil]; omega, fun x hx => ?_⟩
      rcases List.mem_append.mp hx with hx | hx
      · rcases List.mem_append.mp hx with hx | hx
        · exact hI x (cutD_sub hx)
        · obtain rfl := List.mem_singleton.mp hx
          exact hy
      · exact hI x (cutD_sub hx)
    · refine .inl ⟨_, rfl, by simp only [List.length_append]; omega, fun x hx => ?_⟩
      rcases List.mem_append.mp hx with hx | hx <;> exact hI x (cutD_sub hx)
    · refine .inl ⟨_, rfl, by simp only [List.length_append]; omega, fun x hx => ?_⟩
      rcases List.mem_append.mp hx with hx | hx
      · exact hI x hx
      · exact hI x (cutD_sub hx)
    · refine .inr ⟨rfl, ?_⟩
      simp only [plS, pl, plA_ints, Bool.and_self, Bool.and_true]
    · exact .inl ⟨_, rfl, by omega, fun x hx => hI x (cutD_sub hx)⟩
    · exact .inl ⟨_, rfl, by show 0 ≤ 64; decide, fun x hx => nomatch hx⟩
    · exact .inr ⟨rfl, rfl⟩
    · exact .inr ⟨rfl, rfl⟩
    · refine .inl ⟨_, rfl, by simp only [List.length_append, List.length_cons, List.length_nil]; omega, fun x hx => ?_⟩
      rcases List.mem_append.mp hx with hx | hx
      · exact hI x hx
      · simp only [List.mem_cons, List.not_mem_nil, or_false] at hx
        rcases hx with rfl | rfl <;> rfl
    · exact .inl ⟨_, rfl, by rw [List.length_reverse]; omega, fun x hx => hI x (List.mem_reverse.mp hx)⟩
  refine so_set (ev__law_pick (n := n + 1) (xs := [.int (size + 1), .int (size - 1), .int (size * 2), .non, .bl true]) (ea_cons (ev_var rfl) (ea_cons (ev_lst (ea_cons (ev_op (ev_var rfl) ev_int rv_add) (ea_cons (ev_op (ev_var rfl) ev_int rv_sub) (ea_cons (ev_op (ev_var rfl) ev_int (rv_mul (cmul s0 (by omega) (by decide) (by decide)))) (ea_cons ev_non (ea_cons ev_bl ea_nil))))) (by show 5 ≤ sizeLine; decide)) ea_nil)) hc (by omega) (by simp) (by show 5 ≤ 100000; decide)) fun y hy => ?_
  have hy1 : okPart y = true := by
    simp only [List.mem_cons, List.not_mem_nil, or_false] at hy
    rcases hy with rfl | rfl | rfl | rfl | rfl <;> rfl
  refine so_if (Φb := fun _ => True) (et_testP (ev_opP (Θ := fun d => ∃ k, d = .bl k ∧ True) (ev__law_next (n := n + 1 + 1) (ea_cons (ev_var rfl) (ea_cons ev_int ea_nil)) hc (by omega) (by decide) (by decide)) ev_int fun x y ⟨r, e, _⟩ e2 => ?_)) (fun _ => ?_) fun _ => so_skip (rest y (n + 1 + 1 + 1) (by omega) hy1)
  · subst e e2
    exact fun H v u i r1 r2 Q q => rv_eqI H v u i r1 r2 Q fun v' d' H' g i' r e => q v' d' H' g i' r ⟨_, e.symm, trivial⟩
  · refine so_set (ev__law_pick (n := n + 1 + 1 + 1) (xs := [.str (toString size), .int 0, .int 1, .lst [.int 1], .dic]) (ea_cons (ev_var rfl) (ea_cons (ev_lst (ea_cons (ev_cb (ea_cons (ev_var rfl) ea_nil) (rc_strI ?_)) (ea_cons ev_int (ea_cons ev_int (ea_cons (ev_lst (ea_cons ev_int ea_nil) (by show 1 ≤ sizeLine; decide)) (ea_cons ev_dic ea_nil))))) (by show 5 ≤ sizeLine; decide)) ea_nil)) hc (by omega) (by simp) (by show 5 ≤ 100000; decide)) fun z hz => ?_
    · by_cases h0 : size.natAbs = 0
      · rw [h0]; decide
      · exact Nat.lt_of_lt_of_le ((Nat.log2_lt h0).mpr (show size.natAbs < 2 ^ 21 by omega)) (by decide)
    · refine rest z (n + 1 + 1 + 1 + 1) (by omega) ?_
      simp only [List.mem_cons, List.not_mem_nil, or_false] at hz
      rcases hz with rfl | rfl | rfl | rfl | rfl <;> rfl
theorem ev__law_bent {S : Sta} {ρ : List (Option Dt)} {ta tm : TE} {fr : List Int} (h : EvA K S (DW K a c cs n) ρ (tCons ta (tCons tm tNil)) (Eq [.raw (.ref a), tI fr])) (hc : cs ≠ []) (hn : n + 5 ≤ 1000000) (hf : frOk fr) :
    Ev K S (DW K a c cs (n + 5)) ρ (tCall (p__law_bent K) [] E0 (tCons ta (tCons tm tNil))) bentOk := (ev_callD (ds := [tI fr]) h rfl ⟨fr, rfl, hf⟩ hc hn).weak fun d h => h
end
end Bf
namespace Bf
open PySem PySem.Spec PyProof.Rows L2
section
variable {K : PySem.W.Frag} {S : Sta} {ds xs : List Dt} {d : Dt}
/-! ## the law's own frames and places -/
abbrev p__law_begin_of (K : PySem.W.Frag) : Sp := spR K 1 r_be
abbrev t__law_begin_of (K : PySem.W.Frag) : TS := (tRet (tIf (tTest (tOp rEq (tOp (rIx K) (tVar 0) (tC (.int 0))) (tC (.str "halves")))) (tTup (tCons (tC (.int 0)) (tCons (tTup (tCons (tOp (rIx K) (tVar 0) (tC (.int 1))) tNil)) (tCons (tC (.str "gap")) tNil)))) (tTup (tCons (tC (.int 0)) (tCons (tOp (rIx K) (tVar 0) (tC (.int 1))) (tCons (tC (.str "")) tNil))))))
theorem so__law_begin_of (hp : r_be ds d) : So K S S [] (t__law_begin_of K) (startD 1 ds) (Pu d) := by
  obtain ⟨T, hT, rfl, rfl⟩ := hp
  cases T with
  | ha u b => exact so_retD (ev_ifT ((et_test (ev_op (ev_ixT (ev_var rfl) ev_int (atI_nat (j := 0) rfl)) ev_str rv_eqS)).to rfl) (ev_tup (ea_cons ev_int (ea_cons (ev_tup (ea_cons (ev_ixT (ev_var rfl) ev_int (atI_nat (j := 1) rfl)) ea_nil) (by show 1 ≤ sizeLine; decide)) (ea_cons ev_str ea_nil))) (by show 3 ≤ sizeLine; decide))) (Sta.Le.refl _) rfl
  | pa h z1 z2 o1 o2 s b => exact so_retD (ev_ifF ((et_test (ev_op (ev_ixT (ev_var rfl) ev_int (atI_nat (j := 0) rfl)) ev_str rv_eqS)).to rfl) (ev_tup (ea_cons ev_int (ea_cons (ev_ixT (ev_var rfl) ev_int (atI_nat (j := 1) rfl)) (ea_cons ev_str ea_nil))) (by show 3 ≤ sizeLine; decide))) (Sta.Le.refl _) rfl
def r_ls (ds : List Dt) (d : Dt) : Prop := ∃ (T : Tab) (s : Site) (bit : Int), T.ok ∧ (bit = 0 ∨ bit = 1) ∧ ds = [T.d, s.d, .int bit] ∧ d = (T.sett s bit).d
abbrev p__law_settled (K : PySem.W.Frag) : Sp := spR K 3 r_ls
abbrev t__law_settled (K : PySem.W.Frag) : TS := (tSeq (tPar 3 4 (tCons (tOp rAddI (tOp (rIx K) (tVar 1) (tC (.int 0))) (tC (.int 1))) (tCons (tOp (rIx K) (tVar 1) (tC (.int 2))) tNil)))
    (tSeq (tIfS (tTest (tOp rEq (tOp (rIx K) (tVar 0) (tC (.int 0))) (tC (.str "pairs")))) (tRet (tTup (tCons (tVar 3) (tCons (tOp (rCatA K) (tOp (rIx K) (tVar 0) (tOp rAddI (tC (.int 2)) (tVar 2))) (tOp (rRep01 K) (tTup (tCons (tOp (rIx K) (tVar 0) (tC (.int 4))) tNil)) (tCB rInt1 (tCons (tOp rEq (tVar 3) (tOp (rIx K) (tVar 0) (tC (.int 5)))) tNil)))) (tCons (tC (.str "")) tNil))))) tNext)
    (tSeq (tAsg (tTup (tCons (tOp (rIx K) (tVar 0) (tC (.int 1))) (tCons (tOp (rIx K) (tVar 0) (tC (.int 1))) tNil))) (gName 5))
    (tSeq (tIfS (tTest (tOp rEq (tVar 4) (tOp (rIxL K) (tLst (tCons (tC (.str "gap")) (tCons (tC (.str "pulse")) tNil))) (tVar 2)))) (tPar 5 4 (tCons (tTup (tCons (tOp rMulW (tOp (rIx K) (tVar 0) (tC (.int 1))) (tC (.int 2))) tNil)) (tCons (tOp (rIxL K) (tLst (tCons (tC (.str "pulse")) (tCons (tC (.str "gap")) tNil))) (tVar 2)) tNil))) tNext)
    (tSeq (tIfS (tAnd (tTest (tOp rEq (tVar 3) (tOp (rIx K) (tVar 0) (tC (.int 2))))) (tTest (tOp rEq (tVar 4) (tC (.str "pulse"))))) (tRet (tTup (tCons (tVar 3) (tCons (tOp (rCatA K) (tVar 5) (tTup (tCons (tOp (rIx K) (tVar 0) (tC (.int 1))) tNil))) (tCons (tC (.str "gap")) tNil))))) tNext)
    (tRet (tTup (tCons (tVar 3) (tCons (tVar 5) (tCons (tVar 4) tNil))))))))))
theorem so__law_settled (hp : r_ls ds d) : So K S S [] (t__law_settled K) (startD 6 ds) (Pu d) := by
  obtain ⟨T, s, bit, hT, hbit, rfl, rfl⟩ := hp
  refine so_par (Φl := Eq [.int (s.k + 1), .str s.o]) (ea_cons (ev_op (ev_siteK (s := s) (ev_var rfl)) ev_int rv_add) (ea_cons (ev_siteO (s := s) (ev_var rfl)) ea_nil)) (fun l e => by subst e; rfl) fun x y hxy => ?_
  cases hxy
  cases T with
  | pa h z1 z2 o1 o2 st b =>
    refine so_ifT ((et_test (ev_op (ev_ixT (ev_var rfl) ev_int (atI_nat (j := 0) rfl)) ev_str rv_eqS)).to rfl) ?_
    have hz : ∀ ρ : List (Option Dt), ρ[0]? = some (some (Tab.pa h z1 z2 o1 o2 st b).d) → ρ[2]? = some (some (.int bit)) → Ev K S S ρ (tOp (rIx K) (tVar 0) (tOp rAddI (tC (.int 2)) (tVar 2))) (Eq (tI (if bit = 1 then [o1, o2] else [z1, z2]))) := fun ρ h0 h2 => by
      rcases hbit with rfl | rfl
      · exact ev_ixT (ev_var h0) (ev_op ev_int (ev_var h2) rv_add) (atI_nat (j := 2) rfl)
      · exact ev_ixT (ev_var h0) (ev_op ev_int (ev_var h2) rv_add) (atI_nat (j := 3) rfl)
    have hlen : ((if bit = 1 then [o1, o2] else [z1, z2]).map Dt.int).length = 2 := by split <;> rfl
    refine so_ret1D (ev_tup (ea_cons (ev_var rfl) (ea_cons (ev_op (hz _ rfl rfl) (ev_op (ev_tup (ea_cons (ev_ixT (d := .int st) (ev_var rfl) ev_int (atI_nat (j := 4) rfl)) ea_nil) (by show 1 ≤ sizeLine; decide)) (ev_cb (ea_cons (ev_op (ev_var rfl) (ev_ixT (d := .int b) (ev_var rfl) ev_int (atI_nat (j := 5) rfl)) rv_eqI) ea_nil) rc_intB) (rv_rep01 (by simp))) (rv_catT (by rw [hlen]; refine Nat.le_trans (show _ ≤ 3 from ?_) (by decide); split <;> simp))) (ea_cons ev_str ea_nil))) (by show 3 ≤ sizeLine; decide)) (Sta.Le.refl _) ?_
    simp only [Tab.sett, Site.d, tI, List.map_append]
    by_cases hk : s.k + 1 = b <;> simp [hk]
  | ha u b =>
    refine so_ifF ((et_test (ev_op (ev_ixT (ev_var rfl) ev_int (atI_nat (j := 0) rfl)) ev_str rv_eqS)).to rfl) (so_skip ?_)
    have hu : ∀ ρ : List (Option Dt), ρ[0]? = some (some (Tab.ha u b).d) → Ev K S S ρ (tOp (rIx K) (tVar 0) (tC (.int 1))) (Eq (.int u)) := fun ρ h0 => ev_ixT (ev_var h0) ev_int (atI_nat (j := 1) rfl)
    refine so_setD (d := tI [u, u]) (ev_tup (ea_cons (hu _ rfl) (ea_cons (hu _ rfl) ea_nil)) (by show 2 ≤ sizeLine; decide)) ?_
    have hlv : ∀ (a b' : Str) (ρ : List (Option Dt)), ρ[2]? = some (some (.int bit)) → Ev K S S ρ (tOp (rIxL K) (tLst (tCons (tC (.str a)) (tCons (tC (.str b')) tNil))) (tVar 2)) (Eq (.str (if bit = 1 then b' else a))) := fun a b' ρ h2 => by
      rcases hbit with rfl | rfl
      · exact ev_op (ev_lst (ea_cons ev_str (ea_cons ev_str ea_nil)) (by show 2 ≤ sizeLine; decide)) (ev_var h2) (rv_ixL (atI_nat (j := 0) rfl))
      · exact ev_op (ev_lst (ea_cons ev_str (ea_cons ev_str ea_nil)) (by show 2 ≤ sizeLine; decide)) (ev_var h2) (rv_ixL (atI_nat (j := 1) rfl))
    have rest : ∀ x : List Int × Str, haP u bit s.o = x → x.1.length ≤ 2 → So K S S [] (tSeq (tIfS (tAnd (tTest (tOp rEq (tVar 3) (tOp (rIx K) (tVar 0) (tC (.int 2))))) (tTest (tOp rEq (tVar 4) (tC (.str "pulse"))))) (tRet (tTup (tCons (tVar 3) (tCons (tOp (rCatA K) (tVar 5) (tTup (tCons (tOp (rIx K) (tVar 0) (tC (.int 1))) tNil))) (tCons (tC (.str "gap")) tNil))))) tNext)
        (tRet (tTup (tCons (tVar 3) (tCons (tVar 5) (tCons (tVar 4) tNil))))))
        [some (Tab.ha u b).d, some s.d, some (.int bit), some (.int (s.k + 1)), some (.str x.2), some (tI x.1)] (Pu ((Tab.ha u b).sett s bit).d) := fun x hx hl => by
      refine so_ifD (k := decide (s.k + 1 = b) && decide (x.2 = "pulse")) (et_and (et_test (ev_op (ev_var rfl) (ev_ixT (d := .int b) (ev_var rfl) ev_int (atI_nat (j := 2) rfl)) rv_eqI)) fun _ => et_test (ev_op (ev_var rfl) ev_str rv_eqS)) (fun e => ?_) fun e => so_skip ?_
      · refine so_ret1D (ev_tup (ea_cons (ev_var rfl) (ea_cons (ev_op (ev_var rfl) (ev_tup (ea_cons (hu _ rfl) ea_nil) (by show 1 ≤ sizeLine; decide)) (rv_catT (by rw [List.length_map]; exact Nat.le_trans (show _ ≤ 3 by simp only [List.length_cons, List.length_nil]; omega) (by decide)))) (ea_cons ev_str ea_nil))) (by show 3 ≤ sizeLine; decide)) (Sta.Le.refl _) ?_
        simp only [Tab.sett, haS, hx, e, if_true]
        simp [Site.d, tI]
      · refine so_retD (ev_tup (ea_cons (ev_var rfl) (ea_cons (ev_var rfl) (ea_cons (ev_var rfl) ea_nil))) (by show 3 ≤ sizeLine; decide)) (Sta.Le.refl _) ?_
        simp only [Tab.sett, haS, hx, e]
        simp [Site.d]
    have ho : ohS (fhS bit) = (if bit = 1 then ("gap" : Str) else "pulse") := by
      rcases hbit with rfl | rfl <;> rfl
    refine so_if (Φb := Eq (decide (s.o = fhS bit))) (et_test (ev_op (ev_var rfl) (hlv _ _ _ rfl) rv_eqS)) (fun e => ?_) fun e => so_skip ?_
    · have e' : s.o = fhS bit := of_decide_eq_true e
      refine so_par (Φl := Eq [tI [2 * u], .str (ohS s.o)]) ((ea_cons ((ev_tup (ea_cons (ev_op (hu _ rfl) ev_int (rv_mul (cmul (by have := hT.1.1; omega) (by have := hT.1.2; omega) (by decide) (by decide)))) ea_nil) (by show 1 ≤ sizeLine; decide)).to (y := tI [2 * u]) (by rw [Int.mul_comm]; rfl)) (ea_cons ((hlv "pulse" "gap" _ rfl).to (y := .str (ohS s.o)) (by rw [e', ho])) ea_nil))) (fun l e => by subst e; rfl) fun x y hxy => ?_
      cases hxy
      exact rest ([2 * u], ohS s.o) (by rw [haP, if_pos e'.symm]) (by show 1 ≤ 2; decide)
    · have e' : ¬ s.o = fhS bit := of_decide_eq_false e
      exact rest ([u, u], s.o) (by rw [haP, if_neg fun z => e' z.symm]) (by show 2 ≤ 2; decide)
/-! ### _law_steps -/
theorem ev_stX {ρ : List (Option Dt)} {tx ta : TE} {x : Dt} {t : Site} (hx : Ev K S S ρ tx (Eq x)) (ht : Ev K S S ρ ta (Eq t.d)) (hr : t.rest ≠ []) :
    Ev K S S ρ (tTup (tCons tx (tCons (tOp (rIx K) (tOp (rIx K) ta (tC (.int 1))) (tC (.int 0))) (tCons (tTup (tCons (tOp (rIx K) ta (tC (.int 0))) (tCons (tSl (rSlA K) (tOp (rIx K) ta (tC (.int 1))) (tPart (tC (.int 1))) tNoPart) (tCons (tOp (rIx K) ta (tC (.int 2))) tNil)))) tNil)))) (Eq (stD x t)) := by
  obtain ⟨k, rest, o⟩ := t
  cases rest with
  | nil => exact absurd rfl hr
  | cons r rs =>
    refine (ev_tup (ea_cons hx (ea_cons (ev_ixT (d := .int r) (ev_siteR ht) ev_int (atI_nat (j := 0) rfl)) (ea_cons (ev_tup (ea_cons (ev_siteK ht) (ea_cons ((ev_slT (xs := (r :: rs).map Dt.int) (ev_siteR ht) (eo_some ev_int) eo_none).to (y := tI rs) ?_) (ea_cons (ev_siteO ht) ea_nil))) (by show 3 ≤ sizeLine; decide)) ea_nil))) (by show 3 ≤ sizeLine; decide)).to rfl
    show Dt.tup (cutD (.int r :: rs.map Dt.int) (some 1) none) = tI rs
    rw [cutD_tail]
    rfl
def r_lt (ds : List Dt) (d : Dt) : Prop := ∃ (T : Tab) (s : Site), T.ok ∧ ds = [T.d, s.d] ∧ d = .lst (T.steps s)
abbrev p__law_steps (K : PySem.W.Frag) : Sp := spR K 2 r_lt
abbrev t__law_steps (K : PySem.W.Frag) : TS := (tSeq (tIfS (tTest (tOp (rNeD K) (tOp (rIx K) (tVar 1) (tC (.int 1))) (tTup tNil))) (tRet (tLst (tCons (tTup (tCons (tC .non) (tCons (tOp (rIx K) (tOp (rIx K) (tVar 1) (tC (.int 1))) (tC (.int 0))) (tCons (tTup (tCons (tOp (rIx K) (tVar 1) (tC (.int 0))) (tCons (tSl (rSlA K) (tOp (rIx K) (tVar 1) (tC (.int 1))) (tPart (tC (.int 1))) tNoPart) (tCons (tOp (rIx K) (tVar 1) (tC (.int 2))) tNil)))) tNil)))) tNil))) tNext)
    (tSeq (tIfS (tTest (tOp rEq (tOp (rIx K) (tVar 1) (tC (.int 0))) (tOp (rIx K) (tVar 0) (tUn rNegI (tC (.int 1)))))) (tRet (tLst tNil)) tNext)
    (tSeq (tAsg (tLst tNil) (gName 2))
    (tSeq (tFor (iTup K (tTup (tCons (tC (.int 0)) (tCons (tC (.int 1)) tNil)))) (gName 3) (tSeq (tAsg (tCall (p__law_settled K) [] E0 (tCons (tVar 0) (tCons (tVar 1) (tCons (tVar 3) tNil)))) (gName 4))
    (tDrop (tBM K "list" rAppend (tVar 2) (tCons (tTup (tCons (tVar 3) (tCons (tOp (rIx K) (tOp (rIx K) (tVar 4) (tC (.int 1))) (tC (.int 0))) (tCons (tTup (tCons (tOp (rIx K) (tVar 4) (tC (.int 0))) (tCons (tSl (rSlA K) (tOp (rIx K) (tVar 4) (tC (.int 1))) (tPart (tC (.int 1))) tNoPart) (tCons (tOp (rIx K) (tVar 4) (tC (.int 2))) tNil)))) tNil)))) tNil)))))
    (tRet (tVar 2))))))
theorem ev_last {T : Tab} {ρ : List (Option Dt)} {ta : TE} (h : Ev K S S ρ ta (Eq T.d)) : Ev K S S ρ (tOp (rIx K) ta (tUn rNegI (tC (.int 1)))) (Eq (.int T.b)) := by
  cases T with
  | ha u b => exact ev_ixT h (ev_neg ev_int) rfl
  | pa h z1 z2 o1 o2 s b => exact ev_ixT h (ev_neg ev_int) rfl
theorem so__law_steps (hmu : S.Mu) (hp : r_lt ds d) : So K S S [] (t__law_steps K) (startD 5 ds) (Pu d) := by
  obtain ⟨T, s, hT, rfl, rfl⟩ := hp
  have hnil : PyData.eqv (py (tI s.rest)) (py (.tup [])) = decide (s.rest = []) := eqv_nil _
  refine so_if (Φb := Eq (!decide (s.rest = []))) ((et_test (ev_op (ev_siteR (s := s) (ev_var rfl)) (ev_tup ea_nil (by decide)) (rv_neD (cmp_tI _) (cmp_tI [])))).to (by rw [hnil])) (fun e2 => ?_) fun e2 => so_skip ?_
  · have hr : s.rest ≠ [] := by simpa using e2
    refine so_ret1D (ev_lst (ea_cons (ev_stX (t := s) ev_non (ev_var rfl) hr) ea_nil) (by show 1 ≤ sizeLine; decide)) (Sta.Le.refl _) ?_
    have e' : ¬ ((decide (s.k = T.b) && decide (s.rest = [])) = true) := by simp [hr]
    rw [Tab.steps, if_neg e', if_pos hr]
  · have hr : s.rest = [] := by simpa using e2
    refine so_if (Φb := Eq (decide (s.k = T.b))) (et_test (ev_op (ev_siteK (s := s) (ev_var rfl)) (ev_last (ev_var rfl)) rv_eqI)) (fun e => ?_) fun e => so_skip ?_
    · refine so_ret1D (ev_lst ea_nil (by decide)) (Sta.Le.refl _) ?_
      rw [Tab.steps, if_pos (by rw [e, hr]; rfl)]
    · have e' : ¬ ((decide (s.k = T.b) && decide (s.rest = [])) = true) := by rw [e, Bool.false_and]; decide
      let L01 : List Dt := [stD (.int 0) (T.sett s 0), stD (.int 1) (T.sett s 1)]
      refine so_newF (xs := []) (en_lst ea_nil (by decide)) (Sta.Le.refl _) fun p _ => ?_
      refine so_seqG (S1 := S) (M := fun ρ' => ∃ x y : Option Dt, ρ' = [some T.d, some s.d, some (.lat p L01), x, y]) (Sta.Le.refl _)
        (so_forTX (xs := [.int 0, .int 1]) (ev_tup (ea_cons ev_int (ea_cons ev_int ea_nil)) (by show 2 ≤ sizeLine; decide)) rfl (fun i ρ' => ∃ x y : Option Dt, ρ' = [some T.d, some s.d, some (.lat p (L01.take i)), x, y]) ⟨_, _, rfl⟩ (fun S' le lo mu i x ρ' hx hJ => ?_) (fun ρ' hJ => hJ)) fun ρ' hM => ?_
      · obtain ⟨y, z, rfl⟩ := hJ
        have step : ∀ bit : Int, (bit = 0 ∨ bit = 1) → x = .int bit → L01[i]? = some (stD (.int bit) (T.sett s bit)) → Sg K S' S S' [p] (tSeq (tAsg (tCall (p__law_settled K) [] E0 (tCons (tVar 0) (tCons (tVar 1) (tCons (tVar 3) tNil)))) (gName 4))
            (tDrop (tBM K "list" rAppend (tVar 2) (tCons (tTup (tCons (tVar 3) (tCons (tOp (rIx K) (tOp (rIx K) (tVar 4) (tC (.int 1))) (tC (.int 0))) (tCons (tTup (tCons (tOp (rIx K) (tVar 4) (tC (.int 0))) (tCons (tSl (rSlA K) (tOp (rIx K) (tVar 4) (tC (.int 1))) (tPart (tC (.int 1))) tNoPart) (tCons (tOp (rIx K) (tVar 4) (tC (.int 2))) tNil)))) tNil)))) tNil))))
            ([some T.d, some s.d, some (.lat p (L01.take i)), y, z].set 3 (some x)) { Pu (.lst (T.steps s)) with nx := fun ρ' => ∃ x y : Option Dt, ρ' = [some T.d, some s.d, some (.lat p (L01.take (i + 1))), x, y], ct := fun ρ' => ∃ x y : Option Dt, ρ' = [some T.d, some s.d, some (.lat p (L01.take (i + 1))), x, y], bk := fun ρ' => ∃ x y : Option Dt, ρ' = [some T.d, some s.d, some (.lat p L01), x, y] } := fun bit hbit ex hL => by
          subst ex
          refine so_setD (ev_callR (R := r_ls) (ea_cons (ev_var rfl) (ea_cons (ev_var (d := s.d) rfl) (ea_cons (ev_var rfl) ea_nil))) rfl ⟨T, s, bit, hT, hbit, rfl, rfl⟩) ?_
          refine sg_last (so_appP (p := p) (xs := L01.take i) (d := stD (.int bit) (T.sett s bit)) List.mem_cons_self (lo _ _ (mu_looseP hmu)) rfl (nolA_all.mpr fun z hz => ?_) (Offs.mk ?_) ?_ (ev_stX (ev_var rfl) (ev_var rfl) (sett_ne _ _ _)) (nol_st _ rfl) (so_next (Sta.Le.refl _) ⟨some (.int bit), some (T.sett s bit).d, ?_⟩))
          · have hz' := List.mem_of_mem_take hz
            simp only [L01, List.mem_cons, List.not_mem_nil, or_false] at hz'
            rcases hz' with rfl | rfl <;> exact nol_st _ rfl
          · simp [offL, off_int, off_tab, offOk_nol, nol_site]
          · rw [List.length_take]
            exact Nat.lt_of_le_of_lt (Nat.min_le_right _ _) (by show 2 < 100000; decide)
          · rw [List.take_add_one, hL]
            rfl
        match i, hx with
        | 0, hx => exact step 0 (.inl rfl) (by simpa using hx.symm) rfl
        | 1, hx => exact step 1 (.inr rfl) (by simpa using hx.symm) rfl
        | i + 2, hx => simp at hx
      · obtain ⟨x, y, rfl⟩ := hM
        refine so_retD (ev_lat (ev_var rfl)) (Sta.Le.refl _) ?_
        rw [Tab.steps, if_neg e', if_neg (fun z => z hr)]
end
end Bf
namespace Bf
open PySem PySem.Spec PyProof.Rows L2
/-! ## The law of frames -/
abbrev p_law5 (K : PySem.W.Frag) : Sp := spLaw K
abbrev r_law5 (K : PySem.W.Frag) (C : Addr) : TS := (tSeq (tFor (iRng1 (tCons (tC (.int 5)) tNil)) (gName 2) (tSeq (tAsg (tCall (p__law_table K) [] E0 (tCons (tVar 1) (tCons (tC (.int 8)) tNil))) (gName 3))
    (tSeq (tAsg (tCall (p__law_pick K) [] E0 (tCons (tVar 1) (tCons (tCall (p__law_words K) [] E0 (tCons (tOp (rIx K) (tVar 3) (tUn rNegI (tC (.int 1)))) tNil)) tNil))) (gName 4))
    (tSeq (tAsg (tCall (p__law_frame K) [] E0 (tCons (tVar 3) (tCons (tVar 4) tNil))) (gName 5))
    (tSeq (tIfS (tOr (tTest (tOp (rNeD K) (tCall (p__law_said5 K) [] E0 (tCons (tVar 3) (tCons (tVar 4) tNil))) (tLst (tCons (tVar 5) tNil)))) (tTest (tOp (rNeD K) (tCallW (p_frame_ofX K C) 2 swpV E0 (tCons (tVar 4) (tCons (tVar 3) tNil))) (tVar 5)))) (tRet (tC (.bl false))) tNext)
    (tSeq (tIfS (tOr (tTest (tOp rNe (tCB (rRepr K) (tCons (tCall (p_word_of K) [] E0 (tCons (tVar 3) (tCons (tVar 5) tNil))) tNil)) (tCB (rRepr K) (tCons (tVar 4) tNil)))) (tTest (tOp (rNeD K) (tCallW (p_word_of K) 2 swpV E0 (tCons (tVar 5) (tCons (tVar 3) tNil))) (tVar 4)))) (tRet (tC (.bl false))) tNext)
    (tSeq (tAsg (tCB (rDicN K) (tCons (tLc (iList K (tCall (p__law_words K) [] E0 (tCons (tOp (rIx K) (tVar 3) (tUn rNegI (tC (.int 1)))) tNil))) (gName 7) tYes (tTup (tCons (tCall (p__law_frame K) [] E0 (tCons (tVar 3) (tCons (tVar 7) tNil))) (tCons (tVar 7) tNil))) [7]) tNil)) (gName 6))
    (tSeq (tIfS (tTest (tOp rNe (tCB (rLenN K) (tCons (tVar 6) tNil)) (tCB (rLen K) (tCons (tCall (p__law_words K) [] E0 (tCons (tOp (rIx K) (tVar 3) (tUn rNegI (tC (.int 1)))) tNil)) tNil)))) (tRet (tC (.bl false))) tNext)
    (tSeq (tFor (iRng1 (tCons (tC (.int 4)) tNil)) (gName 8) (tSeq (tAsg (tCall (p__law_bent K) [] E0 (tCons (tVar 1) (tCons (tVar 5) tNil))) (gName 9))
    (tSeq (tAsg (tLst (tCons (tC (.int 1)) tNil)) (gName 10))
    (tSeq (tIfS (tB (tCB (rIsi K) (tCons (tVar 9) (tCons (tC (.ty "tuple")) tNil)))) (tAsg (tLc (iTup K (tVar 9)) (gName 7) (tB (tCB (rIsiT K) (tCons (tVar 7) (tCons (tTup (tCons (tC (.ty "bool")) (tCons (tC (.ty "str")) (tCons (tC (.ty "list")) (tCons (tC (.ty "dict")) tNil))))) tNil)))) (tVar 7) [7]) (gName 10)) tNext)
    (tSeq (tAsg (tIf (tTest (tOp (rEqNil K) (tVar 10) (tLst tNil))) (tDGetN K (tVar 6) (tVar 9)) (tC .non)) (gName 11))
    (tIfS (tTest (tOp rNe (tCB (rRepr K) (tCons (tCall (p_word_of K) [] E0 (tCons (tVar 3) (tCons (tVar 9) tNil))) tNil)) (tCB (rRepr K) (tCons (tVar 11) tNil)))) (tRet (tC (.bl false))) tNext))))))
    (tSeq (tAsg (tLst (tCons (tC .non) (tCons (tOp (rCatA K) (tVar 4) (tTup (tCons (tC (.int 0)) tNil))) (tCons (tCB (rLstO K) (tCons (tVar 4) tNil)) (tCons (tSl (rSlA K) (tVar 4) (tPart (tC (.int 1))) tNoPart) (tCons (tOp (rRepA K) (tTup (tCons (tC (.int 2)) tNil)) (tCB (rLen K) (tCons (tVar 4) tNil))) (tCons (tC (.str "01")) (tCons (tC (.int 0)) tNil)))))))) (gName 12))
    (tSeq (tAsg (tCall (p__law_pick K) [] E0 (tCons (tVar 1) (tCons (tOp (rCatS K) (tVar 12) (tLst (tCons (tOp (rRepA K) (tTup (tCons (tC (.bl true)) tNil)) (tCB (rLen K) (tCons (tVar 4) tNil))) tNil))) tNil))) (gName 10))
    (tSeq (tIfS (tTest (tOp rNe (tCB (rRepr K) (tCons (tCall (p__law_said5 K) [] E0 (tCons (tVar 3) (tCons (tVar 10) tNil))) tNil)) (tCB (rRepr K) (tCons (tTup (tCons (tC (.str "word")) (tCons (tVar 10) tNil))) tNil)))) (tRet (tC (.bl false))) tNext)
    (tSeq (tAsg (tCall (p__law_table K) [] E0 (tCons (tVar 1) (tCons (tC (.int 4)) tNil))) (gName 3))
    (tFor (iList K (tCall (p__law_words K) [] E0 (tCons (tOp (rIx K) (tVar 3) (tUn rNegI (tC (.int 1)))) tNil))) (gName 7) (tIfS (tOr (tTest (tOp (rNeD K) (tCall (p_frame_ofX K C) [] E0 (tCons (tVar 3) (tCons (tVar 7) tNil))) (tCall (p__law_frame K) [] E0 (tCons (tVar 3) (tCons (tVar 7) tNil))))) (tTest (tOp (rNeD K) (tCall (p_word_of K) [] E0 (tCons (tVar 3) (tCons (tCall (p__law_frame K) [] E0 (tCons (tVar 3) (tCons (tVar 7) tNil))) tNil))) (tVar 7)))) (tRet (tC (.bl false))) tNext)))))))))))))))
    (tRet (tC (.bl true))))
abbrev t_law5 (K : PySem.W.Frag) (C : Addr) : TS := (tSeq (tAsg (tCall (p__law_begin K) [] E0 (tCons (tVar 0) tNil)) (gName 1)) (r_law5 K C))
/-! ### what is known -/
theorem pairD_map {α : Type} (g h : α → Dt) : ∀ l : List α, pairD (l.map g) (l.map h) = l.map fun x => .tup [g x, h x]
  | [] => rfl
  | x :: l => by
    show Dt.tup [g x, h x] :: pairD (l.map g) (l.map h) = _
    rw [pairD_map g h l]
    rfl
theorem wordsL_nodup : ∀ n, (wordsL n).Nodup := fun n => by
  rw [← words_eq]
  induction n with
  | zero => simp [wordsR]
  | succ n ih =>
    show ((wordsR n).map (0 :: ·) ++ (wordsR n).map (1 :: ·)).Nodup
    rw [List.nodup_append]
    have hm : ∀ a : Int, ((wordsR n).map (a :: ·)).Nodup := fun a => by
      rw [List.Nodup, List.pairwise_map]
      exact ih.imp fun h e => h (List.cons.inj e).2
    refine ⟨hm 0, hm 1, fun x hx y hy e => ?_⟩
    obtain ⟨u, _, rfl⟩ := List.mem_map.mp hx
    obtain ⟨v, _, rfl⟩ := List.mem_map.mp hy
    cases e
theorem nk_tI (ns : List Int) : nk (tI ns) = .tup (ns.map NestedKey.num) := by
  have : ∀ ns : List Int, nkA (ns.map Dt.int) = ns.map NestedKey.num := fun ns => by
    induction ns with
    | nil => rfl
    | cons n ns ih => show nk (.int n) :: nkA (ns.map Dt.int) = _; rw [ih]; rfl
  show NestedKey.tup (nkA (ns.map Dt.int)) = _
  rw [this]
theorem num_inj : ∀ {a b : List Int}, a.map NestedKey.num = b.map NestedKey.num → a = b
  | [], [], _ => rfl
  | [], _ :: _, h => by simp at h
  | _ :: _, [], h => by simp at h
  | a :: as, b :: bs, h => by
    rw [List.map_cons, List.map_cons] at h
    injection h with h1 h2
    injection h1 with h1
    rw [h1, num_inj h2]
def frD (T : Tab) (w : List Int) : Dt := tI (T.frame w)
theorem dk_words {T : Tab} (hT : T.ok) : dkOk ((wordsL T.b.toNat).map (frD T)) := by
  refine ⟨List.all_eq_true.mpr fun x hx => ?_, ?_⟩
  · obtain ⟨w, _, rfl⟩ := List.mem_map.mp hx
    exact List.all_eq_true.mpr fun y hy => by
      obtain ⟨i, _, rfl⟩ := List.mem_map.mp hy
      rfl
  · rw [List.map_map, List.Nodup, List.pairwise_map]
    refine List.Pairwise.imp_of_mem (R := fun a b => a ≠ b) (fun {a b} ha hb hab e => hab ?_) (wordsL_nodup _)
    have e' : nk (tI (T.frame a)) = nk (tI (T.frame b)) := e
    rw [nk_tI, nk_tI] at e'
    injection e' with e'
    exact frame_inj hT (wordsL_bits _ _ ha) (wordsL_bits _ _ hb) (num_inj e')
theorem lk_words {T : Tab} {ns : List Int} : ∀ l : List (List Int), (lkD (l.map (frD T)) (l.map tI) (nk (tI ns))).getD .non = (match l.find? (fun w => decide (T.frame w = ns)) with | some w => tI w | none => .non)
  | [] => rfl
  | w :: l => by
    have ih := lk_words (T := T) (ns := ns) l
    rw [List.map_cons, List.map_cons]
    by_cases e : T.frame w = ns
    · have e1 : nk (frD T w) = nk (tI ns) := by show nk (tI (T.frame w)) = _; rw [e]
      simp only [lkD, if_pos e1, List.find?_cons, e, decide_true, Option.getD_some]
    · have e1 : ¬ nk (frD T w) = nk (tI ns) := fun z => by
        have z' : nk (tI (T.frame w)) = nk (tI ns) := z
        rw [nk_tI, nk_tI] at z'
        injection z' with z'
        exact e (num_inj z')
      simp only [lkD, if_neg e1, List.find?_cons, e, decide_false]
      exact ih
theorem lk_none {T : Tab} {xs : List Dt} (hx : xs.all flat0 = true) (hn : ¬ xs.all isW = true) (hb : ∀ x ∈ xs, ∀ b, x ≠ .bl b) : ∀ l : List (List Int), (lkD (l.map (frD T)) (l.map tI) (nk (.tup xs))).getD .non = .non
  | [] => rfl
  | w :: l => by
    have ih := lk_none (T := T) hx hn hb l
    rw [List.map_cons, List.map_cons]
    have e1 : ¬ nk (frD T w) = nk (.tup xs) := fun z => by
      have z' : nk (tI (T.frame w)) = .tup (nkA xs) := z
      rw [nk_tI] at z'
      injection z' with z'
      have : ∀ (ns : List Int) (xs : List Dt), ns.map NestedKey.num = nkA xs → xs.all flat0 = true → (∀ x ∈ xs, ∀ b, x ≠ .bl b) → xs.all isW = true := fun ns xs => by
        induction xs generalizing ns with
        | nil => intros; rfl
        | cons x xs ihx =>
          intro h1 h2 h3
          simp only [List.all_cons, Bool.and_eq_true] at h2 ⊢
          cases ns with
          | nil => cases (show [] = nk x :: nkA xs from h1)
          | cons n ns =>
            have h1' : NestedKey.num n :: ns.map NestedKey.num = nk x :: nkA xs := h1
            injection h1' with q1 q2
            refine ⟨?_, ihx ns q2 h2.2 fun y hy => h3 y (List.mem_cons_of_mem _ hy)⟩
            cases x with
            | int i => rfl
            | non => cases q1
            | bl b => exact absurd rfl (h3 _ List.mem_cons_self b)
            | _ => simp [flat0] at h2
      exact hn (this _ xs z' hx hb)
    simp only [lkD, if_neg e1]
    exact ih
def isOdd : Dt → Bool
  | .bl _ => true
  | .str _ => true
  | .lst _ => true
  | .dic => true
  | _ => false
theorem odd_none {xs : List Dt} (hp : ∀ x ∈ xs, okPart x = true) (h : xs.filter isOdd = []) : xs.all flat0 = true ∧ ∀ x ∈ xs, ∀ b, x ≠ .bl b := by
  have h' := List.filter_eq_nil_iff.mp h
  refine ⟨List.all_eq_true.mpr fun x hx => ?_, fun x hx b e => ?_⟩
  · have h1 := hp x hx
    have h2 := h' x hx
    cases x <;> first | rfl | exact absurd (show isOdd _ = true from rfl) h2 | exact absurd h1 (by simp [okPart])
  · subst e
    exact h' _ hx rfl
theorem odd_some {xs : List Dt} (h : xs.filter isOdd ≠ []) : ¬ xs.all isW = true := fun e => h (List.filter_eq_nil_iff.mpr fun x hx => by
  have := List.all_eq_true.mp e x hx
  cases x <;> simp [isW, isIntD, isBlD, isOdd] at this ⊢)
/-- what is due of a bent frame -/
theorem due_eq {T : Tab} {xs : List Dt} (hp : ∀ x ∈ xs, okPart x = true) (h : xs.filter isOdd = []) : (lkD ((wordsL T.b.toNat).map (frD T)) ((wordsL T.b.toNat).map tI) (nk (.tup xs))).getD .non = wordOf T (.tup xs) := by
  obtain ⟨h1, h2⟩ := odd_none hp h
  by_cases hw : xs.all isW = true
  · have ex := ints_back (List.all_eq_true.mp hw)
    simp only [wordOf, if_pos hw]
    conv => lhs; rw [ex]
    exact lk_words _
  · simp only [wordOf, if_neg hw]
    exact lk_none h1 hw h2 _
theorem gd_word {n : Nat} {w : List Int} (h : isBits n w) (hn : n ≤ 8) (m : Nat) : gd (m + 1) (tI w) = true := by
  have hl := h.1
  unfold tI gd
  refine Bool.and_eq_true_iff.mpr ⟨gdA_all.mpr fun x hx => ?_, decide_eq_true (by rw [List.length_map]; omega)⟩
  obtain ⟨y, hy, rfl⟩ := List.mem_map.mp hx
  rcases h.2 y hy with rfl | rfl <;> (unfold gd; decide)
theorem gd_wordOf {T : Tab} (hT : T.ok) (x : Dt) : gd 4 (wordOf T x) = true := by
  have hb := Tab.b1 hT
  have hn : gd 4 .non = true := by unfold gd; rfl
  cases x with
  | tup xs =>
    unfold wordOf
    dsimp only
    split
    · split
      · rename_i w e
        exact gd_word (wordsL_bits _ _ (List.mem_of_find?_eq_some e)) (by omega) 3
      · exact hn
    · exact hn
  | _ => exact hn
end Bf
namespace Bf
open PySem PySem.Spec PyProof.Rows L2
section
variable {K : PySem.W.Frag} {a c C : Addr} {cs : List Int}
theorem ev_callXW {S S1 : Sta} {ρ : List (Option Dt)} {t : TA} {ds es : List Dt} {d : Dt} {n m : Nat} {gV : List V → List V} {R : List Dt → Out → Prop} {E : XK} (ha : EvA K S S1 ρ t (Eq es)) (hm : es.length = m) (hg : ∀ H vs, RepA K H vs es → RepA K H (gV vs) ds) (hn : ds.length = n) (hp : R ds (.ok d)) :
    Ev K S S1 ρ (tCallW (spX K n R) m gV E t) (Eq d) := fun σ H i s Q q =>
  ha σ H i s _ fun vs ds' H1 g1 i1 r1 p1 => by
    subst p1
    exact ⟨r1.len.trans hm, ds, .ok d, hg _ _ r1, hn, hp, fun v H2 sm r => q v _ H2 (g1.trans sm.gr) (S1.st i1 sm) r rfl⟩
theorem kit_odd {x : Dt} (h : okPart x = true) : ∃ n, tyN x = some n ∧ kitL n ["bool", "str", "list", "dict"] = some (isOdd x) := by
  cases x with
  | non => exact ⟨_, rfl, by decide +kernel⟩
  | bl b => exact ⟨_, rfl, by show kitL "bool" _ = some true; decide +kernel⟩
  | int i => exact ⟨_, rfl, by show kitL "int" _ = some false; decide +kernel⟩
  | str s => exact ⟨_, rfl, by show kitL "str" _ = some true; decide +kernel⟩
  | lst s => exact ⟨_, rfl, by show kitL "list" _ = some true; decide +kernel⟩
  | dic => exact ⟨_, rfl, by show kitL "dict" _ = some true; decide +kernel⟩
  | _ => simp [okPart] at h
theorem shw_word {n : Nat} {w : List Int} (h : isBits n w) (hn : n ≤ 8) : shwOk (tI w) := gd_shw (gd_word h hn 3)
theorem ev_word_of5 {S S1 S2 : Sta} {ρ : List (Option Dt)} {ta tb : TE} {T : Tab} {x : Dt} (h : Ev K S S1 ρ ta (Eq T.d)) (hT : T.ok) (h2 : Ev K S1 S2 ρ tb (Eq x)) (hx : plS x = true) : Ev K S S2 ρ (tCall (p_word_of K) [] E0 (tCons ta (tCons tb tNil))) (Eq (wordOf T x)) :=
  ev_callR (ea_cons h (ea_cons h2 ea_nil)) rfl ⟨T, x, hT, rfl, hx, rfl⟩
theorem ev__law_frame5 {S S1 S2 : Sta} {ρ : List (Option Dt)} {ta tb : TE} {T : Tab} {w : List Int} (h : Ev K S S1 ρ ta (Eq T.d)) (hT : T.ok) (h2 : Ev K S1 S2 ρ tb (Eq (tI w))) (hw : isBits T.b.toNat w) : Ev K S S2 ρ (tCall (p__law_frame K) [] E0 (tCons ta (tCons tb tNil))) (Eq (tI (T.frame w))) :=
  ev_callR (R := r_fo) (ea_cons h (ea_cons h2 ea_nil)) rfl ⟨T, w, hT, hw, rfl, rfl⟩
theorem plS_fr {fr : List Int} (h : frOk fr) : plS (tI fr) = true := plS_tI (by have := h.2.1; omega)
theorem cmp_lst1 (ns : List Int) : cmpOk (.lst [tI ns]) = true := by
  have h := cmp_tI ns
  simp only [cmpOk, Bool.and_eq_true, SeqAt.shaped, decide_eq_true_eq] at h ⊢
  obtain ⟨h1, h2, h3⟩ := h
  refine ⟨by simp [pur, purA, h1], by simp [py, pyA, PyData.canLay0, PyData.canLayAll0, h2], ?_⟩
  have : (py (tI ns)).depth ≤ 1 := by
    have : ∀ ns : List Int, PyData.depthAll (pyA (ns.map Dt.int)) = 0 := fun ns => by
      induction ns with
      | nil => rfl
      | cons n ns ih => show max 0 (PyData.depthAll (pyA (ns.map Dt.int))) = 0; rw [ih]; rfl
    show PyData.depthAll (pyA (ns.map Dt.int)) + 1 ≤ 1
    rw [this]
    decide
  simp only [py, pyA, PyData.depth, PyData.depthAll] at this ⊢
  omega
theorem eqv_lst1 (a b : List Int) : PyData.eqv (py (.lst [tI a])) (py (.lst [tI b])) = decide (a = b) := by
  have := eqv_tI a b
  simp only [py, pyA, PyData.eqv, PyData.eqvAll, Bool.and_true] at this ⊢
  exact this
theorem so_law5 {x0 : Option Dt} (hc : cs ≠ []) : So K (DW K a c cs 0) (DW K a c cs 510) [] (r_law5 K C) [x0, some (.raw (.ref a)), none, none, none, none, none, none, none, none, none, none, none] { rt := Eq (.bl true) } := by
  refine so_seq (M := fun _ => True) (so_forR (n := 5) (Z := fun i => DW K a c cs (102 * i)) (ea_cons ev_int ea_nil) (by decide) (fun i hi => dw_le (by omega)) (fun i hi => dw_le (by omega)) (fun i ρ' => ∃ y2 y3 y4 y5 y6 y7 y8 y9 y10 y11 y12, ρ' = [x0, some (.raw (.ref a)), y2, y3, y4, y5, y6, y7, y8, y9, y10, y11, y12]) ⟨_, _, _, _, _, _, _, _, _, _, _, rfl⟩ (fun ti ρ' hi hJ => ?_) fun _ _ => trivial) fun ρ' _ => so_retD ev_bl (Sta.Le.refl _) rfl
  obtain ⟨y2, y3, y4, y5, y6, y7, y8, y9, y10, y11, y12, rfl⟩ := hJ
  -- the table, the word, the frame
  refine so_set (ev__law_table (n := 102 * ti) (ea_cons (ev_var rfl) (ea_cons ev_int ea_nil)) hc (by omega) (by decide) (by decide)) fun d hd => ?_
  obtain ⟨T, hT, rfl, hb⟩ := hd
  have hb1 := Tab.b1 hT
  have b0 : 0 ≤ T.b := by omega
  have hlen : ∀ T : Tab, T.b ≤ 8 → (wordsD T.b).length ≤ 256 := fun T hb => by
    rw [wordsD, List.length_map, wordsL_len]
    exact Nat.pow_le_pow_right (n := 2) (by decide) (show T.b.toNat ≤ 8 by omega)
  have hne : wordsD T.b ≠ [] := by
    intro e
    have := congrArg List.length e
    rw [wordsD, List.length_map, wordsL_len] at this
    exact absurd this (Nat.ne_of_gt (Nat.two_pow_pos _))
  have hwd : ∀ {S : Sta} {ρ : List (Option Dt)}, ρ[3]? = some (some T.d) → Ev K S S ρ (tCall (p__law_words K) [] E0 (tCons (tOp (rIx K) (tVar 3) (tUn rNegI (tC (.int 1)))) tNil)) (Eq (.lst (wordsD T.b))) := fun h => ev__law_words (ev_last (ev_var h)) b0 hb
  refine so_set (ev__law_pick (n := 102 * ti + 40) (xs := wordsD T.b) (ea_cons (ev_var rfl) (ea_cons (hwd rfl) ea_nil)) hc (by omega) hne (Nat.le_trans (hlen T hb) (by decide))) fun d hd => ?_
  obtain ⟨w, hw, rfl⟩ := List.mem_map.mp hd
  have hbits := wordsL_bits _ w hw
  have hwl : (w.length : Int) = T.b := by rw [hbits.1]; exact Int.toNat_of_nonneg b0
  have hw8 : T.b.toNat ≤ 8 := by omega
  have hfr := frame_ok hT hbits
  have hws : plS (tI w) = true := plS_tI (by omega)
  have isw : isWd T.b (tI w) = true := isWd_word b0 hbits
  refine so_setD (ev__law_frame5 (ev_var rfl) hT (ev_var rfl) hbits) ?_
  -- the frame
  refine so_ifF (et_orF ((et_test (ev_op ((ev__law_said5 (ev_var rfl) hT (ev_var rfl) hws).to (y := .lst [tI (T.frame w)]) (by rw [if_pos isw, bitsI_tI])) (ev_lst (ea_cons (ev_var rfl) ea_nil) (by show 1 ≤ sizeLine; decide)) (rv_neD (cmp_lst1 _) (cmp_lst1 _)))).to (by rw [eqv_lst1]; simp))
    ((et_test (ev_op (ev_callXW (R := r_foX C) (d := tI (T.frame w)) (ea_cons (ev_var (d := tI w) rfl) (ea_cons (ev_var (d := T.d) rfl) ea_nil)) rfl (fun _ _ r => swpV_rep r) rfl (foX_word hT hbits)) (ev_var rfl) (rv_neD (cmp_tI _) (cmp_tI _)))).to (by rw [eqv_tI]; simp))) (so_skip ?_)
  -- its word
  have hwo := wordOf_frame hT hbits
  refine so_ifF (et_orF ((et_test (ev_op (ev_cb (ea_cons ((ev_word_of5 (ev_var rfl) hT (ev_var rfl) (plS_fr hfr)).to hwo) ea_nil) (rc_repr (shw_word hbits hw8))) (ev_cb (ea_cons (ev_var rfl) ea_nil) (rc_repr (shw_word hbits hw8))) rv_neS)).to (by simp))
    ((et_test (ev_op (ev_callRW (R := r_wo) (d := tI w) (ea_cons (ev_var (d := tI (T.frame w)) rfl) (ea_cons (ev_var (d := T.d) rfl) ea_nil)) rfl (fun _ _ r => swpV_rep r) rfl ⟨T, _, hT, rfl, plS_fr hfr, hwo.symm⟩) (ev_var rfl) (rv_neD (cmp_tI _) (cmp_tI _)))).to (by rw [eqv_tI]; simp))) (so_skip ?_)
  -- what is known
  have hkl : ((wordsL T.b.toNat).map (frD T)).length = ((wordsL T.b.toNat).map tI).length := by rw [List.length_map, List.length_map]
  have hdk := dk_words hT
  refine so_setD (d := .dct ((wordsL T.b.toNat).map (frD T)) ((wordsL T.b.toNat).map tI)) (ev_dictN ((ev_lcL (xs := wordsD T.b) (f := fun x => .tup [frD T (bitsI x), x]) (p := fun _ => true) dw_mu (hwd rfl) (by decide) (Nat.le_trans (hlen T hb) (by decide)) (fun _ _ => et_yes) (fun x hx _ => ?_) (fun x hx _ => ?_)).to ?_) hkl hdk) ?_
  · obtain ⟨v, hv, rfl⟩ := List.mem_map.mp hx
    refine (ev_tup (ea_cons (ev__law_frame5 (ev_var rfl) hT (ev_var rfl) (wordsL_bits _ _ hv)) (ea_cons (ev_var rfl) ea_nil)) (by show 2 ≤ sizeLine; decide)).to ?_
    rw [bitsI_tI]
    rfl
  · obtain ⟨v, hv, rfl⟩ := List.mem_map.mp hx
    simp [nol, nolA, frD, nol_tI]
  · rw [pairD_map, List.filter_eq_self.mpr fun _ _ => rfl, wordsD, List.map_map]
    congr 1
    refine List.map_congr_left fun v _ => ?_
    show Dt.tup [frD T (bitsI (tI v)), tI v] = _
    rw [bitsI_tI]
  refine so_ifF ((et_test (ev_op (ev_cb (ea_cons (ev_var rfl) ea_nil) (rc_lenN hkl hdk (by rw [List.length_map, wordsL_len]; exact Nat.lt_of_le_of_lt (Nat.pow_le_pow_right (n := 2) (by decide) hw8) (by decide)))) (ev_cb (ea_cons (hwd rfl) ea_nil) rc_lenL) rv_neI)).to (by rw [List.length_map, wordsD, List.length_map]; simp)) (so_skip ?_)
  -- bent frames
  refine so_seqG (S1 := DW K a c cs (102 * ti + 61)) (M := fun ρ' => ∃ y7 y8 y9 y10 y11, ρ' = [x0, some (.raw (.ref a)), some (.int ti), some T.d, some (tI w), some (tI (T.frame w)), some (.dct ((wordsL T.b.toNat).map (frD T)) ((wordsL T.b.toNat).map tI)), y7, y8, y9, y10, y11, y12]) (dw_le (by omega))
    (so_forR (n := 4) (Z := fun i => DW K a c cs (102 * ti + 41 + 5 * i)) (ea_cons ev_int ea_nil) (by decide) (fun i hi => dw_le (by omega)) (fun i hi => dw_le (by omega)) (fun i ρ' => ∃ y7 y8 y9 y10 y11, ρ' = [x0, some (.raw (.ref a)), some (.int ti), some T.d, some (tI w), some (tI (T.frame w)), some (.dct ((wordsL T.b.toNat).map (frD T)) ((wordsL T.b.toNat).map tI)), y7, y8, y9, y10, y11, y12]) ⟨_, _, _, _, _, rfl⟩ (fun i ρ' hi hJ => ?_) fun ρ' hJ => hJ) fun ρ' hM => ?_
  · obtain ⟨y7, y8, y9, y10, y11, rfl⟩ := hJ
    refine so_set (ev__law_bent (n := 102 * ti + 41 + 5 * i) (fr := T.frame w) (ea_cons (ev_var rfl) (ea_cons (ev_var rfl) ea_nil)) hc (by omega) hfr) fun bent hbent => ?_
    refine so_setD (d := .lst [.int 1]) (ev_lst (ea_cons ev_int ea_nil) (by show 1 ≤ sizeLine; decide)) ?_
    have hsh := gd_shw (gd_wordOf hT bent)
    -- whatever odd is
    have rest : ∀ (odd : List Dt) (y : Option Dt), plS bent = true → (odd.isEmpty = true → nkT bent = true ∧ (lkD ((wordsL T.b.toNat).map (frD T)) ((wordsL T.b.toNat).map tI) (nk bent)).getD .non = wordOf T bent) → (odd.isEmpty = false → wordOf T bent = .non) →
        So K (DW K a c cs (102 * ti + 41 + 5 * (i + 1))) (DW K a c cs (102 * ti + 41 + 5 * (i + 1))) [] (tSeq (tAsg (tIf (tTest (tOp (rEqNil K) (tVar 10) (tLst tNil))) (tDGetN K (tVar 6) (tVar 9)) (tC .non)) (gName 11))
          (tIfS (tTest (tOp rNe (tCB (rRepr K) (tCons (tCall (p_word_of K) [] E0 (tCons (tVar 3) (tCons (tVar 9) tNil))) tNil)) (tCB (rRepr K) (tCons (tVar 11) tNil)))) (tRet (tC (.bl false))) tNext))
          [x0, some (.raw (.ref a)), some (.int ti), some T.d, some (tI w), some (tI (T.frame w)), some (.dct ((wordsL T.b.toNat).map (frD T)) ((wordsL T.b.toNat).map tI)), y, some (.int i), some bent, some (.lst odd), y11, y12]
          { rt := Eq (.bl true), nx := fun ρ' => ∃ y7 y8 y9 y10 y11, ρ' = [x0, some (.raw (.ref a)), some (.int ti), some T.d, some (tI w), some (tI (T.frame w)), some (.dct ((wordsL T.b.toNat).map (frD T)) ((wordsL T.b.toNat).map tI)), y7, y8, y9, y10, y11, y12], ct := fun ρ' => ∃ y7 y8 y9 y10 y11, ρ' = [x0, some (.raw (.ref a)), some (.int ti), some T.d, some (tI w), some (tI (T.frame w)), some (.dct ((wordsL T.b.toNat).map (frD T)) ((wordsL T.b.toNat).map tI)), y7, y8, y9, y10, y11, y12], bk := fun ρ' => ∃ y7 y8 y9 y10 y11, ρ' = [x0, some (.raw (.ref a)), some (.int ti), some T.d, some (tI w), some (tI (T.frame w)), some (.dct ((wordsL T.b.toNat).map (frD T)) ((wordsL T.b.toNat).map tI)), y7, y8, y9, y10, y11, y12] } := fun odd y hpl h1 h2 => by
      refine so_setD (S1 := DW K a c cs (102 * ti + 41 + 5 * (i + 1))) (d := wordOf T bent) (ev_if (S1 := DW K a c cs (102 * ti + 41 + 5 * (i + 1))) (b := odd.isEmpty) (et_test (ev_op (ev_var rfl) (ev_lst ea_nil (by decide)) rv_eqNil)) (fun e => ?_) (fun e => ?_)) ?_
      · obtain ⟨q1, q2⟩ := h1 e
        exact (ev_dgetN (ev_var rfl) hkl hdk (ev_var rfl) q1).to q2
      · exact ev_non.to (h2 e).symm
      · exact so_if0F ((et_test (ev_op (ev_cb (ea_cons (ev_word_of5 (ev_var rfl) hT (ev_var rfl) hpl) ea_nil) (rc_repr hsh)) (ev_cb (ea_cons (ev_var rfl) ea_nil) (rc_repr hsh)) rv_neS)).to (by simp)) (so_next (Sta.Le.refl _) ⟨_, _, _, _, _, rfl⟩)
    rcases hbent with ⟨xs, rfl, hxl, hxs⟩ | ⟨hnt, hpl⟩
    · have hpl : plS (.tup xs) = true := plS_tup (fun x hx => okPart_pl (hxs x hx)) (by omega)
      refine so_if (Φb := Eq true) (et_B (ev_isTup (ev_var rfl) (pl_okN (plS_pl hpl)))) (fun _ => ?_) fun e => nomatch e
      refine so_set (S1 := DW K a c cs (102 * ti + 41 + 5 * i + 5)) (ev_lcTn (xs := xs) (p := isOdd) dw_mu (ev_var rfl) (by decide) (by show 7 < 13; decide) (by omega) fun x hx => ?_) fun d hd => ?_
      · obtain ⟨n, e1, e2⟩ := kit_odd (hxs x hx)
        exact et_B (ev_isiT (ts := ["bool", "str", "list", "dict"]) (ev_var rfl) e1 e2 (by show 4 ≤ sizeLine; decide))
      · obtain ⟨odd, rfl, hol⟩ := hd
        refine rest odd _ hpl (fun e => ?_) fun e => ?_
        · have hn : xs.filter isOdd = [] := List.eq_nil_of_length_eq_zero (by rw [← hol]; simpa using e)
          exact ⟨(odd_none hxs hn).1, due_eq hxs hn⟩
        · have hn : xs.filter isOdd ≠ [] := fun z => by
            rw [z] at hol
            have : odd = [] := List.eq_nil_of_length_eq_zero hol
            rw [this] at e
            cases e
          have := odd_some hn
          simp only [wordOf, if_neg this]
    · refine so_if (Φb := Eq false) ((et_B (ev_isTup (ev_var rfl) (pl_okN (plS_pl hpl)))).to hnt) (fun e => nomatch e) fun _ => so_skip ?_
      refine rest [.int 1] _ hpl (fun e => nomatch e) fun _ => ?_
      cases bent <;> first | rfl | simp [isTupD] at hnt
  · obtain ⟨y7, y8, y9, y10, y11, rfl⟩ := hM
    -- no words
    have hrep : ∀ y : Dt, (List.replicate w.length [y]).flatten = List.replicate w.length y := fun y => by
      generalize w.length = n
      induction n with
      | zero => rfl
      | succ n ih => rw [List.replicate_succ, List.flatten_cons, ih]; rfl
    have hml : (w.map Dt.int).length = w.length := List.length_map _
    have hw1 : 1 ≤ w.length := by omega
    have hr := fun (y : Dt) (S : Sta) => rv_repA (K := K) (S := S) (xs := [y]) (k := w.length) (by simp) hw1 (by omega) (by show 1 ≤ 1000; decide)
    refine so_setD (ev_lst (ea_cons ev_non (ea_cons (ev_op (ev_var (d := .tup (w.map Dt.int)) rfl) (ev_tup (ea_cons ev_int ea_nil) (by decide)) (rv_catT (Nat.le_trans (show _ ≤ 9 by simp only [List.length_cons, List.length_nil]; omega) (by decide)))) (ea_cons (ev_cb (ea_cons (ev_var (d := .tup (w.map Dt.int)) rfl) ea_nil) rc_lstT) (ea_cons (ev_slT (xs := w.map Dt.int) (ev_var rfl) (eo_some ev_int) eo_none) (ea_cons (ev_op (ev_tup (ea_cons ev_int ea_nil) (by show 1 ≤ sizeLine; decide)) ((ev_cb (ea_cons (ev_var (d := .tup (w.map Dt.int)) rfl) ea_nil) rc_lenT).to (by rw [hml])) (hr (.int 2) _)) (ea_cons ev_str (ea_cons ev_int ea_nil))))))) (by show 7 ≤ sizeLine; decide)) ?_
    refine so_set (ev__law_pick (n := 102 * ti + 61) (ea_cons (ev_var rfl) (ea_cons (ev_op (ev_var rfl) (ev_lst (ea_cons (ev_op (ev_tup (ea_cons ev_bl ea_nil) (by show 1 ≤ sizeLine; decide)) ((ev_cb (ea_cons (ev_var (d := .tup (w.map Dt.int)) rfl) ea_nil) rc_lenT).to (by rw [hml])) (hr (.bl true) _)) ea_nil) (by show 1 ≤ sizeLine; decide)) (rv_catL (by show 8 ≤ sizeLine; decide))) ea_nil)) hc (by omega) (by simp) (by show 8 ≤ 100000; decide)) fun x hx => ?_
    have hx2 : plS x = true ∧ isWd T.b x = false ∧ gd 3 x = true := by
      have gi : ∀ m : Nat, ∀ z ∈ w.map Dt.int, gd m z = true := fun m z hz => by
        obtain ⟨i, hi, rfl⟩ := List.mem_map.mp hz
        rcases hbits.2 i hi with rfl | rfl <;> (unfold gd; decide)
      have pi : ∀ z ∈ w.map Dt.int, pl z = true := fun z hz => by
        obtain ⟨i, hi, rfl⟩ := List.mem_map.mp hz
        rfl
      have gt : ∀ xs : List Dt, xs.length ≤ 10 → (∀ z ∈ xs, gd 2 z = true) → gd 3 (.tup xs) = true := fun xs h1 h2 => by
        unfold gd
        exact Bool.and_eq_true_iff.mpr ⟨gdA_all.mpr h2, decide_eq_true h1⟩
      have gl : ∀ xs : List Dt, xs.length ≤ 10 → (∀ z ∈ xs, gd 2 z = true) → gd 3 (.lst xs) = true := fun xs h1 h2 => by
        unfold gd
        exact Bool.and_eq_true_iff.mpr ⟨gdA_all.mpr h2, decide_eq_true h1⟩
      have g0 : ∀ i : Int, i.natAbs < 10 ^ 12 → gd 2 (.int i) = true := fun i h => by
        unfold gd
        exact decide_eq_true h
      have bad : ∀ y : Dt, isWF y 0 1 = false → isWd T.b (.tup (List.replicate w.length y)) = false := fun y hy => by
        have : ∃ n, w.length = n + 1 := ⟨w.length - 1, by omega⟩
        obtain ⟨n, hn⟩ := this
        rw [hn]
        simp [isWd, List.replicate_succ, hy]
      simp only [List.cons_append, List.nil_append, List.mem_cons, List.not_mem_nil, or_false, hrep] at hx
      rcases hx with rfl | rfl | rfl | rfl | rfl | rfl | rfl | rfl
      · exact ⟨rfl, rfl, by unfold gd; rfl⟩
      · refine ⟨plS_tup (fun z hz => ?_) (by simp only [List.length_append, List.length_cons, List.length_nil]; omega), isWd_len (by simp only [List.length_append, List.length_cons, List.length_nil]; omega), gt _ (by simp only [List.length_append, List.length_cons, List.length_nil]; omega) fun z hz => ?_⟩
        · rcases List.mem_append.mp hz with hz | hz
          · exact pi z hz
          · obtain rfl := List.mem_singleton.mp hz
            rfl
        · rcases List.mem_append.mp hz with hz | hz
          · exact gi 2 z hz
          · obtain rfl := List.mem_singleton.mp hz
            exact g0 0 (by decide)
      · refine ⟨?_, rfl, gl _ (by omega) (gi 2)⟩
        simp only [plS, pl, plA_ints, Bool.and_self, Bool.and_true]
      · refine ⟨plS_tup (fun z hz => pi z (cutD_sub hz)) (Nat.le_trans (cutD_le _ _ _) (by omega)), isWd_len ?_, gt _ (Nat.le_trans (cutD_le _ _ _) (by omega)) fun z hz => gi 2 z (cutD_sub hz)⟩
        cases hw0 : w.map Dt.int with
        | nil =>
          rw [hw0] at hml
          simp at hml
          omega
        | cons x xs =>
          rw [cutD_tail]
          rw [hw0] at hml
          simp only [List.length_cons] at hml
          omega
      · refine ⟨plS_tup (fun z hz => by obtain ⟨_, rfl⟩ := List.mem_replicate.mp hz; rfl) (by rw [List.length_replicate]; omega), bad _ (by decide), gt _ (by rw [List.length_replicate]; omega) fun z hz => ?_⟩
        obtain ⟨_, rfl⟩ := List.mem_replicate.mp hz
        exact g0 2 (by decide)
      · exact ⟨rfl, rfl, by unfold gd; decide +kernel⟩
      · exact ⟨rfl, rfl, by unfold gd; decide⟩
      · refine ⟨plS_tup (fun z hz => by obtain ⟨_, rfl⟩ := List.mem_replicate.mp hz; rfl) (by rw [List.length_replicate]; omega), bad _ rfl, gt _ (by rw [List.length_replicate]; omega) fun z hz => ?_⟩
        obtain ⟨_, rfl⟩ := List.mem_replicate.mp hz
        unfold gd
        rfl
    obtain ⟨px, bx, gx⟩ := hx2
    have hsx : shwOk (.tup [.str "word", x]) := gd_shw (by
      unfold gd
      refine Bool.and_eq_true_iff.mpr ⟨gdA_all.mpr fun z hz => ?_, decide_eq_true (by show 2 ≤ 10; omega)⟩
      simp only [List.mem_cons, List.not_mem_nil, or_false] at hz
      rcases hz with rfl | rfl
      · unfold gd
        decide +kernel
      · exact gx)
    refine so_ifF ((et_test (ev_op (ev_cb (ea_cons ((ev__law_said5 (ev_var rfl) hT (ev_var rfl) px).to (y := .tup [.str "word", x]) (by rw [bx]; rfl)) ea_nil) (rc_repr hsx)) (ev_cb (ea_cons (ev_tup (ea_cons ev_str (ea_cons (ev_var rfl) ea_nil)) (by show 2 ≤ sizeLine; decide)) ea_nil) (rc_repr hsx)) rv_neS)).to (by simp)) (so_skip ?_)
    -- another table, all its words
    refine so_set (ev__law_table (n := 102 * ti + 61 + 1) (ea_cons (ev_var rfl) (ea_cons ev_int ea_nil)) hc (by omega) (by decide) (by decide)) fun d hd => ?_
    obtain ⟨U, hU, rfl, hbU⟩ := hd
    have hb1U := Tab.b1 hU
    refine so_le (S1 := DW K a c cs (102 * (ti + 1))) (dw_le (by omega)) ?_
    refine so_forL (xs := wordsD U.b) (ev__law_words (ev_last (ev_var rfl)) (by omega) (by omega)) (fun i ρ' => ∃ y7, ρ' = [x0, some (.raw (.ref a)), some (.int ti), some U.d, some (tI w), some (tI (T.frame w)), some (.dct ((wordsL T.b.toNat).map (frD T)) ((wordsL T.b.toNat).map tI)), y7, y8, y9, some x, y11, _]) ⟨_, rfl⟩ (fun i z ρ' hz hJ => ?_) fun ρ' hJ => ?_
    · obtain ⟨y, rfl⟩ := hJ
      obtain ⟨v, hv, rfl⟩ := List.mem_map.mp (List.mem_of_getElem? hz)
      have hvb := wordsL_bits _ v hv
      exact so_if0F (et_orF ((et_test (ev_op (ev_frame_ofX (w := v) (ev_var rfl) hU (ev_var rfl) hvb) (ev__law_frame5 (w := v) (ev_var rfl) hU (ev_var rfl) hvb) (rv_neD (cmp_tI _) (cmp_tI _)))).to (by rw [eqv_tI]; simp))
        ((et_test (ev_op ((ev_word_of5 (ev_var rfl) hU (ev__law_frame5 (w := v) (ev_var rfl) hU (ev_var rfl) hvb) (plS_fr (frame_ok hU hvb))).to (wordOf_frame hU hvb)) (ev_var rfl) (rv_neD (cmp_tI _) (cmp_tI _)))).to (by rw [eqv_tI]; simp))) (so_next (Sta.Le.refl _) ⟨_, rfl⟩)
    · obtain ⟨y, rfl⟩ := hJ
      exact ⟨_, _, _, _, _, _, _, _, _, _, _, rfl⟩
end
end Bf
namespace Bf
open PySem PySem.Spec PyProof.Rows L2
/-! ### the text -/
def topS (i : Nat) : Stmt := PySem.Challenge.pw_beamframes_k05_whole_frames.main.body.getD i (.Pass ⟨0, 0, 0, 0⟩)
abbrev s_is_whole : Stmt := topS 5
abbrev s_is_whole_from : Stmt := topS 6
abbrev s_need_table : Stmt := topS 10
abbrev s_is_word : Stmt := topS 11
abbrev s_words_of : Stmt := topS 12
abbrev s_bits_of : Stmt := topS 13
abbrev s_begins_with : Stmt := topS 14
abbrev s_wrong_part_of_pairs : Stmt := topS 15
abbrev s_wrong_part_of_halves : Stmt := topS 16
abbrev s_is_duration : Stmt := topS 17
abbrev s_are_durations : Stmt := topS 18
abbrev s_is_pulse_and_gap : Stmt := topS 19
abbrev s_is_bit_count : Stmt := topS 20
abbrev s_frame_of : Stmt := topS 22
abbrev s_word_of : Stmt := topS 23
abbrev s_begin_of : Stmt := topS 24
abbrev s_is_pairs : Stmt := topS 25
abbrev s_under_way_at : Stmt := topS 26
abbrev s_part_of : Stmt := topS 27
abbrev s_half_behind : Stmt := topS 28
abbrev s_first_half : Stmt := topS 29
abbrev s_other_half : Stmt := topS 30
abbrev s__law_begin : Stmt := topS 32
abbrev s__law_next : Stmt := topS 33
abbrev s__law_pick : Stmt := topS 34
abbrev s__law_size : Stmt := topS 35
abbrev s__law_table : Stmt := topS 36
abbrev s__law_words : Stmt := topS 37
abbrev s__law_frame : Stmt := topS 38
abbrev s__law_said : Stmt := topS 39
abbrev s__law_bent : Stmt := topS 40
abbrev s_law : Stmt := topS 41
theorem sc_is_whole : FnScope ["thing"] ["thing"] (defScope s_is_whole) := ⟨rfl, rfl, rfl, by decide +kernel, rfl, by decide +kernel, by decide +kernel⟩
theorem sc_is_whole_from : FnScope ["thing", "low", "high"] ["thing", "low", "high"] (defScope s_is_whole_from) := ⟨rfl, rfl, rfl, by decide +kernel, rfl, by decide +kernel, by decide +kernel⟩
theorem sc_need_table : FnScope ["thing", "wrong"] ["thing"] (defScope s_need_table) := ⟨rfl, rfl, rfl, by decide +kernel, rfl, by decide +kernel, by decide +kernel⟩
theorem sc_is_word : FnScope ["table", "thing", "bit"] ["table", "thing"] (defScope s_is_word) := ⟨rfl, rfl, rfl, by decide +kernel, rfl, by decide +kernel, by decide +kernel⟩
theorem sc_words_of : FnScope ["table", "words", "_", "word", "bit"] ["table"] (defScope s_words_of) := ⟨rfl, rfl, rfl, by decide +kernel, rfl, by decide +kernel, by decide +kernel⟩
theorem sc_bits_of : FnScope ["table"] ["table"] (defScope s_bits_of) := ⟨rfl, rfl, rfl, by decide +kernel, rfl, by decide +kernel, by decide +kernel⟩
theorem sc_begins_with : FnScope ["thing", "name", "size"] ["thing", "name", "size"] (defScope s_begins_with) := ⟨rfl, rfl, rfl, by decide +kernel, rfl, by decide +kernel, by decide +kernel⟩
theorem sc_wrong_part_of_pairs : FnScope ["thing", "header", "zero", "one", "stop", "bits"] ["thing"] (defScope s_wrong_part_of_pairs) := ⟨rfl, rfl, rfl, by decide +kernel, rfl, by decide +kernel, by decide +kernel⟩
theorem sc_wrong_part_of_halves : FnScope ["thing"] ["thing"] (defScope s_wrong_part_of_halves) := ⟨rfl, rfl, rfl, by decide +kernel, rfl, by decide +kernel, by decide +kernel⟩
theorem sc_is_duration : FnScope ["thing"] ["thing"] (defScope s_is_duration) := ⟨rfl, rfl, rfl, by decide +kernel, rfl, by decide +kernel, by decide +kernel⟩
theorem sc_are_durations : FnScope ["thing", "part"] ["thing"] (defScope s_are_durations) := ⟨rfl, rfl, rfl, by decide +kernel, rfl, by decide +kernel, by decide +kernel⟩
theorem sc_is_pulse_and_gap : FnScope ["thing"] ["thing"] (defScope s_is_pulse_and_gap) := ⟨rfl, rfl, rfl, by decide +kernel, rfl, by decide +kernel, by decide +kernel⟩
theorem sc_is_bit_count : FnScope ["thing"] ["thing"] (defScope s_is_bit_count) := ⟨rfl, rfl, rfl, by decide +kernel, rfl, by decide +kernel, by decide +kernel⟩
theorem sc_frame_of : FnScope ["table", "word", "frame", "at", "bit"] ["table", "word"] (defScope s_frame_of) := ⟨rfl, rfl, rfl, by decide +kernel, rfl, by decide +kernel, by decide +kernel⟩
theorem sc_word_of : FnScope ["table", "frame", "part", "word"] ["table", "frame"] (defScope s_word_of) := ⟨rfl, rfl, rfl, by decide +kernel, rfl, by decide +kernel, by decide +kernel⟩
theorem sc_begin_of : FnScope ["table"] ["table"] (defScope s_begin_of) := ⟨rfl, rfl, rfl, by decide +kernel, rfl, by decide +kernel, by decide +kernel⟩
theorem sc_is_pairs : FnScope ["table"] ["table"] (defScope s_is_pairs) := ⟨rfl, rfl, rfl, by decide +kernel, rfl, by decide +kernel, by decide +kernel⟩
theorem sc_under_way_at : FnScope ["table", "size"] ["table", "size"] (defScope s_under_way_at) := ⟨rfl, rfl, rfl, by decide +kernel, rfl, by decide +kernel, by decide +kernel⟩
theorem sc_part_of : FnScope ["table", "under_way", "bit", "is_last", "zero", "one", "stop", "part", "unit"] ["table", "under_way", "bit", "is_last"] (defScope s_part_of) := ⟨rfl, rfl, rfl, by decide +kernel, rfl, by decide +kernel, by decide +kernel⟩
theorem sc_half_behind : FnScope ["under_way", "part"] ["under_way", "part"] (defScope s_half_behind) := ⟨rfl, rfl, rfl, by decide +kernel, rfl, by decide +kernel, by decide +kernel⟩
theorem sc_first_half : FnScope ["bit"] ["bit"] (defScope s_first_half) := ⟨rfl, rfl, rfl, by decide +kernel, rfl, by decide +kernel, by decide +kernel⟩
theorem sc_other_half : FnScope ["half"] ["half"] (defScope s_other_half) := ⟨rfl, rfl, rfl, by decide +kernel, rfl, by decide +kernel, by decide +kernel⟩
theorem sc__law_begin : FnScope ["script"] ["script"] (defScope s__law_begin) := ⟨rfl, rfl, rfl, by decide +kernel, rfl, by decide +kernel, by decide +kernel⟩
theorem sc__law_next : FnScope ["draw", "many", "cell", "cells", "number", "k"] ["draw", "many"] (defScope s__law_next) := ⟨rfl, rfl, rfl, by decide +kernel, rfl, by decide +kernel, by decide +kernel⟩
theorem sc__law_pick : FnScope ["draw", "some"] ["draw", "some"] (defScope s__law_pick) := ⟨rfl, rfl, rfl, by decide +kernel, rfl, by decide +kernel, by decide +kernel⟩
theorem sc__law_size : FnScope ["draw", "low", "high"] ["draw"] (defScope s__law_size) := ⟨rfl, rfl, rfl, by decide +kernel, rfl, by decide +kernel, by decide +kernel⟩
theorem sc__law_table : FnScope ["draw", "most", "bits", "header", "k", "zero", "one"] ["draw", "most"] (defScope s__law_table) := ⟨rfl, rfl, rfl, by decide +kernel, rfl, by decide +kernel, by decide +kernel⟩
theorem sc__law_words : FnScope ["many", "found", "k", "word_here"] ["many"] (defScope s__law_words) := ⟨rfl, rfl, rfl, by decide +kernel, rfl, by decide +kernel, by decide +kernel⟩
theorem sc__law_frame : FnScope ["chart", "word_here", "found", "bit", "levels", "at", "level"] ["chart", "word_here"] (defScope s__law_frame) := ⟨rfl, rfl, rfl, by decide +kernel, rfl, by decide +kernel, by decide +kernel⟩
theorem sc__law_said : FnScope ["chart", "word_here", "caught", "found", "e"] ["chart", "word_here"] (defScope s__law_said) := ⟨rfl, rfl, rfl, by decide +kernel, rfl, by decide +kernel, by decide +kernel⟩
theorem sc__law_bent : FnScope ["draw", "spans", "at", "size", "part", "some"] ["draw", "spans"] (defScope s__law_bent) := ⟨rfl, rfl, rfl, by decide +kernel, rfl, by decide +kernel, by decide +kernel⟩
theorem sc_law : FnScope ["script", "draw", "turn", "chart", "word_here", "spans", "known", "one", "k", "bent", "odd", "due", "some"] ["script"] (defScope s_law) := ⟨rfl, rfl, rfl, by decide +kernel, rfl, by decide +kernel, by decide +kernel⟩
structure Adr where
  a_is_whole : Addr
  d_is_whole : FuncData
  a_is_whole_from : Addr
  d_is_whole_from : FuncData
  a_need_table : Addr
  d_need_table : FuncData
  a_is_word : Addr
  d_is_word : FuncData
  a_words_of : Addr
  d_words_of : FuncData
  a_bits_of : Addr
  d_bits_of : FuncData
  a_begins_with : Addr
  d_begins_with : FuncData
  a_wrong_part_of_pairs : Addr
  d_wrong_part_of_pairs : FuncData
  a_wrong_part_of_halves : Addr
  d_wrong_part_of_halves : FuncData
  a_is_duration : Addr
  d_is_duration : FuncData
  a_are_durations : Addr
  d_are_durations : FuncData
  a_is_pulse_and_gap : Addr
  d_is_pulse_and_gap : FuncData
  a_is_bit_count : Addr
  d_is_bit_count : FuncData
  a_frame_of : Addr
  d_frame_of : FuncData
  a_word_of : Addr
  d_word_of : FuncData
  a_begin_of : Addr
  d_begin_of : FuncData
  a_is_pairs : Addr
  d_is_pairs : FuncData
  a_under_way_at : Addr
  d_under_way_at : FuncData
  a_part_of : Addr
  d_part_of : FuncData
  a_half_behind : Addr
  d_half_behind : FuncData
  a_first_half : Addr
  d_first_half : FuncData
  a_other_half : Addr
  d_other_half : FuncData
  a__law_begin : Addr
  d__law_begin : FuncData
  a__law_next : Addr
  d__law_next : FuncData
  a__law_pick : Addr
  d__law_pick : FuncData
  a__law_size : Addr
  d__law_size : FuncData
  a__law_table : Addr
  d__law_table : FuncData
  a__law_words : Addr
  d__law_words : FuncData
  a__law_frame : Addr
  d__law_frame : FuncData
  a__law_said : Addr
  d__law_said : FuncData
  a__law_bent : Addr
  d__law_bent : FuncData
  a_law : Addr
  d_law : FuncData
  c_BadTable : Addr
  i_BadTable : Addr
  c_BadWord : Addr
  i_BadWord : Addr
structure Txt (K : PySem.W.Frag) (mg : Str → Option Value) (A : Adr) : Prop where
  b_BadTable : BadCls PySem.Challenge.pw_beamframes_k05_whole_frames K mg "BadTable" "part" A.c_BadTable A.i_BadTable
  b_BadWord : BadCls PySem.Challenge.pw_beamframes_k05_whole_frames K mg "BadWord" "given" A.c_BadWord A.i_BadWord
  f_is_whole : Cal K mg "is_whole" s_is_whole ["thing"] A.a_is_whole A.d_is_whole
  f_is_whole_from : Cal K mg "is_whole_from" s_is_whole_from ["thing", "low", "high"] A.a_is_whole_from A.d_is_whole_from
  f_need_table : Cal K mg "need_table" s_need_table ["thing"] A.a_need_table A.d_need_table
  f_is_word : Cal K mg "is_word" s_is_word ["table", "thing"] A.a_is_word A.d_is_word
  f_words_of : Cal K mg "words_of" s_words_of ["table"] A.a_words_of A.d_words_of
  f_bits_of : Cal K mg "bits_of" s_bits_of ["table"] A.a_bits_of A.d_bits_of
  f_begins_with : Cal K mg "begins_with" s_begins_with ["thing", "name", "size"] A.a_begins_with A.d_begins_with
  f_wrong_part_of_pairs : Cal K mg "wrong_part_of_pairs" s_wrong_part_of_pairs ["thing"] A.a_wrong_part_of_pairs A.d_wrong_part_of_pairs
  f_wrong_part_of_halves : Cal K mg "wrong_part_of_halves" s_wrong_part_of_halves ["thing"] A.a_wrong_part_of_halves A.d_wrong_part_of_halves
  f_is_duration : Cal K mg "is_duration" s_is_duration ["thing"] A.a_is_duration A.d_is_duration
  f_are_durations : Cal K mg "are_durations" s_are_durations ["thing"] A.a_are_durations A.d_are_durations
  f_is_pulse_and_gap : Cal K mg "is_pulse_and_gap" s_is_pulse_and_gap ["thing"] A.a_is_pulse_and_gap A.d_is_pulse_and_gap
  f_is_bit_count : Cal K mg "is_bit_count" s_is_bit_count ["thing"] A.a_is_bit_count A.d_is_bit_count
  f_frame_of : Cal K mg "frame_of" s_frame_of ["table", "word"] A.a_frame_of A.d_frame_of
  f_word_of : Cal K mg "word_of" s_word_of ["table", "frame"] A.a_word_of A.d_word_of
  f_begin_of : Cal K mg "begin_of" s_begin_of ["table"] A.a_begin_of A.d_begin_of
  f_is_pairs : Cal K mg "is_pairs" s_is_pairs ["table"] A.a_is_pairs A.d_is_pairs
  f_under_way_at : Cal K mg "under_way_at" s_under_way_at ["table", "size"] A.a_under_way_at A.d_under_way_at
  f_part_of : Cal K mg "part_of" s_part_of ["table", "under_way", "bit", "is_last"] A.a_part_of A.d_part_of
  f_half_behind : Cal K mg "half_behind" s_half_behind ["under_way", "part"] A.a_half_behind A.d_half_behind
  f_first_half : Cal K mg "first_half" s_first_half ["bit"] A.a_first_half A.d_first_half
  f_other_half : Cal K mg "other_half" s_other_half ["half"] A.a_other_half A.d_other_half
  f__law_begin : Cal K mg "_law_begin" s__law_begin ["script"] A.a__law_begin A.d__law_begin
  f__law_next : Cal K mg "_law_next" s__law_next ["draw", "many"] A.a__law_next A.d__law_next
  f__law_pick : Cal K mg "_law_pick" s__law_pick ["draw", "some"] A.a__law_pick A.d__law_pick
  f__law_size : Cal K mg "_law_size" s__law_size ["draw"] A.a__law_size A.d__law_size
  f__law_table : Cal K mg "_law_table" s__law_table ["draw", "most"] A.a__law_table A.d__law_table
  f__law_words : Cal K mg "_law_words" s__law_words ["many"] A.a__law_words A.d__law_words
  f__law_frame : Cal K mg "_law_frame" s__law_frame ["chart", "word_here"] A.a__law_frame A.d__law_frame
  f__law_said : Cal K mg "_law_said" s__law_said ["chart", "word_here"] A.a__law_said A.d__law_said
  f__law_bent : Cal K mg "_law_bent" s__law_bent ["draw", "spans"] A.a__law_bent A.d__law_bent
  f_law : Cal K mg "law" s_law ["script"] A.a_law A.d_law
  k_frame_of_word_table : BKw A.d_frame_of ["table", "word"] ["word", "table"] swpL
  k_word_of_frame_table : BKw A.d_word_of ["table", "frame"] ["frame", "table"] swpL
  m_all : mg "all" = none
  m_bool : mg "bool" = none
  m_dict : mg "dict" = none
  m_enumerate : mg "enumerate" = none
  m_int : mg "int" = none
  m_isinstance : mg "isinstance" = none
  m_len : mg "len" = none
  m_list : mg "list" = none
  m_range : mg "range" = none
  m_repr : mg "repr" = none
  m_str : mg "str" = none
  m_tuple : mg "tuple" = none
  c_MOST_BITS : ∃ u, mg "MOST_BITS" = some u ∧ RelV (.int 8) u
  c_MOST_DURATION : ∃ u, mg "MOST_DURATION" = some u ∧ RelV (.int 99999) u
abbrev PG : Program := PySem.Challenge.pw_beamframes_k05_whole_frames
section
variable {P : Program} {w : World} {K : PySem.W.Frag} {mg : Str → Option Value} {base : Heap} {A : Adr}
theorem ok_is_whole (T : Txt K mg A) : GOk PG w K mg base 1 A.a_is_whole A.d_is_whole ["thing"] (p_is_whole K) := by
  refine okF T.f_is_whole.fn sc_is_whole (fun cdv AA out s H E hr hg => ⟨t_is_whole K, ?_, fun S hmu ds hl hp => so_is_whole hmu hp⟩)
  exact (pss_one (ps_ret (pe_and (pe_callB call_isi (by rfl) T.m_isinstance (by first | exact PySem.boot_isinstance | exact PyProof.Rows.boot_isinstance | decide +kernel) (pa_cons (pv 0) (pa_cons (pe_bltn (v := .ty "int") (by rfl) T.m_int (by first | exact PySem.boot_int | decide +kernel) rfl) pa_nil))) (pe_one (pe_not (pe_callB call_isi (by rfl) T.m_isinstance (by first | exact PySem.boot_isinstance | exact PyProof.Rows.boot_isinstance | decide +kernel) (pa_cons (pv 0) (pa_cons (pe_bltn (v := .ty "bool") (by rfl) T.m_bool (by first | exact PySem.boot_bool | decide +kernel) rfl) pa_nil))))))))
theorem ok_bits_of (T : Txt K mg A) : GOk PG w K mg base 1 A.a_bits_of A.d_bits_of ["table"] (p_bits_of K) := by
  refine okF T.f_bits_of.fn sc_bits_of (fun cdv AA out s H E hr hg => ⟨t_bits_of K, ?_, fun S hmu ds hl hp => so_bits_of hmu hp⟩)
  exact (pss_one (ps_ret (pe_ix ix_seq (pv 0) (pe_un un_neg pe_int) (fun _ _ => rfl))))
theorem ok_begins_with (T : Txt K mg A) : GOk PG w K mg base 1 A.a_begins_with A.d_begins_with ["thing", "name", "size"] (p_begins_with K) := by
  refine okF T.f_begins_with.fn sc_begins_with (fun cdv AA out s H E hr hg => ⟨t_begins_with K, ?_, fun S hmu ds hl hp => so_begins_with hmu hp⟩)
  exact (pss_cons (ps_if (PW.pt (pw_or (pt_not (pt_val (pe_callB call_isi (by rfl) T.m_isinstance (by first | exact PySem.boot_isinstance | exact PyProof.Rows.boot_isinstance | decide +kernel) (pa_cons (pv 0) (pa_cons (pe_bltn (v := .ty "tuple") (by rfl) T.m_tuple (by first | exact PySem.boot_tuple | decide +kernel) rfl) pa_nil))))) (pw_or1 (pt_cmpR op_ne (pe_callB call_len_seq (by rfl) T.m_len (by first | exact PySem.boot_len | exact PyProof.Rows.boot_len | decide +kernel) (pa_cons (pv 0) pa_nil)) (pv 2) (nomark _))))) (pss_one (ps_ret pe_bl)) pss_nil)
      (pss_one (ps_ret (pe_and (pe_callB call_isi (by rfl) T.m_isinstance (by first | exact PySem.boot_isinstance | exact PyProof.Rows.boot_isinstance | decide +kernel) (pa_cons (pe_ix ix_seq (pv 0) pe_int (fun _ _ => rfl)) (pa_cons (pe_bltn (v := .ty "str") (by rfl) T.m_str (by first | exact PySem.boot_str | decide +kernel) rfl) pa_nil))) (pe_one (pe_cmpR op_eq (pe_ix ix_seq (pv 0) pe_int (fun _ _ => rfl)) (pv 1) (nomark _)))))))
theorem ok_is_pairs (T : Txt K mg A) : GOk PG w K mg base 1 A.a_is_pairs A.d_is_pairs ["table"] (p_is_pairs K) := by
  refine okR T.f_is_pairs.fn sc_is_pairs (fun cdv AA out s H E hr hg => ⟨t_is_pairs K, ?_, fun S hmu ds d hl hp => so_is_pairs hp⟩)
  exact (pss_one (ps_ret (pe_cmpR op_eq (pe_ix ix_seq (pv 0) pe_int (fun _ _ => rfl)) pe_str (nomark _))))
theorem ok_first_half (T : Txt K mg A) : GOk PG w K mg base 1 A.a_first_half A.d_first_half ["bit"] (p_first_half K) := by
  refine okR T.f_first_half.fn sc_first_half (fun cdv AA out s H E hr hg => ⟨t_first_half K, ?_, fun S hmu ds d hl hp => so_first_half hp⟩)
  exact (pss_one (ps_ret (pe_ifExp (pt_cmpR op_eq (pv 0) pe_int (nomark _)) pe_str pe_str)))
theorem ok_other_half (T : Txt K mg A) : GOk PG w K mg base 1 A.a_other_half A.d_other_half ["half"] (p_other_half K) := by
  refine okR T.f_other_half.fn sc_other_half (fun cdv AA out s H E hr hg => ⟨t_other_half K, ?_, fun S hmu ds d hl hp => so_other_half hp⟩)
  exact (pss_one (ps_ret (pe_ifExp (pt_cmpR op_eq (pv 0) pe_str (nomark _)) pe_str pe_str)))
theorem ok__law_begin (T : Txt K mg A) : GOk PG w K mg base 1 A.a__law_begin A.d__law_begin ["script"] (p__law_begin K) := by
  refine okG T.f__law_begin.fn sc__law_begin (fun vs H Q E h => ?_) fun cdv AA out s H vs Q E hr hg h => ⟨t__law_begin K, ?_, ?_⟩
  · obtain ⟨s, ns, rfl, _⟩ := h
    rfl
  · exact (pss_one (ps_ret (pe_disp (pps_cons pe_str (pe_op op_catS (pv 0) (pe_lst (pa_cons pe_int pa_nil))) (pps_cons pe_str pe_int (pps_cons pe_str pe_int (pps_cons pe_str pe_int pps_nil)))) (by rfl) (by rfl) (fun z => by cases z) (by decide))))
  · obtain ⟨s, ns, rfl, hs, hl, q⟩ := h
    exact rd__law_begin rfl hs hl q
theorem ok__law_next (T : Txt K mg A) : GOk PG w K mg base 1 A.a__law_next A.d__law_next ["draw", "many"] (p__law_next K) := by
  refine okD T.f__law_next.fn sc__law_next rfl (fun cdv AA out s H E hr hg => ⟨t__law_next K, ?_, fun a c cs n ds hc hn hl hp => so__law_next hc hn hp⟩)
  exact (pss_cons (ps_if (pt_cmpR op_gt (pe_dget (hu_of hr) (pv 0) pe_str (fun _ _ => rfl)) pe_int (nomark _)) (pss_cons (ps_asg (pe_tup (pa_cons (pe_dget (hu_of hr) (pv 0) pe_str (fun _ _ => rfl)) (pa_cons (pe_op op_fdivW (pe_dget (hu_of hr) (pv 0) pe_str (fun _ _ => rfl)) (pv 1)) pa_nil))) (pg_tup rfl (pgs_cons (pg_name (i := 2) sc__law_next.nd rfl (Or.inl rfl)) (pgs_cons (pg_sub (pv 0) pe_str (set_dict (hu_of hr))) pgs_nil))))
      (pss_one (ps_ret (pe_op op_mod (pv 2) (pv 1))))) pss_nil)
      (pss_cons (ps_set (i := 3) sc__law_next.nd rfl (Or.inl rfl) (pe_dget (hu_of hr) (pv 0) pe_str (fun _ _ => rfl)))
      (pss_cons (ps_set (i := 2) sc__law_next.nd rfl (Or.inl rfl) (pe_ix ix_seq (pv 3) (pe_op op_mod (pe_dget (hu_of hr) (pv 0) pe_str (fun _ _ => rfl)) (pe_callB call_len_seq (by rfl) T.m_len (by first | exact PySem.boot_len | exact PyProof.Rows.boot_len | decide +kernel) (pa_cons (pv 3) pa_nil))) (fun _ _ => rfl)))
      (pss_cons (ps_asg (pe_op op_add (pe_dget (hu_of hr) (pv 0) pe_str (fun _ _ => rfl)) pe_int) (pg_sub (pv 0) pe_str (set_dict (hu_of hr))))
      (pss_cons (ps_if (PW.pt (pw_and (pt_cmpR op_ge (pv 2) (pe_op op_pow pe_int pe_int) (nomark _)) (pw_and1 (pt_cmpR op_le (pe_dget (hu_of hr) (pv 0) pe_str (fun _ _ => rfl)) (pe_callB call_len_seq (by rfl) T.m_len (by first | exact PySem.boot_len | exact PyProof.Rows.boot_len | decide +kernel) (pa_cons (pv 3) pa_nil)) (nomark _))))) (pss_cons (ps_asg (pe_op op_fdivW (pv 2) (pv 1)) (pg_sub (pv 0) pe_str (set_dict (hu_of hr))))
      (pss_one (ps_ret (pe_op op_mod (pv 2) (pv 1))))) pss_nil)
      (pss_cons (ps_asg (pe_op op_add (pe_dget (hu_of hr) (pv 0) pe_str (fun _ _ => rfl)) pe_int) (pg_sub (pv 0) pe_str (set_dict (hu_of hr))))
      (pss_cons (ps_set (i := 4) sc__law_next.nd rfl (Or.inl rfl) (pe_op op_add (pe_op op_mod (pv 2) pe_int) (pe_op op_mulW (pe_op op_mulW pe_int (pe_dget (hu_of hr) (pv 0) pe_str (fun _ _ => rfl))) (pe_dget (hu_of hr) (pv 0) pe_str (fun _ _ => rfl)))))
      (pss_cons (ps_for PassesOwn.never rfl (pi_tup (pe_tup (pa_cons (pe_dget (hu_of hr) (pv 0) pe_str (fun _ _ => rfl)) (pa_cons (pe_dget (hu_of hr) (pv 0) pe_str (fun _ _ => rfl)) pa_nil)))) (pg_name (i := 5) sc__law_next.nd rfl (Or.inl rfl)) (pss_cons (ps_set (i := 4) sc__law_next.nd rfl (Or.inl rfl) (pe_op op_mod (pe_op op_mulW (pe_op op_add (pe_op op_add (pv 4) (pe_op op_mulW pe_int (pv 5))) pe_int) pe_int) pe_int))
      (pss_one (ps_set (i := 4) sc__law_next.nd rfl (Or.inl rfl) (pe_op op_mod (pe_op op_mulW (pv 4) (pe_op op_add pe_int (pe_op op_mulW pe_int (pe_op op_mod (pv 5) pe_int)))) pe_int)))))
      (pss_one (ps_ret (pe_op op_mod (pe_op op_fdivW (pv 4) pe_int) (pv 1))))))))))))
theorem ok__law_words (T : Txt K mg A) : GOk PG w K mg base 1 A.a__law_words A.d__law_words ["many"] (p__law_words K) := by
  refine okF T.f__law_words.fn sc__law_words (fun cdv AA out s H E hr hg => ⟨t__law_words K, ?_, fun S hmu ds hl hp => so__law_words hmu hp⟩)
  exact (pss_cons (ps_set (i := 1) sc__law_words.nd rfl (Or.inl rfl) (pe_lst (pa_cons (pe_tup pa_nil) pa_nil)))
      (pss_cons (ps_for PassesOwn.never rfl (pi_range1 rfl T.m_range (pa_cons (pv 0) pa_nil)) (pg_name (i := 2) sc__law_words.nd rfl (Or.inl rfl)) (pss_one (ps_set (i := 1) sc__law_words.nd rfl (Or.inl rfl) (pe_op op_catS (pe_lc (own := [("word_here", 3)]) (g := (gName 3)) (tt := tYes) (te := (tOp (rCatA K) (tTup (tCons (tC (.int 0)) tNil)) (tVar 3))) rfl sc__law_words.nd (pi_list (pv 1)) (blkOk_by (own := [("word_here", 3)]) (N := ["many", "found", "k", "word_here"]) (sc := defScope s__law_words) (by decide +kernel))  (fun _ _ _ _ _ => (pg_name (i := 3) sc__law_words.nd rfl (Or.inl rfl))) (fun _ _ _ _ _ => pts_nil)  (fun _ _ _ _ _ => (pe_op op_catA (pe_tup (pa_cons pe_int pa_nil)) (pv 3)))) (pe_lc (own := [("word_here", 3)]) (g := (gName 3)) (tt := tYes) (te := (tOp (rCatA K) (tTup (tCons (tC (.int 1)) tNil)) (tVar 3))) rfl sc__law_words.nd (pi_list (pv 1)) (blkOk_by (own := [("word_here", 3)]) (N := ["many", "found", "k", "word_here"]) (sc := defScope s__law_words) (by decide +kernel))  (fun _ _ _ _ _ => (pg_name (i := 3) sc__law_words.nd rfl (Or.inl rfl))) (fun _ _ _ _ _ => pts_nil)  (fun _ _ _ _ _ => (pe_op op_catA (pe_tup (pa_cons pe_int pa_nil)) (pv 3))))))))
      (pss_one (ps_ret (pv 1)))))
theorem ok__law_frame (T : Txt K mg A) : GOk PG w K mg base 1 A.a__law_frame A.d__law_frame ["chart", "word_here"] (p__law_frame K) := by
  refine okR T.f__law_frame.fn sc__law_frame (fun cdv AA out s H E hr hg => ⟨t__law_frame K, ?_, fun S hmu ds d hl hp => so__law_frame hmu hp⟩)
  exact (pss_cons (ps_if (pt_cmpR op_eq (pe_ix ix_seq (pv 0) pe_int (fun _ _ => rfl)) pe_str (nomark _)) (pss_cons (ps_set (i := 2) sc__law_frame.nd rfl (Or.inl rfl) (pe_callTy call_list_of (by rfl) T.m_list (by first | exact PySem.boot_list | exact PyProof.Rows.boot_list | decide +kernel) (pa_cons (pe_ix ix_seq (pv 0) pe_int (fun _ _ => rfl)) pa_nil)))
      (pss_cons (ps_for PassesOwn.never rfl (pi_tup (pv 1)) (pg_name (i := 3) sc__law_frame.nd rfl (Or.inl rfl)) (pss_one (ps_set (i := 2) sc__law_frame.nd rfl (Or.inl rfl) (pe_op op_catS (pv 2) (pe_callTy call_list_of (by rfl) T.m_list (by first | exact PySem.boot_list | exact PyProof.Rows.boot_list | decide +kernel) (pa_cons (pe_ix ix_seq (pv 0) (pe_op op_add pe_int (pv 3)) (fun _ _ => rfl)) pa_nil))))))
      (pss_one (ps_ret (pe_callTy call_tuple_of (by rfl) T.m_tuple (by first | exact PySem.boot_tuple | exact PyProof.Rows.boot_tuple | decide +kernel) (pa_cons (pe_op op_catS (pv 2) (pe_lst (pa_cons (pe_ix ix_seq (pv 0) pe_int (fun _ _ => rfl)) pa_nil))) pa_nil)))))) pss_nil)
      (pss_cons (ps_par (i := 2) (j := 4) (by rfl) sc__law_frame.nd rfl rfl (by decide) rfl rfl (pa_cons (pe_lst pa_nil) (pa_cons (pe_lst (pa_cons pe_int (pa_cons pe_int pa_nil))) pa_nil)) (by rfl))
      (pss_cons (ps_for PassesOwn.never rfl (pi_tup (pv 1)) (pg_name (i := 3) sc__law_frame.nd rfl (Or.inl rfl)) (pss_one (ps_set (i := 4) sc__law_frame.nd rfl (Or.inl rfl) (pe_op op_catS (pv 4) (pe_lst (pa_cons (pv 3) (pa_cons (pe_op op_sub pe_int (pv 3)) pa_nil)))))))
      (pss_cons (ps_for PassesOwn.never rfl (pi_enum rfl T.m_enumerate (pa_cons (pv 4) pa_nil)) (pg_tup rfl (pgs_cons (pg_name (i := 5) sc__law_frame.nd rfl (Or.inl rfl)) (pgs_cons (pg_name (i := 6) sc__law_frame.nd rfl (Or.inl rfl)) pgs_nil))) (pss_one (ps_if (PW.pt (pw_and (pt_cmpR op_gt (pv 5) pe_int (nomark _)) (pw_and1 (pt_cmpR op_eq (pe_ix ix_seq (pv 4) (pe_op op_sub (pv 5) pe_int) (fun _ _ => rfl)) (pv 6) (nomark _))))) (pss_one (ps_asg (pe_op op_add (pe_ix ix_seq (pv 2) (pe_un un_neg pe_int) (fun _ _ => rfl)) (pe_ix ix_seq (pv 0) pe_int (fun _ _ => rfl))) (pg_sub (pv 2) (pe_un un_neg pe_int) set_list))) (pss_one (ps_expr (pe_bm PySem.F.plainAttrs_list PySem.F.slot_list_append PySem.F.type_list_append mt_append (pv 2) (pa_cons (pe_ix ix_seq (pv 0) pe_int (fun _ _ => rfl)) pa_nil)))))))
      (pss_one (ps_ret (pe_callTy call_tuple_of (by rfl) T.m_tuple (by first | exact PySem.boot_tuple | exact PyProof.Rows.boot_tuple | decide +kernel) (pa_cons (pe_ifExp (pt_cmpR op_eq (pe_ix ix_seq (pv 4) (pe_un un_neg pe_int) (fun _ _ => rfl)) pe_int (nomark _)) (pe_slice sl_list (pv 2) po_none (po_some (pe_un un_neg pe_int))) (pv 2)) pa_nil))))))))
theorem ok_is_whole_from (T : Txt K mg A) : GOk PG w K mg base 2 A.a_is_whole_from A.d_is_whole_from ["thing", "low", "high"] (p_is_whole_from K) := by
  refine okF T.f_is_whole_from.fn sc_is_whole_from (fun cdv AA out s H E hr hg => ⟨t_is_whole_from K, ?_, fun S hmu ds hl hp => so_is_whole_from hmu hp⟩)
  exact (pss_one (ps_ret (pe_and (pe_g (G := (ok_is_whole T)) (hb := T.f_is_whole.bp) (hm := T.f_is_whole.gl) (hk := T.f_is_whole.fn.kp) (hr := hr.mono (by decide)) (hgd := hg) (hx := passL) (ha := (pa_cons (pv 0) pa_nil))) (pe_one (pe_chain op_le op_le (pv 1) (pv 0) (pv 2))))))
theorem ok_under_way_at (T : Txt K mg A) : GOk PG w K mg base 2 A.a_under_way_at A.d_under_way_at ["table", "size"] (p_under_way_at K) := by
  refine okR T.f_under_way_at.fn sc_under_way_at (fun cdv AA out s H E hr hg => ⟨t_under_way_at K, ?_, fun S hmu ds d hl hp => so_under_way_at hp⟩)
  exact (pss_cons (ps_if (pt_val (pe_g (G := (ok_is_pairs T)) (hb := T.f_is_pairs.bp) (hm := T.f_is_pairs.gl) (hk := T.f_is_pairs.fn.kp) (hr := hr.mono (by decide)) (hgd := hg) (hx := passL) (ha := (pa_cons (pv 0) pa_nil)))) (pss_one (ps_ret pe_str)) pss_nil)
      (pss_one (ps_ret (pe_ifExp (pt_cmpR op_eq (pe_op op_mod (pv 1) pe_int) pe_int (nomark _)) pe_str pe_str))))
theorem ok_half_behind (T : Txt K mg A) : GOk PG w K mg base 2 A.a_half_behind A.d_half_behind ["under_way", "part"] (p_half_behind K) := by
  refine okR T.f_half_behind.fn sc_half_behind (fun cdv AA out s H E hr hg => ⟨t_half_behind K, ?_, fun S hmu ds d hl hp => so_half_behind hp⟩)
  exact (pss_one (ps_ret (pe_ifExp (pt_cmpR op_eq (pe_callB call_len_seq (by rfl) T.m_len (by first | exact PySem.boot_len | exact PyProof.Rows.boot_len | decide +kernel) (pa_cons (pv 1) pa_nil)) pe_int (nomark _)) (pv 0) (pe_g (G := (ok_other_half T)) (hb := T.f_other_half.bp) (hm := T.f_other_half.gl) (hk := T.f_other_half.fn.kp) (hr := hr.mono (by decide)) (hgd := hg) (hx := passL) (ha := (pa_cons (pv 0) pa_nil))))))
theorem ok__law_pick (T : Txt K mg A) : GOk PG w K mg base 2 A.a__law_pick A.d__law_pick ["draw", "some"] (p__law_pick K) := by
  refine okD T.f__law_pick.fn sc__law_pick rfl (fun cdv AA out s H E hr hg => ⟨t__law_pick K, ?_, fun a c cs n ds hc hn hl hp => so__law_pick hc hn hp⟩)
  exact (pss_one (ps_ret (pe_ix ix_seq (pv 1) (pe_g (G := (ok__law_next T)) (hb := T.f__law_next.bp) (hm := T.f__law_next.gl) (hk := T.f__law_next.fn.kp) (hr := hr.mono (by decide)) (hgd := hg) (hx := passL) (ha := (pa_cons (pv 0) (pa_cons (pe_callB call_len_seq (by rfl) T.m_len (by first | exact PySem.boot_len | exact PyProof.Rows.boot_len | decide +kernel) (pa_cons (pv 1) pa_nil)) pa_nil)))) (fun _ _ => rfl))))
theorem ok_is_duration (T : Txt K mg A) : GOk PG w K mg base 3 A.a_is_duration A.d_is_duration ["thing"] (p_is_duration K) := by
  refine okF T.f_is_duration.fn sc_is_duration (fun cdv AA out s H E hr hg => ⟨t_is_duration K, ?_, fun S hmu ds hl hp => so_is_duration hmu hp⟩)
  exact (pss_one (ps_ret (pe_g (G := (ok_is_whole_from T)) (hb := T.f_is_whole_from.bp) (hm := T.f_is_whole_from.gl) (hk := T.f_is_whole_from.fn.kp) (hr := hr.mono (by decide)) (hgd := hg) (hx := passL) (ha := (pa_cons (pv 0) (pa_cons pe_int (pa_cons (pe_gc rfl T.c_MOST_DURATION) pa_nil)))))))
theorem ok_is_bit_count (T : Txt K mg A) : GOk PG w K mg base 3 A.a_is_bit_count A.d_is_bit_count ["thing"] (p_is_bit_count K) := by
  refine okF T.f_is_bit_count.fn sc_is_bit_count (fun cdv AA out s H E hr hg => ⟨t_is_bit_count K, ?_, fun S hmu ds hl hp => so_is_bit_count hmu hp⟩)
  exact (pss_one (ps_ret (pe_g (G := (ok_is_whole_from T)) (hb := T.f_is_whole_from.bp) (hm := T.f_is_whole_from.gl) (hk := T.f_is_whole_from.fn.kp) (hr := hr.mono (by decide)) (hgd := hg) (hx := passL) (ha := (pa_cons (pv 0) (pa_cons pe_int (pa_cons (pe_gc rfl T.c_MOST_BITS) pa_nil)))))))
theorem ok_part_of (T : Txt K mg A) : GOk PG w K mg base 3 A.a_part_of A.d_part_of ["table", "under_way", "bit", "is_last"] (p_part_of K) := by
  refine okR T.f_part_of.fn sc_part_of (fun cdv AA out s H E hr hg => ⟨t_part_of K, ?_, fun S hmu ds d hl hp => so_part_of hp⟩)
  exact (pss_cons (ps_if (pt_val (pe_g (G := (ok_is_pairs T)) (hb := T.f_is_pairs.bp) (hm := T.f_is_pairs.gl) (hk := T.f_is_pairs.fn.kp) (hr := hr.mono (by decide)) (hgd := hg) (hx := passL) (ha := (pa_cons (pv 0) pa_nil)))) (pss_cons (ps_asg (pe_slice sl_tupA (pv 0) (po_some pe_int) (po_some pe_int)) (pg_tup rfl (pgs_cons (pg_name (i := 4) sc_part_of.nd rfl (Or.inl rfl)) (pgs_cons (pg_name (i := 5) sc_part_of.nd rfl (Or.inl rfl)) (pgs_cons (pg_name (i := 6) sc_part_of.nd rfl (Or.inl rfl)) pgs_nil)))))
      (pss_cons (ps_set (i := 7) sc_part_of.nd rfl (Or.inl rfl) (pe_ifExp (pt_cmpR op_eq (pv 2) pe_int (nomark _)) (pv 5) (pv 4)))
      (pss_one (ps_ret (pe_ifExp (pt_val (pv 3)) (pe_tup (StX.pa_star (pv 7) (pa_cons (pv 6) pa_nil))) (pv 7)))))) pss_nil)
      (pss_cons (ps_set (i := 8) sc_part_of.nd rfl (Or.inl rfl) (pe_ix ix_seq (pv 0) pe_int (fun _ _ => rfl)))
      (pss_cons (ps_set (i := 7) sc_part_of.nd rfl (Or.inl rfl) (pe_ifExp (pt_cmpR op_eq (pe_g (G := (ok_first_half T)) (hb := T.f_first_half.bp) (hm := T.f_first_half.gl) (hk := T.f_first_half.fn.kp) (hr := hr.mono (by decide)) (hgd := hg) (hx := passL) (ha := (pa_cons (pv 2) pa_nil))) (pv 1) (nomark _)) (pe_tup (pa_cons (pe_op op_mulW pe_int (pv 8)) pa_nil)) (pe_tup (pa_cons (pv 8) (pa_cons (pv 8) pa_nil)))))
      (pss_cons (ps_if (PW.pt (pw_and (pt_val (pv 3)) (pw_and1 (pt_cmpR op_eq (pe_g (G := (ok_half_behind T)) (hb := T.f_half_behind.bp) (hm := T.f_half_behind.gl) (hk := T.f_half_behind.fn.kp) (hr := hr.mono (by decide)) (hgd := hg) (hx := passL) (ha := (pa_cons (pv 1) (pa_cons (pv 7) pa_nil)))) pe_str (nomark _))))) (pss_one (ps_ret (pe_tup (StX.pa_star (pv 7) (pa_cons (pv 8) pa_nil))))) pss_nil)
      (pss_one (ps_ret (pv 7)))))))
theorem ok__law_size (T : Txt K mg A) : GOk PG w K mg base 3 A.a__law_size A.d__law_size ["draw"] (p__law_size K) := by
  refine okD T.f__law_size.fn sc__law_size rfl (fun cdv AA out s H E hr hg => ⟨t__law_size K, ?_, fun a c cs n ds hc hn hl hp => so__law_size hc hn hp⟩)
  exact (pss_cons (ps_par (i := 1) (j := 2) (by rfl) sc__law_size.nd rfl rfl (by decide) rfl rfl (pa_cons (pe_op op_add pe_int (pe_g (G := (ok__law_next T)) (hb := T.f__law_next.bp) (hm := T.f__law_next.gl) (hk := T.f__law_next.fn.kp) (hr := hr.mono (by decide)) (hgd := hg) (hx := passL) (ha := (pa_cons (pv 0) (pa_cons pe_int pa_nil))))) (pa_cons (pe_op op_add pe_int (pe_g (G := (ok__law_next T)) (hb := T.f__law_next.bp) (hm := T.f__law_next.gl) (hk := T.f__law_next.fn.kp) (hr := hr.mono (by decide)) (hgd := hg) (hx := passL) (ha := (pa_cons (pv 0) (pa_cons pe_int pa_nil))))) pa_nil)) (by rfl))
      (pss_one (ps_ret (pe_g (G := (ok__law_pick T)) (hb := T.f__law_pick.bp) (hm := T.f__law_pick.gl) (hk := T.f__law_pick.fn.kp) (hr := hr.mono (by decide)) (hgd := hg) (hx := passL) (ha := (pa_cons (pv 0) (pa_cons (pe_lst (pa_cons (pv 1) (pa_cons (pv 1) (pa_cons (pe_op op_add (pv 1) pe_int) (pa_cons (pv 2) (pa_cons pe_int (pa_cons pe_int pa_nil))))))) pa_nil)))))))
theorem ok__law_bent (T : Txt K mg A) : GOk PG w K mg base 3 A.a__law_bent A.d__law_bent ["draw", "spans"] (p__law_bent K) := by
  refine okD T.f__law_bent.fn sc__law_bent rfl (fun cdv AA out s H E hr hg => ⟨t__law_bent K, ?_, fun a c cs n ds hc hn hl hp => so__law_bent hc hn hp⟩)
  exact (pss_cons (ps_set (i := 2) sc__law_bent.nd rfl (Or.inl rfl) (pe_g (G := (ok__law_next T)) (hb := T.f__law_next.bp) (hm := T.f__law_next.gl) (hk := T.f__law_next.fn.kp) (hr := hr.mono (by decide)) (hgd := hg) (hx := passL) (ha := (pa_cons (pv 0) (pa_cons (pe_callB call_len_seq (by rfl) T.m_len (by first | exact PySem.boot_len | exact PyProof.Rows.boot_len | decide +kernel) (pa_cons (pv 1) pa_nil)) pa_nil)))))
      (pss_cons (ps_set (i := 3) sc__law_bent.nd rfl (Or.inl rfl) (pe_ix ix_seq (pv 1) (pv 2) (fun _ _ => rfl)))
      (pss_cons (ps_set (i := 4) sc__law_bent.nd rfl (Or.inl rfl) (pe_g (G := (ok__law_pick T)) (hb := T.f__law_pick.bp) (hm := T.f__law_pick.gl) (hk := T.f__law_pick.fn.kp) (hr := hr.mono (by decide)) (hgd := hg) (hx := passL) (ha := (pa_cons (pv 0) (pa_cons (pe_lst (pa_cons (pe_op op_add (pv 3) pe_int) (pa_cons (pe_op op_sub (pv 3) pe_int) (pa_cons (pe_op op_mulW (pv 3) pe_int) (pa_cons pe_non (pa_cons pe_bl pa_nil)))))) pa_nil)))))
      (pss_cons (ps_if (pt_cmpR op_eq (pe_g (G := (ok__law_next T)) (hb := T.f__law_next.bp) (hm := T.f__law_next.gl) (hk := T.f__law_next.fn.kp) (hr := hr.mono (by decide)) (hgd := hg) (hx := passL) (ha := (pa_cons (pv 0) (pa_cons pe_int pa_nil)))) pe_int (nomark _)) (pss_one (ps_set (i := 4) sc__law_bent.nd rfl (Or.inl rfl) (pe_g (G := (ok__law_pick T)) (hb := T.f__law_pick.bp) (hm := T.f__law_pick.gl) (hk := T.f__law_pick.fn.kp) (hr := hr.mono (by decide)) (hgd := hg) (hx := passL) (ha := (pa_cons (pv 0) (pa_cons (pe_lst (pa_cons (pe_callTy call_str_int (by rfl) T.m_str (by first | exact PySem.boot_str | exact PyProof.Rows.boot_str | decide +kernel) (pa_cons (pv 3) pa_nil)) (pa_cons pe_int (pa_cons pe_int (pa_cons (pe_lst (pa_cons pe_int pa_nil)) (pa_cons pe_dnewK pa_nil)))))) pa_nil)))))) pss_nil)
      (pss_cons (ps_set (i := 5) sc__law_bent.nd rfl (Or.inl rfl) (pe_lst (pa_cons (pe_op op_catA (pe_op op_catA (pe_slice sl_tupA (pv 1) po_none (po_some (pv 2))) (pe_tup (pa_cons (pv 4) pa_nil))) (pe_slice sl_tupA (pv 1) (po_some (pe_op op_add (pv 2) pe_int)) po_none)) (pa_cons (pe_op op_catA (pe_slice sl_tupA (pv 1) po_none (po_some (pv 2))) (pe_slice sl_tupA (pv 1) (po_some (pe_op op_add (pv 2) pe_int)) po_none)) pa_nil))))
      (pss_cons (ps_set (i := 5) sc__law_bent.nd rfl (Or.inl rfl) (pe_op op_catS (pv 5) (pe_lst (pa_cons (pe_op op_catA (pv 1) (pe_slice sl_tupA (pv 1) (po_some (pe_un un_neg pe_int)) po_none)) (pa_cons (pe_callTy call_list_of (by rfl) T.m_list (by first | exact PySem.boot_list | exact PyProof.Rows.boot_list | decide +kernel) (pa_cons (pv 1) pa_nil)) pa_nil)))))
      (pss_cons (ps_set (i := 5) sc__law_bent.nd rfl (Or.inl rfl) (pe_op op_catS (pv 5) (pe_lst (pa_cons (pe_slice sl_tupA (pv 1) po_none (po_some (pe_un un_neg pe_int))) (pa_cons (pe_tup pa_nil) (pa_cons pe_non (pa_cons (pe_ix ix_seq (pv 1) pe_int (fun _ _ => rfl)) (pa_cons (pe_op op_catA (pv 1) (pe_tup (pa_cons pe_int (pa_cons pe_int pa_nil)))) pa_nil))))))))
      (pss_one (ps_ret (pe_g (G := (ok__law_pick T)) (hb := T.f__law_pick.bp) (hm := T.f__law_pick.gl) (hk := T.f__law_pick.fn.kp) (hr := hr.mono (by decide)) (hgd := hg) (hx := passL) (ha := (pa_cons (pv 0) (pa_cons (pe_op op_catS (pv 5) (pe_lst (pa_cons (pe_revT (pv 1)) pa_nil))) pa_nil)))))))))))))
theorem ok_wrong_part_of_halves (T : Txt K mg A) : GOk PG w K mg base 4 A.a_wrong_part_of_halves A.d_wrong_part_of_halves ["thing"] (p_wrong_part_of_halves K) := by
  refine okF T.f_wrong_part_of_halves.fn sc_wrong_part_of_halves (fun cdv AA out s H E hr hg => ⟨t_wrong_part_of_halves K, ?_, fun S hmu ds hl hp => so_wrong_part_of_halves hmu hp⟩)
  exact (pss_cons (ps_if (pt_not (pt_val (pe_g (G := (ok_is_duration T)) (hb := T.f_is_duration.bp) (hm := T.f_is_duration.gl) (hk := T.f_is_duration.fn.kp) (hr := hr.mono (by decide)) (hgd := hg) (hx := passL) (ha := (pa_cons (pe_ix ix_seq (pv 0) pe_int (fun _ _ => rfl)) pa_nil))))) (pss_one (ps_ret pe_str)) pss_nil)
      (pss_cons (ps_if (pt_not (pt_val (pe_g (G := (ok_is_bit_count T)) (hb := T.f_is_bit_count.bp) (hm := T.f_is_bit_count.gl) (hk := T.f_is_bit_count.fn.kp) (hr := hr.mono (by decide)) (hgd := hg) (hx := passL) (ha := (pa_cons (pe_ix ix_seq (pv 0) pe_int (fun _ _ => rfl)) pa_nil))))) (pss_one (ps_ret pe_str)) pss_nil)
      (pss_one (ps_ret pe_non))))
theorem ok_are_durations (T : Txt K mg A) : GOk PG w K mg base 4 A.a_are_durations A.d_are_durations ["thing"] (p_are_durations K) := by
  refine okF T.f_are_durations.fn sc_are_durations (fun cdv AA out s H E hr hg => ⟨t_are_durations K, ?_, fun S hmu ds hl hp => so_are_durations hmu hp⟩)
  exact (pss_one (ps_ret (pe_and (pe_callB call_isi (by rfl) T.m_isinstance (by first | exact PySem.boot_isinstance | exact PyProof.Rows.boot_isinstance | decide +kernel) (pa_cons (pv 0) (pa_cons (pe_bltn (v := .ty "tuple") (by rfl) T.m_tuple (by first | exact PySem.boot_tuple | decide +kernel) rfl) pa_nil))) (pe_one (pe_callB (cr_all rfl) (by rfl) T.m_all (by first | exact PySem.boot_all | exact PyProof.Rows.boot_all | decide +kernel) (pa_cons (pe_lc (own := [("part", 1)]) (g := (gName 1)) (tt := tYes) (te := (tCall (p_is_duration K) [] E0 (tCons (tVar 1) tNil))) rfl sc_are_durations.nd (pi_tup (pv 0)) (blkOk_by (own := [("part", 1)]) (N := ["thing", "part"]) (sc := defScope s_are_durations) (by decide +kernel))  (fun _ _ _ _ _ => (pg_name (i := 1) sc_are_durations.nd rfl (Or.inl rfl))) (fun _ _ _ _ _ => pts_nil)  (fun _ _ _ _ _ => (pe_g (G := (ok_is_duration T)) (hb := T.f_is_duration.bp) (hm := T.f_is_duration.gl) (hk := T.f_is_duration.fn.kp) (hr := hr.mono (by decide)) (hgd := hg) (hx := passL) (ha := (pa_cons (pv 1) pa_nil))))) pa_nil))))))
theorem ok__law_table (T : Txt K mg A) : GOk PG w K mg base 4 A.a__law_table A.d__law_table ["draw", "most"] (p__law_table K) := by
  refine okD T.f__law_table.fn sc__law_table rfl (fun cdv AA out s H E hr hg => ⟨t__law_table K, ?_, fun a c cs n ds hc hn hl hp => so__law_table hc hn hp⟩)
  exact (pss_cons (ps_set (i := 2) sc__law_table.nd rfl (Or.inl rfl) (pe_op op_add pe_int (pe_g (G := (ok__law_next T)) (hb := T.f__law_next.bp) (hm := T.f__law_next.gl) (hk := T.f__law_next.fn.kp) (hr := hr.mono (by decide)) (hgd := hg) (hx := passL) (ha := (pa_cons (pv 0) (pa_cons (pv 1) pa_nil))))))
      (pss_cons (ps_if (pt_cmpR op_eq (pe_g (G := (ok__law_next T)) (hb := T.f__law_next.bp) (hm := T.f__law_next.gl) (hk := T.f__law_next.fn.kp) (hr := hr.mono (by decide)) (hgd := hg) (hx := passL) (ha := (pa_cons (pv 0) (pa_cons pe_int pa_nil)))) pe_int (nomark _)) (pss_one (ps_ret (pe_tup (pa_cons pe_str (pa_cons (pe_g (G := (ok__law_size T)) (hb := T.f__law_size.bp) (hm := T.f__law_size.gl) (hk := T.f__law_size.fn.kp) (hr := hr.mono (by decide)) (hgd := hg) (hx := passL) (ha := (pa_cons (pv 0) pa_nil))) (pa_cons (pv 2) pa_nil)))))) pss_nil)
      (pss_cons (ps_set (i := 3) sc__law_table.nd rfl (Or.inl rfl) (pe_callTy call_tuple_of (by rfl) T.m_tuple (by first | exact PySem.boot_tuple | exact PyProof.Rows.boot_tuple | decide +kernel) (pa_cons (pe_lc (own := [("k", 4)]) (g := (gName 4)) (tt := tYes) (te := (tCall (p__law_size K) [] E0 (tCons (tVar 0) tNil))) rfl sc__law_table.nd (pi_range1 rfl T.m_range (pa_cons (pe_ix ix_list (pe_lst (pa_cons pe_int (pa_cons pe_int (pa_cons pe_int (pa_cons pe_int pa_nil))))) (pe_g (G := (ok__law_next T)) (hb := T.f__law_next.bp) (hm := T.f__law_next.gl) (hk := T.f__law_next.fn.kp) (hr := hr.mono (by decide)) (hgd := hg) (hx := passL) (ha := (pa_cons (pv 0) (pa_cons pe_int pa_nil)))) (fun _ _ => rfl)) pa_nil)) (blkOk_by (own := [("k", 4)]) (N := ["draw", "most", "bits", "header", "k", "zero", "one"]) (sc := defScope s__law_table) (by decide +kernel))  (fun _ _ _ _ _ => (pg_name (i := 4) sc__law_table.nd rfl (Or.inl rfl))) (fun _ _ _ _ _ => pts_nil)  (fun _ _ _ _ _ => (pe_g (G := (ok__law_size T)) (hb := T.f__law_size.bp) (hm := T.f__law_size.gl) (hk := T.f__law_size.fn.kp) (hr := hr.mono (by decide)) (hgd := hg) (hx := passL) (ha := (pa_cons (pv 0) pa_nil))))) pa_nil)))
      (pss_cons (ps_par (i := 5) (j := 6) (by rfl) sc__law_table.nd rfl rfl (by decide) rfl rfl (pa_cons (pe_tup (pa_cons (pe_g (G := (ok__law_size T)) (hb := T.f__law_size.bp) (hm := T.f__law_size.gl) (hk := T.f__law_size.fn.kp) (hr := hr.mono (by decide)) (hgd := hg) (hx := passL) (ha := (pa_cons (pv 0) pa_nil))) (pa_cons (pe_g (G := (ok__law_size T)) (hb := T.f__law_size.bp) (hm := T.f__law_size.gl) (hk := T.f__law_size.fn.kp) (hr := hr.mono (by decide)) (hgd := hg) (hx := passL) (ha := (pa_cons (pv 0) pa_nil))) pa_nil))) (pa_cons (pe_tup (pa_cons (pe_g (G := (ok__law_size T)) (hb := T.f__law_size.bp) (hm := T.f__law_size.gl) (hk := T.f__law_size.fn.kp) (hr := hr.mono (by decide)) (hgd := hg) (hx := passL) (ha := (pa_cons (pv 0) pa_nil))) (pa_cons (pe_g (G := (ok__law_size T)) (hb := T.f__law_size.bp) (hm := T.f__law_size.gl) (hk := T.f__law_size.fn.kp) (hr := hr.mono (by decide)) (hgd := hg) (hx := passL) (ha := (pa_cons (pv 0) pa_nil))) pa_nil))) pa_nil)) (by rfl))
      (pss_cons (ps_if (pt_cmpR (op_eqD hr.units) (pv 6) (pv 5) (nomark _)) (pss_one (ps_set (i := 6) sc__law_table.nd rfl (Or.inl rfl) (pe_tup (pa_cons (pe_ix ix_seq (pv 5) pe_int (fun _ _ => rfl)) (pa_cons (pe_op op_add (pe_op op_add (pe_op op_mod (pe_ix ix_seq (pv 5) pe_int (fun _ _ => rfl)) pe_int) pe_int) (pe_callTy call_int1 (by rfl) T.m_int (by first | exact PySem.boot_int | exact PyProof.Rows.boot_int | decide +kernel) (pa_cons (pe_cmpR op_gt (pe_ix ix_seq (pv 5) pe_int (fun _ _ => rfl)) pe_int (nomark _)) pa_nil))) pa_nil))))) pss_nil)
      (pss_one (ps_ret (pe_tup (pa_cons pe_str (pa_cons (pv 3) (pa_cons (pv 5) (pa_cons (pv 6) (pa_cons (pe_g (G := (ok__law_size T)) (hb := T.f__law_size.bp) (hm := T.f__law_size.gl) (hk := T.f__law_size.fn.kp) (hr := hr.mono (by decide)) (hgd := hg) (hx := passL) (ha := (pa_cons (pv 0) pa_nil))) (pa_cons (pv 2) pa_nil))))))))))))))
theorem ok_is_pulse_and_gap (T : Txt K mg A) : GOk PG w K mg base 5 A.a_is_pulse_and_gap A.d_is_pulse_and_gap ["thing"] (p_is_pulse_and_gap K) := by
  refine okF T.f_is_pulse_and_gap.fn sc_is_pulse_and_gap (fun cdv AA out s H E hr hg => ⟨t_is_pulse_and_gap K, ?_, fun S hmu ds hl hp => so_is_pulse_and_gap hmu hp⟩)
  exact (pss_one (ps_ret (pe_and (pe_g (G := (ok_are_durations T)) (hb := T.f_are_durations.bp) (hm := T.f_are_durations.gl) (hk := T.f_are_durations.fn.kp) (hr := hr.mono (by decide)) (hgd := hg) (hx := passL) (ha := (pa_cons (pv 0) pa_nil))) (pe_one (pe_cmpR op_eq (pe_callB call_len_seq (by rfl) T.m_len (by first | exact PySem.boot_len | exact PyProof.Rows.boot_len | decide +kernel) (pa_cons (pv 0) pa_nil)) pe_int (nomark _))))))
theorem ok_wrong_part_of_pairs (T : Txt K mg A) : GOk PG w K mg base 6 A.a_wrong_part_of_pairs A.d_wrong_part_of_pairs ["thing"] (p_wrong_part_of_pairs K) := by
  refine okF T.f_wrong_part_of_pairs.fn sc_wrong_part_of_pairs (fun cdv AA out s H E hr hg => ⟨t_wrong_part_of_pairs K, ?_, fun S hmu ds hl hp => so_wrong_part_of_pairs hmu hp⟩)
  exact (pss_cons (ps_asg (pe_slice sl_tupA (pv 0) (po_some pe_int) po_none) (pg_tup rfl (pgs_cons (pg_name (i := 1) sc_wrong_part_of_pairs.nd rfl (Or.inl rfl)) (pgs_cons (pg_name (i := 2) sc_wrong_part_of_pairs.nd rfl (Or.inl rfl)) (pgs_cons (pg_name (i := 3) sc_wrong_part_of_pairs.nd rfl (Or.inl rfl)) (pgs_cons (pg_name (i := 4) sc_wrong_part_of_pairs.nd rfl (Or.inl rfl)) (pgs_cons (pg_name (i := 5) sc_wrong_part_of_pairs.nd rfl (Or.inl rfl)) pgs_nil)))))))
      (pss_cons (ps_if (pt_not (PW.pt (pw_and (pt_val (pe_g (G := (ok_are_durations T)) (hb := T.f_are_durations.bp) (hm := T.f_are_durations.gl) (hk := T.f_are_durations.fn.kp) (hr := hr.mono (by decide)) (hgd := hg) (hx := passL) (ha := (pa_cons (pv 1) pa_nil)))) (pw_and1 (pt_cmpR op_in_seq (pe_callB call_len_seq (by rfl) T.m_len (by first | exact PySem.boot_len | exact PyProof.Rows.boot_len | decide +kernel) (pa_cons (pv 1) pa_nil)) (pe_tup (pa_cons pe_int (pa_cons pe_int (pa_cons pe_int pa_nil)))) (by rfl)))))) (pss_one (ps_ret pe_str)) pss_nil)
      (pss_cons (ps_if (pt_not (pt_val (pe_g (G := (ok_is_pulse_and_gap T)) (hb := T.f_is_pulse_and_gap.bp) (hm := T.f_is_pulse_and_gap.gl) (hk := T.f_is_pulse_and_gap.fn.kp) (hr := hr.mono (by decide)) (hgd := hg) (hx := passL) (ha := (pa_cons (pv 2) pa_nil))))) (pss_one (ps_ret pe_str)) pss_nil)
      (pss_cons (ps_if (PW.pt (pw_or (pt_not (pt_val (pe_g (G := (ok_is_pulse_and_gap T)) (hb := T.f_is_pulse_and_gap.bp) (hm := T.f_is_pulse_and_gap.gl) (hk := T.f_is_pulse_and_gap.fn.kp) (hr := hr.mono (by decide)) (hgd := hg) (hx := passL) (ha := (pa_cons (pv 3) pa_nil))))) (pw_or1 (pt_cmpR (op_eqD hr.units) (pv 3) (pv 2) (nomark _))))) (pss_one (ps_ret pe_str)) pss_nil)
      (pss_cons (ps_if (pt_not (pt_val (pe_g (G := (ok_is_duration T)) (hb := T.f_is_duration.bp) (hm := T.f_is_duration.gl) (hk := T.f_is_duration.fn.kp) (hr := hr.mono (by decide)) (hgd := hg) (hx := passL) (ha := (pa_cons (pv 4) pa_nil))))) (pss_one (ps_ret pe_str)) pss_nil)
      (pss_cons (ps_if (pt_not (pt_val (pe_g (G := (ok_is_bit_count T)) (hb := T.f_is_bit_count.bp) (hm := T.f_is_bit_count.gl) (hk := T.f_is_bit_count.fn.kp) (hr := hr.mono (by decide)) (hgd := hg) (hx := passL) (ha := (pa_cons (pv 5) pa_nil))))) (pss_one (ps_ret pe_str)) pss_nil)
      (pss_one (ps_ret pe_non))))))))
theorem ok_need_table (T : Txt K mg A) : GOk PG w K mg base 7 A.a_need_table A.d_need_table ["thing"] (p_need_table K) := by
  refine okF T.f_need_table.fn sc_need_table (fun cdv AA out s H E hr hg => ⟨t_need_table K, ?_, fun S hmu ds hl hp => so_need_table hmu hp⟩)
  exact (pss_cons (ps_if (pt_val (pe_g (G := (ok_begins_with T)) (hb := T.f_begins_with.bp) (hm := T.f_begins_with.gl) (hk := T.f_begins_with.fn.kp) (hr := hr.mono (by decide)) (hgd := hg) (hx := passL) (ha := (pa_cons (pv 0) (pa_cons pe_str (pa_cons pe_int pa_nil)))))) (pss_one (ps_set (i := 1) sc_need_table.nd rfl (Or.inl rfl) (pe_g (G := (ok_wrong_part_of_pairs T)) (hb := T.f_wrong_part_of_pairs.bp) (hm := T.f_wrong_part_of_pairs.gl) (hk := T.f_wrong_part_of_pairs.fn.kp) (hr := hr.mono (by decide)) (hgd := hg) (hx := passL) (ha := (pa_cons (pv 0) pa_nil))))) (pss_one (ps_if (pt_val (pe_g (G := (ok_begins_with T)) (hb := T.f_begins_with.bp) (hm := T.f_begins_with.gl) (hk := T.f_begins_with.fn.kp) (hr := hr.mono (by decide)) (hgd := hg) (hx := passL) (ha := (pa_cons (pv 0) (pa_cons pe_str (pa_cons pe_int pa_nil)))))) (pss_one (ps_set (i := 1) sc_need_table.nd rfl (Or.inl rfl) (pe_g (G := (ok_wrong_part_of_halves T)) (hb := T.f_wrong_part_of_halves.bp) (hm := T.f_wrong_part_of_halves.gl) (hk := T.f_wrong_part_of_halves.fn.kp) (hr := hr.mono (by decide)) (hgd := hg) (hx := passL) (ha := (pa_cons (pv 0) pa_nil))))) (pss_one (ps_set (i := 1) sc_need_table.nd rfl (Or.inl rfl) pe_str)))))
      (pss_cons (ps_if (pt_cmpR op_notN (pv 1) pe_non (nomark _)) (pss_one ps_never) pss_nil)
      (pss_one (ps_ret (pv 0)))))
theorem ok_is_word (T : Txt K mg A) : GOk PG w K mg base 8 A.a_is_word A.d_is_word ["table", "thing"] (p_is_word K) := by
  refine okF T.f_is_word.fn sc_is_word (fun cdv AA out s H E hr hg => ⟨t_is_word K, ?_, fun S hmu ds hl hp => so_is_word hmu hp⟩)
  exact (pss_cons (ps_expr (pe_g (G := (ok_need_table T)) (hb := T.f_need_table.bp) (hm := T.f_need_table.gl) (hk := T.f_need_table.fn.kp) (hr := hr.mono (by decide)) (hgd := hg) (hx := passL) (ha := (pa_cons (pv 0) pa_nil))))
      (pss_cons (ps_if (PW.pt (pw_or (pt_not (pt_val (pe_callB call_isi (by rfl) T.m_isinstance (by first | exact PySem.boot_isinstance | exact PyProof.Rows.boot_isinstance | decide +kernel) (pa_cons (pv 1) (pa_cons (pe_bltn (v := .ty "tuple") (by rfl) T.m_tuple (by first | exact PySem.boot_tuple | decide +kernel) rfl) pa_nil))))) (pw_or1 (pt_cmpR op_ne (pe_callB call_len_seq (by rfl) T.m_len (by first | exact PySem.boot_len | exact PyProof.Rows.boot_len | decide +kernel) (pa_cons (pv 1) pa_nil)) (pe_g (G := (ok_bits_of T)) (hb := T.f_bits_of.bp) (hm := T.f_bits_of.gl) (hk := T.f_bits_of.fn.kp) (hr := hr.mono (by decide)) (hgd := hg) (hx := passL) (ha := (pa_cons (pv 0) pa_nil))) (nomark _))))) (pss_one (ps_ret pe_bl)) pss_nil)
      (pss_one (ps_ret (pe_callB (cr_all rfl) (by rfl) T.m_all (by first | exact PySem.boot_all | exact PyProof.Rows.boot_all | decide +kernel) (pa_cons (pe_lc (own := [("bit", 2)]) (g := (gName 2)) (tt := tYes) (te := (tCall (p_is_whole_from K) [] E0 (tCons (tVar 2) (tCons (tC (.int 0)) (tCons (tC (.int 1)) tNil))))) rfl sc_is_word.nd (pi_tup (pv 1)) (blkOk_by (own := [("bit", 2)]) (N := ["table", "thing", "bit"]) (sc := defScope s_is_word) (by decide +kernel))  (fun _ _ _ _ _ => (pg_name (i := 2) sc_is_word.nd rfl (Or.inl rfl))) (fun _ _ _ _ _ => pts_nil)  (fun _ _ _ _ _ => (pe_g (G := (ok_is_whole_from T)) (hb := T.f_is_whole_from.bp) (hm := T.f_is_whole_from.gl) (hk := T.f_is_whole_from.fn.kp) (hr := hr.mono (by decide)) (hgd := hg) (hx := passL) (ha := (pa_cons (pv 2) (pa_cons pe_int (pa_cons pe_int pa_nil))))))) pa_nil))))))
theorem ok_words_of (T : Txt K mg A) : GOk PG w K mg base 8 A.a_words_of A.d_words_of ["table"] (p_words_of K) := by
  refine okNew T.f_words_of.fn sc_words_of (fun cdv AA out s H E hr hg => ⟨t_words_of K, ?_, fun H0 ds hl hp => so_words_of hp⟩)
  exact (pss_cons (ps_expr (pe_g (G := (ok_need_table T)) (hb := T.f_need_table.bp) (hm := T.f_need_table.gl) (hk := T.f_need_table.fn.kp) (hr := hr.mono (by decide)) (hgd := hg) (hx := passL) (ha := (pa_cons (pv 0) pa_nil))))
      (pss_cons (ps_set (i := 1) sc_words_of.nd rfl (Or.inl rfl) (pe_lst (pa_cons (pe_tup pa_nil) pa_nil)))
      (pss_cons (ps_for PassesOwn.never rfl (pi_range1 rfl T.m_range (pa_cons (pe_g (G := (ok_bits_of T)) (hb := T.f_bits_of.bp) (hm := T.f_bits_of.gl) (hk := T.f_bits_of.fn.kp) (hr := hr.mono (by decide)) (hgd := hg) (hx := passL) (ha := (pa_cons (pv 0) pa_nil))) pa_nil)) (pg_name (i := 2) sc_words_of.nd rfl (Or.inl rfl)) (pss_one (ps_setLc2 (i := 1) (own := [("word", 3), ("bit", 4)]) (g := (gName 3)) (tt := tYes) (te := (tTup (StX.tStar K (tVar 3) (tCons (tVar 4) tNil)))) (vs1 := [4]) (wi1 := (iTup K (tTup (tCons (tC (.int 0)) (tCons (tC (.int 1)) tNil))))) (g1 := (gName 4)) (tt1 := tYes) rfl sc_words_of.nd rfl rfl (sw_true rfl rfl rfl (by decide +kernel)) (pi_list (pv 1)) (blkOk_by (own := [("word", 3), ("bit", 4)]) (N := ["table", "words", "_", "word", "bit"]) (sc := defScope s_words_of) (by decide +kernel)) (by decide) (fun _ _ _ _ _ => (pg_name (i := 3) sc_words_of.nd rfl (Or.inl rfl))) (fun _ _ _ _ _ => pts_nil) (fun _ _ _ _ _ => (pi_tup (pe_tup (pa_cons pe_int (pa_cons pe_int pa_nil))))) (fun _ _ _ _ _ => (pg_name (i := 4) sc_words_of.nd rfl (Or.inl rfl))) (fun _ _ _ _ _ => pts_nil) (fun _ _ _ _ _ => (pe_tup (StX.pa_star (pv 3) (pa_cons (pv 4) pa_nil)))))))
      (pss_one (ps_ret (pv 1))))))
theorem ok_begin_of (T : Txt K mg A) : GOk PG w K mg base 8 A.a_begin_of A.d_begin_of ["table"] (p_begin_of K) := by
  refine okR T.f_begin_of.fn sc_begin_of (fun cdv AA out s H E hr hg => ⟨t_begin_of K, ?_, fun S hmu ds d hl hp => so_begin_of hp⟩)
  exact (pss_cons (ps_expr (pe_g (G := (ok_need_table T)) (hb := T.f_need_table.bp) (hm := T.f_need_table.gl) (hk := T.f_need_table.fn.kp) (hr := hr.mono (by decide)) (hgd := hg) (hx := passL) (ha := (pa_cons (pv 0) pa_nil))))
      (pss_cons (ps_if (pt_val (pe_g (G := (ok_is_pairs T)) (hb := T.f_is_pairs.bp) (hm := T.f_is_pairs.gl) (hk := T.f_is_pairs.fn.kp) (hr := hr.mono (by decide)) (hgd := hg) (hx := passL) (ha := (pa_cons (pv 0) pa_nil)))) (pss_one (ps_ret (pe_tup (pa_cons pe_int (pa_cons (pe_ix ix_seq (pv 0) pe_int (fun _ _ => rfl)) (pa_cons pe_str pa_nil)))))) pss_nil)
      (pss_one (ps_ret (pe_tup (pa_cons pe_int (pa_cons (pe_tup (pa_cons (pe_ix ix_seq (pv 0) pe_int (fun _ _ => rfl)) pa_nil)) (pa_cons pe_str pa_nil))))))))
theorem ok_frame_of (T : Txt K mg A) : GOk PG w K mg base 9 A.a_frame_of A.d_frame_of ["table", "word"] (p_frame_ofX K A.c_BadWord) := by
  refine okX T.f_frame_of.fn sc_frame_of (fun cdv AA out s H E hr hg => ⟨t_frame_ofX K A.c_BadWord E, ?_, fun S hmu ds o hl hp hw => so_frame_ofX hmu hp hw⟩)
  exact (pss_cons (ps_if (pt_not (pt_val (pe_g (G := (ok_is_word T)) (hb := T.f_is_word.bp) (hm := T.f_is_word.gl) (hk := T.f_is_word.fn.kp) (hr := hr.mono (by decide)) (hgd := hg) (hx := passL) (ha := (pa_cons (pv 0) (pa_cons (pv 1) pa_nil)))))) (pss_one (ps_raiseB rfl T.b_BadWord hr (takes_of rfl rfl rfl rfl) (pa_cons (pv 1) pa_nil))) pss_nil)
      (pss_cons (ps_set (i := 2) sc_frame_of.nd rfl (Or.inl rfl) (pe_callTy call_list_of (by rfl) T.m_list (by first | exact PySem.boot_list | exact PyProof.Rows.boot_list | decide +kernel) (pa_cons (pe_ix ix_seq (pe_g (G := (ok_begin_of T)) (hb := T.f_begin_of.bp) (hm := T.f_begin_of.gl) (hk := T.f_begin_of.fn.kp) (hr := hr.mono (by decide)) (hgd := hg) (hx := passL) (ha := (pa_cons (pv 0) pa_nil))) pe_int (fun _ _ => rfl)) pa_nil)))
      (pss_cons (ps_for (passes_of rfl) rfl (pi_enumT rfl T.m_enumerate (pa_cons (pv 1) pa_nil)) (pg_tup rfl (pgs_cons (pg_name (i := 3) sc_frame_of.nd rfl (Or.inl rfl)) (pgs_cons (pg_name (i := 4) sc_frame_of.nd rfl (Or.inl rfl)) pgs_nil))) (pss_one (ps_expr (pe_bm PySem.F.plainAttrs_list PySem.F.slot_list_extend PySem.F.type_list_extend mt_extendT (pv 2) (pa_cons (pe_g (G := (ok_part_of T)) (hb := T.f_part_of.bp) (hm := T.f_part_of.gl) (hk := T.f_part_of.fn.kp) (hr := hr.mono (by decide)) (hgd := hg) (hx := passL) (ha := (pa_cons (pv 0) (pa_cons (pe_g (G := (ok_under_way_at T)) (hb := T.f_under_way_at.bp) (hm := T.f_under_way_at.gl) (hk := T.f_under_way_at.fn.kp) (hr := hr.mono (by decide)) (hgd := hg) (hx := passL) (ha := (pa_cons (pv 0) (pa_cons (pe_callB call_len_seq (by rfl) T.m_len (by first | exact PySem.boot_len | exact PyProof.Rows.boot_len | decide +kernel) (pa_cons (pv 2) pa_nil)) pa_nil)))) (pa_cons (pv 4) (pa_cons (pe_cmpR op_eq (pe_op op_add (pv 3) pe_int) (pe_callB call_len_seq (by rfl) T.m_len (by first | exact PySem.boot_len | exact PyProof.Rows.boot_len | decide +kernel) (pa_cons (pv 1) pa_nil)) (nomark _)) pa_nil)))))) pa_nil)))))
      (pss_one (ps_ret (pe_callTy call_tuple_of (by rfl) T.m_tuple (by first | exact PySem.boot_tuple | exact PyProof.Rows.boot_tuple | decide +kernel) (pa_cons (pv 2) pa_nil)))))))
theorem ok_word_of (T : Txt K mg A) : GOk PG w K mg base 10 A.a_word_of A.d_word_of ["table", "frame"] (p_word_of K) := by
  refine okR T.f_word_of.fn sc_word_of (fun cdv AA out s H E hr hg => ⟨t_word_of K A.c_BadWord, ?_, fun S hmu ds d hl hp => so_word_of hmu hp⟩)
  exact (pss_cons (ps_expr (pe_g (G := (ok_need_table T)) (hb := T.f_need_table.bp) (hm := T.f_need_table.gl) (hk := T.f_need_table.fn.kp) (hr := hr.mono (by decide)) (hgd := hg) (hx := passL) (ha := (pa_cons (pv 0) pa_nil))))
      (pss_cons (ps_if (PW.pt (pw_or (pt_not (pt_val (pe_callB call_isi (by rfl) T.m_isinstance (by first | exact PySem.boot_isinstance | exact PyProof.Rows.boot_isinstance | decide +kernel) (pa_cons (pv 1) (pa_cons (pe_bltn (v := .ty "tuple") (by rfl) T.m_tuple (by first | exact PySem.boot_tuple | decide +kernel) rfl) pa_nil))))) (pw_or1 (pt_not (pt_val (pe_callB (cr_all rfl) (by rfl) T.m_all (by first | exact PySem.boot_all | exact PyProof.Rows.boot_all | decide +kernel) (pa_cons (pe_lc (own := [("part", 2)]) (g := (gName 2)) (tt := tYes) (te := (tCall (p_is_whole K) [] E0 (tCons (tVar 2) tNil))) rfl sc_word_of.nd (pi_tup (pv 1)) (blkOk_by (own := [("part", 2)]) (N := ["table", "frame", "part", "word"]) (sc := defScope s_word_of) (by decide +kernel))  (fun _ _ _ _ _ => (pg_name (i := 2) sc_word_of.nd rfl (Or.inl rfl))) (fun _ _ _ _ _ => pts_nil)  (fun _ _ _ _ _ => (pe_g (G := (ok_is_whole T)) (hb := T.f_is_whole.bp) (hm := T.f_is_whole.gl) (hk := T.f_is_whole.fn.kp) (hr := hr.mono (by decide)) (hgd := hg) (hx := passL) (ha := (pa_cons (pv 2) pa_nil))))) pa_nil))))))) (pss_one (ps_ret pe_non)) pss_nil)
      (pss_cons (ps_for PassesOwn.never rfl (pi_list (pe_g (G := (ok_words_of T)) (hb := T.f_words_of.bp) (hm := T.f_words_of.gl) (hk := T.f_words_of.fn.kp) (hr := hr.mono (by decide)) (hgd := hg) (hx := passL) (ha := (pa_cons (pv 0) pa_nil)))) (pg_name (i := 3) sc_word_of.nd rfl (Or.inl rfl)) (pss_one (ps_if (pt_cmpR (op_eqD hr.units) (pe_g (G := (ok_frame_of T)) (hb := T.f_frame_of.bp) (hm := T.f_frame_of.gl) (hk := T.f_frame_of.fn.kp) (hr := hr.mono (by decide)) (hgd := hg) (hx := passL) (ha := (pa_cons (pv 0) (pa_cons (pv 3) pa_nil)))) (pv 1) (nomark _)) (pss_one (ps_ret (pv 3))) pss_nil)))
      (pss_one (ps_ret pe_non)))))
theorem ok__law_said (T : Txt K mg A) : GOk PG w K mg base 10 A.a__law_said A.d__law_said ["chart", "word_here"] (p__law_said5 K) := by
  refine okR T.f__law_said.fn sc__law_said (fun cdv AA out s H E hr hg => ⟨t__law_said5 K A.c_BadWord, ?_, fun S hmu ds d hl hp => so__law_said5 T.b_BadWord.te hp⟩)
  exact (pss_cons (ps_asg (pe_tup (pa_cons pe_non (pa_cons pe_non pa_nil))) (pg_tup rfl (pgs_cons (pg_name (i := 2) sc__law_said.nd rfl (Or.inl rfl)) (pgs_cons (pg_name (i := 3) sc__law_said.nd rfl (Or.inl rfl)) pgs_nil))))
      (pss_cons (ps_try_kp (i := 4) (by rfl) (by rfl) (by rfl) sc__law_said.nd (by rfl) (by rfl) (catch_one (by rfl) T.b_BadWord.gC (by decide)) takes0 (fun W pn xe tk _ => (pss_one (ps_set (i := 3) sc__law_said.nd rfl (Or.inl rfl) (pe_gS (G := (ok_frame_of T)) (hb := T.f_frame_of.bp) (hm := T.f_frame_of.gl) (hk := T.f_frame_of.fn.kp) (hr := hr.mono (by decide)) (hgd := hg) (hx := (fun σ => passAt tk σ)) (ha := (pa_cons (pv 0) (pa_cons (pv 1) pa_nil))))))) (fun a oe cls d pn hz hf => (pss_one (ps_set (i := 2) sc__law_said.nd rfl (Or.inl rfl) (pv 4)))))
      (pss_one (ps_ret (pe_ifExp (pt_cmpR op_isN (pv 2) pe_non (nomark _)) (pe_lst (pa_cons (pv 3) pa_nil)) (pe_tup (pa_cons pe_str (pa_cons (pe_kfld (Cs := [A.c_BadWord]) (fun C hC => by simp only [List.mem_cons, List.not_mem_nil, or_false] at hC; subst hC; exact T.b_BadWord.keepC) (pv 2)) pa_nil))))))))
theorem ok_law (T : Txt K mg A) : GOk PG w K mg base 11 A.a_law A.d_law ["script"] (p_law5 K) := by
  refine okG T.f_law.fn sc_law (fun vs H Q E h => ?_) fun cdv AA out s H vs Q E hr hg h => ⟨t_law5 K A.c_BadWord, ?_, ?_⟩
  · obtain ⟨s, ns, rfl, _⟩ := h
    rfl
  · exact PSs.nox (pss_cons (ps_set (i := 1) sc_law.nd rfl (Or.inl rfl) (pe_g (G := (ok__law_begin T)) (hb := T.f__law_begin.bp) (hm := T.f__law_begin.gl) (hk := T.f__law_begin.fn.kp) (hr := hr.mono (by decide)) (hgd := hg) (hx := passL) (ha := (pa_cons (pv 0) pa_nil))))
      (pss_cons (ps_for PassesOwn.never rfl (pi_range1 rfl T.m_range (pa_cons pe_int pa_nil)) (pg_name (i := 2) sc_law.nd rfl (Or.inl rfl)) (pss_cons (ps_set (i := 3) sc_law.nd rfl (Or.inr rfl) (pe_g (G := (ok__law_table T)) (hb := T.f__law_table.bp) (hm := T.f__law_table.gl) (hk := T.f__law_table.fn.kp) (hr := hr.mono (by decide)) (hgd := hg) (hx := passL) (ha := (pa_cons (pv 1) (pa_cons pe_int pa_nil)))))
      (pss_cons (ps_set (i := 4) sc_law.nd rfl (Or.inl rfl) (pe_g (G := (ok__law_pick T)) (hb := T.f__law_pick.bp) (hm := T.f__law_pick.gl) (hk := T.f__law_pick.fn.kp) (hr := hr.mono (by decide)) (hgd := hg) (hx := passL) (ha := (pa_cons (pv 1) (pa_cons (pe_g (G := (ok__law_words T)) (hb := T.f__law_words.bp) (hm := T.f__law_words.gl) (hk := T.f__law_words.fn.kp) (hr := hr.mono (by decide)) (hgd := hg) (hx := passL) (ha := (pa_cons (pe_ix ix_seq (pv 3) (pe_un un_neg pe_int) (fun _ _ => rfl)) pa_nil))) pa_nil)))))
      (pss_cons (ps_set (i := 5) sc_law.nd rfl (Or.inl rfl) (pe_g (G := (ok__law_frame T)) (hb := T.f__law_frame.bp) (hm := T.f__law_frame.gl) (hk := T.f__law_frame.fn.kp) (hr := hr.mono (by decide)) (hgd := hg) (hx := passL) (ha := (pa_cons (pv 3) (pa_cons (pv 4) pa_nil)))))
      (pss_cons (ps_if (PW.pt (pw_or (pt_cmpR (op_neD hr.units) (pe_g (G := (ok__law_said T)) (hb := T.f__law_said.bp) (hm := T.f__law_said.gl) (hk := T.f__law_said.fn.kp) (hr := hr.mono (by decide)) (hgd := hg) (hx := passL) (ha := (pa_cons (pv 3) (pa_cons (pv 4) pa_nil)))) (pe_lst (pa_cons (pv 5) pa_nil)) (nomark _)) (pw_or1 (pt_cmpR (op_neD hr.units) (pe_gw (G := (ok_frame_of T)) (hb := T.k_frame_of_word_table) (hgv := kws) (hm := T.f_frame_of.gl) (hk := T.f_frame_of.fn.kp) (hr := hr.mono (by decide)) (hgd := hg) (hx := passL) (hkw := (pk_cons (pv 4) (pk_cons (pv 3) pk_nil)))) (pv 5) (nomark _))))) (pss_one (ps_ret pe_bl)) pss_nil)
      (pss_cons (ps_if (PW.pt (pw_or (pt_cmpR op_ne (pe_callB (call_reprD hg (lt70 hr)) (by rfl) T.m_repr (by first | exact PySem.boot_repr | exact PyProof.Rows.boot_repr | decide +kernel) (pa_cons (pe_g (G := (ok_word_of T)) (hb := T.f_word_of.bp) (hm := T.f_word_of.gl) (hk := T.f_word_of.fn.kp) (hr := hr.mono (by decide)) (hgd := hg) (hx := passL) (ha := (pa_cons (pv 3) (pa_cons (pv 5) pa_nil)))) pa_nil)) (pe_callB (call_reprD hg (lt70 hr)) (by rfl) T.m_repr (by first | exact PySem.boot_repr | exact PyProof.Rows.boot_repr | decide +kernel) (pa_cons (pv 4) pa_nil)) (nomark _)) (pw_or1 (pt_cmpR (op_neD hr.units) (pe_gw (G := (ok_word_of T)) (hb := T.k_word_of_frame_table) (hgv := kws) (hm := T.f_word_of.gl) (hk := T.f_word_of.fn.kp) (hr := hr.mono (by decide)) (hgd := hg) (hx := passL) (hkw := (pk_cons (pv 5) (pk_cons (pv 3) pk_nil)))) (pv 4) (nomark _))))) (pss_one (ps_ret pe_bl)) pss_nil)
      (pss_cons (ps_set (i := 6) sc_law.nd rfl (Or.inl rfl) (pe_callTy (call_dictN (by rfl) hr.units) (by rfl) T.m_dict (by first | exact PySem.boot_dict | exact PyProof.Rows.boot_dict | decide +kernel) (pa_cons (pe_lc (own := [("one", 7)]) (g := (gName 7)) (tt := tYes) (te := (tTup (tCons (tCall (p__law_frame K) [] E0 (tCons (tVar 3) (tCons (tVar 7) tNil))) (tCons (tVar 7) tNil)))) rfl sc_law.nd (pi_list (pe_g (G := (ok__law_words T)) (hb := T.f__law_words.bp) (hm := T.f__law_words.gl) (hk := T.f__law_words.fn.kp) (hr := hr.mono (by decide)) (hgd := hg) (hx := passL) (ha := (pa_cons (pe_ix ix_seq (pv 3) (pe_un un_neg pe_int) (fun _ _ => rfl)) pa_nil)))) (blkOk_by (own := [("one", 7)]) (N := ["script", "draw", "turn", "chart", "word_here", "spans", "known", "one", "k", "bent", "odd", "due", "some"]) (sc := defScope s_law) (by decide +kernel))  (fun _ _ _ _ _ => (pg_name (i := 7) sc_law.nd rfl (Or.inl rfl))) (fun _ _ _ _ _ => pts_nil)  (fun _ _ _ _ _ => (pe_tup (pa_cons (pe_g (G := (ok__law_frame T)) (hb := T.f__law_frame.bp) (hm := T.f__law_frame.gl) (hk := T.f__law_frame.fn.kp) (hr := hr.mono (by decide)) (hgd := hg) (hx := passL) (ha := (pa_cons (pv 3) (pa_cons (pv 7) pa_nil)))) (pa_cons (pv 7) pa_nil))))) pa_nil)))
      (pss_cons (ps_if (pt_cmpR op_ne (pe_callB call_lenN (by rfl) T.m_len (by first | exact PySem.boot_len | exact PyProof.Rows.boot_len | decide +kernel) (pa_cons (pv 6) pa_nil)) (pe_callB call_len_seq (by rfl) T.m_len (by first | exact PySem.boot_len | exact PyProof.Rows.boot_len | decide +kernel) (pa_cons (pe_g (G := (ok__law_words T)) (hb := T.f__law_words.bp) (hm := T.f__law_words.gl) (hk := T.f__law_words.fn.kp) (hr := hr.mono (by decide)) (hgd := hg) (hx := passL) (ha := (pa_cons (pe_ix ix_seq (pv 3) (pe_un un_neg pe_int) (fun _ _ => rfl)) pa_nil))) pa_nil)) (nomark _)) (pss_one (ps_ret pe_bl)) pss_nil)
      (pss_cons (ps_for PassesOwn.never rfl (pi_range1 rfl T.m_range (pa_cons pe_int pa_nil)) (pg_name (i := 8) sc_law.nd rfl (Or.inl rfl)) (pss_cons (ps_set (i := 9) sc_law.nd rfl (Or.inl rfl) (pe_g (G := (ok__law_bent T)) (hb := T.f__law_bent.bp) (hm := T.f__law_bent.gl) (hk := T.f__law_bent.fn.kp) (hr := hr.mono (by decide)) (hgd := hg) (hx := passL) (ha := (pa_cons (pv 1) (pa_cons (pv 5) pa_nil)))))
      (pss_cons (ps_set (i := 10) sc_law.nd rfl (Or.inl rfl) (pe_lst (pa_cons pe_int pa_nil)))
      (pss_cons (ps_if (pt_val (pe_callB call_isi (by rfl) T.m_isinstance (by first | exact PySem.boot_isinstance | exact PyProof.Rows.boot_isinstance | decide +kernel) (pa_cons (pv 9) (pa_cons (pe_bltn (v := .ty "tuple") (by rfl) T.m_tuple (by first | exact PySem.boot_tuple | decide +kernel) rfl) pa_nil)))) (pss_one (ps_setLc (i := 10) (own := [("one", 7)]) (g := (gName 7)) (tt := (tB (tCB (rIsiT K) (tCons (tVar 7) (tCons (tTup (tCons (tC (.ty "bool")) (tCons (tC (.ty "str")) (tCons (tC (.ty "list")) (tCons (tC (.ty "dict")) tNil))))) tNil))))) (te := (tVar 7)) rfl sc_law.nd rfl rfl (sw_true rfl rfl rfl (by decide +kernel)) (pi_tup (pv 9)) (blkOk_by (own := [("one", 7)]) (N := ["script", "draw", "turn", "chart", "word_here", "spans", "known", "one", "k", "bent", "odd", "due", "some"]) (sc := defScope s_law) (by decide +kernel))  (fun _ _ _ _ _ => (pg_name (i := 7) sc_law.nd rfl (Or.inl rfl))) (fun _ _ _ _ _ => (pts_one (pt_val (pe_callB call_isiT (by rfl) T.m_isinstance (by first | exact PySem.boot_isinstance | exact PyProof.Rows.boot_isinstance | decide +kernel) (pa_cons (pv 7) (pa_cons (pe_tup (pa_cons (pe_bltn (v := .ty "bool") (by rfl) T.m_bool (by first | exact PySem.boot_bool | decide +kernel) rfl) (pa_cons (pe_bltn (v := .ty "str") (by rfl) T.m_str (by first | exact PySem.boot_str | decide +kernel) rfl) (pa_cons (pe_bltn (v := .ty "list") (by rfl) T.m_list (by first | exact PySem.boot_list | decide +kernel) rfl) (pa_cons (pe_bltn (v := .ty "dict") (by rfl) T.m_dict (by first | exact PySem.boot_dict | decide +kernel) rfl) pa_nil))))) pa_nil))))))  (fun _ _ _ _ _ => (pv 7)))) pss_nil)
      (pss_cons (ps_set (i := 11) sc_law.nd rfl (Or.inl rfl) (pe_ifExp (pt_cmpR (op_eqNil hr.units) (pv 10) (pe_lst pa_nil) (nomark _)) (pe_dgetN hr.units (pv 6) (pv 9) ⟨by rfl, by rfl, by rfl, by rfl⟩) pe_non))
      (pss_one (ps_if (pt_cmpR op_ne (pe_callB (call_reprD hg (lt70 hr)) (by rfl) T.m_repr (by first | exact PySem.boot_repr | exact PyProof.Rows.boot_repr | decide +kernel) (pa_cons (pe_g (G := (ok_word_of T)) (hb := T.f_word_of.bp) (hm := T.f_word_of.gl) (hk := T.f_word_of.fn.kp) (hr := hr.mono (by decide)) (hgd := hg) (hx := passL) (ha := (pa_cons (pv 3) (pa_cons (pv 9) pa_nil)))) pa_nil)) (pe_callB (call_reprD hg (lt70 hr)) (by rfl) T.m_repr (by first | exact PySem.boot_repr | exact PyProof.Rows.boot_repr | decide +kernel) (pa_cons (pv 11) pa_nil)) (nomark _)) (pss_one (ps_ret pe_bl)) pss_nil)))))))
      (pss_cons (ps_set (i := 12) sc_law.nd rfl (Or.inl rfl) (pe_lst (pa_cons pe_non (pa_cons (pe_op op_catA (pv 4) (pe_tup (pa_cons pe_int pa_nil))) (pa_cons (pe_callTy call_list_of (by rfl) T.m_list (by first | exact PySem.boot_list | exact PyProof.Rows.boot_list | decide +kernel) (pa_cons (pv 4) pa_nil)) (pa_cons (pe_slice sl_tupA (pv 4) (po_some pe_int) po_none) (pa_cons (pe_op op_repA (pe_tup (pa_cons pe_int pa_nil)) (pe_callB call_len_seq (by rfl) T.m_len (by first | exact PySem.boot_len | exact PyProof.Rows.boot_len | decide +kernel) (pa_cons (pv 4) pa_nil))) (pa_cons pe_str (pa_cons pe_int pa_nil)))))))))
      (pss_cons (ps_set (i := 10) sc_law.nd rfl (Or.inl rfl) (pe_g (G := (ok__law_pick T)) (hb := T.f__law_pick.bp) (hm := T.f__law_pick.gl) (hk := T.f__law_pick.fn.kp) (hr := hr.mono (by decide)) (hgd := hg) (hx := passL) (ha := (pa_cons (pv 1) (pa_cons (pe_op op_catS (pv 12) (pe_lst (pa_cons (pe_op op_repA (pe_tup (pa_cons pe_bl pa_nil)) (pe_callB call_len_seq (by rfl) T.m_len (by first | exact PySem.boot_len | exact PyProof.Rows.boot_len | decide +kernel) (pa_cons (pv 4) pa_nil))) pa_nil))) pa_nil)))))
      (pss_cons (ps_if (pt_cmpR op_ne (pe_callB (call_reprD hg (lt70 hr)) (by rfl) T.m_repr (by first | exact PySem.boot_repr | exact PyProof.Rows.boot_repr | decide +kernel) (pa_cons (pe_g (G := (ok__law_said T)) (hb := T.f__law_said.bp) (hm := T.f__law_said.gl) (hk := T.f__law_said.fn.kp) (hr := hr.mono (by decide)) (hgd := hg) (hx := passL) (ha := (pa_cons (pv 3) (pa_cons (pv 10) pa_nil)))) pa_nil)) (pe_callB (call_reprD hg (lt70 hr)) (by rfl) T.m_repr (by first | exact PySem.boot_repr | exact PyProof.Rows.boot_repr | decide +kernel) (pa_cons (pe_tup (pa_cons pe_str (pa_cons (pv 10) pa_nil))) pa_nil)) (nomark _)) (pss_one (ps_ret pe_bl)) pss_nil)
      (pss_cons (ps_set (i := 3) sc_law.nd rfl (Or.inr rfl) (pe_g (G := (ok__law_table T)) (hb := T.f__law_table.bp) (hm := T.f__law_table.gl) (hk := T.f__law_table.fn.kp) (hr := hr.mono (by decide)) (hgd := hg) (hx := passL) (ha := (pa_cons (pv 1) (pa_cons pe_int pa_nil)))))
      (pss_one (ps_for PassesOwn.never rfl (pi_list (pe_g (G := (ok__law_words T)) (hb := T.f__law_words.bp) (hm := T.f__law_words.gl) (hk := T.f__law_words.fn.kp) (hr := hr.mono (by decide)) (hgd := hg) (hx := passL) (ha := (pa_cons (pe_ix ix_seq (pv 3) (pe_un un_neg pe_int) (fun _ _ => rfl)) pa_nil)))) (pg_name (i := 7) sc_law.nd rfl (Or.inl rfl)) (pss_one (ps_if (PW.pt (pw_or (pt_cmpR (op_neD hr.units) (pe_g (G := (ok_frame_of T)) (hb := T.f_frame_of.bp) (hm := T.f_frame_of.gl) (hk := T.f_frame_of.fn.kp) (hr := hr.mono (by decide)) (hgd := hg) (hx := passL) (ha := (pa_cons (pv 3) (pa_cons (pv 7) pa_nil)))) (pe_g (G := (ok__law_frame T)) (hb := T.f__law_frame.bp) (hm := T.f__law_frame.gl) (hk := T.f__law_frame.fn.kp) (hr := hr.mono (by decide)) (hgd := hg) (hx := passL) (ha := (pa_cons (pv 3) (pa_cons (pv 7) pa_nil)))) (nomark _)) (pw_or1 (pt_cmpR (op_neD hr.units) (pe_g (G := (ok_word_of T)) (hb := T.f_word_of.bp) (hm := T.f_word_of.gl) (hk := T.f_word_of.fn.kp) (hr := hr.mono (by decide)) (hgd := hg) (hx := passL) (ha := (pa_cons (pv 3) (pa_cons (pe_g (G := (ok__law_frame T)) (hb := T.f__law_frame.bp) (hm := T.f__law_frame.gl) (hk := T.f__law_frame.fn.kp) (hr := hr.mono (by decide)) (hgd := hg) (hx := passL) (ha := (pa_cons (pv 3) (pa_cons (pv 7) pa_nil)))) pa_nil)))) (pv 7) (nomark _))))) (pss_one (ps_ret pe_bl)) pss_nil)))))))))))))))))
      (pss_one (ps_ret pe_bl))))
  · obtain ⟨s, ns, rfl, hs, hl, q⟩ := h
    refine ⟨.ref s, rfl, s, ns, rfl, hs, hl, fun p c H' g i => ?_⟩
    have i0 := dw_of (n := 0) (Int.le_refl 0) (Int.le_refl 0) (Int.le_refl 0) (Int.le_refl 0) (Int.le_refl 0) H' i
    refine so_law5 (C := A.c_BadWord) (x0 := some (.raw (.ref s))) (by simp) _ _ H' H' ⟨Gr.refl H', dw_le (by decide) H' i0, fun _ z => nomatch z⟩ i0 ((slots_start (N := ["script", "draw", "turn", "chart", "word_here", "spans", "known", "one", "k", "bent", "odd", "due", "some"]) (.cons (.raw (.ref s)) .nil)).set (v := .ref p) (.raw (.ref p)) 1) ⟨fun _ _ _ _ _ _ z => z.elim, fun v d H2 g2 i2 r e => ?_, fun _ _ _ _ _ _ z => z.elim, fun _ _ _ _ _ _ z => z.elim⟩
    cases e
    obtain rfl := r.blI
    exact q H2
end
end Bf
namespace Bf
open PySem PySem.Spec PyProof.Rows L2
/-- an error of the class at S is what «except S» names -/
theorem exm_self {K : PySem.W.Frag} {S : Addr} (h1 : PySem.W.subIn K (.ref S) (.type "BaseException") = some true) (h2 : PySem.W.isClsIn K S = true) (h3 : PySem.W.typeIn K (.ref S) = some (.type "type")) (h4 : PySem.W.subIn K (.ref S) (.ref S) = some true) : PySem.W.exmOne K (.ref S) (.ref S) = some true := by
  have h2' : (PySem.W.clsIn K S).isSome = true := h2
  have e1 : (PySem.W.subIn K (.ref S) (.type "BaseException") == some true) = true := by rw [h1] <;> rfl
  have e2 : ((PySem.W.clsIn K S).isSome && PySem.W.typeIn K (.ref S) == some (.type "type")) = true := by
    rw [h2', h3] <;> rfl
  show (if (PySem.W.subIn K (.ref S) (.type "BaseException") == some true) = true then (if ((PySem.W.clsIn K S).isSome && PySem.W.typeIn K (.ref S) == some (.type "type")) = true then PySem.W.subIn K (.ref S) (.ref S) else none) else none) = some true
  rw [if_pos e1, if_pos e2]
  exact h4
open PySem.W PySem.Calls PySem.HandSPX in
theorem all_mk {l : PySem.W.OpenLaw} {w : World} {K : PySem.W.Frag} {h : Heap} {mg : Str → Option Value} {fa : Addr} (X : K.In h) (G : h.Ns mainGlobals mg) (hfa : mg "law" = some (.ref fa)) (hl : l.prog = PySem.Challenge.pw_beamframes_k05_whole_frames)
    {f1 f2 f3 f4 f5 f6 f7 f8 f9 f10 f11 f12 f13 f14 f15 f16 f17 f18 f19 f20 f21 f22 f23 f24 f25 f26 f27 f28 f29 f30 f31 f32 : Addr}
    {od1 an1 : Option Addr} {sl1 : Array (Option Value)} {oc1 kV1 dc1 pm1 cd1 ct1 : Value}
    (a1 : PySem.W.nsIn K mainGlobals "is_whole" = some (some (.ref f1))) (l1 : K.lookup f1 = some ⟨oc1, od1, .func (PySem.W.fnOf "is_whole" "is_whole" (defArgs s_is_whole) (defBody s_is_whole) (defScope s_is_whole) .none kV1 dc1 pm1 an1 cd1 ct1), sl1⟩) (c1 : PySem.W.codeIn K cd1 "is_whole" = true) (k1 : PySem.W.keepIn K (.ref f1) = true)
    {od2 an2 : Option Addr} {sl2 : Array (Option Value)} {oc2 kV2 dc2 pm2 cd2 ct2 : Value}
    (a2 : PySem.W.nsIn K mainGlobals "is_whole_from" = some (some (.ref f2))) (l2 : K.lookup f2 = some ⟨oc2, od2, .func (PySem.W.fnOf "is_whole_from" "is_whole_from" (defArgs s_is_whole_from) (defBody s_is_whole_from) (defScope s_is_whole_from) .none kV2 dc2 pm2 an2 cd2 ct2), sl2⟩) (c2 : PySem.W.codeIn K cd2 "is_whole_from" = true) (k2 : PySem.W.keepIn K (.ref f2) = true)
    {od3 an3 : Option Addr} {sl3 : Array (Option Value)} {oc3 kV3 dc3 pm3 cd3 ct3 : Value}
    (a3 : PySem.W.nsIn K mainGlobals "need_table" = some (some (.ref f3))) (l3 : K.lookup f3 = some ⟨oc3, od3, .func (PySem.W.fnOf "need_table" "need_table" (defArgs s_need_table) (defBody s_need_table) (defScope s_need_table) .none kV3 dc3 pm3 an3 cd3 ct3), sl3⟩) (c3 : PySem.W.codeIn K cd3 "need_table" = true) (k3 : PySem.W.keepIn K (.ref f3) = true)
    {od4 an4 : Option Addr} {sl4 : Array (Option Value)} {oc4 kV4 dc4 pm4 cd4 ct4 : Value}
    (a4 : PySem.W.nsIn K mainGlobals "is_word" = some (some (.ref f4))) (l4 : K.lookup f4 = some ⟨oc4, od4, .func (PySem.W.fnOf "is_word" "is_word" (defArgs s_is_word) (defBody s_is_word) (defScope s_is_word) .none kV4 dc4 pm4 an4 cd4 ct4), sl4⟩) (c4 : PySem.W.codeIn K cd4 "is_word" = true) (k4 : PySem.W.keepIn K (.ref f4) = true)
    {od5 an5 : Option Addr} {sl5 : Array (Option Value)} {oc5 kV5 dc5 pm5 cd5 ct5 : Value}
    (a5 : PySem.W.nsIn K mainGlobals "words_of" = some (some (.ref f5))) (l5 : K.lookup f5 = some ⟨oc5, od5, .func (PySem.W.fnOf "words_of" "words_of" (defArgs s_words_of) (defBody s_words_of) (defScope s_words_of) .none kV5 dc5 pm5 an5 cd5 ct5), sl5⟩) (c5 : PySem.W.codeIn K cd5 "words_of" = true) (k5 : PySem.W.keepIn K (.ref f5) = true)
    {od6 an6 : Option Addr} {sl6 : Array (Option Value)} {oc6 kV6 dc6 pm6 cd6 ct6 : Value}
    (a6 : PySem.W.nsIn K mainGlobals "bits_of" = some (some (.ref f6))) (l6 : K.lookup f6 = some ⟨oc6, od6, .func (PySem.W.fnOf "bits_of" "bits_of" (defArgs s_bits_of) (defBody s_bits_of) (defScope s_bits_of) .none kV6 dc6 pm6 an6 cd6 ct6), sl6⟩) (c6 : PySem.W.codeIn K cd6 "bits_of" = true) (k6 : PySem.W.keepIn K (.ref f6) = true)
    {od7 an7 : Option Addr} {sl7 : Array (Option Value)} {oc7 kV7 dc7 pm7 cd7 ct7 : Value}
    (a7 : PySem.W.nsIn K mainGlobals "begins_with" = some (some (.ref f7))) (l7 : K.lookup f7 = some ⟨oc7, od7, .func (PySem.W.fnOf "begins_with" "begins_with" (defArgs s_begins_with) (defBody s_begins_with) (defScope s_begins_with) .none kV7 dc7 pm7 an7 cd7 ct7), sl7⟩) (c7 : PySem.W.codeIn K cd7 "begins_with" = true) (k7 : PySem.W.keepIn K (.ref f7) = true)
    {od8 an8 : Option Addr} {sl8 : Array (Option Value)} {oc8 kV8 dc8 pm8 cd8 ct8 : Value}
    (a8 : PySem.W.nsIn K mainGlobals "wrong_part_of_pairs" = some (some (.ref f8))) (l8 : K.lookup f8 = some ⟨oc8, od8, .func (PySem.W.fnOf "wrong_part_of_pairs" "wrong_part_of_pairs" (defArgs s_wrong_part_of_pairs) (defBody s_wrong_part_of_pairs) (defScope s_wrong_part_of_pairs) .none kV8 dc8 pm8 an8 cd8 ct8), sl8⟩) (c8 : PySem.W.codeIn K cd8 "wrong_part_of_pairs" = true) (k8 : PySem.W.keepIn K (.ref f8) = true)
    {od9 an9 : Option Addr} {sl9 : Array (Option Value)} {oc9 kV9 dc9 pm9 cd9 ct9 : Value}
    (a9 : PySem.W.nsIn K mainGlobals "wrong_part_of_halves" = some (some (.ref f9))) (l9 : K.lookup f9 = some ⟨oc9, od9, .func (PySem.W.fnOf "wrong_part_of_halves" "wrong_part_of_halves" (defArgs s_wrong_part_of_halves) (defBody s_wrong_part_of_halves) (defScope s_wrong_part_of_halves) .none kV9 dc9 pm9 an9 cd9 ct9), sl9⟩) (c9 : PySem.W.codeIn K cd9 "wrong_part_of_halves" = true) (k9 : PySem.W.keepIn K (.ref f9) = true)
    {od10 an10 : Option Addr} {sl10 : Array (Option Value)} {oc10 kV10 dc10 pm10 cd10 ct10 : Value}
    (a10 : PySem.W.nsIn K mainGlobals "is_duration" = some (some (.ref f10))) (l10 : K.lookup f10 = some ⟨oc10, od10, .func (PySem.W.fnOf "is_duration" "is_duration" (defArgs s_is_duration) (defBody s_is_duration) (defScope s_is_duration) .none kV10 dc10 pm10 an10 cd10 ct10), sl10⟩) (c10 : PySem.W.codeIn K cd10 "is_duration" = true) (k10 : PySem.W.keepIn K (.ref f10) = true)
    {od11 an11 : Option Addr} {sl11 : Array (Option Value)} {oc11 kV11 dc11 pm11 cd11 ct11 : Value}
    (a11 : PySem.W.nsIn K mainGlobals "are_durations" = some (some (.ref f11))) (l11 : K.lookup f11 = some ⟨oc11, od11, .func (PySem.W.fnOf "are_durations" "are_durations" (defArgs s_are_durations) (defBody s_are_durations) (defScope s_are_durations) .none kV11 dc11 pm11 an11 cd11 ct11), sl11⟩) (c11 : PySem.W.codeIn K cd11 "are_durations" = true) (k11 : PySem.W.keepIn K (.ref f11) = true)
    {od12 an12 : Option Addr} {sl12 : Array (Option Value)} {oc12 kV12 dc12 pm12 cd12 ct12 : Value}
    (a12 : PySem.W.nsIn K mainGlobals "is_pulse_and_gap" = some (some (.ref f12))) (l12 : K.lookup f12 = some ⟨oc12, od12, .func (PySem.W.fnOf "is_pulse_and_gap" "is_pulse_and_gap" (defArgs s_is_pulse_and_gap) (defBody s_is_pulse_and_gap) (defScope s_is_pulse_and_gap) .none kV12 dc12 pm12 an12 cd12 ct12), sl12⟩) (c12 : PySem.W.codeIn K cd12 "is_pulse_and_gap" = true) (k12 : PySem.W.keepIn K (.ref f12) = true)
    {od13 an13 : Option Addr} {sl13 : Array (Option Value)} {oc13 kV13 dc13 pm13 cd13 ct13 : Value}
    (a13 : PySem.W.nsIn K mainGlobals "is_bit_count" = some (some (.ref f13))) (l13 : K.lookup f13 = some ⟨oc13, od13, .func (PySem.W.fnOf "is_bit_count" "is_bit_count" (defArgs s_is_bit_count) (defBody s_is_bit_count) (defScope s_is_bit_count) .none kV13 dc13 pm13 an13 cd13 ct13), sl13⟩) (c13 : PySem.W.codeIn K cd13 "is_bit_count" = true) (k13 : PySem.W.keepIn K (.ref f13) = true)
    {od14 an14 : Option Addr} {sl14 : Array (Option Value)} {oc14 kV14 dc14 pm14 cd14 ct14 : Value}
    (a14 : PySem.W.nsIn K mainGlobals "frame_of" = some (some (.ref f14))) (l14 : K.lookup f14 = some ⟨oc14, od14, .func (PySem.W.fnOf "frame_of" "frame_of" (defArgs s_frame_of) (defBody s_frame_of) (defScope s_frame_of) .none kV14 dc14 pm14 an14 cd14 ct14), sl14⟩) (c14 : PySem.W.codeIn K cd14 "frame_of" = true) (k14 : PySem.W.keepIn K (.ref f14) = true)
    {od15 an15 : Option Addr} {sl15 : Array (Option Value)} {oc15 kV15 dc15 pm15 cd15 ct15 : Value}
    (a15 : PySem.W.nsIn K mainGlobals "word_of" = some (some (.ref f15))) (l15 : K.lookup f15 = some ⟨oc15, od15, .func (PySem.W.fnOf "word_of" "word_of" (defArgs s_word_of) (defBody s_word_of) (defScope s_word_of) .none kV15 dc15 pm15 an15 cd15 ct15), sl15⟩) (c15 : PySem.W.codeIn K cd15 "word_of" = true) (k15 : PySem.W.keepIn K (.ref f15) = true)
    {od16 an16 : Option Addr} {sl16 : Array (Option Value)} {oc16 kV16 dc16 pm16 cd16 ct16 : Value}
    (a16 : PySem.W.nsIn K mainGlobals "begin_of" = some (some (.ref f16))) (l16 : K.lookup f16 = some ⟨oc16, od16, .func (PySem.W.fnOf "begin_of" "begin_of" (defArgs s_begin_of) (defBody s_begin_of) (defScope s_begin_of) .none kV16 dc16 pm16 an16 cd16 ct16), sl16⟩) (c16 : PySem.W.codeIn K cd16 "begin_of" = true) (k16 : PySem.W.keepIn K (.ref f16) = true)
    {od17 an17 : Option Addr} {sl17 : Array (Option Value)} {oc17 kV17 dc17 pm17 cd17 ct17 : Value}
    (a17 : PySem.W.nsIn K mainGlobals "is_pairs" = some (some (.ref f17))) (l17 : K.lookup f17 = some ⟨oc17, od17, .func (PySem.W.fnOf "is_pairs" "is_pairs" (defArgs s_is_pairs) (defBody s_is_pairs) (defScope s_is_pairs) .none kV17 dc17 pm17 an17 cd17 ct17), sl17⟩) (c17 : PySem.W.codeIn K cd17 "is_pairs" = true) (k17 : PySem.W.keepIn K (.ref f17) = true)
    {od18 an18 : Option Addr} {sl18 : Array (Option Value)} {oc18 kV18 dc18 pm18 cd18 ct18 : Value}
    (a18 : PySem.W.nsIn K mainGlobals "under_way_at" = some (some (.ref f18))) (l18 : K.lookup f18 = some ⟨oc18, od18, .func (PySem.W.fnOf "under_way_at" "under_way_at" (defArgs s_under_way_at) (defBody s_under_way_at) (defScope s_under_way_at) .none kV18 dc18 pm18 an18 cd18 ct18), sl18⟩) (c18 : PySem.W.codeIn K cd18 "under_way_at" = true) (k18 : PySem.W.keepIn K (.ref f18) = true)
    {od19 an19 : Option Addr} {sl19 : Array (Option Value)} {oc19 kV19 dc19 pm19 cd19 ct19 : Value}
    (a19 : PySem.W.nsIn K mainGlobals "part_of" = some (some (.ref f19))) (l19 : K.lookup f19 = some ⟨oc19, od19, .func (PySem.W.fnOf "part_of" "part_of" (defArgs s_part_of) (defBody s_part_of) (defScope s_part_of) .none kV19 dc19 pm19 an19 cd19 ct19), sl19⟩) (c19 : PySem.W.codeIn K cd19 "part_of" = true) (k19 : PySem.W.keepIn K (.ref f19) = true)
    {od20 an20 : Option Addr} {sl20 : Array (Option Value)} {oc20 kV20 dc20 pm20 cd20 ct20 : Value}
    (a20 : PySem.W.nsIn K mainGlobals "half_behind" = some (some (.ref f20))) (l20 : K.lookup f20 = some ⟨oc20, od20, .func (PySem.W.fnOf "half_behind" "half_behind" (defArgs s_half_behind) (defBody s_half_behind) (defScope s_half_behind) .none kV20 dc20 pm20 an20 cd20 ct20), sl20⟩) (c20 : PySem.W.codeIn K cd20 "half_behind" = true) (k20 : PySem.W.keepIn K (.ref f20) = true)
    {od21 an21 : Option Addr} {sl21 : Array (Option Value)} {oc21 kV21 dc21 pm21 cd21 ct21 : Value}
    (a21 : PySem.W.nsIn K mainGlobals "first_half" = some (some (.ref f21))) (l21 : K.lookup f21 = some ⟨oc21, od21, .func (PySem.W.fnOf "first_half" "first_half" (defArgs s_first_half) (defBody s_first_half) (defScope s_first_half) .none kV21 dc21 pm21 an21 cd21 ct21), sl21⟩) (c21 : PySem.W.codeIn K cd21 "first_half" = true) (k21 : PySem.W.keepIn K (.ref f21) = true)
    {od22 an22 : Option Addr} {sl22 : Array (Option Value)} {oc22 kV22 dc22 pm22 cd22 ct22 : Value}
    (a22 : PySem.W.nsIn K mainGlobals "other_half" = some (some (.ref f22))) (l22 : K.lookup f22 = some ⟨oc22, od22, .func (PySem.W.fnOf "other_half" "other_half" (defArgs s_other_half) (defBody s_other_half) (defScope s_other_half) .none kV22 dc22 pm22 an22 cd22 ct22), sl22⟩) (c22 : PySem.W.codeIn K cd22 "other_half" = true) (k22 : PySem.W.keepIn K (.ref f22) = true)
    {od23 an23 : Option Addr} {sl23 : Array (Option Value)} {oc23 kV23 dc23 pm23 cd23 ct23 : Value}
    (a23 : PySem.W.nsIn K mainGlobals "_law_begin" = some (some (.ref f23))) (l23 : K.lookup f23 = some ⟨oc23, od23, .func (PySem.W.fnOf "_law_begin" "_law_begin" (defArgs s__law_begin) (defBody s__law_begin) (defScope s__law_begin) .none kV23 dc23 pm23 an23 cd23 ct23), sl23⟩) (c23 : PySem.W.codeIn K cd23 "_law_begin" = true) (k23 : PySem.W.keepIn K (.ref f23) = true)
    {od24 an24 : Option Addr} {sl24 : Array (Option Value)} {oc24 kV24 dc24 pm24 cd24 ct24 : Value}
    (a24 : PySem.W.nsIn K mainGlobals "_law_next" = some (some (.ref f24))) (l24 : K.lookup f24 = some ⟨oc24, od24, .func (PySem.W.fnOf "_law_next" "_law_next" (defArgs s__law_next) (defBody s__law_next) (defScope s__law_next) .none kV24 dc24 pm24 an24 cd24 ct24), sl24⟩) (c24 : PySem.W.codeIn K cd24 "_law_next" = true) (k24 : PySem.W.keepIn K (.ref f24) = true)
    {od25 an25 : Option Addr} {sl25 : Array (Option Value)} {oc25 kV25 dc25 pm25 cd25 ct25 : Value}
    (a25 : PySem.W.nsIn K mainGlobals "_law_pick" = some (some (.ref f25))) (l25 : K.lookup f25 = some ⟨oc25, od25, .func (PySem.W.fnOf "_law_pick" "_law_pick" (defArgs s__law_pick) (defBody s__law_pick) (defScope s__law_pick) .none kV25 dc25 pm25 an25 cd25 ct25), sl25⟩) (c25 : PySem.W.codeIn K cd25 "_law_pick" = true) (k25 : PySem.W.keepIn K (.ref f25) = true)
    {od26 an26 : Option Addr} {sl26 : Array (Option Value)} {oc26 kV26 dc26 pm26 cd26 ct26 : Value}
    (a26 : PySem.W.nsIn K mainGlobals "_law_size" = some (some (.ref f26))) (l26 : K.lookup f26 = some ⟨oc26, od26, .func (PySem.W.fnOf "_law_size" "_law_size" (defArgs s__law_size) (defBody s__law_size) (defScope s__law_size) .none kV26 dc26 pm26 an26 cd26 ct26), sl26⟩) (c26 : PySem.W.codeIn K cd26 "_law_size" = true) (k26 : PySem.W.keepIn K (.ref f26) = true)
    {od27 an27 : Option Addr} {sl27 : Array (Option Value)} {oc27 kV27 dc27 pm27 cd27 ct27 : Value}
    (a27 : PySem.W.nsIn K mainGlobals "_law_table" = some (some (.ref f27))) (l27 : K.lookup f27 = some ⟨oc27, od27, .func (PySem.W.fnOf "_law_table" "_law_table" (defArgs s__law_table) (defBody s__law_table) (defScope s__law_table) .none kV27 dc27 pm27 an27 cd27 ct27), sl27⟩) (c27 : PySem.W.codeIn K cd27 "_law_table" = true) (k27 : PySem.W.keepIn K (.ref f27) = true)
    {od28 an28 : Option Addr} {sl28 : Array (Option Value)} {oc28 kV28 dc28 pm28 cd28 ct28 : Value}
    (a28 : PySem.W.nsIn K mainGlobals "_law_words" = some (some (.ref f28))) (l28 : K.lookup f28 = some ⟨oc28, od28, .func (PySem.W.fnOf "_law_words" "_law_words" (defArgs s__law_words) (defBody s__law_words) (defScope s__law_words) .none kV28 dc28 pm28 an28 cd28 ct28), sl28⟩) (c28 : PySem.W.codeIn K cd28 "_law_words" = true) (k28 : PySem.W.keepIn K (.ref f28) = true)
    {od29 an29 : Option Addr} {sl29 : Array (Option Value)} {oc29 kV29 dc29 pm29 cd29 ct29 : Value}
    (a29 : PySem.W.nsIn K mainGlobals "_law_frame" = some (some (.ref f29))) (l29 : K.lookup f29 = some ⟨oc29, od29, .func (PySem.W.fnOf "_law_frame" "_law_frame" (defArgs s__law_frame) (defBody s__law_frame) (defScope s__law_frame) .none kV29 dc29 pm29 an29 cd29 ct29), sl29⟩) (c29 : PySem.W.codeIn K cd29 "_law_frame" = true) (k29 : PySem.W.keepIn K (.ref f29) = true)
    {od30 an30 : Option Addr} {sl30 : Array (Option Value)} {oc30 kV30 dc30 pm30 cd30 ct30 : Value}
    (a30 : PySem.W.nsIn K mainGlobals "_law_said" = some (some (.ref f30))) (l30 : K.lookup f30 = some ⟨oc30, od30, .func (PySem.W.fnOf "_law_said" "_law_said" (defArgs s__law_said) (defBody s__law_said) (defScope s__law_said) .none kV30 dc30 pm30 an30 cd30 ct30), sl30⟩) (c30 : PySem.W.codeIn K cd30 "_law_said" = true) (k30 : PySem.W.keepIn K (.ref f30) = true)
    {od31 an31 : Option Addr} {sl31 : Array (Option Value)} {oc31 kV31 dc31 pm31 cd31 ct31 : Value}
    (a31 : PySem.W.nsIn K mainGlobals "_law_bent" = some (some (.ref f31))) (l31 : K.lookup f31 = some ⟨oc31, od31, .func (PySem.W.fnOf "_law_bent" "_law_bent" (defArgs s__law_bent) (defBody s__law_bent) (defScope s__law_bent) .none kV31 dc31 pm31 an31 cd31 ct31), sl31⟩) (c31 : PySem.W.codeIn K cd31 "_law_bent" = true) (k31 : PySem.W.keepIn K (.ref f31) = true)
    {od32 an32 : Option Addr} {sl32 : Array (Option Value)} {oc32 kV32 dc32 pm32 cd32 ct32 : Value}
    (a32 : PySem.W.nsIn K mainGlobals "law" = some (some (.ref f32))) (l32 : K.lookup f32 = some ⟨oc32, od32, .func (PySem.W.fnOf "law" "law" (defArgs s_law) (defBody s_law) (defScope s_law) .none kV32 dc32 pm32 an32 cd32 ct32), sl32⟩) (c32 : PySem.W.codeIn K cd32 "law" = true) (k32 : PySem.W.keepIn K (.ref f32) = true)
    (z1 : PySem.W.nsIn K mainGlobals "all" = some none)
    (z2 : PySem.W.nsIn K mainGlobals "bool" = some none)
    (z3 : PySem.W.nsIn K mainGlobals "dict" = some none)
    (z4 : PySem.W.nsIn K mainGlobals "enumerate" = some none)
    (z5 : PySem.W.nsIn K mainGlobals "int" = some none)
    (z6 : PySem.W.nsIn K mainGlobals "isinstance" = some none)
    (z7 : PySem.W.nsIn K mainGlobals "len" = some none)
    (z8 : PySem.W.nsIn K mainGlobals "list" = some none)
    (z9 : PySem.W.nsIn K mainGlobals "range" = some none)
    (z10 : PySem.W.nsIn K mainGlobals "repr" = some none)
    (z11 : PySem.W.nsIn K mainGlobals "str" = some none)
    (z12 : PySem.W.nsIn K mainGlobals "tuple" = some none)
    {q1 : Tok} (v1 : PySem.W.nsIn K mainGlobals "MOST_BITS" = some (some (.int 8 q1)))
    {q2 : Tok} (v2 : PySem.W.nsIn K mainGlobals "MOST_DURATION" = some (some (.int 99999 q2)))
    {C1 fI1 cc1 cda1 B1_1 xN1 : Addr} {xnm1 xqn1 fl1 : Str} {xbs1 : List Value} {xsn1 : List Str} {xsub1 : List Value} {xab1 : Bool} {xcol1 : Option Bool} {xdd1 : Option Addr} {xm10 xm11 xm12 xm13 xm15 : Option Value}
    {xoc1 xcl1 xkl1 xdo1 xpm1 xct1 : Value} {xod1 xcd1 xkd1 xan1 : Option Addr} {xos1 xcs1 xks1 : Array (Option Value)} {xvs1 : Array Value} {xtf1 : Tok}
    (xa1 : PySem.W.nsIn K mainGlobals "BadTable" = some (some (.ref C1))) (xb1 : K.lookup C1 = some (excClassObj xnm1 xqn1 C1 xN1 xbs1 [.ref B1_1, .type "ValueError", .type "Exception", .type "BaseException", .type "object"] true xsn1 xsub1 xab1 xcol1 xdd1 xm10 xm11 xm12 xm13 xm15 "ValueError.__new__"))
    (xc1 : PySem.W.findIn K (.ref C1) "__setattr__" = some (some (.builtin "object.__setattr__"))) (xd1 : PySem.W.findIn K (.ref C1) "__getattribute__" = some (some (.builtin "BaseException.__getattribute__"))) (xe1 : PySem.W.findIn K (.ref C1) "__getattr__" = some none) (xf1 : PySem.W.findIn K (.ref C1) "part" = some none)
    (xg1 : PySem.W.findIn K (.ref C1) "__init__" = some (some (.ref fI1))) (xh1 : PySem.W.typeIn K (.ref fI1) = some (.type "function"))
    (xi1 : K.lookup fI1 = some ⟨xoc1, xod1, .func (fnX "__init__" "BadTable.__init__" (xA "part" ⟨6, 17, 6, 21⟩ ⟨6, 23, 6, 27⟩) (xB "part" "a part of the table is not as described" (fun n => match n with | 1 => ⟨7, 8, 7, 13⟩ | 2 => ⟨7, 8, 7, 15⟩ | 3 => ⟨7, 8, 7, 24⟩ | 4 => ⟨7, 25, 7, 66⟩ | 5 => ⟨7, 8, 7, 67⟩ | 6 => ⟨7, 8, 7, 67⟩ | 7 => ⟨8, 8, 8, 12⟩ | 8 => ⟨8, 8, 8, 17⟩ | 9 => ⟨8, 20, 8, 24⟩ | 10 => ⟨8, 8, 8, 24⟩ | _ => ⟨0, 0, 0, 0⟩)) (xS "part") [("__class__", cc1)] .none .none xdo1 xpm1 xan1 (.ref cda1) xct1), xos1⟩)
    (xj1 : PySem.W.codeIn K (.ref cda1) "BadTable.__init__" = true) (xk1 : K.lookup cc1 = some ⟨xcl1, xcd1, .cell (some (.ref C1)), xcs1⟩) (xl1 : K.lookup cda1 = some ⟨xkl1, xkd1, .fields xvs1, xks1⟩) (xw1 : xvs1[2]? = some (.str fl1 xtf1)) (xx1 : ((PySem.Challenge.pw_beamframes_k05_whole_frames.main.file : Str) == fl1) = true)
    (xo1 : PySem.W.keepIn K (.ref C1) = true) (xp1 : PySem.W.subIn K (.ref C1) (.type "BaseException") = some true) (xq1 : PySem.W.typeIn K (.ref C1) = some (.type "type")) (xr1 : PySem.W.hasDictIn K C1 = true) (xs1 : PySem.W.isClsIn K C1 = true) (xt1 : PySem.W.subIn K (.ref C1) (.ref C1) = some true)
    (xu1 : PySem.W.subIn K (.ref C1) (.type "ValueError") = some true) (xv1 : PySem.W.mroIn K C1 (.ref C1) = some true) (xy1 : ks_superIn K C1 C1 "__init__" = some (some (.builtin "ValueError.__init__"))) (xz1 : PySem.W.nsIn K cStatics "thirdparty.any" = some none)
    {C2 fI2 cc2 cda2 B2_1 xN2 : Addr} {xnm2 xqn2 fl2 : Str} {xbs2 : List Value} {xsn2 : List Str} {xsub2 : List Value} {xab2 : Bool} {xcol2 : Option Bool} {xdd2 : Option Addr} {xm20 xm21 xm22 xm23 xm25 : Option Value}
    {xoc2 xcl2 xkl2 xdo2 xpm2 xct2 : Value} {xod2 xcd2 xkd2 xan2 : Option Addr} {xos2 xcs2 xks2 : Array (Option Value)} {xvs2 : Array Value} {xtf2 : Tok}
    (xa2 : PySem.W.nsIn K mainGlobals "BadWord" = some (some (.ref C2))) (xb2 : K.lookup C2 = some (excClassObj xnm2 xqn2 C2 xN2 xbs2 [.ref B2_1, .type "ValueError", .type "Exception", .type "BaseException", .type "object"] true xsn2 xsub2 xab2 xcol2 xdd2 xm20 xm21 xm22 xm23 xm25 "ValueError.__new__"))
    (xc2 : PySem.W.findIn K (.ref C2) "__setattr__" = some (some (.builtin "object.__setattr__"))) (xd2 : PySem.W.findIn K (.ref C2) "__getattribute__" = some (some (.builtin "BaseException.__getattribute__"))) (xe2 : PySem.W.findIn K (.ref C2) "__getattr__" = some none) (xf2 : PySem.W.findIn K (.ref C2) "given" = some none)
    (xg2 : PySem.W.findIn K (.ref C2) "__init__" = some (some (.ref fI2))) (xh2 : PySem.W.typeIn K (.ref fI2) = some (.type "function"))
    (xi2 : K.lookup fI2 = some ⟨xoc2, xod2, .func (fnX "__init__" "BadWord.__init__" (xA "given" ⟨11, 17, 11, 21⟩ ⟨11, 23, 11, 28⟩) (xB "given" "this is no word for the table" (fun n => match n with | 1 => ⟨12, 8, 12, 13⟩ | 2 => ⟨12, 8, 12, 15⟩ | 3 => ⟨12, 8, 12, 24⟩ | 4 => ⟨12, 25, 12, 56⟩ | 5 => ⟨12, 8, 12, 57⟩ | 6 => ⟨12, 8, 12, 57⟩ | 7 => ⟨13, 8, 13, 12⟩ | 8 => ⟨13, 8, 13, 18⟩ | 9 => ⟨13, 21, 13, 26⟩ | 10 => ⟨13, 8, 13, 26⟩ | _ => ⟨0, 0, 0, 0⟩)) (xS "given") [("__class__", cc2)] .none .none xdo2 xpm2 xan2 (.ref cda2) xct2), xos2⟩)
    (xj2 : PySem.W.codeIn K (.ref cda2) "BadWord.__init__" = true) (xk2 : K.lookup cc2 = some ⟨xcl2, xcd2, .cell (some (.ref C2)), xcs2⟩) (xl2 : K.lookup cda2 = some ⟨xkl2, xkd2, .fields xvs2, xks2⟩) (xw2 : xvs2[2]? = some (.str fl2 xtf2)) (xx2 : ((PySem.Challenge.pw_beamframes_k05_whole_frames.main.file : Str) == fl2) = true)
    (xo2 : PySem.W.keepIn K (.ref C2) = true) (xp2 : PySem.W.subIn K (.ref C2) (.type "BaseException") = some true) (xq2 : PySem.W.typeIn K (.ref C2) = some (.type "type")) (xr2 : PySem.W.hasDictIn K C2 = true) (xs2 : PySem.W.isClsIn K C2 = true) (xt2 : PySem.W.subIn K (.ref C2) (.ref C2) = some true)
    (xu2 : PySem.W.subIn K (.ref C2) (.type "ValueError") = some true) (xv2 : PySem.W.mroIn K C2 (.ref C2) = some true) (xy2 : ks_superIn K C2 C2 "__init__" = some (some (.builtin "ValueError.__init__"))) (xz2 : PySem.W.nsIn K cStatics "thirdparty.any" = some none)
    (zsup : PySem.W.nsIn K mainGlobals "super" = some none)
    : ∃ fd : FuncData, (∀ (s : Shared) (v : Value), BindsTo s fd ⟨[v], []⟩ [("script", v)]) ∧ ∀ base : Heap, K.In base → base.Ns mainGlobals mg → GOk l.prog w K mg base 11 fa fd ["script"] (spLaw K) := by
  have e := hfa.symm.trans (PySem.W.mg_of X G a32)
  obtain rfl : f32 = fa := by cases e; rfl
  have T : Txt K mg ⟨f1, (PySem.W.fnOf "is_whole" "is_whole" (defArgs s_is_whole) (defBody s_is_whole) (defScope s_is_whole) .none kV1 dc1 pm1 an1 cd1 ct1), f2, (PySem.W.fnOf "is_whole_from" "is_whole_from" (defArgs s_is_whole_from) (defBody s_is_whole_from) (defScope s_is_whole_from) .none kV2 dc2 pm2 an2 cd2 ct2), f3, (PySem.W.fnOf "need_table" "need_table" (defArgs s_need_table) (defBody s_need_table) (defScope s_need_table) .none kV3 dc3 pm3 an3 cd3 ct3), f4, (PySem.W.fnOf "is_word" "is_word" (defArgs s_is_word) (defBody s_is_word) (defScope s_is_word) .none kV4 dc4 pm4 an4 cd4 ct4), f5, (PySem.W.fnOf "words_of" "words_of" (defArgs s_words_of) (defBody s_words_of) (defScope s_words_of) .none kV5 dc5 pm5 an5 cd5 ct5), f6, (PySem.W.fnOf "bits_of" "bits_of" (defArgs s_bits_of) (defBody s_bits_of) (defScope s_bits_of) .none kV6 dc6 pm6 an6 cd6 ct6), f7, (PySem.W.fnOf "begins_with" "begins_with" (defArgs s_begins_with) (defBody s_begins_with) (defScope s_begins_with) .none kV7 dc7 pm7 an7 cd7 ct7), f8, (PySem.W.fnOf "wrong_part_of_pairs" "wrong_part_of_pairs" (defArgs s_wrong_part_of_pairs) (defBody s_wrong_part_of_pairs) (defScope s_wrong_part_of_pairs) .none kV8 dc8 pm8 an8 cd8 ct8), f9, (PySem.W.fnOf "wrong_part_of_halves" "wrong_part_of_halves" (defArgs s_wrong_part_of_halves) (defBody s_wrong_part_of_halves) (defScope s_wrong_part_of_halves) .none kV9 dc9 pm9 an9 cd9 ct9), f10, (PySem.W.fnOf "is_duration" "is_duration" (defArgs s_is_duration) (defBody s_is_duration) (defScope s_is_duration) .none kV10 dc10 pm10 an10 cd10 ct10), f11, (PySem.W.fnOf "are_durations" "are_durations" (defArgs s_are_durations) (defBody s_are_durations) (defScope s_are_durations) .none kV11 dc11 pm11 an11 cd11 ct11), f12, (PySem.W.fnOf "is_pulse_and_gap" "is_pulse_and_gap" (defArgs s_is_pulse_and_gap) (defBody s_is_pulse_and_gap) (defScope s_is_pulse_and_gap) .none kV12 dc12 pm12 an12 cd12 ct12), f13, (PySem.W.fnOf "is_bit_count" "is_bit_count" (defArgs s_is_bit_count) (defBody s_is_bit_count) (defScope s_is_bit_count) .none kV13 dc13 pm13 an13 cd13 ct13), f14, (PySem.W.fnOf "frame_of" "frame_of" (defArgs s_frame_of) (defBody s_frame_of) (defScope s_frame_of) .none kV14 dc14 pm14 an14 cd14 ct14), f15, (PySem.W.fnOf "word_of" "word_of" (defArgs s_word_of) (defBody s_word_of) (defScope s_word_of) .none kV15 dc15 pm15 an15 cd15 ct15), f16, (PySem.W.fnOf "begin_of" "begin_of" (defArgs s_begin_of) (defBody s_begin_of) (defScope s_begin_of) .none kV16 dc16 pm16 an16 cd16 ct16), f17, (PySem.W.fnOf "is_pairs" "is_pairs" (defArgs s_is_pairs) (defBody s_is_pairs) (defScope s_is_pairs) .none kV17 dc17 pm17 an17 cd17 ct17), f18, (PySem.W.fnOf "under_way_at" "under_way_at" (defArgs s_under_way_at) (defBody s_under_way_at) (defScope s_under_way_at) .none kV18 dc18 pm18 an18 cd18 ct18), f19, (PySem.W.fnOf "part_of" "part_of" (defArgs s_part_of) (defBody s_part_of) (defScope s_part_of) .none kV19 dc19 pm19 an19 cd19 ct19), f20, (PySem.W.fnOf "half_behind" "half_behind" (defArgs s_half_behind) (defBody s_half_behind) (defScope s_half_behind) .none kV20 dc20 pm20 an20 cd20 ct20), f21, (PySem.W.fnOf "first_half" "first_half" (defArgs s_first_half) (defBody s_first_half) (defScope s_first_half) .none kV21 dc21 pm21 an21 cd21 ct21), f22, (PySem.W.fnOf "other_half" "other_half" (defArgs s_other_half) (defBody s_other_half) (defScope s_other_half) .none kV22 dc22 pm22 an22 cd22 ct22), f23, (PySem.W.fnOf "_law_begin" "_law_begin" (defArgs s__law_begin) (defBody s__law_begin) (defScope s__law_begin) .none kV23 dc23 pm23 an23 cd23 ct23), f24, (PySem.W.fnOf "_law_next" "_law_next" (defArgs s__law_next) (defBody s__law_next) (defScope s__law_next) .none kV24 dc24 pm24 an24 cd24 ct24), f25, (PySem.W.fnOf "_law_pick" "_law_pick" (defArgs s__law_pick) (defBody s__law_pick) (defScope s__law_pick) .none kV25 dc25 pm25 an25 cd25 ct25), f26, (PySem.W.fnOf "_law_size" "_law_size" (defArgs s__law_size) (defBody s__law_size) (defScope s__law_size) .none kV26 dc26 pm26 an26 cd26 ct26), f27, (PySem.W.fnOf "_law_table" "_law_table" (defArgs s__law_table) (defBody s__law_table) (defScope s__law_table) .none kV27 dc27 pm27 an27 cd27 ct27), f28, (PySem.W.fnOf "_law_words" "_law_words" (defArgs s__law_words) (defBody s__law_words) (defScope s__law_words) .none kV28 dc28 pm28 an28 cd28 ct28), f29, (PySem.W.fnOf "_law_frame" "_law_frame" (defArgs s__law_frame) (defBody s__law_frame) (defScope s__law_frame) .none kV29 dc29 pm29 an29 cd29 ct29), f30, (PySem.W.fnOf "_law_said" "_law_said" (defArgs s__law_said) (defBody s__law_said) (defScope s__law_said) .none kV30 dc30 pm30 an30 cd30 ct30), f31, (PySem.W.fnOf "_law_bent" "_law_bent" (defArgs s__law_bent) (defBody s__law_bent) (defScope s__law_bent) .none kV31 dc31 pm31 an31 cd31 ct31), f32, (PySem.W.fnOf "law" "law" (defArgs s_law) (defBody s_law) (defScope s_law) .none kV32 dc32 pm32 an32 cd32 ct32), C1, fI1, C2, fI2⟩ := {
    b_BadTable := { T := { cls := ⟨_, _, _, _, _, _, _, _, _, _, _, _, _, _, _, xb1, rfl⟩, sa := xc1, noN := xf1, iC := xg1, tC := xh1, sup := xy1, sub := xu1, self := xv1, st := xz1, fn := ⟨_, _, _, _, _, _, _, _, _, _, _, _, _, _, _, _, _, (fun n => match n with | 1 => ⟨7, 8, 7, 13⟩ | 2 => ⟨7, 8, 7, 15⟩ | 3 => ⟨7, 8, 7, 24⟩ | 4 => ⟨7, 25, 7, 66⟩ | 5 => ⟨7, 8, 7, 67⟩ | 6 => ⟨7, 8, 7, 67⟩ | 7 => ⟨8, 8, 8, 12⟩ | 8 => ⟨8, 8, 8, 17⟩ | 9 => ⟨8, 20, 8, 24⟩ | 10 => ⟨8, 8, 8, 24⟩ | _ => ⟨0, 0, 0, 0⟩), _, _, _, _, _, xi1, xj1, xk1, xl1, xw1, xx1, (fun env => ⟨_, rfl⟩), (fun s a b => .of_eq rfl)⟩ }, gC := PySem.W.mg_of X G xa1, kC := xo1, exC := xp1, tyC := xq1, ga := xd1, gg := xe1, hdC := xr1, te := exm_self xp1 xs1 xq1 xt1, ms := PySem.W.mg_none_of X G zsup, top := by rfl, fn := by decide }
    b_BadWord := { T := { cls := ⟨_, _, _, _, _, _, _, _, _, _, _, _, _, _, _, xb2, rfl⟩, sa := xc2, noN := xf2, iC := xg2, tC := xh2, sup := xy2, sub := xu2, self := xv2, st := xz2, fn := ⟨_, _, _, _, _, _, _, _, _, _, _, _, _, _, _, _, _, (fun n => match n with | 1 => ⟨12, 8, 12, 13⟩ | 2 => ⟨12, 8, 12, 15⟩ | 3 => ⟨12, 8, 12, 24⟩ | 4 => ⟨12, 25, 12, 56⟩ | 5 => ⟨12, 8, 12, 57⟩ | 6 => ⟨12, 8, 12, 57⟩ | 7 => ⟨13, 8, 13, 12⟩ | 8 => ⟨13, 8, 13, 18⟩ | 9 => ⟨13, 21, 13, 26⟩ | 10 => ⟨13, 8, 13, 26⟩ | _ => ⟨0, 0, 0, 0⟩), _, _, _, _, _, xi2, xj2, xk2, xl2, xw2, xx2, (fun env => ⟨_, rfl⟩), (fun s a b => .of_eq rfl)⟩ }, gC := PySem.W.mg_of X G xa2, kC := xo2, exC := xp2, tyC := xq2, ga := xd2, gg := xe2, hdC := xr2, te := exm_self xp2 xs2 xq2 xt2, ms := PySem.W.mg_none_of X G zsup, top := by rfl, fn := by decide }
    f_is_whole := ⟨fun_mk (st := s_is_whole) l1 c1 k1, PySem.W.mg_of X G a1, fun s us hl => match us, hl with | [_], _ => .of_eq rfl⟩
    f_is_whole_from := ⟨fun_mk (st := s_is_whole_from) l2 c2 k2, PySem.W.mg_of X G a2, fun s us hl => match us, hl with | [_, _, _], _ => .of_eq rfl⟩
    f_need_table := ⟨fun_mk (st := s_need_table) l3 c3 k3, PySem.W.mg_of X G a3, fun s us hl => match us, hl with | [_], _ => .of_eq rfl⟩
    f_is_word := ⟨fun_mk (st := s_is_word) l4 c4 k4, PySem.W.mg_of X G a4, fun s us hl => match us, hl with | [_, _], _ => .of_eq rfl⟩
    f_words_of := ⟨fun_mk (st := s_words_of) l5 c5 k5, PySem.W.mg_of X G a5, fun s us hl => match us, hl with | [_], _ => .of_eq rfl⟩
    f_bits_of := ⟨fun_mk (st := s_bits_of) l6 c6 k6, PySem.W.mg_of X G a6, fun s us hl => match us, hl with | [_], _ => .of_eq rfl⟩
    f_begins_with := ⟨fun_mk (st := s_begins_with) l7 c7 k7, PySem.W.mg_of X G a7, fun s us hl => match us, hl with | [_, _, _], _ => .of_eq rfl⟩
    f_wrong_part_of_pairs := ⟨fun_mk (st := s_wrong_part_of_pairs) l8 c8 k8, PySem.W.mg_of X G a8, fun s us hl => match us, hl with | [_], _ => .of_eq rfl⟩
    f_wrong_part_of_halves := ⟨fun_mk (st := s_wrong_part_of_halves) l9 c9 k9, PySem.W.mg_of X G a9, fun s us hl => match us, hl with | [_], _ => .of_eq rfl⟩
    f_is_duration := ⟨fun_mk (st := s_is_duration) l10 c10 k10, PySem.W.mg_of X G a10, fun s us hl => match us, hl with | [_], _ => .of_eq rfl⟩
    f_are_durations := ⟨fun_mk (st := s_are_durations) l11 c11 k11, PySem.W.mg_of X G a11, fun s us hl => match us, hl with | [_], _ => .of_eq rfl⟩
    f_is_pulse_and_gap := ⟨fun_mk (st := s_is_pulse_and_gap) l12 c12 k12, PySem.W.mg_of X G a12, fun s us hl => match us, hl with | [_], _ => .of_eq rfl⟩
    f_is_bit_count := ⟨fun_mk (st := s_is_bit_count) l13 c13 k13, PySem.W.mg_of X G a13, fun s us hl => match us, hl with | [_], _ => .of_eq rfl⟩
    f_frame_of := ⟨fun_mk (st := s_frame_of) l14 c14 k14, PySem.W.mg_of X G a14, fun s us hl => match us, hl with | [_, _], _ => .of_eq rfl⟩
    f_word_of := ⟨fun_mk (st := s_word_of) l15 c15 k15, PySem.W.mg_of X G a15, fun s us hl => match us, hl with | [_, _], _ => .of_eq rfl⟩
    f_begin_of := ⟨fun_mk (st := s_begin_of) l16 c16 k16, PySem.W.mg_of X G a16, fun s us hl => match us, hl with | [_], _ => .of_eq rfl⟩
    f_is_pairs := ⟨fun_mk (st := s_is_pairs) l17 c17 k17, PySem.W.mg_of X G a17, fun s us hl => match us, hl with | [_], _ => .of_eq rfl⟩
    f_under_way_at := ⟨fun_mk (st := s_under_way_at) l18 c18 k18, PySem.W.mg_of X G a18, fun s us hl => match us, hl with | [_, _], _ => .of_eq rfl⟩
    f_part_of := ⟨fun_mk (st := s_part_of) l19 c19 k19, PySem.W.mg_of X G a19, fun s us hl => match us, hl with | [_, _, _, _], _ => .of_eq rfl⟩
    f_half_behind := ⟨fun_mk (st := s_half_behind) l20 c20 k20, PySem.W.mg_of X G a20, fun s us hl => match us, hl with | [_, _], _ => .of_eq rfl⟩
    f_first_half := ⟨fun_mk (st := s_first_half) l21 c21 k21, PySem.W.mg_of X G a21, fun s us hl => match us, hl with | [_], _ => .of_eq rfl⟩
    f_other_half := ⟨fun_mk (st := s_other_half) l22 c22 k22, PySem.W.mg_of X G a22, fun s us hl => match us, hl with | [_], _ => .of_eq rfl⟩
    f__law_begin := ⟨fun_mk (st := s__law_begin) l23 c23 k23, PySem.W.mg_of X G a23, fun s us hl => match us, hl with | [_], _ => .of_eq rfl⟩
    f__law_next := ⟨fun_mk (st := s__law_next) l24 c24 k24, PySem.W.mg_of X G a24, fun s us hl => match us, hl with | [_, _], _ => .of_eq rfl⟩
    f__law_pick := ⟨fun_mk (st := s__law_pick) l25 c25 k25, PySem.W.mg_of X G a25, fun s us hl => match us, hl with | [_, _], _ => .of_eq rfl⟩
    f__law_size := ⟨fun_mk (st := s__law_size) l26 c26 k26, PySem.W.mg_of X G a26, fun s us hl => match us, hl with | [_], _ => .of_eq rfl⟩
    f__law_table := ⟨fun_mk (st := s__law_table) l27 c27 k27, PySem.W.mg_of X G a27, fun s us hl => match us, hl with | [_, _], _ => .of_eq rfl⟩
    f__law_words := ⟨fun_mk (st := s__law_words) l28 c28 k28, PySem.W.mg_of X G a28, fun s us hl => match us, hl with | [_], _ => .of_eq rfl⟩
    f__law_frame := ⟨fun_mk (st := s__law_frame) l29 c29 k29, PySem.W.mg_of X G a29, fun s us hl => match us, hl with | [_, _], _ => .of_eq rfl⟩
    f__law_said := ⟨fun_mk (st := s__law_said) l30 c30 k30, PySem.W.mg_of X G a30, fun s us hl => match us, hl with | [_, _], _ => .of_eq rfl⟩
    f__law_bent := ⟨fun_mk (st := s__law_bent) l31 c31 k31, PySem.W.mg_of X G a31, fun s us hl => match us, hl with | [_, _], _ => .of_eq rfl⟩
    f_law := ⟨fun_mk (st := s_law) l32 c32 k32, PySem.W.mg_of X G a32, fun s us hl => match us, hl with | [_], _ => .of_eq rfl⟩
    k_frame_of_word_table := fun s ws hl => match ws, hl with | [_, _], _ => .of_eq rfl
    k_word_of_frame_table := fun s ws hl => match ws, hl with | [_, _], _ => .of_eq rfl
    m_all := PySem.W.mg_none_of X G z1
    m_bool := PySem.W.mg_none_of X G z2
    m_dict := PySem.W.mg_none_of X G z3
    m_enumerate := PySem.W.mg_none_of X G z4
    m_int := PySem.W.mg_none_of X G z5
    m_isinstance := PySem.W.mg_none_of X G z6
    m_len := PySem.W.mg_none_of X G z7
    m_list := PySem.W.mg_none_of X G z8
    m_range := PySem.W.mg_none_of X G z9
    m_repr := PySem.W.mg_none_of X G z10
    m_str := PySem.W.mg_none_of X G z11
    m_tuple := PySem.W.mg_none_of X G z12
    c_MOST_BITS := ⟨_, PySem.W.mg_of X G v1, ⟨_, rfl⟩⟩
    c_MOST_DURATION := ⟨_, PySem.W.mg_of X G v2, ⟨_, rfl⟩⟩
  }
  refine ⟨(PySem.W.fnOf "law" "law" (defArgs s_law) (defBody s_law) (defScope s_law) .none kV32 dc32 pm32 an32 cd32 ct32), fun s v => .of_eq rfl, fun base _ _ => ?_⟩
  rw [hl]
  exact ok_law T
end Bf
open PySem PySem.W PyProof.Rows
set_option maxHeartbeats 0 in
theorem PySem.Challenge.cw_beamframes_k05_whole_frames_holds : PySem.Challenge.rw_beamframes_k05_whole_frames.Holds := by
  w_on; o_law; k_head; (case hw => w_witness2)
  k_fill
  refine Bf.walk_g (l := PySem.Challenge.rw_beamframes_k05_whole_frames) (n := 63) (k := 11) (x := "script") (sp := Bf.spLaw) rfl (by decide) rfl ⟨rfl, by decide, by decide⟩ (fun w h Y => PySem.W.kIn_of Y) ?F (fun _ _ a ns hl _ hS => ⟨a, ns, rfl, hS, hl, fun _ => rfl⟩)
  case F =>
    intro w mg fa h KX G hmg
    refine' Bf.all_mk KX G hmg rfl ?a1 ?l1 ?c1 ?k1 ?a2 ?l2 ?c2 ?k2 ?a3 ?l3 ?c3 ?k3 ?a4 ?l4 ?c4 ?k4 ?a5 ?l5 ?c5 ?k5 ?a6 ?l6 ?c6 ?k6 ?a7 ?l7 ?c7 ?k7 ?a8 ?l8 ?c8 ?k8 ?a9 ?l9 ?c9 ?k9 ?a10 ?l10 ?c10 ?k10 ?a11 ?l11 ?c11 ?k11 ?a12 ?l12 ?c12 ?k12 ?a13 ?l13 ?c13 ?k13 ?a14 ?l14 ?c14 ?k14 ?a15 ?l15 ?c15 ?k15 ?a16 ?l16 ?c16 ?k16 ?a17 ?l17 ?c17 ?k17 ?a18 ?l18 ?c18 ?k18 ?a19 ?l19 ?c19 ?k19 ?a20 ?l20 ?c20 ?k20 ?a21 ?l21 ?c21 ?k21 ?a22 ?l22 ?c22 ?k22 ?a23 ?l23 ?c23 ?k23 ?a24 ?l24 ?c24 ?k24 ?a25 ?l25 ?c25 ?k25 ?a26 ?l26 ?c26 ?k26 ?a27 ?l27 ?c27 ?k27 ?a28 ?l28 ?c28 ?k28 ?a29 ?l29 ?c29 ?k29 ?a30 ?l30 ?c30 ?k30 ?a31 ?l31 ?c31 ?k31 ?a32 ?l32 ?c32 ?k32 ?z1 ?z2 ?z3 ?z4 ?z5 ?z6 ?z7 ?z8 ?z9 ?z10 ?z11 ?z12 ?v1 ?v2 ?xa1 ?xb1 ?xc1 ?xd1 ?xe1 ?xf1 ?xg1 ?xh1 ?xi1 ?xj1 ?xk1 ?xl1 ?xw1 ?xx1 ?xo1 ?xp1 ?xq1 ?xr1 ?xs1 ?xt1 ?xu1 ?xv1 ?xy1 ?xz1 ?xa2 ?xb2 ?xc2 ?xd2 ?xe2 ?xf2 ?xg2 ?xh2 ?xi2 ?xj2 ?xk2 ?xl2 ?xw2 ?xx2 ?xo2 ?xp2 ?xq2 ?xr2 ?xs2 ?xt2 ?xu2 ?xv2 ?xy2 ?xz2 ?zsup
    (case a1 => k_is); (case l1 => k_is); (case c1 => k_is); (case k1 => k_is); (case a2 => k_is); (case l2 => k_is)
    (case c2 => k_is); (case k2 => k_is); (case a3 => k_is); (case l3 => k_is); (case c3 => k_is); (case k3 => k_is)
    (case a4 => k_is); (case l4 => k_is); (case c4 => k_is); (case k4 => k_is); (case a5 => k_is); (case l5 => k_is)
    (case c5 => k_is); (case k5 => k_is); (case a6 => k_is); (case l6 => k_is); (case c6 => k_is); (case k6 => k_is)
    (case a7 => k_is); (case l7 => k_is); (case c7 => k_is); (case k7 => k_is); (case a8 => k_is); (case l8 => k_is)
    (case c8 => k_is); (case k8 => k_is); (case a9 => k_is); (case l9 => k_is); (case c9 => k_is); (case k9 => k_is)
    (case a10 => k_is); (case l10 => k_is); (case c10 => k_is); (case k10 => k_is); (case a11 => k_is); (case l11 => k_is)
    (case c11 => k_is); (case k11 => k_is); (case a12 => k_is); (case l12 => k_is); (case c12 => k_is); (case k12 => k_is)
    (case a13 => k_is); (case l13 => k_is); (case c13 => k_is); (case k13 => k_is); (case a14 => k_is); (case l14 => k_is)
    (case c14 => k_is); (case k14 => k_is); (case a15 => k_is); (case l15 => k_is); (case c15 => k_is); (case k15 => k_is)
    (case a16 => k_is); (case l16 => k_is); (case c16 => k_is); (case k16 => k_is); (case a17 => k_is); (case l17 => k_is)
    (case c17 => k_is); (case k17 => k_is); (case a18 => k_is); (case l18 => k_is); (case c18 => k_is); (case k18 => k_is)
    (case a19 => k_is); (case l19 => k_is); (case c19 => k_is); (case k19 => k_is); (case a20 => k_is); (case l20 => k_is)
    (case c20 => k_is); (case k20 => k_is); (case a21 => k_is); (case l21 => k_is); (case c21 => k_is); (case k21 => k_is)
    (case a22 => k_is); (case l22 => k_is); (case c22 => k_is); (case k22 => k_is); (case a23 => k_is); (case l23 => k_is)
    (case c23 => k_is); (case k23 => k_is); (case a24 => k_is); (case l24 => k_is); (case c24 => k_is); (case k24 => k_is)
    (case a25 => k_is); (case l25 => k_is); (case c25 => k_is); (case k25 => k_is); (case a26 => k_is); (case l26 => k_is)
    (case c26 => k_is); (case k26 => k_is); (case a27 => k_is); (case l27 => k_is); (case c27 => k_is); (case k27 => k_is)
    (case a28 => k_is); (case l28 => k_is); (case c28 => k_is); (case k28 => k_is); (case a29 => k_is); (case l29 => k_is)
    (case c29 => k_is); (case k29 => k_is); (case a30 => k_is); (case l30 => k_is); (case c30 => k_is); (case k30 => k_is)
    (case a31 => k_is); (case l31 => k_is); (case c31 => k_is); (case k31 => k_is); (case a32 => k_is); (case l32 => k_is)
    (case c32 => k_is); (case k32 => k_is); (case z1 => k_is); (case z2 => k_is); (case z3 => k_is); (case z4 => k_is)
    (case z5 => k_is); (case z6 => k_is); (case z7 => k_is); (case z8 => k_is); (case z9 => k_is); (case z10 => k_is)
    (case z11 => k_is); (case z12 => k_is); (case v1 => k_is); (case v2 => k_is); (case xa1 => first | k_is | rfl | decide +kernel); (case xb1 => first | k_is | rfl | decide +kernel)
    (case xc1 => first | k_is | rfl | decide +kernel); (case xd1 => first | k_is | rfl | decide +kernel); (case xe1 => first | k_is | rfl | decide +kernel); (case xf1 => first | k_is | rfl | decide +kernel); (case xg1 => first | k_is | rfl | decide +kernel); (case xh1 => first | k_is | rfl | decide +kernel)
    (case xi1 => first | k_is | rfl | decide +kernel); (case xj1 => first | k_is | rfl | decide +kernel); (case xk1 => first | k_is | rfl | decide +kernel); (case xl1 => first | k_is | rfl | decide +kernel); (case xw1 => first | k_is | rfl | decide +kernel); (case xx1 => first | k_is | rfl | decide +kernel)
    (case xo1 => first | k_is | rfl | decide +kernel); (case xp1 => first | k_is | rfl | decide +kernel); (case xq1 => first | k_is | rfl | decide +kernel); (case xr1 => first | k_is | rfl | decide +kernel); (case xs1 => first | k_is | rfl | decide +kernel); (case xt1 => first | k_is | rfl | decide +kernel)
    (case xu1 => first | k_is | rfl | decide +kernel); (case xv1 => first | k_is | rfl | decide +kernel); (case xy1 => first | k_is | rfl | decide +kernel); (case xz1 => first | k_is | rfl | decide +kernel); (case xa2 => first | k_is | rfl | decide +kernel); (case xb2 => first | k_is | rfl | decide +kernel)
    (case xc2 => first | k_is | rfl | decide +kernel); (case xd2 => first | k_is | rfl | decide +kernel); (case xe2 => first | k_is | rfl | decide +kernel); (case xf2 => first | k_is | rfl | decide +kernel); (case xg2 => first | k_is | rfl | decide +kernel); (case xh2 => first | k_is | rfl | decide +kernel)
    (case xi2 => first | k_is | rfl | decide +kernel); (case xj2 => first | k_is | rfl | decide +kernel); (case xk2 => first | k_is | rfl | decide +kernel); (case xl2 => first | k_is | rfl | decide +kernel); (case xw2 => first | k_is | rfl | decide +kernel); (case xx2 => first | k_is | rfl | decide +kernel)
    (case xo2 => first | k_is | rfl | decide +kernel); (case xp2 => first | k_is | rfl | decide +kernel); (case xq2 => first | k_is | rfl | decide +kernel); (case xr2 => first | k_is | rfl | decide +kernel); (case xs2 => first | k_is | rfl | decide +kernel); (case xt2 => first | k_is | rfl | decide +kernel)
    (case xu2 => first | k_is | rfl | decide +kernel); (case xv2 => first | k_is | rfl | decide +kernel); (case xy2 => first | k_is | rfl | decide +kernel); (case xz2 => first | k_is | rfl | decide +kernel); (case zsup => k_is)
