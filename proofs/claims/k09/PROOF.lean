import PyProof.Rows.All
import Wide.All
import OpenK.AllK
import Wide.FinOn
import KE.KExcSuper
import HandS.Exc
import HandS.ForSpec
import HandS.ForMost
import HandS.ForExc
import HandS.Star
import HandS.IsInst
import HandS.TupAny
import HandS.Style
import HandS.Wide
import HandS.RaiseMore
import HandS.Zip
import HandS.TupMul
import HandS.Property
import HandS.Gcd
import HandS.Defaults
import PyProof.NeKinds
import HandS.Walk
import HandS.Iter
import PyProof.Draws
import HandS.TryOnly
import PyProof.P3In
import KE.KRevSl
import PySem.Challenge.RW_beamframes_k09_receivers
set_option Elab.async false
set_option linter.all false
set_option maxRecDepth 100000
set_option maxHeartbeats 4000000
namespace Bf
open PySem PySem.Spec PySem.W PySem.Calls PyProof.Rows PySem.HandSPX
/-! ## Own errors: super().__init__('..'); self.f = v -/
def xA (f : Str) (p1 p2 : Pos) : Arguments := { posonlyargs := [], args := [{ arg := "self", annotation := none, pos := p1 }, { arg := f, annotation := none, pos := p2 }], vararg := none, kwonlyargs := [], kw_defaults := [], kwarg := none, defaults := [] }
def xB (f t : Str) (q : Nat → Pos) : List Stmt := [.Expr (.Call (.Attribute (.Call (.Name "super" (q 1)) [] [] (q 2)) "__init__" (q 3)) [.Constant (.str t) 0 (q 4)] [] (q 5)) (q 6), .Assign [.Attribute (.Name "self" (q 7)) f (q 8)] (.Name f (q 9)) (q 10)]
def xS (f : Str) : Scope := { kind := .function, names := [("self", .local), (f, .local), ("__class__", .free), ("super", .globalImplicit)], isGenerator := false, isCoroutine := false, more := [] }
/-- where the call stands in the file plays no part -/
def xCall (t : Str) (q : Nat → Pos) : Prop := ∀ env : Env, ∃ pl : Sem Bool, eval (.Call (.Attribute (.Call (.Name "super" (q 1)) [] [] (q 2)) "__init__" (q 3)) [.Constant (.str t) 0 (q 4)] [] (q 5)) env = (do
  let ov ← attributeBase (.Call (.Name "super" (q 1)) [] [] (q 2)) "__init__" env (eval (.Call (.Name "super" (q 1)) [] [] (q 2)) env)
  standAt (q 3).atName
  let (f, first) ← holding [ov] (getMethod ov "__init__" pl)
  callWith (q 5) f first (backTo (q 5) (starEach [.Constant (.str t) 0 (q 4)] env)) [])
structure BadTxt (prog : Program) (K : Frag) (f : Str) (C fI : Addr) : Prop where
  cls : ∃ nm q N bs bm sn sub ab col dd k0 k1 k2 k3 k5, K.lookup C = some (excClassObj nm q C N bs bm true sn sub ab col dd k0 k1 k2 k3 k5 "ValueError.__new__") ∧ refsVE bm = true
  sa : findIn K (.ref C) "__setattr__" = some (some (.builtin "object.__setattr__"))
  noN : findIn K (.ref C) f = some none
  iC : findIn K (.ref C) "__init__" = some (some (.ref fI))
  tC : typeIn K (.ref fI) = some (.type "function")
  sup : ks_superIn K C C "__init__" = some (some (.builtin "ValueError.__init__"))
  sub : subIn K (.ref C) (.type "ValueError") = some true
  self : mroIn K C (.ref C) = some true
  st : nsIn K cStatics "thirdparty.any" = some none
  fn : ∃ (oc ccl cl : Value) (od cdd cld : Option Addr) (doc pm ct : Value) (an : Option Addr) (osl ccs csl : Array (Option Value)) (qual t : Str) (p1 p2 : Pos) (q : Nat → Pos) (cc cda : Addr) (vs : Array Value) (file : Str) (tf : Tok),
    K.lookup fI = some ⟨oc, od, .func (fnX "__init__" qual (xA f p1 p2) (xB f t q) (xS f) [("__class__", cc)] .none .none doc pm an (.ref cda) ct), osl⟩ ∧ codeIn K (.ref cda) qual = true ∧ K.lookup cc = some ⟨cl, cld, .cell (some (.ref C)), csl⟩ ∧
    K.lookup cda = some ⟨ccl, cdd, .fields vs, ccs⟩ ∧ vs[2]? = some (.str file tf) ∧ ((prog.main.file : Str) == file) = true ∧ xCall t q ∧
    ∀ (s : Shared) (a b : Value), BindsTo s (fnX "__init__" qual (xA f p1 p2) (xB f t q) (xS f) [("__class__", cc)] .none .none doc pm an (.ref cda) ct) ⟨[a, b], []⟩ [(("self" : Str), a), (f, b)]
structure BadEnd (h h' : Heap) (f : Str) (x C dx t1 : Addr) (v : Value) : Prop where
  keep : ∀ b o, b ≠ x → h.get? b = some o → h'.get? b = some o
  obj : h'.get? x = some { cls := .ref C, dict := some dx, data := .fields #[.ref t1, .none, .none, .none, .bool false, .none] }
  dbig : h.objs.size ≤ dx
  dne : dx ≠ x
  ns : h'.Ns1 dx (fun y => if y = f then some v else none)
section
variable {prog : Program} {w : World} {A : Around} {E : Value → Shared → Prop} {R : Result → Shared → Prop} {s : Shared} {K : Frag} {mg mb : Str → Option Value} {C fI : Addr} {f : Str}
theorem bad_init (T : BadTxt prog K f C fI) {x t0 : Addr} {v : Value} (X : K.In s.heap) (hlim : s.heap.NoLimit) (hg : s.heap.Ns mainGlobals mg) (hb : s.heap.Ns builtinsNs mb) (hms : mg "super" = none) (hbs : mb "super" = some (.type "super"))
    (htop : (prog.main.scope.names.lookup ("super" : Str)).isSome = false) (hfn : f ≠ "self" ∧ f ≠ "super" ∧ f ≠ "__class__" ∧ f ≠ "__debug__") (hx : s.heap.get? x = some (excO C t0)) (hnx : K.lookup x = none) (hroom : A.depth < recursionLimit)
    (hq : ∀ h' tk dx t1, BadEnd s.heap h' f x C dx t1 v → R (.ok (.ret .none)) { s with heap := h', toks := tk }) :
    codeAny (model prog w) A (.call (.ref fI) ⟨[.ref x, v], []⟩) R s := by
  obtain ⟨oc, ccl, cl, od, cdd, cld, doc, pm, ct, an, osl, ccs, csl, qual, t, p1, p2, q, cc, cda, vs, file, tf, ho, hcd, hcell, hcode, hvs, hfile, hcall, hbind⟩ := T.fn
  obtain ⟨nm, qn, N, bs, bm, sn, sub, ab, col, dd, k0, k1, k2, k3, k5, hC, hbm⟩ := T.cls
  have hcl : clsIn K C = some { name := nm, bases := bs, mro := .ref C :: bm, ns := N, qualname := qn, hasDict := true, slotNames := sn, subclasses := sub, abstract := ab, collection := col, hasDel := false } := by unfold clsIn; rw [hC] <;> rfl
  obtain ⟨n1, n2, n3, n4⟩ := hfn
  have l1 : (xS f).names.lookup ("self" : Str) = some .local := by simp [xS, List.lookup]
  have l2 : (xS f).names.lookup f = some .local := by
    have : (f == ("self" : Str)) = false := by simpa using n1
    simp [xS, List.lookup, this]
  have l3 : (xS f).names.lookup ("__class__" : Str) = some .free := by
    have e1 : (("__class__" : Str) == f) = false := by simpa using n3.symm
    have e2 : (("__class__" : Str) == "self") = false := by decide
    simp [xS, List.lookup, e1, e2]
  have l4 : (xS f).names.lookup ("super" : Str) = some .globalImplicit := by
    have e1 : (("super" : Str) == f) = false := by simpa using n2.symm
    have e2 : (("super" : Str) == "self") = false := by decide
    have e3 : (("super" : Str) == "__class__") = false := by decide
    simp [xS, List.lookup, e1, e2, e3]
  refine ks_codeAny_call_defAt (fd := fnX "__init__" qual (xA f p1 p2) (xB f t q) (xS f) [("__class__", cc)] .none .none doc pm an (.ref cda) ct) (body := xB f t q) (binds := [(("self" : Str), .ref x), (f, v)]) hroom (X _ _ ho) rfl hlim (codeRec_of X hcd) rfl (hbind _ _ _) (by simp [xS]) (by simp [l1, l2]) (fun h₁ hns k => ?_) rfl rfl rfl
  have X₁ : K.In h₁ := X.keeps k
  have hx₁ := k _ _ hx
  have hC₁ := X₁ _ _ hC
  have m1 : (fun y => List.lookup y [(("self" : Str), Value.ref x), (f, v)].reverse) "self" = some (.ref x) := by
    have : (("self" : Str) == f) = false := by simpa using n1.symm
    simp [List.lookup, this]
  have m2 : (fun y => List.lookup y [(("self" : Str), Value.ref x), (f, v)].reverse) f = some v := by simp [List.lookup]
  have hxL : s.heap.objs.size ≠ x := Nat.ne_of_gt (Heap.lt_size hx)
  -- super()
  obtain ⟨pl, he⟩ := hcall (callEnv (fnX "__init__" qual (xA f p1 p2) (xB f t q) (xS f) [("__class__", cc)] .none .none doc pm an (.ref cda) ct) s.heap.objs.size fI)
  refine ks_wpAt_execs_cons (ks_wpAt_Expr_any (ks_wpAt_MethodCall ?_ he))
  refine ks_wpAt_super_base (f := fI) (cc := cda) (ar := { arg := "self", annotation := none, pos := p1 }) l4 l3 (by decide) rfl (X₁ _ _ ho) rfl rfl rfl (X₁ _ _ hcode) rfl hvs hfile htop ?_
  refine ks_loadName_global rfl l4 (loadGlobal_builtin (hg.keeps k) hms (hb.keeps k) hbs ⟨rfl, ?_⟩)
  refine wpAny_loadName_free rfl l3 rfl ⟨_, X₁ _ _ hcell, rfl⟩ ?_
  refine wpAny_loadName_local rfl l1 hns m1 ?_
  refine ks_wpAny_isType_cls hC₁ rfl ⟨rfl, ?_⟩
  refine ks_wpAny_call_super hC₁ rfl hx₁ rfl (fun c e => nomatch e) (looks_mroIn X₁ T.self) (fun h₂ e k2 => ?_)
  have X₂ : K.In h₂ := X₁.keeps k2
  -- .__init__
  have hne : x ≠ C := fun z => by rw [z, hC] at hnx; cases hnx
  have hsup : alongIn K "__init__" (((Value.ref C :: bm).dropWhile (· != .ref C)).drop 1) = some (some (.builtin "ValueError.__init__")) := by
    have := T.sup
    unfold ks_superIn at this
    rw [hcl] at this
    exact this
  have I2 : InstAt h₂ x (excO C t0) C none := ⟨k2 _ _ hx₁, rfl, rfl, trivial⟩
  refine kxs_getMethod kxs_ValueError e (looks_opaque X₂ T.st) (l₀ := Value.ref C :: bm) (fun A Q E s k q => wpAny_bind ((looks_clsIn X₂ hcl) A _ E s k (wpAny_pure q))) rfl X₂ hsup (I2.type.andThen (looks_subIn X₂ T.sub)) hne (by decide) ?_
  have k3 : ∀ b o, h₂.get? b = some o → (h₂.push (kxs_mw "ValueError.__init__" x)).get? b = some o := fun b o e => Heap.get?_push_of_some _ e
  have hu : (h₂.push (kxs_mw "ValueError.__init__" x)).get? h₂.objs.size = some (kxs_mw "ValueError.__init__" x) := Heap.get?_push_at rfl rfl
  refine kxs_callWith (i := "ValueError.__init__") (x := x) rfl ?_
  refine evalArgs_plain ?_
  refine spliced_more (Calls.Constant_str (spliced_none ⟨hu, ?_⟩)) rfl
  have hx₃ : (h₂.push (kxs_mw "ValueError.__init__" x)).get? x = some (excObj C t0 none .none) := k3 _ _ (k2 _ _ hx₁)
  have hC₃ := X₂.keeps k3 _ _ hC
  refine wpAny_call (codeAny_of_tree ?_)
  show wpAny _ _ (callAny (.ref h₂.objs.size) ⟨[.str t _], []⟩) _ _ _
  simp only [callAny]
  refine wpAny_bind (wpAny_load hu ?_)
  simp only [kxs_mw, show (Value.type "method-wrapper" == Value.type "method" || Value.type "method-wrapper" == Value.type "builtin_function_or_method" || Value.type "method-wrapper" == Value.type "method-wrapper") = true by decide, if_true]
  refine KFB.if_so (by decide) ?_
  refine wpAny_bind (check_bound_init PySem.F.excBase_ValueError.toExcCallFacts hC₃ hx₃ rfl ?_)
  refine wpAny_bind (wpAny_pure (wpAny_pure ?_))
  refine ⟨plainId_quiet PySem.F.excBase_ValueError.init.plain _, codeAny_builtin PySem.F.excBase_ValueError.initEntry ?_⟩
  refine exc_init_tree (cls := .ref C) (t0 := t0) (dv := none) (c2 := .none) (c3 := .none) (b4 := .bool false) hx₃ (by rw [sizeLine_eq]; show 1 ≤ 16777216; decide) fun h₄ k4 e4 t4 => ?_
  have up : ∀ b o, b ≠ x → h₁.get? b = some o → h₄.get? b = some o := fun b o hb e => k4 _ _ hb (k3 _ _ (k2 _ _ e))
  have X₄ : K.In h₄ := fun a o e => up a o (fun z => by rw [z, hnx] at e; cases e) (X₁ a o e)
  have hns₄ := hns.at (h' := h₄) fun o e => up _ _ hxL e
  -- self.f = v
  show _root_.PySem.wpAt _ _ _ (execs _ _) _ _ _
  refine ks_wpAt_execs_cons (ks_wpAt_Assign_Attr (wpAt_of_wpAny ?_))
  refine wpAny_Name (wpAny_loadName_local rfl l2 hns₄ m2 ?_) (by simpa using n4)
  refine wpAny_Name (wpAny_loadName_local rfl l1 hns₄ m1 ?_) (by decide)
  refine set_plain X₄ (ox := excO C (h₂.push (kxs_mw "ValueError.__init__" x)).objs.size) (od := none) ⟨e4, rfl, rfl, trivial⟩ T.sa ?_
  refine exc_osa X₄ e4 hcl (show refsVE (.ref C :: bm) = true from hbm) rfl T.noN (fun h₅ tk₅ dx k₅ dn dne hx₅ hn₅ => ?_)
  show _root_.PySem.wpAt _ _ _ (execs [] _) _ _ _
  refine wpAt_of_wpAny (wpAny_execs_nil (hq h₅ tk₅ dx (h₂.push (kxs_mw "ValueError.__init__" x)).objs.size ⟨fun b o hb e => k₅ b o hb (up b o hb (k b o e)), hx₅, Nat.le_of_lt (Nat.lt_of_lt_of_le hns₄.lt dn), dne, hn₅⟩))
end
end Bf
namespace Bf
open PySem PySem.Spec PySem.W PySem.Calls PyProof.Rows PySem.HandSPX
/-- a made error: new, its dict holds its field -/
structure BadMade (h h' : Heap) (f : Str) (e C d : Addr) (v : Value) : Prop where
  keep : ∀ b o, h.get? b = some o → h'.get? b = some o
  new : h.objs.size ≤ e
  obj : ∃ t1 : Addr, h'.get? e = some { cls := .ref C, dict := some d, data := .fields #[.ref t1, .none, .none, .none, .bool false, .none] }
  dbig : h.objs.size ≤ d
  dne : d ≠ e
  ns : h'.Ns1 d (fun y => if y = f then some v else none)
section
variable {prog : Program} {w : World} {A : Around} {R : Result → Shared → Prop} {s : Shared} {K : Frag} {mg mb : Str → Option Value} {C fI : Addr} {f : Str}
theorem bad_made (T : BadTxt prog K f C fI) {v : Value} (X : K.In s.heap) (hlim : s.heap.NoLimit) (hg : s.heap.Ns mainGlobals mg) (hb : s.heap.Ns builtinsNs mb) (hms : mg "super" = none) (hbs : mb "super" = some (.type "super"))
    (htop : (prog.main.scope.names.lookup ("super" : Str)).isSome = false) (hfn : f ≠ "self" ∧ f ≠ "super" ∧ f ≠ "__class__" ∧ f ≠ "__debug__") (hroom : A.depth + 1 < recursionLimit)
    (hq : ∀ h' tk e d, BadMade s.heap h' f e C d v → R (.ok (.ret (.ref e))) { s with heap := h', toks := tk }) : codeAny (model prog w) A (.call (.ref C) ⟨[v], []⟩) R s := by
  obtain ⟨nm, qn, N, bs, bm, sn, sub, ab, col, dd, k0, k1, k2, k3, k5, hC, hbm⟩ := T.cls
  obtain ⟨hp, g, dr, tk, os⟩ := s
  have k : ∀ b o, hp.get? b = some o → ((hp.push (kdv_tup [v])).push (excO C hp.objs.size)).get? b = some o := fun b o e => Heap.get?_push_of_some _ (Heap.get?_push_of_some _ e)
  have hget : ((hp.push (kdv_tup [v])).push (excO C hp.objs.size)).get? (hp.objs.size + 1) = some (excO C hp.objs.size) := by heap_get
  have hnx : K.lookup (hp.objs.size + 1) = none := by
    cases e : K.lookup (hp.objs.size + 1) with
    | none => rfl
    | some o => exact absurd (Nat.lt_of_succ_lt (Heap.lt_size (show hp.get? (hp.objs.size + 1) = some o from X _ _ e))) (Nat.lt_irrefl _)
  refine call_own PySem.F.excBase_ValueError (fun Y => refsVE_contains Y bm hbm) (X _ _ hC) (looks_findIn X T.iC) (fun self => bind_fn X self T.tC) (by rw [sizeLine_eq]; show 1 ≤ 16777216; decide) ?_
  refine bad_init (s := ⟨(hp.push (kdv_tup [v])).push (excO C hp.objs.size), g, dr, tk, os⟩) T (X.keeps k) (hlim.keeps k) (hg.keeps k) (hb.keeps k) hms hbs htop hfn hget hnx hroom fun h' tk' dx t1 M => ?_
  have old : ∀ b o, hp.get? b = some o → h'.get? b = some o := fun b o e => M.keep b o (Nat.ne_of_lt (Nat.lt_succ_of_lt (Heap.lt_size e))) (k b o e)
  have z : hp.objs.size ≤ dx := by
    have q := M.dbig
    first
      | (rw [show (Shared.heap ⟨(hp.push (kdv_tup [v])).push (excO C hp.objs.size), g, dr, tk, os⟩) = (hp.push (kdv_tup [v])).push (excO C hp.objs.size) from rfl, Heap.size_push, Heap.size_push] at q; omega)
      | (simp only [Heap.size_push] at q; omega)
  exact ⟨rfl, hq h' tk' (hp.objs.size + 1) dx ⟨old, Nat.le_succ _, ⟨t1, M.obj⟩, z, M.dne, M.ns⟩⟩
end
end Bf
/-! Data over the hand layer: a def's body read over plain data, the heap out of sight. -/
namespace Bf
open PySem PySem.Spec PyProof.Rows L2

/-! ### A. defs that are called where no guard runs (for repr) -/
structure GOk (P : Program) (w : World) (K : PySem.W.Frag) (mg : Str → Option Value) (base : Heap) (k : Nat) (f : Addr) (fd : FuncData) (ps : List Str) (sp : Sp) : Prop where
  len : ∀ vs H Q E, sp vs H Q E → vs.length = ps.length
  go : ∀ (A : Around) (out : List Env) (s : Shared) (H : Hp) (args : Args) (us : List Value) (vs : List V) (Q : VK) (E : XK),
    Room k A → A.guards = some [] → Env0 P w K mg base A out s H → BindsTo s fd args (ps.zip us) → Vals vs us → sp vs H Q E →
    codeAny (model P w) A (.call (.ref f) args) (CR (L2.CX P w) out P w H s Q E) s
section
variable {P : Program} {w : World} {K : PySem.W.Frag} {mg : Str → Option Value} {base : Heap}
theorem GOk.up {j k : Nat} {f : Addr} {fd : FuncData} {ps : List Str} {sp : Sp} (G : GOk P w K mg base j f fd ps sp) (h : j ≤ k) : GOk P w K mg base k f fd ps sp :=
  ⟨G.len, fun A out s H args us vs Q E r => G.go A out s H args us vs Q E (r.mono h)⟩
/-- a def by its body -/
theorem okG {x qual : Str} {st : Stmt} {f : Addr} {fd : FuncData} {N ps : List Str} {k : Nat} {sp : Sp} (F : Fun K x qual st f fd) (S : FnScope N ps (defScope st)) (len : ∀ vs H Q E, sp vs H Q E → vs.length = ps.length)
    (hb : ∀ (cdv : Value) (A : Around) (out : List Env) (s : Shared) (H : Hp) (vs : List V) (Q : VK) (E : XK), Room k (A.deeper (envOfC qual (defScope st) s.heap.objs.size f cdv)) → A.guards = some [] → sp vs H Q E →
      ∃ t, PSs (cxOf (L2.CX P w) P w K mg base N qual (defScope st) f cdv A out s H E) (defBody st) t ∧ t { nx := fun _ H' => Q .non H', rt := Q } (start N vs) H) :
    GOk P w K mg base (k + 1) f fd ps sp := by
  obtain ⟨oc, od, kV, doc, pm, an, cdv, ct, osl, rfl, lk, hcd⟩ := F.ex
  refine ⟨len, fun A out s H args us vs Q E hr hgd e0 hbi r hsp => ?_⟩
  refine StX.run_bnd lk hcd S hr e0 (G := fun xs H2 => xs = vs ∧ H2 = H) (fun A' Ex Q' h => ?_) fun s2 H2 xs ⟨ex, eH⟩ hr' => ?_
  · exact hbi _ _ _ _ (h s H vs us e0 Un.refl rfl (fun _ _ z => z) r (len _ _ _ _ hsp) ⟨rfl, rfl⟩)
  · subst ex eH
    exact hb cdv A out s2 _ _ Q E hr' hgd hsp
end
/-- how a def's arguments bind: all by place -/
def BPos (fd : FuncData) (ps : List Str) : Prop := ∀ (s : Shared) (us : List Value), us.length = ps.length → BindsTo s fd ⟨us, []⟩ (ps.zip us)
/-- all by name, in the order ks -/
def BKw (fd : FuncData) (ps ks : List Str) (g : List Value → List Value) : Prop := ∀ (s : Shared) (ws : List Value), ws.length = ks.length → BindsTo s fd ⟨[], ks.zip ws⟩ (ps.zip (g ws))
section
variable {X : Cx} {k : Nat} {f : Addr} {fd : FuncData} {ps ks : List Str} {sp : Sp} {E : XK} {x : Str} {p pos : Pos} {e : Expr} {es : List Expr} {kws : List Keyword} {t : TA}
theorem run_g {pins : List (Addr × Obj)} {σ : L2.St} {H : Hp} {s : Shared} {Q : VK} {args : Args} {us : List Value} {vs : List V} (G : GOk X.prog X.w X.K X.mg X.base k f fd ps sp) (hr : Room k X.A) (hgd : X.A.guards = some []) (hx : Passes (L2.CX X.prog X.w) X E)
    (I : Inv X pins σ H s) (hb : BindsTo s fd args (ps.zip us)) (r : Vals vs us) (h : sp vs H Q E) : wpAny (model X.prog X.w) X.A (call (.ref f) args.pos args.kw) (EP X pins σ Q) X.xe s := by
  refine wpAny_call (codeAny_mono (G.go X.A X.stack s H args us vs Q E hr hgd I.env0 hb r h) fun r' s' hq => ?_)
  match r', hq with
  | .error er, hq => exact hx pins σ H s er s' I hq
  | .ok (.ret u), hq => exact I.after hq
  | .ok .next, hq => exact hq.elim
  | .ok .brk, hq => exact hq.elim
  | .ok .cont, hq => exact hq.elim
/-- f(e, ..) -/
theorem pe_g (G : GOk X.prog X.w X.K X.mg X.base k f fd ps sp) (hb : BPos fd ps) (hm : X.mg x = some (.ref f)) (hk : PySem.W.keepIn X.K (.ref f) = true) (hr : Room k X.A) (hgd : X.A.guards = some []) (hx : Passes (L2.CX X.prog X.w) X E) (ha : PA X (e :: es) t)
    (hg : Gl X x := by rfl) (hdb : (x == ("__debug__" : Str)) = false := by decide) (he : starEach (e :: es) X.env = (false, eval e X.env) :: starEach es X.env := by rfl) (hpl : (backTo pos (starEach es X.env)).any (·.1) = false := by rfl) :
    PE X (.Call (.Name x p) (e :: es) [] pos) (tCall sp [] E t) := by
  refine ⟨fun pins s σ H Q I h => wpAny_Call_Name_kw (ld_glob I hg hm ?_ hdb)⟩
  refine PySem.W.callWith_K (h₀ := X.base) I.ok.mod.kin hk (thn (ha.run pos pins s σ H _ I h) fun us s1 ⟨vs, H1, I1, r, q⟩ => ⟨I1.kIn, ?_⟩) he hpl
  have q : sp (vs ++ []) H1 Q E := q
  rw [List.append_nil] at q
  exact run_g (args := ⟨us, []⟩) G hr hgd hx I1 (hb s1 us (r.length.symm.trans (G.len _ _ _ _ q))) r q
/-- f() -/
theorem pe_g0 (G : GOk X.prog X.w X.K X.mg X.base k f fd [] sp) (hb : BPos fd []) (hm : X.mg x = some (.ref f)) (hk : PySem.W.keepIn X.K (.ref f) = true) (hr : Room k X.A) (hgd : X.A.guards = some []) (hx : Passes (L2.CX X.prog X.w) X E)
    (hg : Gl X x := by rfl) (hdb : (x == ("__debug__" : Str)) = false := by decide) : PE X (.Call (.Name x p) [] [] pos) (tCall sp [] E tNil) := by
  refine ⟨fun pins s σ H Q I h => wpAny_Call_Name_kw (ld_glob I hg hm ?_ hdb)⟩
  exact PySem.W.callWith_K0 I.kIn hk (run_g (args := ⟨[], []⟩) G hr hgd hx I (hb s [] rfl) .nil h)
/-- f(k = v, ..), all by name: gV puts the values in the parameters' order -/
def tCallW (sp : Sp) (n : Nat) (gV : List V → List V) (E : XK) (t : TA) : TE := fun σ H Q => t σ H fun zs H1 => zs.length = n ∧ sp (gV zs) H1 Q E
theorem pe_gw {g : List Value → List Value} {gV : List V → List V} (G : GOk X.prog X.w X.K X.mg X.base k f fd ps sp) (hb : BKw fd ps ks g) (hgv : ∀ {vs us}, Vals vs us → vs.length = ks.length → Vals (gV vs) (g us)) (hm : X.mg x = some (.ref f)) (hk : PySem.W.keepIn X.K (.ref f) = true)
    (hr : Room k X.A) (hgd : X.A.guards = some []) (hx : Passes (L2.CX X.prog X.w) X E) (hkw : PK X kws t) (hg : Gl X x := by rfl)
    (hall : (backToKw pos (keywordEach kws X.env)).all (·.1.isSome) = true := by rfl) (hks : (backToKw pos (keywordEach kws X.env)).filterMap (·.1) = ks := by rfl) (hdb : (x == ("__debug__" : Str)) = false := by decide)
    (hpl : ((backTo pos (starEach [] X.env)).any (·.1) || (backToKw pos (keywordEach kws X.env)).any (·.1.isNone)) = false := by rfl) :
    PE X (.Call (.Name x p) [] kws pos) (tCallW sp ks.length gV E t) := by
  refine ⟨fun pins s σ H Q I h => wpAny_Call_Name_kw (ld_glob I hg hm ?_ hdb)⟩
  refine PySem.W.callWith_KW0 (h₀ := X.base) I.ok.mod.kin hk hall ?_ hpl
  refine thn (hkw.run pos pins s σ H _ I h) fun ws s2 ⟨zs, H2, I2, rz, ln, q2⟩ => ⟨I2.kIn, ?_⟩
  rw [hks]
  exact run_g (args := ⟨[], ks.zip ws⟩) G hr hgd hx I2 (hb s2 ws (rz.length.symm.trans ln)) (hgv rz ln) q2
end

/-! ### B. plain data -/
inductive Dt where
  | non | bl (b : Bool) | int (i : Int) | str (x : Str) | lst (xs : List Dt) | tup (xs : List Dt)
  /-- an empty dict -/
  | dic
  /-- an instance: its class, its fields -/
  | ins (C : Addr) (ns : List Str) (xs : List Dt)
  /-- any value, by itself -/
  | raw (v : V)
  /-- the list at p -/
  | lat (p : Addr) (xs : List Dt)
  /-- an error that was caught or made: its class, its field -/
  | err (C : Addr) (f : Str) (d : Dt)
  /-- a dict by its keys (tuples) and its values -/
  | dct (ks xs : List Dt)
/-- an error as an object: its class, its dict -/
def ErrO (cls : Value) (d : Option Addr) (a : Addr) : HO := .ext fun h => ∃ oe : Obj, h.get? a = some oe ∧ Zc cls d oe ∧ ∃ vs, oe.data = .fields vs

mutual
/-- hash(d), d without texts -/
def hKey : Dt → Int
  | .non => reduceHash 0xFCA86420
  | .bl b => hashInt (if b = true then 1 else 0)
  | .int i => hashInt i
  | .tup xs => reduceHash (Builtin.Tuple.tupleHashOf (hKeys xs))
  | _ => 0
def hKeys : List Dt → List Int
  | [] => []
  | x :: xs => hKey x :: hKeys xs
end
def ents : List Dt → List Addr → List Value → List DictEntry
  | k :: ks, a :: as, u :: us => ⟨hKey k, .ref a, u⟩ :: ents ks as us
  | _, _, _ => []
/-- a dict as an object: its keys (as data, and where they stand), its values -/
def DicO (ks : List Dt) (as : List Addr) (vs : List V) (d : Addr) : HO := .ext fun h => (d == sysModules) = false ∧ ∃ (o : Obj) (es : Array DictEntry) (ep : Nat) (us : List Value), h.get? d = some o ∧ o.ExactDict ∧ o.data = .dict es ep ∧ Vals vs us ∧ es.toList = ents ks as us
/-- dicts with ints and texts as keys that hold something are no data -/
def dob : HO → Bool
  | .dK (_ :: _) => false
  | _ => true
/-- data stay -/
def Gr (H H' : Hp) : Prop := ∀ a o, H a = some o → dob o = true → H' a = some o
theorem Gr.refl (H : Hp) : Gr H H := fun _ _ h _ => h
theorem Gr.trans {H H1 H2 : Hp} (a : Gr H H1) (b : Gr H1 H2) : Gr H H2 := fun c o h d => b c o (a c o h d) d
theorem _root_.L2.Same.gr {H H' : Hp} (s : Same H H') : Gr H H' := fun c o h _ => s c o h
theorem same_new {H : Hp} {p : Addr} {o : HO} (h : H p = none) : Same H (upd H p o) := fun b x e => by
  rw [upd_ne (ne_of_none e h)]
  exact e
theorem Gr.sqL {K : PySem.W.Frag} {H H' : Hp} {a : Addr} {xs : List V} (g : Gr H H') (h : SqL K H a xs) : SqL K H' a xs := by
  rcases h with (h | ⟨o, h⟩) | h
  · exact .inl (.inl (g _ _ h rfl))
  · exact .inl (.inr ⟨o, g _ _ h rfl⟩)
  · exact .inr h
theorem Gr.sqT {K : PySem.W.Frag} {H H' : Hp} {a : Addr} {xs : List V} (g : Gr H H') (h : SqT K H a xs) : SqT K H' a xs := by
  rcases h with (h | ⟨o, h⟩) | h
  · exact .inl (.inl (g _ _ h rfl))
  · exact .inl (.inr ⟨o, g _ _ h rfl⟩)
  · exact .inr h

mutual
inductive Rep (K : PySem.W.Frag) (H : Hp) : V → Dt → Prop
  | non : Rep K H .non .non
  | bl (b : Bool) : Rep K H (.bl b) (.bl b)
  | int (i : Int) : Rep K H (.int i) (.int i)
  | str (x : Str) : Rep K H (.str x) (.str x)
  | lst {a : Addr} {vs : List V} {ds : List Dt} : SqL K H a vs → RepA K H vs ds → Rep K H (.ref a) (.lst ds)
  | tup {a : Addr} {vs : List V} {ds : List Dt} : SqT K H a vs → RepA K H vs ds → Rep K H (.ref a) (.tup ds)
  | dic {a : Addr} : H a = some (.dK []) → Rep K H (.ref a) .dic
  | ins {a C dx : Addr} {ns : List Str} {vs : List V} {ds : List Dt} : H a = some (.ins C dx (ns.zip vs)) → RepA K H vs ds → Rep K H (.ref a) (.ins C ns ds)
  | raw (v : V) : Rep K H v (.raw v)
  | lat {p : Addr} {vs : List V} {ds : List Dt} : H p = some (.lst vs) → RepA K H vs ds → Rep K H (.ref p) (.lat p ds)
  | err {a C dd : Addr} {f : Str} {v : V} {d : Dt} : H a = some (ErrO (.ref C) (some dd) a) → H dd = some (.xd [(f, v)]) → Rep K H v d → Rep K H (.ref a) (.err C f d)
  | dct {a : Addr} {as : List Addr} {vs : List V} {ks ds : List Dt} : H a = some (DicO ks as vs a) → RepA K H (as.map V.ref) ks → RepA K H vs ds → Rep K H (.ref a) (.dct ks ds)
inductive RepA (K : PySem.W.Frag) (H : Hp) : List V → List Dt → Prop
  | nil : RepA K H [] []
  | cons {v : V} {vs : List V} {d : Dt} {ds : List Dt} : Rep K H v d → RepA K H vs ds → RepA K H (v :: vs) (d :: ds)
end
section
variable {K : PySem.W.Frag} {H H' : Hp}
mutual
theorem Rep.mono (g : Gr H H') : ∀ {v : V} {d : Dt}, Rep K H v d → Rep K H' v d
  | _, _, .non => .non
  | _, _, .bl b => .bl b
  | _, _, .int i => .int i
  | _, _, .str x => .str x
  | _, _, .lst h r => .lst (g.sqL h) (r.mono g)
  | _, _, .tup h r => .tup (g.sqT h) (r.mono g)
  | _, _, .dic h => .dic (g _ _ h rfl)
  | _, _, .ins h r => .ins (g _ _ h rfl) (r.mono g)
  | _, _, .raw v => .raw v
  | _, _, .lat h r => .lat (g _ _ h rfl) (r.mono g)
  | _, _, .err h1 h2 r => .err (g _ _ h1 rfl) (g _ _ h2 rfl) (r.mono g)
  | _, _, .dct h r1 r2 => .dct (g _ _ h rfl) (r1.mono g) (r2.mono g)
theorem RepA.mono (g : Gr H H') : ∀ {vs : List V} {ds : List Dt}, RepA K H vs ds → RepA K H' vs ds
  | _, _, .nil => .nil
  | _, _, .cons h r => .cons (h.mono g) (r.mono g)
end
theorem RepA.len : ∀ {vs : List V} {ds : List Dt}, RepA K H vs ds → vs.length = ds.length
  | _, _, .nil => rfl
  | _, _, .cons _ r => congrArg (· + 1) r.len
theorem RepA.at_ : ∀ {vs : List V} {ds : List Dt} {i : Nat} {d : Dt}, RepA K H vs ds → ds[i]? = some d → ∃ v, vs[i]? = some v ∧ Rep K H v d
  | _, _, _, _, .nil, h => by simp at h
  | _, _, 0, _, .cons r _, h => ⟨_, rfl, by simp at h; exact h ▸ r⟩
  | _, _, i + 1, d, .cons _ r, h => by
    obtain ⟨v, e, q⟩ := RepA.at_ (i := i) (d := d) r (by simpa using h)
    exact ⟨v, by simpa using e, q⟩
theorem RepA.ta : ∀ {vs : List V} {ds : List Dt} {i : Nat} {v : V}, RepA K H vs ds → vs[i]? = some v → ∃ d, ds[i]? = some d ∧ Rep K H v d
  | _, _, _, _, .nil, h => by simp at h
  | _, _, 0, _, .cons r _, h => ⟨_, rfl, by simp at h; exact h ▸ r⟩
  | _, _, i + 1, v, .cons _ r, h => by
    obtain ⟨d, e, q⟩ := RepA.ta (i := i) (v := v) r (by simpa using h)
    exact ⟨d, by simpa using e, q⟩
theorem RepA.app : ∀ {vs ws : List V} {ds es : List Dt}, RepA K H vs ds → RepA K H ws es → RepA K H (vs ++ ws) (ds ++ es)
  | _, _, _, _, .nil, s => s
  | _, _, _, _, .cons h r, s => .cons h (r.app s)
theorem RepA.take : ∀ {vs : List V} {ds : List Dt} (n : Nat), RepA K H vs ds → RepA K H (vs.take n) (ds.take n)
  | _, _, 0, _ => .nil
  | _, _, _ + 1, .nil => .nil
  | _, _, n + 1, .cons h r => .cons h (r.take n)
theorem RepA.drop : ∀ {vs : List V} {ds : List Dt} (n : Nat), RepA K H vs ds → RepA K H (vs.drop n) (ds.drop n)
  | _, _, 0, r => r
  | _, _, _ + 1, .nil => .nil
  | _, _, n + 1, .cons _ r => r.drop n
theorem RepA.bls : ∀ {vs : List V} {bs : List Bool}, RepA K H vs (bs.map Dt.bl) → vs = bs.map V.bl
  | _, [], .nil => rfl
  | _, _ :: _, .cons (.bl _) r => congrArg _ r.bls
theorem RepA.ints : ∀ {vs : List V} {ns : List Int}, RepA K H vs (ns.map Dt.int) → vs = ns.map V.int
  | _, [], .nil => rfl
  | _, _ :: _, .cons (.int _) r => congrArg _ r.ints
theorem Rep.tupI {v : V} {ds : List Dt} (h : Rep K H v (.tup ds)) : ∃ a vs, v = .ref a ∧ SqT K H a vs ∧ RepA K H vs ds := by
  cases h with
  | tup h r => exact ⟨_, _, rfl, h, r⟩
theorem Rep.latI {v : V} {p : Addr} {ds : List Dt} (h : Rep K H v (.lat p ds)) : v = .ref p ∧ ∃ vs, H p = some (.lst vs) ∧ RepA K H vs ds := by
  cases h with
  | lat h r => exact ⟨rfl, _, h, r⟩
theorem Rep.latL {v : V} {p : Addr} {ds : List Dt} (h : Rep K H v (.lat p ds)) : Rep K H v (.lst ds) := by
  obtain ⟨rfl, vs, h, r⟩ := h.latI
  exact .lst (SqL.of h) r
theorem Rep.lstI {v : V} {ds : List Dt} (h : Rep K H v (.lst ds)) : ∃ a vs, v = .ref a ∧ SqL K H a vs ∧ RepA K H vs ds := by
  cases h with
  | lst h r => exact ⟨_, _, rfl, h, r⟩
theorem Rep.intI {v : V} {i : Int} (h : Rep K H v (.int i)) : v = .int i := by cases h <;> rfl
theorem Rep.blI {v : V} {b : Bool} (h : Rep K H v (.bl b)) : v = .bl b := by cases h <;> rfl
theorem Rep.strI {v : V} {x : Str} (h : Rep K H v (.str x)) : v = .str x := by cases h <;> rfl
theorem Rep.rawI {v u : V} (h : Rep K H v (.raw u)) : v = u := by cases h <;> rfl
end

/-- what holds of the heap all along -/
structure Sta where
  I : Hp → Prop
  st : ∀ {H H' : Hp}, I H → Same H H' → I H'
/-- the slots' data -/
structure Slots (K : PySem.W.Frag) (H : Hp) (σ : L2.St) (ρ : List (Option Dt)) : Prop where
  len : σ.length = ρ.length
  val : ∀ (i : Nat) (d : Dt), ρ[i]? = some (some d) → ∃ v, σ[i]? = some (some v) ∧ Rep K H v d
section
variable {K : PySem.W.Frag} {H H' : Hp} {σ : L2.St} {ρ : List (Option Dt)}
theorem Slots.mono (s : Slots K H σ ρ) (g : Gr H H') : Slots K H' σ ρ := ⟨s.len, fun i d h => let ⟨v, e, r⟩ := s.val i d h; ⟨v, e, r.mono g⟩⟩
theorem Slots.set (s : Slots K H σ ρ) {v : V} {d : Dt} (r : Rep K H v d) (j : Nat) : Slots K H (σ.set j (some v)) (ρ.set j (some d)) := by
  refine ⟨by rw [List.length_set, List.length_set, s.len], fun i e h => ?_⟩
  by_cases hj : j = i
  · subst hj
    by_cases hl : j < ρ.length
    · rw [List.getElem?_set_self hl] at h
      cases h
      exact ⟨v, List.getElem?_set_self (by rw [s.len]; exact hl), r⟩
    · rw [List.getElem?_eq_none (by rw [List.length_set]; omega)] at h
      cases h
  · rw [List.getElem?_set_ne hj] at h
    obtain ⟨u, hu, q⟩ := s.val i e h
    exact ⟨u, by rw [List.getElem?_set_ne hj]; exact hu, q⟩
/-- a slot whose data are forgotten -/
theorem Slots.lose (s : Slots K H σ ρ) {ν : Option V} (j : Nat) : Slots K H (σ.set j ν) (ρ.set j none) := by
  refine ⟨by rw [List.length_set, List.length_set, s.len], fun i e h => ?_⟩
  by_cases hj : j = i
  · subst hj
    by_cases hl : j < ρ.length
    · rw [List.getElem?_set_self hl] at h
      cases h
    · rw [List.getElem?_eq_none (by rw [List.length_set]; omega)] at h
      cases h
  · rw [List.getElem?_set_ne hj] at h
    obtain ⟨u, hu, q⟩ := s.val i e h
    exact ⟨u, by rw [List.getElem?_set_ne hj]; exact hu, q⟩
def wipeD (ρ : List (Option Dt)) : List Nat → List (Option Dt)
  | [] => ρ
  | v :: vs => (wipeD ρ vs).set v none
theorem Slots.wipe (s : Slots K H σ ρ) : ∀ vs : List Nat, Slots K H (L2.wipe σ vs) (wipeD ρ vs)
  | [] => s
  | v :: vs => (s.wipe vs).lose v
end

/-! ### C. what an expression comes to -/
section
variable (K : PySem.W.Frag) (S S' : Sta)
def Ev (ρ : List (Option Dt)) (te : TE) (Φ : Dt → Prop) : Prop := ∀ (σ : L2.St) (H : Hp), S.I H → Slots K H σ ρ → ∀ Q : VK, (∀ v d H', Gr H H' → S'.I H' → Rep K H' v d → Φ d → Q v H') → te σ H Q
def EvT (ρ : List (Option Dt)) (tt : TT) (Φ : Bool → Prop) : Prop := ∀ (σ : L2.St) (H : Hp), S.I H → Slots K H σ ρ → ∀ Q : Bool → Hp → Prop, (∀ b H', Gr H H' → S'.I H' → Φ b → Q b H') → tt σ H Q
def EvA (ρ : List (Option Dt)) (ta : TA) (Φ : List Dt → Prop) : Prop := ∀ (σ : L2.St) (H : Hp), S.I H → Slots K H σ ρ → ∀ Q : List V → Hp → Prop, (∀ vs ds H', Gr H H' → S'.I H' → RepA K H' vs ds → Φ ds → Q vs H') → ta σ H Q
def EvO (ρ : List (Option Dt)) (to : TO) (Φ : Option Int → Prop) : Prop := ∀ (σ : L2.St) (H : Hp), S.I H → Slots K H σ ρ → ∀ Q : Option Int → Hp → Prop, (∀ o H', Gr H H' → S'.I H' → Φ o → Q o H') → to σ H Q
end
section
variable (K : PySem.W.Frag) (S : Sta)
/-- a two-place operation over data -/
def Rv2 (r : R2) (x y : Dt) (Φ : Dt → Prop) : Prop := ∀ (H : Hp) (v u : V), S.I H → Rep K H v x → Rep K H u y → ∀ Q : VK, (∀ v' d H', Gr H H' → S.I H' → Rep K H' v' d → Φ d → Q v' H') → r v u H Q
def RvC (r : List V → Hp → VK → Prop) (xs : List Dt) (Φ : Dt → Prop) : Prop := ∀ (H : Hp) (vs : List V), S.I H → RepA K H vs xs → ∀ Q : VK, (∀ v' d H', Gr H H' → S.I H' → Rep K H' v' d → Φ d → Q v' H') → r vs H Q
end
section
variable {K : PySem.W.Frag} {S S1 S2 S3 : Sta} {ρ : List (Option Dt)} {ta tb te : TE} {t u : TT} {Φ Ψ Θ : Dt → Prop} {x y z d : Dt}
theorem Ev.weak (h : Ev K S S1 ρ te Φ) (w : ∀ d, Φ d → Ψ d) : Ev K S S1 ρ te Ψ := fun σ H i s Q q => h σ H i s Q fun v d H' g i' r p => q v d H' g i' r (w d p)
theorem EvT.weak {Φ Ψ : Bool → Prop} (h : EvT K S S1 ρ t Φ) (w : ∀ d, Φ d → Ψ d) : EvT K S S1 ρ t Ψ := fun σ H i s Q q => h σ H i s Q fun v H' g i' p => q v H' g i' (w v p)
theorem Ev.to (h : Ev K S S1 ρ te (Eq x)) (e : x = y) : Ev K S S1 ρ te (Eq y) := e ▸ h
theorem EvT.to {a b : Bool} (h : EvT K S S1 ρ t (Eq a)) (e : a = b) : EvT K S S1 ρ t (Eq b) := e ▸ h
theorem ev_var {i : Nat} (h : ρ[i]? = some (some d)) : Ev K S S ρ (tVar i) (Eq d) := fun σ H hi s Q q => by
  obtain ⟨v, e, r⟩ := s.val i d h
  exact ⟨v, e, q v d H (Gr.refl H) hi r rfl⟩
theorem ev_lat {p : Addr} {xs : List Dt} (h : Ev K S S1 ρ te (Eq (.lat p xs))) : Ev K S S1 ρ te (Eq (.lst xs)) := fun σ H i s Q q => h σ H i s Q fun v d H' g i' r e => q v _ H' g i' ((show Dt.lat p xs = d from e) ▸ r).latL rfl
theorem ev_int {i : Int} : Ev K S S ρ (tC (.int i)) (Eq (.int i)) := fun σ H hi s Q q => q _ _ H (Gr.refl H) hi (.int i) rfl
theorem ev_bl {b : Bool} : Ev K S S ρ (tC (.bl b)) (Eq (.bl b)) := fun σ H hi s Q q => q _ _ H (Gr.refl H) hi (.bl b) rfl
theorem ev_non : Ev K S S ρ (tC .non) (Eq .non) := fun σ H hi s Q q => q _ _ H (Gr.refl H) hi .non rfl
theorem ev_str {x : Str} : Ev K S S ρ (tC (.str x)) (Eq (.str x)) := fun σ H hi s Q q => q _ _ H (Gr.refl H) hi (.str x) rfl
theorem ev_raw {v : V} : Ev K S S ρ (tC v) (Eq (.raw v)) := fun σ H hi s Q q => q _ _ H (Gr.refl H) hi (.raw v) rfl
theorem ev_opP {r : R2} (ha : Ev K S S1 ρ ta Φ) (hb : Ev K S1 S2 ρ tb Ψ) (hr : ∀ x y, Φ x → Ψ y → Rv2 K S2 r x y Θ) : Ev K S S2 ρ (tOp r ta tb) Θ := fun σ H i s Q q =>
  ha σ H i s _ fun v x H1 g1 i1 r1 p1 => hb σ H1 i1 (s.mono g1) _ fun u y H2 g2 i2 r2 p2 => hr x y p1 p2 H2 v u i2 (r1.mono g2) r2 Q fun v' d H3 g3 i3 r3 p3 => q v' d H3 ((g1.trans g2).trans g3) i3 r3 p3
theorem ev_op {r : R2} (ha : Ev K S S1 ρ ta (Eq x)) (hb : Ev K S1 S2 ρ tb (Eq y)) (hr : Rv2 K S2 r x y Θ) : Ev K S S2 ρ (tOp r ta tb) Θ := ev_opP ha hb fun _ _ e1 e2 => e1 ▸ e2 ▸ hr
theorem ev_un {r : V → Hp → VK → Prop} (ha : Ev K S S1 ρ ta (Eq x)) (hr : ∀ (H : Hp) (v : V), S1.I H → Rep K H v x → ∀ Q : VK, (∀ v' d H', Gr H H' → S1.I H' → Rep K H' v' d → Θ d → Q v' H') → r v H Q) : Ev K S S1 ρ (tUn r ta) Θ := fun σ H i s Q q =>
  ha σ H i s _ fun v x' H1 g1 i1 r1 p1 => hr H1 v i1 (p1 ▸ r1) Q fun v' d H3 g3 i3 r3 p3 => q v' d H3 (g1.trans g3) i3 r3 p3
/-! operations that hand back a plain value and leave the heap -/
theorem rv_at {r : R2} (h : ∀ H v u, S.I H → Rep K H v x → Rep K H u y → ∀ Q : VK, (∀ v', Rep K H v' z → Q v' H) → r v u H Q) : Rv2 K S r x y (Eq z) := fun H v u i r1 r2 Q q =>
  h H v u i r1 r2 Q fun v' r' => q v' z H (Gr.refl H) i r' rfl
theorem rv_I0 {g : Int → Int → V} {i j : Int} (hz : ∀ H, Rep K H (g i j) z) : Rv2 K S (rI0 g) (.int i) (.int j) (Eq z) := rv_at fun H v u _ r1 r2 Q q => ⟨i, j, r1.intI, r2.intI, q _ (hz H)⟩
theorem rv_I {C : Int → Int → Prop} {g : Int → Int → V} {i j : Int} (hc : C i j) (hz : ∀ H, Rep K H (g i j) z) : Rv2 K S (rI C g) (.int i) (.int j) (Eq z) := rv_at fun H v u _ r1 r2 Q q => ⟨i, j, r1.intI, r2.intI, hc, q _ (hz H)⟩
theorem rv_ii {g : Int → Int → Int} {i j : Int} : Rv2 K S (rI0 fun a b => .int (g a b)) (.int i) (.int j) (Eq (.int (g i j))) := rv_I0 fun _ => .int _
theorem rv_iic {C : Int → Int → Prop} {g : Int → Int → Int} {i j : Int} (hc : C i j) : Rv2 K S (rI C fun a b => .int (g a b)) (.int i) (.int j) (Eq (.int (g i j))) := rv_I hc fun _ => .int _
theorem rv_ib {g : Int → Int → Bool} {i j : Int} : Rv2 K S (rI0 fun a b => .bl (g a b)) (.int i) (.int j) (Eq (.bl (g i j))) := rv_I0 fun _ => .bl _
theorem rv_eqI {i j : Int} : Rv2 K S rEq (.int i) (.int j) (Eq (.bl (decide (i = j)))) := rv_at fun H v u _ r1 r2 Q q => by
  obtain rfl := r1.intI; obtain rfl := r2.intI
  exact ⟨rfl, by rw [show decide (V.int i = V.int j) = decide (i = j) by by_cases e : i = j <;> simp [e]]; exact q _ (.bl _)⟩
theorem rv_neI {i j : Int} : Rv2 K S rNe (.int i) (.int j) (Eq (.bl (!decide (i = j)))) := rv_at fun H v u _ r1 r2 Q q => by
  obtain rfl := r1.intI; obtain rfl := r2.intI
  exact ⟨rfl, by rw [show decide (V.int i = V.int j) = decide (i = j) by by_cases e : i = j <;> simp [e]]; exact q _ (.bl _)⟩
theorem rv_eqS {i j : Str} : Rv2 K S rEq (.str i) (.str j) (Eq (.bl (decide (i = j)))) := rv_at fun H v u _ r1 r2 Q q => by
  obtain rfl := r1.strI; obtain rfl := r2.strI
  exact ⟨rfl, by rw [show decide (V.str i = V.str j) = decide (i = j) by by_cases e : i = j <;> simp [e]]; exact q _ (.bl _)⟩
theorem rv_neS {i j : Str} : Rv2 K S rNe (.str i) (.str j) (Eq (.bl (!decide (i = j)))) := rv_at fun H v u _ r1 r2 Q q => by
  obtain rfl := r1.strI; obtain rfl := r2.strI
  exact ⟨rfl, by rw [show decide (V.str i = V.str j) = decide (i = j) by by_cases e : i = j <;> simp [e]]; exact q _ (.bl _)⟩
/-- is None -/
def Dt.isNon : Dt → Bool
  | .non => true
  | .raw .non => true
  | _ => false
theorem Rep.isNon {H : Hp} {v : V} (r : Rep K H v d) : decide (v = .non) = d.isNon := by
  cases r with
  | raw v => cases v <;> rfl
  | _ => rfl
theorem rv_isN : Rv2 K S (fun x y H Q => y = .non ∧ Q (.bl (decide (x = .non))) H) d .non (Eq (.bl d.isNon)) := rv_at fun H v u _ r1 r2 Q q => by
  refine ⟨by cases r2; rfl, ?_⟩
  rw [r1.isNon]
  exact q _ (.bl _)
theorem rv_notN : Rv2 K S (fun x y H Q => y = .non ∧ Q (.bl (!decide (x = .non))) H) d .non (Eq (.bl (!d.isNon))) := rv_at fun H v u _ r1 r2 Q q => by
  refine ⟨by cases r2; rfl, ?_⟩
  rw [r1.isNon]
  exact q _ (.bl _)
theorem rv_isB {a b : Bool} : Rv2 K S rIsB (.bl a) (.bl b) (Eq (.bl (decide (a = b)))) := rv_at fun H v u _ r1 r2 Q q => ⟨a, b, r1.blI, r2.blI, q _ (.bl _)⟩
theorem rv_notB {a b : Bool} : Rv2 K S rNotB (.bl a) (.bl b) (Eq (.bl (!decide (a = b)))) := rv_at fun H v u _ r1 r2 Q q => ⟨a, b, r1.blI, r2.blI, q _ (.bl _)⟩

/-! argument lists, displays -/
theorem ea_nil : EvA K S S ρ tNil (Eq []) := fun σ H i s Q q => q _ _ H (Gr.refl H) i .nil rfl
theorem ea_consP {tr : TA} {Φl : List Dt → Prop} (ha : Ev K S S1 ρ ta Φ) (hr : EvA K S1 S2 ρ tr Φl) : EvA K S S2 ρ (tCons ta tr) (fun l => ∃ d ds, l = d :: ds ∧ Φ d ∧ Φl ds) := fun σ H i s Q q =>
  ha σ H i s _ fun v d H1 g1 i1 r1 p1 => hr σ H1 i1 (s.mono g1) _ fun vs ds H2 g2 i2 r2 p2 => q _ _ H2 (g1.trans g2) i2 (.cons (r1.mono g2) r2) ⟨d, ds, rfl, p1, p2⟩
theorem ea_cons {tr : TA} {ds : List Dt} (ha : Ev K S S1 ρ ta (Eq d)) (hr : EvA K S1 S2 ρ tr (Eq ds)) : EvA K S S2 ρ (tCons ta tr) (Eq (d :: ds)) := fun σ H i s Q q =>
  ha σ H i s _ fun v d' H1 g1 i1 r1 p1 => hr σ H1 i1 (s.mono g1) _ fun vs ds' H2 g2 i2 r2 p2 => q _ _ H2 (g1.trans g2) i2 (.cons (p1 ▸ r1.mono g2) (p2 ▸ r2)) rfl
theorem ea_starT {tr : TA} {xs ds : List Dt} (ha : Ev K S S1 ρ ta (Eq (.tup xs))) (hr : EvA K S1 S2 ρ tr (Eq ds)) : EvA K S S2 ρ (StX.tStar K ta tr) (Eq (xs ++ ds)) := fun σ H i s Q q =>
  ha σ H i s _ fun v d' H1 g1 i1 r1 p1 => by
    subst p1
    obtain ⟨a, vs, rfl, h, ra⟩ := r1.tupI
    exact ⟨a, vs, rfl, .inl h, hr σ H1 i1 (s.mono g1) _ fun us ds' H2 g2 i2 r2 p2 => q _ _ H2 (g1.trans g2) i2 ((ra.mono g2).app (p2 ▸ r2)) rfl⟩
theorem ev_tupP {t : TA} {Φl : List Dt → Prop} (h : EvA K S S1 ρ t Φl) (hz : ∀ ds, Φl ds → ds.length ≤ sizeLine) : Ev K S S1 ρ (tTup t) (fun d => ∃ ds, d = .tup ds ∧ Φl ds) := fun σ H i s Q q =>
  h σ H i s _ fun vs ds H1 g1 i1 r1 p1 => ⟨by rw [r1.len]; exact hz ds p1, fun p hp => q _ _ _ (g1.trans (same_new hp).gr) (S1.st i1 (same_new hp)) (.tup (SqT.of upd_same) (r1.mono (same_new hp).gr)) ⟨ds, rfl, p1⟩⟩
theorem ev_lstP {t : TA} {Φl : List Dt → Prop} (h : EvA K S S1 ρ t Φl) (hz : ∀ ds, Φl ds → ds.length ≤ sizeLine) : Ev K S S1 ρ (tLst t) (fun d => ∃ ds, d = .lst ds ∧ Φl ds) := fun σ H i s Q q =>
  h σ H i s _ fun vs ds H1 g1 i1 r1 p1 => ⟨by rw [r1.len]; exact hz ds p1, fun p hp => q _ _ _ (g1.trans (same_new hp).gr) (S1.st i1 (same_new hp)) (.lst (SqL.of upd_same) (r1.mono (same_new hp).gr)) ⟨ds, rfl, p1⟩⟩
theorem ev_tup {t : TA} {ds : List Dt} (h : EvA K S S1 ρ t (Eq ds)) (hz : ds.length ≤ sizeLine) : Ev K S S1 ρ (tTup t) (Eq (.tup ds)) := (ev_tupP h fun _ e => e ▸ hz).weak fun _ ⟨_, e, e'⟩ => e ▸ e' ▸ rfl
theorem ev_lst {t : TA} {ds : List Dt} (h : EvA K S S1 ρ t (Eq ds)) (hz : ds.length ≤ sizeLine) : Ev K S S1 ρ (tLst t) (Eq (.lst ds)) := (ev_lstP h fun _ e => e ▸ hz).weak fun _ ⟨_, e, e'⟩ => e ▸ e' ▸ rfl
theorem ev_dic : Ev K S S ρ tDNewK (Eq .dic) := fun σ H i s Q q p hp => q _ _ _ (same_new hp).gr (S.st i (same_new hp)) (.dic upd_same) rfl

/-! calls -/
/-- a def over data: from ds (n of them, such that pre) it hands back f ds and leaves all else -/
def spF (K : PySem.W.Frag) (n : Nat) (pre : List Dt → Prop) (f : List Dt → Dt) : Sp := fun vs H Q _ => ∃ ds, RepA K H vs ds ∧ ds.length = n ∧ pre ds ∧ ∀ v H', Same H H' → Rep K H' v (f ds) → Q v H'
theorem ev_callF {t : TA} {ds : List Dt} {n : Nat} {pre : List Dt → Prop} {f : List Dt → Dt} {E : XK} (ha : EvA K S S1 ρ t (Eq ds)) (hn : ds.length = n) (hp : pre ds) : Ev K S S1 ρ (tCall (spF K n pre f) [] E t) (Eq (f ds)) := fun σ H i s Q q =>
  ha σ H i s _ fun vs ds' H1 g1 i1 r1 p1 => by
    subst p1
    rw [List.append_nil]
    exact ⟨ds, r1, hn, hp, fun v H2 sm r => q v _ H2 (g1.trans sm.gr) (S1.st i1 sm) r rfl⟩
theorem ev_callW {t : TA} {ds es : List Dt} {n m : Nat} {gV : List V → List V} {pre : List Dt → Prop} {f : List Dt → Dt} {E : XK} (ha : EvA K S S1 ρ t (Eq es)) (hm : es.length = m) (hg : ∀ H vs, RepA K H vs es → RepA K H (gV vs) ds) (hn : ds.length = n) (hp : pre ds) :
    Ev K S S1 ρ (tCallW (spF K n pre f) m gV E t) (Eq (f ds)) := fun σ H i s Q q =>
  ha σ H i s _ fun vs ds' H1 g1 i1 r1 p1 => by
    subst p1
    exact ⟨r1.len.trans hm, ds, hg _ _ r1, hn, hp, fun v H2 sm r => q v _ H2 (g1.trans sm.gr) (S1.st i1 sm) r rfl⟩
theorem ev_cbP {r : List V → Hp → VK → Prop} {t : TA} {Φl : List Dt → Prop} (ha : EvA K S S1 ρ t Φl) (hr : ∀ ds, Φl ds → RvC K S1 r ds Θ) : Ev K S S1 ρ (tCB r t) Θ := fun σ H i s Q q =>
  ha σ H i s _ fun vs ds' H1 g1 i1 r1 p1 => hr ds' p1 H1 vs i1 r1 Q fun v' d H3 g3 i3 r3 p3 => q v' d H3 (g1.trans g3) i3 r3 p3
theorem ev_cb {r : List V → Hp → VK → Prop} {t : TA} {ds : List Dt} (ha : EvA K S S1 ρ t (Eq ds)) (hr : RvC K S1 r ds Θ) : Ev K S S1 ρ (tCB r t) Θ := ev_cbP ha fun _ e => e ▸ hr
theorem rc_at {r : List V → Hp → VK → Prop} {xs : List Dt} (h : ∀ H vs, S.I H → RepA K H vs xs → ∀ Q : VK, (∀ v', Rep K H v' z → Q v' H) → r vs H Q) : RvC K S r xs (Eq z) := fun H vs i r1 Q q => h H vs i r1 Q fun v' r' => q v' z H (Gr.refl H) i r' rfl
theorem RepA.oneI {H : Hp} {vs : List V} (r : RepA K H vs [d]) : ∃ v, vs = [v] ∧ Rep K H v d := by
  cases r with
  | cons h r => cases r; exact ⟨_, rfl, h⟩
theorem RepA.twoI {H : Hp} {vs : List V} (r : RepA K H vs [x, y]) : ∃ v u, vs = [v, u] ∧ Rep K H v x ∧ Rep K H u y := by
  cases r with
  | cons h r => obtain ⟨u, rfl, q⟩ := r.oneI; exact ⟨_, _, rfl, h, q⟩
def rLen (K : PySem.W.Frag) : List V → Hp → VK → Prop := fun xs H Q => ∃ p ys, xs = [.ref p] ∧ (SqL K H p ys ∨ SqT K H p ys) ∧ Q (.int ys.length) H
theorem rc_lenT {xs : List Dt} : RvC K S (rLen K) [.tup xs] (Eq (.int xs.length)) := rc_at fun H vs i r Q q => by
  obtain ⟨v, rfl, r1⟩ := r.oneI
  obtain ⟨a, us, rfl, h, ra⟩ := r1.tupI
  exact ⟨a, us, rfl, .inr h, by rw [ra.len]; exact q _ (.int _)⟩
theorem rc_lenL {xs : List Dt} : RvC K S (rLen K) [.lst xs] (Eq (.int xs.length)) := rc_at fun H vs i r Q q => by
  obtain ⟨v, rfl, r1⟩ := r.oneI
  obtain ⟨a, us, rfl, h, ra⟩ := r1.lstI
  exact ⟨a, us, rfl, .inl h, by rw [ra.len]; exact q _ (.int _)⟩
theorem rc_all {bs : List Bool} : RvC K S (rAll K) [.lst (bs.map Dt.bl)] (Eq (.bl (bs.all id))) := rc_at fun H vs i r Q q => by
  obtain ⟨v, rfl, r1⟩ := r.oneI
  obtain ⟨a, us, rfl, h, ra⟩ := r1.lstI
  exact ⟨a, bs, rfl, by rw [← ra.bls]; exact h, q _ (.bl _)⟩

/-! subscripts, slices, joined tuples -/
theorem atI_rep {H : Hp} {vs : List V} {ds : List Dt} {i : Int} (r : RepA K H vs ds) (h : atI ds i = some d) : ∃ v, atI vs i = some v ∧ Rep K H v d := by
  unfold atI at h ⊢
  rw [r.len]
  cases e : ixN ds.length i with
  | none => rw [e] at h; cases h
  | some j =>
    rw [e] at h
    exact r.at_ h
theorem rv_ixT {xs : List Dt} {i : Int} (h : atI xs i = some d) : Rv2 K S (rIxT K) (.tup xs) (.int i) (Eq d) := rv_at fun H v u _ r1 r2 Q q => by
  obtain ⟨a, us, rfl, ht, ra⟩ := r1.tupI
  obtain rfl := r2.intI
  obtain ⟨v, e, rv⟩ := atI_rep ra h
  exact ⟨a, us, i, v, rfl, rfl, ht, e, q v rv⟩
theorem rv_ixL {xs : List Dt} {i : Int} (h : atI xs i = some d) : Rv2 K S (rIxL K) (.lst xs) (.int i) (Eq d) := rv_at fun H v u _ r1 r2 Q q => by
  obtain ⟨a, us, rfl, ht, ra⟩ := r1.lstI
  obtain rfl := r2.intI
  obtain ⟨v, e, rv⟩ := atI_rep ra h
  exact ⟨a, us, i, v, rfl, rfl, ht, e, q v rv⟩
theorem rv_ixSL {xs : List Dt} {i : Int} (h : atI xs i = some d) : Rv2 K S (rIx K) (.lst xs) (.int i) (Eq d) := fun H v u hi r1 r2 Q q => .inl (rv_ixL h H v u hi r1 r2 Q q)
theorem rv_ixST {xs : List Dt} {i : Int} (h : atI xs i = some d) : Rv2 K S (rIx K) (.tup xs) (.int i) (Eq d) := fun H v u hi r1 r2 Q q => .inr (.inl (rv_ixT h H v u hi r1 r2 Q q))
/-- a part of a sequence -/
def cutD (xs : List Dt) (lo hi : Option Int) : List Dt := (xs.drop (HT.sIx xs.length 0 lo)).take (HT.sIx xs.length xs.length hi - HT.sIx xs.length 0 lo)
theorem cut_rep {H : Hp} {vs : List V} {ds : List Dt} (r : RepA K H vs ds) (lo hi : Option Int) : RepA K H (cutV vs lo hi) (cutD ds lo hi) := by
  unfold cutV cutD
  rw [r.len]
  exact (r.drop _).take _
theorem eo_none : EvO K S S ρ tNoPart (Eq none) := fun σ H i s Q q => q _ H (Gr.refl H) i rfl
theorem eo_some {i : Int} (h : Ev K S S1 ρ te (Eq (.int i))) : EvO K S S1 ρ (tPart te) (Eq (some i)) := fun σ H hi s Q q => h σ H hi s _ fun v d H1 g1 i1 r1 p1 => by
  subst p1
  exact ⟨i, r1.intI, q _ H1 g1 i1 rfl⟩
theorem cutD_whole {xs : List Dt} {lo hi : Option Int} (h : HT.sIx xs.length 0 lo = 0 ∧ HT.sIx xs.length xs.length hi = xs.length) : cutD xs lo hi = xs := by
  unfold cutD
  rw [h.1, h.2, Nat.sub_zero, List.drop_zero, List.take_length]
theorem ev_slT {tl th : TO} {xs : List Dt} {lo hi : Option Int} (ha : Ev K S S1 ρ te (Eq (.tup xs))) (hl : EvO K S1 S2 ρ tl (Eq lo)) (hh : EvO K S2 S3 ρ th (Eq hi)) : Ev K S S3 ρ (tSl (rSlA K) te tl th) (Eq (.tup (cutD xs lo hi))) := fun σ H i s Q q =>
  ha σ H i s _ fun v d' H1 g1 i1 r1 p1 => hl σ H1 i1 (s.mono g1) _ fun l H2 g2 i2 p2 => hh σ H2 i2 (s.mono (g1.trans g2)) _ fun u H3 g3 i3 p3 => by
    subst p1 p2 p3
    obtain ⟨a, vs, rfl, h, ra⟩ := r1.tupI
    have g23 := g2.trans g3
    refine ⟨a, vs, rfl, g23.sqT h, fun hw => ?_, fun hw p hp => ?_⟩
    · rw [ra.len] at hw
      refine q _ _ H3 (g1.trans g23) i3 (.tup (g23.sqT h) ?_) rfl
      rw [cutD_whole hw]
      exact ra.mono g23
    · exact q _ _ _ ((g1.trans g23).trans (same_new hp).gr) (S3.st i3 (same_new hp)) (.tup (SqT.of upd_same) ((cut_rep (ra.mono g23) lo hi).mono (same_new hp).gr)) rfl
theorem ev_slL {tl th : TO} {xs : List Dt} {lo hi : Option Int} (ha : Ev K S S1 ρ te (Eq (.lst xs))) (hl : EvO K S1 S2 ρ tl (Eq lo)) (hh : EvO K S2 S3 ρ th (Eq hi)) : Ev K S S3 ρ (tSl (rSlL K) te tl th) (Eq (.lst (cutD xs lo hi))) := fun σ H i s Q q =>
  ha σ H i s _ fun v d' H1 g1 i1 r1 p1 => hl σ H1 i1 (s.mono g1) _ fun l H2 g2 i2 p2 => hh σ H2 i2 (s.mono (g1.trans g2)) _ fun u H3 g3 i3 p3 => by
    subst p1 p2 p3
    obtain ⟨a, vs, rfl, h, ra⟩ := r1.lstI
    have g23 := g2.trans g3
    exact ⟨a, vs, rfl, g23.sqL h, fun p hp => q _ _ _ ((g1.trans g23).trans (same_new hp).gr) (S3.st i3 (same_new hp)) (.lst (SqL.of upd_same) ((cut_rep (ra.mono g23) lo hi).mono (same_new hp).gr)) rfl⟩
theorem rv_catT {xs ys : List Dt} (hz : xs.length + ys.length ≤ sizeLine) : Rv2 K S (rCatA K) (.tup xs) (.tup ys) (Eq (.tup (xs ++ ys))) := fun H v u i r1 r2 Q q => by
  obtain ⟨a, vs, rfl, h1, ra⟩ := r1.tupI
  obtain ⟨b, us, rfl, h2, rb⟩ := r2.tupI
  refine ⟨a, b, vs, us, rfl, rfl, h1, h2, by rw [ra.len, rb.len]; exact hz, fun e => ?_, fun _ e => ?_, fun _ _ p hp => ?_⟩
  · subst e
    cases ra
    exact q _ _ H (Gr.refl H) i (.tup h2 rb) rfl
  · subst e
    cases rb
    exact q _ _ H (Gr.refl H) i (.tup h1 ra) (by rw [List.append_nil])
  · exact q _ _ _ (same_new hp).gr (S.st i (same_new hp)) (.tup (SqT.of upd_same) ((ra.app rb).mono (same_new hp).gr)) rfl

/-! choices -/
theorem ev_if {b : Bool} (ht : EvT K S S1 ρ t (Eq b)) (ha : b = true → Ev K S1 S2 ρ ta Φ) (hb : b = false → Ev K S1 S2 ρ tb Φ) : Ev K S S2 ρ (tIf t ta tb) Φ := fun σ H i s Q q =>
  ht σ H i s _ fun c H1 g1 i1 p1 => by
    subst p1
    cases b with
    | true => rw [if_pos rfl]; exact ha rfl σ H1 i1 (s.mono g1) Q fun v d H2 g2 => q v d H2 (g1.trans g2)
    | false => rw [if_neg Bool.false_ne_true]; exact hb rfl σ H1 i1 (s.mono g1) Q fun v d H2 g2 => q v d H2 (g1.trans g2)
theorem ev_and {a b : Bool} (ha : Ev K S S1 ρ ta (Eq (.bl a))) (hb : a = true → Ev K S1 S1 ρ tb (Eq (.bl b))) : Ev K S S1 ρ (tAndV ta tb) (Eq (.bl (a && b))) := fun σ H i s Q q =>
  ha σ H i s _ fun v d H1 g1 i1 r1 p1 => by
    subst p1
    refine ⟨a, r1.blI, ?_⟩
    cases a with
    | true => rw [if_pos rfl]; exact hb rfl σ H1 i1 (s.mono g1) Q fun v d H2 g2 => q v d H2 (g1.trans g2)
    | false => rw [if_neg Bool.false_ne_true]; exact q _ _ H1 g1 i1 (.bl _) rfl
theorem ev_or {a b : Bool} (ha : Ev K S S1 ρ ta (Eq (.bl a))) (hb : a = false → Ev K S1 S1 ρ tb (Eq (.bl b))) : Ev K S S1 ρ (tOrV ta tb) (Eq (.bl (a || b))) := fun σ H i s Q q =>
  ha σ H i s _ fun v d H1 g1 i1 r1 p1 => by
    subst p1
    refine ⟨a, r1.blI, ?_⟩
    cases a with
    | false => rw [if_neg Bool.false_ne_true]; exact hb rfl σ H1 i1 (s.mono g1) Q fun v d H2 g2 => q v d H2 (g1.trans g2)
    | true => rw [if_pos rfl]; exact q _ _ H1 g1 i1 (.bl _) rfl
theorem ev_not {a : Bool} (ha : Ev K S S1 ρ ta (Eq (.bl a))) : Ev K S S1 ρ (tNotV ta) (Eq (.bl (!a))) := fun σ H i s Q q =>
  ha σ H i s _ fun v d H1 g1 i1 r1 p1 => by
    subst p1
    exact ⟨a, r1.blI, q _ _ H1 g1 i1 (.bl _) rfl⟩
theorem et_B {a : Bool} (ha : Ev K S S1 ρ ta (Eq (.bl a))) : EvT K S S1 ρ (tB ta) (Eq a) := fun σ H i s Q q => ha σ H i s _ fun v d H1 g1 i1 r1 p1 => by
  subst p1
  exact ⟨a, r1.blI, q _ H1 g1 i1 rfl⟩
theorem et_test {a : Bool} (ha : Ev K S S1 ρ ta (Eq (.bl a))) : EvT K S S1 ρ (tTest ta) (Eq a) := fun σ H i s Q q => ha σ H i s _ fun v d H1 g1 i1 r1 p1 => by
  subst p1
  exact ⟨a, r1.blI, q _ H1 g1 i1 rfl⟩
theorem et_BP {Φb : Bool → Prop} (ha : Ev K S S1 ρ ta (fun d => ∃ b, d = .bl b ∧ Φb b)) : EvT K S S1 ρ (tB ta) Φb := fun σ H i s Q q => ha σ H i s _ fun v d H1 g1 i1 r1 p1 => by
  obtain ⟨b, rfl, p⟩ := p1
  exact ⟨b, r1.blI, q _ H1 g1 i1 p⟩
theorem et_testP {Φb : Bool → Prop} (ha : Ev K S S1 ρ ta (fun d => ∃ b, d = .bl b ∧ Φb b)) : EvT K S S1 ρ (tTest ta) Φb := fun σ H i s Q q => ha σ H i s _ fun v d H1 g1 i1 r1 p1 => by
  obtain ⟨b, rfl, p⟩ := p1
  exact ⟨b, r1.blI, q _ H1 g1 i1 p⟩
theorem et_and {a b : Bool} (ha : EvT K S S1 ρ t (Eq a)) (hb : a = true → EvT K S1 S1 ρ u (Eq b)) : EvT K S S1 ρ (tAnd t u) (Eq (a && b)) := fun σ H i s Q q => ha σ H i s _ fun c H1 g1 i1 p1 => by
  subst p1
  cases a with
  | true => rw [if_pos rfl]; exact hb rfl σ H1 i1 (s.mono g1) Q fun v H2 g2 => q v H2 (g1.trans g2)
  | false => rw [if_neg Bool.false_ne_true]; exact q _ H1 g1 i1 rfl
theorem et_or {a b : Bool} (ha : EvT K S S1 ρ t (Eq a)) (hb : a = false → EvT K S1 S1 ρ u (Eq b)) : EvT K S S1 ρ (tOr t u) (Eq (a || b)) := fun σ H i s Q q => ha σ H i s _ fun c H1 g1 i1 p1 => by
  subst p1
  cases a with
  | false => rw [if_neg Bool.false_ne_true]; exact hb rfl σ H1 i1 (s.mono g1) Q fun v H2 g2 => q v H2 (g1.trans g2)
  | true => rw [if_pos rfl]; exact q _ H1 g1 i1 rfl
theorem et_not {a : Bool} (ha : EvT K S S1 ρ t (Eq a)) : EvT K S S1 ρ (tNot t) (Eq (!a)) := fun σ H i s Q q => ha σ H i s _ fun c H1 g1 i1 p1 => by
  subst p1
  exact q _ H1 g1 i1 rfl
theorem et_yes : EvT K S S ρ tYes (Eq true) := fun σ H i s Q q => q _ H (Gr.refl H) i rfl
/-- a < b < c over ints -/
theorem ev_chain {g g' : Int → Int → Bool} {tc : TE} {i j l : Int} (ha : Ev K S S1 ρ ta (Eq (.int i))) (hb : Ev K S1 S2 ρ tb (Eq (.int j))) (hc : Ev K S2 S2 ρ tc (Eq (.int l))) :
    Ev K S S2 ρ (tChain (rI0 fun a b => .bl (g a b)) (rI0 fun a b => .bl (g' a b)) ta tb tc) (Eq (.bl (g i j && g' j l))) := fun σ H hi s Q q =>
  ha σ H hi s _ fun v d H1 g1 i1 r1 p1 => hb σ H1 i1 (s.mono g1) _ fun u d2 H2 g2 i2 r2 p2 => by
    subst p1 p2
    refine ⟨i, j, (r1.mono g2).intI, r2.intI, g i j, rfl, ?_⟩
    cases e : g i j with
    | true =>
      rw [if_pos rfl]
      exact hc σ H2 i2 (s.mono (g1.trans g2)) _ fun w d3 H3 g3 i3 r3 p3 => by
        subst p3
        exact ⟨j, l, (r2.mono g3).intI, r3.intI, q _ _ H3 ((g1.trans g2).trans g3) i3 (.bl _) (by rw [e, Bool.true_and])⟩
    | false =>
      rw [if_neg Bool.false_ne_true]
      exact q _ _ H2 (g1.trans g2) i2 (.bl _) (by rw [e, Bool.false_and])
end
end Bf
namespace Bf
open PySem PySem.Spec PyProof.Rows L2

/-! ### D. statements over data -/
structure Po where
  nx : List (Option Dt) → Prop := fun _ => False
  rt : Dt → Prop := fun _ => False
  bk : List (Option Dt) → Prop := fun _ => False
  ct : List (Option Dt) → Prop := fun _ => False
structure Ft (K : PySem.W.Frag) (S : Sta) (P : Po) (D : Ends) (H : Hp) : Prop where
  nx : ∀ (σ : L2.St) ρ H', Gr H H' → S.I H' → Slots K H' σ ρ → P.nx ρ → D.nx σ H'
  rt : ∀ v d H', Gr H H' → S.I H' → Rep K H' v d → P.rt d → D.rt v H'
  bk : ∀ (σ : L2.St) ρ H', Gr H H' → S.I H' → Slots K H' σ ρ → P.bk ρ → D.bk σ H'
  ct : ∀ (σ : L2.St) ρ H', Gr H H' → S.I H' → Slots K H' σ ρ → P.ct ρ → D.ct σ H'
/-- what holds at first holds at last -/
def Sta.Le (S SF : Sta) : Prop := ∀ H, S.I H → SF.I H
theorem Sta.Le.refl (S : Sta) : S.Le S := fun _ h => h
theorem Sta.Le.trans {S S1 S2 : Sta} (a : S.Le S1) (b : S1.Le S2) : S.Le S2 := fun H h => b H (a H h)
/-- from what holds at the base B on: the lists in L are newer than B and may be changed -/
structure Bs (SB : Sta) (L : List Addr) (B H : Hp) : Prop where
  gr : Gr B H
  i : SB.I B
  new : ∀ p ∈ L, B p = none
theorem Bs.up {SB : Sta} {L : List Addr} {B H H' : Hp} (b : Bs SB L B H) (g : Gr H H') : Bs SB L B H' := ⟨b.gr.trans g, b.i, b.new⟩
/-- S holds at first, SB at the base, SF at last -/
def Sg (K : PySem.W.Frag) (S SB SF : Sta) (L : List Addr) (ts : TS) (ρ : List (Option Dt)) (P : Po) : Prop := ∀ (D : Ends) (σ : L2.St) (B H : Hp), Bs SB L B H → S.I H → Slots K H σ ρ → Ft K SF P D B → ts D σ H
abbrev So (K : PySem.W.Frag) (S SF : Sta) (L : List Addr) (ts : TS) (ρ : List (Option Dt)) (P : Po) : Prop := Sg K S SF SF L ts ρ P
section
variable {K : PySem.W.Frag} {S S1 S2 SB SF : Sta} {L : List Addr} {ρ : List (Option Dt)} {P : Po} {ta tb te tl : TE} {c : TT} {t u w : TS} {Φ Ψ Θ : Dt → Prop} {x y z d : Dt} {D : Ends} {H H' : Hp}
theorem Ft.mono (f : Ft K SF P D H) (g : Gr H H') : Ft K SF P D H' := ⟨fun σ ρ H2 g2 => f.nx σ ρ H2 (g.trans g2), fun v d H2 g2 => f.rt v d H2 (g.trans g2), fun σ ρ H2 g2 => f.bk σ ρ H2 (g.trans g2), fun σ ρ H2 g2 => f.ct σ ρ H2 (g.trans g2)⟩
theorem Ft.le (f : Ft K SF P D H) (l : S.Le SF) : Ft K S P D H := ⟨fun σ ρ H2 g2 i2 => f.nx σ ρ H2 g2 (l _ i2), fun v d H2 g2 i2 => f.rt v d H2 g2 (l _ i2), fun σ ρ H2 g2 i2 => f.bk σ ρ H2 g2 (l _ i2), fun σ ρ H2 g2 i2 => f.ct σ ρ H2 g2 (l _ i2)⟩
theorem so_next (l : S.Le SF) (h : P.nx ρ) : Sg K S SB SF L tNext ρ P := fun D σ B H b i s f => f.nx σ ρ H b.gr (l _ i) s h
theorem so_break (l : S.Le SF) (h : P.bk ρ) : Sg K S SB SF L tBreak ρ P := fun D σ B H b i s f => f.bk σ ρ H b.gr (l _ i) s h
theorem so_cont (l : S.Le SF) (h : P.ct ρ) : Sg K S SB SF L tCont ρ P := fun D σ B H b i s f => f.ct σ ρ H b.gr (l _ i) s h
/-- a statement, then the rest -/
theorem so_seq {M : List (Option Dt) → Prop} (h1 : Sg K S SB SF L t ρ { P with nx := M }) (h2 : ∀ ρ', M ρ' → So K SF SF [] u ρ' P) : Sg K S SB SF L (tSeq t u) ρ P := fun D σ B H b i s f =>
  h1 { D with nx := u D } σ B H b i s ⟨fun σ' ρ' H' g i' s' m => h2 ρ' m D σ' H' H' ⟨Gr.refl H', i', fun _ z => nomatch z⟩ i' s' (f.mono g), f.rt, f.bk, f.ct⟩
/-- a statement that leaves what holds and the loose lists, in the middle -/
theorem so_mid {M : List (Option Dt) → Prop} (l : S.Le SF) (h1 : So K S S [] t ρ { P with nx := M }) (h2 : ∀ ρ', M ρ' → Sg K S SB SF L u ρ' P) : Sg K S SB SF L (tSeq t u) ρ P := fun D σ B H b i s f =>
  h1 { D with nx := u D } σ H H ⟨Gr.refl H, i, fun _ z => nomatch z⟩ i s ⟨fun σ' ρ' H' g i' s' m => h2 ρ' m D σ' B H' (b.up g) i' s' f, ((f.mono b.gr).le l).rt, ((f.mono b.gr).le l).bk, ((f.mono b.gr).le l).ct⟩
theorem so_le (l : S.Le S1) (h : Sg K S1 SB SF L t ρ P) : Sg K S SB SF L t ρ P := fun D σ B H b i s f => h D σ B H b (l _ i) s f
/-- a statement, then the rest, the loose lists kept -/
theorem so_seqG {M : List (Option Dt) → Prop} (l : S1.Le SF) (h1 : Sg K S SB S1 L t ρ { P with nx := M }) (h2 : ∀ ρ', M ρ' → Sg K S1 SB SF L u ρ' P) : Sg K S SB SF L (tSeq t u) ρ P := fun D σ B H b i s f =>
  h1 { D with nx := u D } σ B H b i s ⟨fun σ' ρ' H' g i' s' m => h2 ρ' m D σ' B H' ⟨g, b.i, b.new⟩ i' s' f, (f.le l).rt, (f.le l).bk, (f.le l).ct⟩
/-- nothing is loose any more -/
theorem so_fast (h : Sg K S SB SF [] t ρ P) : Sg K S SB SF L t ρ P := fun D σ B H b i s f => h D σ B H ⟨b.gr, b.i, fun _ z => nomatch z⟩ i s f
theorem so_skip (h : Sg K S SB SF L w ρ P) : Sg K S SB SF L (tSeq tNext w) ρ P := fun D σ B H b i s f => h D σ B H b i s f
theorem so_assoc (h : Sg K S SB SF L (tSeq t (tSeq u w)) ρ P) : Sg K S SB SF L (tSeq (tSeq t u) w) ρ P := fun D σ B H b i s f => h D σ B H b i s f
theorem so_brk1 (l : S.Le SF) (h : P.bk ρ) : Sg K S SB SF L (tSeq tBreak w) ρ P := fun D σ B H b i s f => f.bk σ ρ H b.gr (l _ i) s h
theorem so_cont1 (l : S.Le SF) (h : P.ct ρ) : Sg K S SB SF L (tSeq tCont w) ρ P := fun D σ B H b i s f => f.ct σ ρ H b.gr (l _ i) s h
theorem so_ret (h : Ev K S S1 ρ te Φ) (l : S1.Le SF) (q : ∀ d, Φ d → P.rt d) : Sg K S SB SF L (tRet te) ρ P := fun D σ B H b i s f => h σ H i s _ fun v d H1 g1 i1 r1 p1 => f.rt v d H1 (b.gr.trans g1) (l _ i1) r1 (q d p1)
theorem so_retD (h : Ev K S S1 ρ te (Eq d)) (l : S1.Le SF) (q : P.rt d) : Sg K S SB SF L (tRet te) ρ P := so_ret h l fun _ e => e ▸ q
theorem so_ret1 (h : Ev K S S1 ρ te Φ) (l : S1.Le SF) (q : ∀ d, Φ d → P.rt d) : Sg K S SB SF L (tSeq (tRet te) w) ρ P := fun D σ B H b i s f => h σ H i s _ fun v d H1 g1 i1 r1 p1 => f.rt v d H1 (b.gr.trans g1) (l _ i1) r1 (q d p1)
theorem so_ret1D (h : Ev K S S1 ρ te (Eq d)) (l : S1.Le SF) (q : P.rt d) : Sg K S SB SF L (tSeq (tRet te) w) ρ P := so_ret1 h l fun _ e => e ▸ q
theorem so_retN (l : S.Le SF) (q : P.rt .non) : Sg K S SB SF L tRetN ρ P := fun D σ B H b i s f => f.rt _ _ H b.gr (l _ i) .non q
/-- x = e -/
theorem so_set {j : Nat} (h : Ev K S S1 ρ te Φ) (q : ∀ d, Φ d → Sg K S1 SB SF L w (ρ.set j (some d)) P) : Sg K S SB SF L (tSeq (tAsg te (gName j)) w) ρ P := fun D σ B H b i s f =>
  h σ H i s _ fun v d H1 g1 i1 r1 p1 => q d p1 D _ B H1 (b.up g1) i1 ((s.mono g1).set r1 j) f
theorem so_setD {j : Nat} (h : Ev K S S1 ρ te (Eq d)) (q : Sg K S1 SB SF L w (ρ.set j (some d)) P) : Sg K S SB SF L (tSeq (tAsg te (gName j)) w) ρ P := so_set h fun _ e => e ▸ q
theorem so_set0 {j : Nat} (h : Ev K S S1 ρ te Φ) (l : S1.Le SF) (q : ∀ d, Φ d → P.nx (ρ.set j (some d))) : Sg K S SB SF L (tAsg te (gName j)) ρ P := fun D σ B H b i s f =>
  h σ H i s _ fun v d H1 g1 i1 r1 p1 => f.nx _ _ H1 (b.gr.trans g1) (l _ i1) ((s.mono g1).set r1 j) (q d p1)
theorem so_set0D {j : Nat} (h : Ev K S S1 ρ te (Eq d)) (l : S1.Le SF) (q : P.nx (ρ.set j (some d))) : Sg K S SB SF L (tAsg te (gName j)) ρ P := so_set0 h l fun _ e => e ▸ q
theorem so_drop (h : Ev K S S1 ρ te Φ) (q : Sg K S1 SB SF L w ρ P) : Sg K S SB SF L (tSeq (tDrop te) w) ρ P := fun D σ B H b i s f => h σ H i s _ fun v d H1 g1 i1 r1 p1 => q D σ B H1 (b.up g1) i1 (s.mono g1) f
theorem so_if {Φb : Bool → Prop} (h : EvT K S S1 ρ c Φb) (h1 : Φb true → Sg K S1 SB SF L (tSeq t w) ρ P) (h2 : Φb false → Sg K S1 SB SF L (tSeq u w) ρ P) : Sg K S SB SF L (tSeq (tIfS c t u) w) ρ P := fun D σ B H b i s f => h σ H i s _ fun k H1 g1 i1 p1 => by
  cases k with
  | true => rw [if_pos rfl]; exact h1 p1 D σ B H1 (b.up g1) i1 (s.mono g1) f
  | false => rw [if_neg Bool.false_ne_true]; exact h2 p1 D σ B H1 (b.up g1) i1 (s.mono g1) f
theorem so_if0 {Φb : Bool → Prop} (h : EvT K S S1 ρ c Φb) (h1 : Φb true → Sg K S1 SB SF L t ρ P) (h2 : Φb false → Sg K S1 SB SF L u ρ P) : Sg K S SB SF L (tIfS c t u) ρ P := fun D σ B H b i s f => h σ H i s _ fun k H1 g1 i1 p1 => by
  cases k with
  | true => rw [if_pos rfl]; exact h1 p1 D σ B H1 (b.up g1) i1 (s.mono g1) f
  | false => rw [if_neg Bool.false_ne_true]; exact h2 p1 D σ B H1 (b.up g1) i1 (s.mono g1) f
theorem so_ifD {k : Bool} (h : EvT K S S1 ρ c (Eq k)) (h1 : k = true → Sg K S1 SB SF L (tSeq t w) ρ P) (h2 : k = false → Sg K S1 SB SF L (tSeq u w) ρ P) : Sg K S SB SF L (tSeq (tIfS c t u) w) ρ P := so_if h h1 h2
theorem so_ifT (h : EvT K S S1 ρ c (Eq true)) (h1 : Sg K S1 SB SF L (tSeq t w) ρ P) : Sg K S SB SF L (tSeq (tIfS c t u) w) ρ P := so_if h (fun _ => h1) fun e => nomatch e
theorem so_ifF (h : EvT K S S1 ρ c (Eq false)) (h1 : Sg K S1 SB SF L (tSeq u w) ρ P) : Sg K S SB SF L (tSeq (tIfS c t u) w) ρ P := so_if h (fun e => nomatch e) fun _ => h1
theorem so_if0T (h : EvT K S S1 ρ c (Eq true)) (h1 : Sg K S1 SB SF L t ρ P) : Sg K S SB SF L (tIfS c t u) ρ P := so_if0 h (fun _ => h1) fun e => nomatch e
theorem so_if0F (h : EvT K S S1 ρ c (Eq false)) (h1 : Sg K S1 SB SF L u ρ P) : Sg K S SB SF L (tIfS c t u) ρ P := so_if0 h (fun e => nomatch e) fun _ => h1
theorem so_par {i j : Nat} {ta : TA} {Φl : List Dt → Prop} (h : EvA K S S1 ρ ta Φl) (hl : ∀ l, Φl l → l.length = 2) (q : ∀ a b, Φl [a, b] → Sg K S1 SB SF L w ((ρ.set i (some a)).set j (some b)) P) : Sg K S SB SF L (tSeq (tPar i j ta) w) ρ P := fun D σ B H b hi s f =>
  h σ H hi s _ fun vs ds H1 g1 i1 r1 p1 => by
    match ds, hl ds p1, r1, p1 with
    | [x, y], _, r1, p1 =>
      obtain ⟨v, u, rfl, ra, rb⟩ := r1.twoI
      exact ⟨v, u, rfl, q x y p1 D _ B H1 (b.up g1) i1 (((s.mono g1).set ra i).set rb j) f⟩
/-- a, b, .. = e -/
def gNames : List Nat → TGs
  | [] => gNil
  | i :: is => gCons (gName i) (gNames is)
def setAll (ρ : List (Option Dt)) : List Nat → List Dt → List (Option Dt)
  | i :: is, d :: ds => setAll (ρ.set i (some d)) is ds
  | _, _ => ρ
theorem names_run {Q : L2.St → Hp → Prop} : ∀ {is : List Nat} {vs : List V} {ds : List Dt} {σ : L2.St} {ρ : List (Option Dt)}, Slots K H σ ρ → RepA K H vs ds → ds.length = is.length → (∀ σ', Slots K H σ' (setAll ρ is ds) → Q σ' H) → gNames is vs σ H Q
  | [], _, _, σ, ρ, s, .nil, _, q => ⟨rfl, q σ s⟩
  | i :: is, _, _, σ, ρ, s, .cons (v := v) (vs := vs) (d := d) (ds := ds) r ra, hl, q => ⟨v, vs, rfl, names_run (is := is) (s.set r i) ra (by simpa using hl) q⟩
  | [], _, _, _, _, _, .cons _ _, hl, _ => by simp at hl
  | _ :: _, _, _, _, _, _, .nil, hl, _ => by simp at hl
theorem so_unp {n : Nat} {g : TGs} {is : List Nat} {xs : List Dt} (h : Ev K S S1 ρ te (Eq (.tup xs))) (hg : g = gNames is) (hn : xs.length = n) (hi : xs.length = is.length) (q : Sg K S1 SB SF L w (setAll ρ is xs) P) : Sg K S SB SF L (tSeq (tAsg te (gTup K n g)) w) ρ P := fun D σ B H b i s f =>
  h σ H i s _ fun v d H1 g1 i1 r1 p1 => by
    subst p1 hg
    obtain ⟨a, vs, rfl, ht, ra⟩ := r1.tupI
    exact ⟨a, vs, rfl, ht, ra.len.trans hn, names_run (s.mono g1) ra hi fun σ' s' => q D σ' B H1 (b.up g1) i1 s' f⟩

/-! loops -/
theorem so_forT {j : Nat} {xs : List Dt} (h : Ev K S S ρ tl (Eq (.tup xs))) (J : Nat → List (Option Dt) → Prop) (h0 : J 0 ρ)
    (hs : ∀ i x ρ', xs[i]? = some x → J i ρ' → So K S S [] t (ρ'.set j (some x)) { P with nx := J (i + 1), ct := J (i + 1), bk := P.nx }) (hd : ∀ ρ', J xs.length ρ' → P.nx ρ') : Sg K S SB S L (tFor (iTup K tl) (gName j) t) ρ P := fun D σ B H b i s f0 =>
  have f := f0.mono b.gr
  h σ H i s _ fun v d H1 g1 i1 r1 p1 => by
    subst p1
    obtain ⟨a, vs, rfl, ht, ra⟩ := r1.tupI
    refine ⟨a, rfl, ⟨vs, ht⟩, for_tup (K := K) (a := a) (xs := vs) (fun n σ' H' => Gr H1 H' ∧ S.I H' ∧ ∃ ρ', Slots K H' σ' ρ' ∧ J n ρ') ⟨Gr.refl H1, i1, ρ, s.mono g1, h0⟩ (fun n σ' H' _ p => p.1.sqT ht) (fun n x σ' H' hx p => ?_) fun σ' H' p => ?_⟩
    · obtain ⟨g2, i2, ρ', s2, jn⟩ := p
      obtain ⟨d, hd', rd⟩ := ra.ta hx
      refine hs n d ρ' hd' jn _ _ H' H' ⟨Gr.refl H', i2, fun _ z => nomatch z⟩ i2 (s2.set (rd.mono g2) j) ⟨fun σ3 ρ3 H3 g3 i3 s3 q => ⟨g2.trans g3, i3, ρ3, s3, q⟩, fun v3 d3 H3 g3 => f.rt v3 d3 H3 ((g1.trans g2).trans g3), fun σ3 ρ3 H3 g3 i3 s3 q => f.nx σ3 ρ3 H3 ((g1.trans g2).trans g3) i3 s3 q, fun σ3 ρ3 H3 g3 i3 s3 q => ⟨g2.trans g3, i3, ρ3, s3, q⟩⟩
    · obtain ⟨g2, i2, ρ', s2, jn⟩ := p
      rw [ra.len] at jn
      exact f.nx σ' ρ' H' (g1.trans g2) i2 s2 (hd ρ' jn)
theorem so_forL {j : Nat} {xs : List Dt} (h : Ev K S S ρ tl (Eq (.lst xs))) (J : Nat → List (Option Dt) → Prop) (h0 : J 0 ρ)
    (hs : ∀ i x ρ', xs[i]? = some x → J i ρ' → So K S S [] t (ρ'.set j (some x)) { P with nx := J (i + 1), ct := J (i + 1), bk := P.nx }) (hd : ∀ ρ', J xs.length ρ' → P.nx ρ') : Sg K S SB S L (tFor (iList K tl) (gName j) t) ρ P := fun D σ B H b i s f0 =>
  have f := f0.mono b.gr
  h σ H i s _ fun v d H1 g1 i1 r1 p1 => by
    subst p1
    obtain ⟨a, vs, rfl, ht, ra⟩ := r1.lstI
    refine ⟨a, rfl, ⟨vs, ht⟩, for_list (K := K) (a := a) (xs := vs) (fun n σ' H' => Gr H1 H' ∧ S.I H' ∧ ∃ ρ', Slots K H' σ' ρ' ∧ J n ρ') ⟨Gr.refl H1, i1, ρ, s.mono g1, h0⟩ (fun n σ' H' _ p => p.1.sqL ht) (fun n x σ' H' hx p => ?_) fun σ' H' p => ?_⟩
    · obtain ⟨g2, i2, ρ', s2, jn⟩ := p
      obtain ⟨d, hd', rd⟩ := ra.ta hx
      refine hs n d ρ' hd' jn _ _ H' H' ⟨Gr.refl H', i2, fun _ z => nomatch z⟩ i2 (s2.set (rd.mono g2) j) ⟨fun σ3 ρ3 H3 g3 i3 s3 q => ⟨g2.trans g3, i3, ρ3, s3, q⟩, fun v3 d3 H3 g3 => f.rt v3 d3 H3 ((g1.trans g2).trans g3), fun σ3 ρ3 H3 g3 i3 s3 q => f.nx σ3 ρ3 H3 ((g1.trans g2).trans g3) i3 s3 q, fun σ3 ρ3 H3 g3 i3 s3 q => ⟨g2.trans g3, i3, ρ3, s3, q⟩⟩
    · obtain ⟨g2, i2, ρ', s2, jn⟩ := p
      rw [ra.len] at jn
      exact f.nx σ' ρ' H' (g1.trans g2) i2 s2 (hd ρ' jn)
/-- for i in range(n): what holds may turn with each round (Z) -/
theorem so_forR {j n : Nat} {ta : TA} {Z : Nat → Sta} (h : EvA K S (Z 0) ρ ta (Eq [.int n])) (hn : n < 2 ^ 62) (hz : ∀ i, i ≤ n → (Z i).Le SF) (hup : ∀ i, i < n → (Z i).Le (Z (i + 1))) (J : Nat → List (Option Dt) → Prop) (h0 : J 0 ρ)
    (hs : ∀ (i : Nat) ρ', i < n → J i ρ' → So K (Z i) (Z (i + 1)) [] t (ρ'.set j (some (.int i))) { P with nx := J (i + 1), ct := J (i + 1), bk := P.nx }) (hd : ∀ ρ', J n ρ' → P.nx ρ') : Sg K S SB SF L (tFor (iRng1 ta) (gName j) t) ρ P := fun D σ B H b i s f0 =>
  have f := f0.mono b.gr
  h σ H i s _ fun vs ds H1 g1 i1 r1 p1 => by
    subst p1
    obtain ⟨v, rfl, rv⟩ := r1.oneI
    obtain rfl := rv.intI
    refine ⟨n, rfl, by omega, by omega, ?_⟩
    rw [Int.toNat_natCast]
    refine for_range (lo := 0) (n := n) (fun m σ' H' => Gr H1 H' ∧ (Z m).I H' ∧ ∃ ρ', Slots K H' σ' ρ' ∧ J m ρ') ⟨Gr.refl H1, i1, ρ, s.mono g1, h0⟩ (fun m σ' H' hm p => ?_) fun σ' H' p => ?_
    · obtain ⟨g2, i2, ρ', s2, jn⟩ := p
      rw [Int.zero_add]
      have l := hz (m + 1) hm
      exact hs m ρ' hm jn _ _ H' H' ⟨Gr.refl H', hup m hm _ i2, fun _ z => nomatch z⟩ i2 (s2.set (.int _) j) ⟨fun σ3 ρ3 H3 g3 i3 s3 q => ⟨g2.trans g3, i3, ρ3, s3, q⟩, fun v3 d3 H3 g3 i3 => f.rt v3 d3 H3 ((g1.trans g2).trans g3) (l _ i3), fun σ3 ρ3 H3 g3 i3 s3 q => f.nx σ3 ρ3 H3 ((g1.trans g2).trans g3) (l _ i3) s3 q, fun σ3 ρ3 H3 g3 i3 s3 q => ⟨g2.trans g3, i3, ρ3, s3, q⟩⟩
    · obtain ⟨g2, i2, ρ', s2, jn⟩ := p
      exact f.nx σ' ρ' H' (g1.trans g2) (hz n (Nat.le_refl n) _ i2) s2 (hd ρ' jn)
end

/-! ### E. comprehensions: the list that grows is none of the items' -/
mutual
def nol : Dt → Bool
  | .lst _ => false
  | .lat _ _ => false
  | .tup xs => nolA xs
  | .ins _ _ xs => nolA xs
  | .err _ _ d => nol d
  | .dct ks xs => nolA ks && nolA xs
  | _ => true
def nolA : List Dt → Bool
  | [] => true
  | x :: xs => nol x && nolA xs
end
section
variable {K : PySem.W.Frag} {H : Hp} {D : Addr} {acc : List V} {o : HO}
theorem upd_other {a : Addr} {u : HO} (hD : H D = some (.lst acc)) (ha : H a = some u) (hu : ∀ xs, u ≠ .lst xs) : upd H D o a = some u := by
  rw [upd_ne (fun e => by rw [e, hD] at ha; exact hu acc (Option.some.inj ha).symm)]
  exact ha
mutual
theorem Rep.off (hD : H D = some (.lst acc)) : ∀ {v : V} {d : Dt}, nol d = true → Rep K H v d → Rep K (upd H D o) v d
  | _, _, _, .non => .non
  | _, _, _, .bl b => .bl b
  | _, _, _, .int i => .int i
  | _, _, _, .str x => .str x
  | _, _, h, .lst _ _ => by simp [nol] at h
  | _, _, h, .tup q r => .tup (by
      rcases q with (q | ⟨o', q⟩) | q
      · exact .inl (.inl (upd_other hD q fun _ z => nomatch z))
      · exact .inl (.inr ⟨o', upd_other hD q fun _ z => nomatch z⟩)
      · exact .inr q) (r.off hD (by simpa [nol] using h))
  | _, _, _, .dic h => .dic (upd_other hD h fun _ z => nomatch z)
  | _, _, h, .ins q r => .ins (upd_other hD q fun _ z => nomatch z) (r.off hD (by simpa [nol] using h))
  | _, _, _, .raw v => .raw v
  | _, _, h, .lat _ _ => by simp [nol] at h
  | _, _, h, .err q1 q2 r => .err (upd_other hD q1 fun _ z => nomatch (show HO.ext _ = HO.lst _ from z)) (upd_other hD q2 fun _ z => nomatch z) (r.off hD (by simpa [nol] using h))
  | _, _, h, .dct q r1 r2 => .dct (upd_other hD q fun _ z => nomatch (show HO.ext _ = HO.lst _ from z)) (r1.off hD (Bool.and_eq_true_iff.mp (by simpa only [nol] using h)).1) (r2.off hD (Bool.and_eq_true_iff.mp (by simpa only [nol] using h)).2)
theorem RepA.off (hD : H D = some (.lst acc)) : ∀ {vs : List V} {ds : List Dt}, nolA ds = true → RepA K H vs ds → RepA K (upd H D o) vs ds
  | _, _, _, .nil => .nil
  | _, _, h, .cons q r => by
    simp only [nolA, Bool.and_eq_true] at h
    exact .cons (q.off hD h.1) (r.off hD h.2)
end
end
theorem nolA_app : ∀ {xs ys : List Dt}, nolA (xs ++ ys) = (nolA xs && nolA ys)
  | [], _ => by simp [nolA]
  | x :: xs, ys => by simp only [List.cons_append, nolA, nolA_app, Bool.and_assoc]
theorem nolA_all : ∀ {xs : List Dt}, nolA xs = true ↔ ∀ x ∈ xs, nol x = true
  | [] => by simp [nolA]
  | x :: xs => by simp [nolA, nolA_all]
theorem wipe_set (ν : Option V) (j : Nat) : ∀ (vs : List Nat) (σ : L2.St), (L2.wipe (σ.set j ν) vs).set j none = (L2.wipe σ vs).set j none
  | [], σ => by simp [L2.wipe, List.set_set]
  | v :: vs, σ => by
    show ((L2.wipe (σ.set j ν) vs).set v none).set j none = ((L2.wipe σ vs).set v none).set j none
    by_cases h : v = j
    · subst h
      rw [wipe_set ν v vs σ]
    · rw [List.set_comm _ _ h, wipe_set ν j vs σ, List.set_comm _ _ h]
theorem wipe_in (ν : Option V) (j : Nat) : ∀ (vs : List Nat) (σ : L2.St), j ∈ vs → L2.wipe (σ.set j ν) vs = L2.wipe σ vs
  | v :: vs, σ, h => by
    show (L2.wipe (σ.set j ν) vs).set v none = (L2.wipe σ vs).set v none
    by_cases e : v = j
    · subst e
      exact wipe_set ν v vs σ
    · rw [wipe_in ν j vs σ ((List.mem_cons.mp h).resolve_left (Ne.symm e))]
theorem wipe_comm (j : Nat) : ∀ (vs : List Nat) (σ : L2.St), L2.wipe (σ.set j none) vs = (L2.wipe σ vs).set j none
  | [], σ => rfl
  | v :: vs, σ => by
    show (L2.wipe (σ.set j none) vs).set v none = ((L2.wipe σ vs).set v none).set j none
    rw [wipe_comm j vs σ]
    by_cases e : v = j
    · subst e
      rfl
    · exact List.set_comm _ _ (Ne.symm e)
theorem wipe_twice : ∀ (vs : List Nat) (σ : L2.St), L2.wipe (L2.wipe σ vs) vs = L2.wipe σ vs
  | [], σ => rfl
  | v :: vs, σ => by
    show (L2.wipe ((L2.wipe σ vs).set v none) vs).set v none = (L2.wipe σ vs).set v none
    rw [wipe_set none v vs, wipe_twice vs σ]
theorem wipe_put (ν : Option V) {j : Nat} {vs : List Nat} (σ : L2.St) (h : j ∈ vs) : L2.wipe ((L2.wipe σ vs).set j ν) vs = L2.wipe σ vs := by
  rw [wipe_in ν j vs _ h, wipe_twice]
/-- a list may turn under what holds all along -/
def Sta.Mu (S : Sta) : Prop := ∀ {H1 H : Hp} {D : Addr} {o : HO}, S.I H1 → Gr H1 H → H1 D = none → S.I H → S.I (upd H D o)
theorem gr_off {H1 H : Hp} {D : Addr} {o : HO} (g : Gr H1 H) (h : H1 D = none) : Gr H1 (upd H D o) := fun a u e d => by
  rw [upd_ne (ne_of_none e h)]
  exact g a u e d
section
variable {K : PySem.W.Frag} {S S1 : Sta} {ρ : List (Option Dt)} {te tl : TE} {tt : TT} {vs : List Nat} {j : Nat}
/-- a comprehension over a source whose items are told; every item's data such that Φ i, or left out -/
theorem lc_turns {g : L2.St} {H1 : Hp} {D : Addr} {σ : L2.St} (hmu : ∀ {H2 : Hp} {o : HO}, Gr H1 H2 → S1.I H2 → S1.I (upd H2 D o)) (le : S.Le S1) (hD : H1 D = none) {Z : Nat → List Dt → Prop} {i : Nat} {acc : List V} {ds : List Dt} {x : V} {dx : Dt} {H : Hp} (hj : j ∈ vs)
    {p : Bool} {Φ : Dt → Prop} (s : Slots K H1 σ ρ) (gH : Gr H1 H) (iH : S.I H) (hH : H D = some (.lst acc)) (ra : RepA K H acc ds) (hnol : nolA ds = true) (rx : Rep K H x dx)
    (hz : ds.length < sizeLine) (ht : EvT K S S ((wipeD ρ vs).set j (some dx)) tt (Eq p)) (he : p = true → Ev K S S1 ((wipeD ρ vs).set j (some dx)) te (fun d => Φ d ∧ nol d = true))
    {Pv : Hp → Prop} (hy : p = true → ∀ H' acc' d, Φ d → nol d = true → Gr H1 H' → S1.I H' → H' D = some (.lst acc') → RepA K H' acc' (ds ++ [d]) → Pv H') (hn : p = false → ∀ H', Gr H1 H' → S1.I H' → H' D = some (.lst acc) → RepA K H' acc ds → Pv H') :
    gName j x (L2.wipe σ vs) H fun σ2 H2 => L2.wipe σ2 vs = L2.wipe σ vs ∧ tt σ2 H2 fun b H3 => if b = true then te σ2 H3 fun y H4 => ∃ acc, H4 D = some (.lst acc) ∧ acc.length < sizeLine ∧ Pv (upd H4 D (.lst (acc ++ [y]))) else Pv H3 := by
  refine ⟨wipe_put _ σ hj, ht _ H iH (((s.mono gH).wipe vs).set rx j) _ fun b H3 g3 i3 p3 => ?_⟩
  subst p3
  have hH3 : H3 D = some (.lst acc) := g3 _ _ hH rfl
  cases p with
  | false =>
    rw [if_neg Bool.false_ne_true]
    exact hn rfl H3 (gH.trans g3) (le _ i3) hH3 (ra.mono g3)
  | true =>
    rw [if_pos rfl]
    refine he rfl _ H3 i3 (((s.mono (gH.trans g3)).wipe vs).set (rx.mono g3) j) _ fun y d H4 g4 i4 r4 p4 => ?_
    have hH4 : H4 D = some (.lst acc) := g4 _ _ hH3 rfl
    have ra4 := ra.mono (g3.trans g4)
    refine ⟨acc, hH4, by rw [ra4.len]; exact hz, hy rfl _ (acc ++ [y]) d p4.1 p4.2 (gr_off ((gH.trans g3).trans g4) hD) (hmu ((gH.trans g3).trans g4) i4) upd_same ?_⟩
    exact (ra4.off hH4 hnol).app (.cons (r4.off hH4 p4.2) .nil)
/-- [te for x in a tuple if tt], the element a function of the item -/
theorem ev_lcT {xs : List Dt} {f : Dt → Dt} {p : Dt → Bool} (hmu : S.Mu) (h : Ev K S S ρ tl (Eq (.tup xs))) (hj : j ∈ vs) (hz : xs.length ≤ 100000) (ht : ∀ x ∈ xs, EvT K S S ((wipeD ρ vs).set j (some x)) tt (Eq (p x)))
    (he : ∀ x ∈ xs, p x = true → Ev K S S ((wipeD ρ vs).set j (some x)) te (Eq (f x))) (hf : ∀ x ∈ xs, p x = true → nol (f x) = true) : Ev K S S ρ (tLc (iTup K tl) (gName j) tt te vs) (Eq (.lst ((xs.filter p).map f))) := fun σ H i s Q q =>
  h σ H i s _ fun v d H1 g1 i1 r1 p1 => by
    subst p1
    obtain ⟨a, us, rfl, hT, ra⟩ := r1.tupI
    refine ⟨a, rfl, ⟨us, hT⟩, fun D hD => lc_tup (K := K) (a := a) (xs := us) (fun n H' => Gr H1 H' ∧ S.I H' ∧ ∃ acc, H' D = some (.lst acc) ∧ RepA K H' acc (((xs.take n).filter p).map f)) ⟨(same_new hD).gr, S.st i1 (same_new hD), [], upd_same, .nil⟩
      (fun n H' _ q' => q'.1.sqT hT) (fun n x H' hx q' => ?_) fun H' q' => ?_⟩
    · obtain ⟨g2, i2, acc, ha, rac⟩ := q'
      obtain ⟨dx, hdx, rdx⟩ := ra.ta hx
      have hmem : dx ∈ xs := List.mem_of_getElem? hdx
      have htake : xs.take (n + 1) = xs.take n ++ [dx] := by rw [List.take_add_one, hdx]; rfl
      have hnol : nolA (((xs.take n).filter p).map f) = true := nolA_all.mpr fun y hy => by
        obtain ⟨z, hz1, rfl⟩ := List.mem_map.mp hy
        obtain ⟨hz2, hz3⟩ := List.mem_filter.mp hz1
        exact hf z (List.mem_of_mem_take hz2) hz3
      refine lc_turns (g := σ) (Z := fun _ _ => True) (i := n) (acc := acc) (ds := ((xs.take n).filter p).map f) (dx := dx) (p := p dx) (Φ := Eq (f dx)) (S := S) (S1 := S) (fun g i => hmu i1 g hD i) (Sta.Le.refl S) hD hj (s.mono g1) g2 i2 ha rac hnol (rdx.mono g2) ?_ (ht dx hmem) (fun e => (he dx hmem e).weak fun d e2 => ⟨e2, e2 ▸ hf dx hmem e⟩) (fun e H2 acc' d e1 _ g3 i3 h3 r3 => ?_) fun e H2 g3 i3 h3 r3 => ?_
      · rw [List.length_map]
        refine Nat.lt_of_le_of_lt (List.length_filter_le _ _) ?_
        refine Nat.lt_of_le_of_lt (List.length_take_le _ _) (Nat.lt_of_le_of_lt (Nat.le_trans (Nat.le_of_lt ?_) hz) (by decide))
        have := (List.getElem?_eq_some_iff.mp hdx).1
        exact this
      · subst e1
        refine ⟨g3, i3, acc', h3, ?_⟩
        rw [htake, List.filter_append, List.map_append]
        simpa [List.filter_cons, e] using r3
      · refine ⟨g3, i3, acc, h3, ?_⟩
        rw [htake, List.filter_append, List.map_append]
        simpa [List.filter_cons, e] using r3
    · obtain ⟨g2, i2, acc, ha, rac⟩ := q'
      rw [ra.len, List.take_length] at rac
      exact q _ _ H' (g1.trans g2) i2 (.lst (SqL.of ha) rac) rfl
theorem ev_lcL {xs : List Dt} {f : Dt → Dt} {p : Dt → Bool} (hmu : S.Mu) (h : Ev K S S ρ tl (Eq (.lst xs))) (hj : j ∈ vs) (hz : xs.length ≤ 100000) (ht : ∀ x ∈ xs, EvT K S S ((wipeD ρ vs).set j (some x)) tt (Eq (p x)))
    (he : ∀ x ∈ xs, p x = true → Ev K S S ((wipeD ρ vs).set j (some x)) te (Eq (f x))) (hf : ∀ x ∈ xs, p x = true → nol (f x) = true) : Ev K S S ρ (tLc (iList K tl) (gName j) tt te vs) (Eq (.lst ((xs.filter p).map f))) := fun σ H i s Q q =>
  h σ H i s _ fun v d H1 g1 i1 r1 p1 => by
    subst p1
    obtain ⟨a, us, rfl, hT, ra⟩ := r1.lstI
    refine ⟨a, rfl, ⟨us, hT⟩, fun D hD => lc_list (K := K) (a := a) (xs := us) (fun n H' => Gr H1 H' ∧ S.I H' ∧ ∃ acc, H' D = some (.lst acc) ∧ RepA K H' acc (((xs.take n).filter p).map f)) ⟨(same_new hD).gr, S.st i1 (same_new hD), [], upd_same, .nil⟩
      (fun n H' _ q' => q'.1.sqL hT) (fun n x H' hx q' => ?_) fun H' q' => ?_⟩
    · obtain ⟨g2, i2, acc, ha, rac⟩ := q'
      obtain ⟨dx, hdx, rdx⟩ := ra.ta hx
      have hmem : dx ∈ xs := List.mem_of_getElem? hdx
      have htake : xs.take (n + 1) = xs.take n ++ [dx] := by rw [List.take_add_one, hdx]; rfl
      have hnol : nolA (((xs.take n).filter p).map f) = true := nolA_all.mpr fun y hy => by
        obtain ⟨z, hz1, rfl⟩ := List.mem_map.mp hy
        obtain ⟨hz2, hz3⟩ := List.mem_filter.mp hz1
        exact hf z (List.mem_of_mem_take hz2) hz3
      refine lc_turns (g := σ) (Z := fun _ _ => True) (i := n) (acc := acc) (ds := ((xs.take n).filter p).map f) (dx := dx) (p := p dx) (Φ := Eq (f dx)) (S := S) (S1 := S) (fun g i => hmu i1 g hD i) (Sta.Le.refl S) hD hj (s.mono g1) g2 i2 ha rac hnol (rdx.mono g2) ?_ (ht dx hmem) (fun e => (he dx hmem e).weak fun d e2 => ⟨e2, e2 ▸ hf dx hmem e⟩) (fun e H2 acc' d e1 _ g3 i3 h3 r3 => ?_) fun e H2 g3 i3 h3 r3 => ?_
      · rw [List.length_map]
        refine Nat.lt_of_le_of_lt (List.length_filter_le _ _) ?_
        refine Nat.lt_of_le_of_lt (List.length_take_le _ _) (Nat.lt_of_le_of_lt (Nat.le_trans (Nat.le_of_lt ?_) hz) (by decide))
        have := (List.getElem?_eq_some_iff.mp hdx).1
        exact this
      · subst e1
        refine ⟨g3, i3, acc', h3, ?_⟩
        rw [htake, List.filter_append, List.map_append]
        simpa [List.filter_cons, e] using r3
      · refine ⟨g3, i3, acc, h3, ?_⟩
        rw [htake, List.filter_append, List.map_append]
        simpa [List.filter_cons, e] using r3
    · obtain ⟨g2, i2, acc, ha, rac⟩ := q'
      rw [ra.len, List.take_length] at rac
      exact q _ _ H' (g1.trans g2) i2 (.lst (SqL.of ha) rac) rfl
/-- [te for x in range(n)], every element such that Φ; what holds may turn with each -/
theorem ev_lcRP {ta : TA} {n : Nat} {Φ : Dt → Prop} {Z : Nat → Sta} (hmu : ∀ {m m' : Nat} {H1 H : Hp} {D : Addr} {o : HO}, (Z m).I H1 → Gr H1 H → H1 D = none → (Z m').I H → (Z m').I (upd H D o)) (hle : ∀ m, (Z m).Le (Z (m + 1))) (h : EvA K S (Z 0) ρ ta (Eq [.int n])) (hn : n ≤ 100000) (hj : j ∈ vs)
    (he : ∀ i : Nat, i < n → Ev K (Z i) (Z (i + 1)) ((wipeD ρ vs).set j (some (.int i))) te (fun d => Φ d ∧ nol d = true)) :
    Ev K S (Z n) ρ (tLc (iRng1 ta) (gName j) tYes te vs) (fun d => ∃ ds, d = .lst ds ∧ ds.length = n ∧ nolA ds = true ∧ ∀ x ∈ ds, Φ x) := fun σ H i s Q q =>
  h σ H i s _ fun ws es H1 g1 i1 r1 p1 => by
    subst p1
    obtain ⟨v, rfl, rv⟩ := r1.oneI
    obtain rfl := rv.intI
    refine ⟨n, rfl, by omega, by omega, fun D hD => ?_⟩
    rw [Int.toNat_natCast]
    refine lc_range (lo := 0) (n := n) (fun m H' => Gr H1 H' ∧ (Z m).I H' ∧ ∃ acc ds, H' D = some (.lst acc) ∧ RepA K H' acc ds ∧ ds.length = m ∧ nolA ds = true ∧ ∀ x ∈ ds, Φ x) ⟨(same_new hD).gr, (Z 0).st i1 (same_new hD), [], [], upd_same, .nil, rfl, rfl, fun _ z => nomatch z⟩
      (fun m H' hm q' => ?_) fun H' q' => ?_
    · obtain ⟨g2, i2, acc, ds, ha, rac, hl, hno, hph⟩ := q'
      rw [Int.zero_add]
      refine lc_turns (g := σ) (Z := fun _ _ => True) (i := m) (acc := acc) (ds := ds) (dx := .int m) (p := true) (Φ := Φ) (S := Z m) (S1 := Z (m + 1)) (fun g i => hmu i1 g hD i) (hle m) hD hj (s.mono g1) g2 i2 ha rac hno (.int _) (Nat.lt_of_lt_of_le (by rw [hl]; exact Nat.lt_of_lt_of_le hm hn) (by decide)) et_yes (fun _ => he m hm) (fun e H2 acc' d e1 e2 g3 i3 h3 r3 => ?_) fun e => nomatch e
      refine ⟨g3, i3, acc', ds ++ [d], h3, r3, by rw [List.length_append, hl]; rfl, by rw [nolA_app, hno]; simp [nolA, e2], fun x hx => ?_⟩
      rcases List.mem_append.mp hx with hx | hx
      · exact hph x hx
      · rw [List.mem_singleton.mp hx]
        exact e1
    · obtain ⟨g2, i2, acc, ds, ha, rac, hl, hno, hph⟩ := q'
      exact q _ _ H' (g1.trans g2) i2 (.lst (SqL.of ha) rac) ⟨ds, rfl, hl, hno, hph⟩
end

/-- all that was is as it was -/
def staSameQ (H : Hp) : Sta := ⟨fun H' => Same H H', fun a b => a.trans b⟩
/-! lists that may be changed -/
section
variable {K : PySem.W.Frag} {S SB SF : Sta} {L : List Addr} {ρ : List (Option Dt)} {P : Po} {te : TE} {w : TS} {x d : Dt} {D : Ends} {H H' : Hp}
/-- a list that is made on the way: it is new at some H1 in between, nothing else knows it -/
def EvN (K : PySem.W.Frag) (S S' : Sta) (ρ : List (Option Dt)) (te : TE) (xs : List Dt) : Prop := ∀ (σ : L2.St) (H : Hp), S.I H → Slots K H σ ρ → ∀ Q : VK,
  (∀ p vs H1 H', Gr H H1 → S'.I H1 → H1 p = none → Gr H1 H' → S'.I H' → H' p = some (.lst vs) → RepA K H' vs xs → Q (.ref p) H') → te σ H Q
theorem EvN.ev {S1 : Sta} {xs : List Dt} (h : EvN K S S1 ρ te xs) : Ev K S S1 ρ te (Eq (.lst xs)) := fun σ H i s Q q => h σ H i s Q fun p vs H1 H' g _ _ g2 i' e r => q _ _ H' (g.trans g2) i' (.lst (SqL.of e) r) rfl
theorem EvN.to {S1 : Sta} {xs ys : List Dt} (h : EvN K S S1 ρ te xs) (e : xs = ys) : EvN K S S1 ρ te ys := e ▸ h
theorem so_new {S1 : Sta} {j : Nat} {xs : List Dt} (h : EvN K S S1 ρ te xs) (l : S1.Le SF) (q : ∀ p, So K S1 SF [p] w (ρ.set j (some (.lat p xs))) P) : Sg K S SB SF L (tSeq (tAsg te (gName j)) w) ρ P := fun D σ B H b i s f =>
  h σ H i s _ fun p vs H1 H2 g1 i1 hp g2 i2 e r => q p D _ H1 H2 ⟨g2, l _ i1, fun a ha => by rw [List.mem_singleton.mp ha]; exact hp⟩ i2 ((s.mono (g1.trans g2)).set (.lat e r) j) (f.mono (b.gr.trans g1))
theorem same_none {H0 H : Hp} {p : Addr} (s : Same H0 H) (h : H p = none) : H0 p = none := by
  cases e : H0 p with
  | none => rfl
  | some o =>
    rw [s p o e] at h
    cases h
/-- new since H0 -/
theorem so_newS {H0 : Hp} {j : Nat} {xs : List Dt} (h : EvN K (staSameQ H0) (staSameQ H0) ρ te xs) (q : ∀ p, H0 p = none → Sg K (staSameQ H0) SB SF L w (ρ.set j (some (.lat p xs))) P) : Sg K (staSameQ H0) SB SF L (tSeq (tAsg te (gName j)) w) ρ P := fun D σ B H b i s f =>
  h σ H i s _ fun p vs H1 H2 g1 i1 hp g2 i2 e r => q p (same_none i1 hp) D _ B H2 (b.up (g1.trans g2)) i2 ((s.mono (g1.trans g2)).set (.lat e r) j) f
theorem so_newS0 {H0 : Hp} {j : Nat} {xs : List Dt} (h : EvN K (staSameQ H0) (staSameQ H0) ρ te xs) (l : (staSameQ H0).Le SF) (q : ∀ p, H0 p = none → P.nx (ρ.set j (some (.lat p xs)))) : Sg K (staSameQ H0) SB SF L (tAsg te (gName j)) ρ P := fun D σ B H b i s f =>
  h σ H i s _ fun p vs H1 H2 g1 i1 hp g2 i2 e r => f.nx _ _ H2 ((b.gr.trans g1).trans g2) (l _ i2) ((s.mono (g1.trans g2)).set (.lat e r) j) (q p (same_none i1 hp))
theorem en_lst {S1 : Sta} {t : TA} {ds : List Dt} (h : EvA K S S1 ρ t (Eq ds)) (hz : ds.length ≤ sizeLine) : EvN K S S1 ρ (tLst t) ds := fun σ H i s Q q =>
  h σ H i s _ fun vs ds' H1 g1 i1 r1 e => by
    subst e
    exact ⟨by rw [r1.len]; exact hz, fun p hp => q p vs H1 _ g1 i1 hp (same_new hp).gr (S1.st i1 (same_new hp)) upd_same (r1.mono (same_new hp).gr)⟩
/-- a def that makes a new list -/
def spN (K : PySem.W.Frag) (n : Nat) (pre : List Dt → Prop) (F : List Dt → List Dt) : Sp := fun vs H Q _ => ∃ ds, RepA K H vs ds ∧ ds.length = n ∧ pre ds ∧ ∀ p us H', Same H H' → H p = none → H' p = some (.lst us) → RepA K H' us (F ds) → Q (.ref p) H'
theorem en_call {S1 : Sta} {t : TA} {ds : List Dt} {n : Nat} {pre : List Dt → Prop} {F : List Dt → List Dt} {E : XK} (ha : EvA K S S1 ρ t (Eq ds)) (hn : ds.length = n) (hp : pre ds) : EvN K S S1 ρ (tCall (spN K n pre F) [] E t) (F ds) := fun σ H i s Q q =>
  ha σ H i s _ fun vs ds' H1 g1 i1 r1 p1 => by
    subst p1
    rw [List.append_nil]
    exact ⟨ds, r1, hn, hp, fun p us H2 sm hp e r => q p us H1 H2 g1 i1 hp sm.gr (S1.st i1 sm) e r⟩
theorem en_callW {S1 : Sta} {t : TA} {ds es : List Dt} {n m : Nat} {gV : List V → List V} {pre : List Dt → Prop} {F : List Dt → List Dt} {E : XK} (ha : EvA K S S1 ρ t (Eq es)) (hm : es.length = m) (hg : ∀ H vs, RepA K H vs es → RepA K H (gV vs) ds) (hn : ds.length = n) (hp : pre ds) :
    EvN K S S1 ρ (tCallW (spN K n pre F) m gV E t) (F ds) := fun σ H i s Q q =>
  ha σ H i s _ fun vs ds' H1 g1 i1 r1 p1 => by
    subst p1
    exact ⟨r1.len.trans hm, ds, hg _ _ r1, hn, hp, fun p us H2 sm hp e r => q p us H1 H2 g1 i1 hp sm.gr (S1.st i1 sm) e r⟩
/-- the other slots hold no lists -/
def NoLists (ρ : List (Option Dt)) (j : Nat) : Prop := ∀ (i : Nat) (d : Dt), i ≠ j → ρ[i]? = some (some d) → nol d = true
/-- what holds bears that a loose list is changed -/
def Loose (S SF : Sta) : Prop := ∀ {B H : Hp} {p : Addr} {vs : List V} {o : HO}, SF.I B → Gr B H → B p = none → H p = some (.lst vs) → S.I H → S.I (upd H p o)
theorem slots_off {σ : L2.St} {p : Addr} {vs : List V} {xs : List Dt} {o : HO} {j : Nat} (s : Slots K H σ ρ) (hj : ρ[j]? = some (some (.lat p xs))) (hn : NoLists ρ j) (hp : H p = some (.lst vs)) {ds : List Dt} {us : List V} (r : RepA K (upd H p (.lst us)) us ds) : Slots K (upd H p (.lst us)) σ (ρ.set j (some (.lat p ds))) := by
  refine ⟨by rw [List.length_set]; exact s.len, fun i d h => ?_⟩
  by_cases hij : j = i
  · subst hij
    have hl : j < ρ.length := (List.getElem?_eq_some_iff.mp hj).1
    rw [List.getElem?_set_self hl] at h
    cases h
    obtain ⟨v, hv, rv⟩ := s.val j _ hj
    obtain ⟨rfl, _⟩ := rv.latI
    exact ⟨_, hv, .lat upd_same r⟩
  · rw [List.getElem?_set_ne hij] at h
    obtain ⟨v, hv, rv⟩ := s.val i d h
    exact ⟨v, hv, rv.off hp (hn i d (Ne.symm hij) h)⟩
/-- xs.append(e), xs a loose list -/
theorem so_app {p : Addr} {j : Nat} {xs : List Dt} (hL : p ∈ L) (hlo : Loose S SB) (hj : ρ[j]? = some (some (.lat p xs))) (hx : nolA xs = true) (hn : NoLists ρ j) (hz : xs.length < 100000) (h : Ev K S S ρ te (Eq d)) (hd : nol d = true)
    (q : Sg K S SB SF L w (ρ.set j (some (.lat p (xs ++ [d])))) P) : Sg K S SB SF L (tSeq (tDrop (tBM K "list" rAppend (tVar j) (tCons te tNil))) w) ρ P := fun D σ B H b i s f => by
  obtain ⟨v, hv, rv⟩ := s.val j _ hj
  obtain ⟨rfl, vs, hp, ra⟩ := rv.latI
  refine ⟨.ref p, hv, .inl ⟨rfl, _, SqL.of hp⟩, ?_⟩
  refine h σ H i s _ fun u d' H1 g1 i1 r1 e => ?_
  subst e
  have hp1 : H1 p = some (.lst vs) := g1 _ _ hp rfl
  have ra1 := ra.mono g1
  refine ⟨p, vs, u, rfl, rfl, hp1, by rw [ra1.len]; exact Nat.lt_of_lt_of_le hz (by decide), ?_⟩
  have g2 := b.gr.trans g1
  refine q D σ B _ ⟨gr_off g2 (b.new p hL), b.i, b.new⟩ (hlo b.i g2 (b.new p hL) hp1 i1) (slots_off (o := .lst vs) (s.mono g1) hj hn hp1 ?_) f
  exact (ra1.off hp1 hx).app (.cons (r1.off hp1 hd) .nil)
theorem loose_same {H0 : Hp} : Loose (staSameQ H0) (staSameQ H0) := fun {B H p vs o} i0 g hp _ i => by
  intro a u e
  have ha : a ≠ p := fun z => by
    have y := i0 a u e
    rw [z, hp] at y
    cases y
  rw [upd_ne ha]
  exact i a u e
end
end Bf
namespace Bf
open PySem PySem.Spec PyProof.Rows L2

/-! ### F. what kind a thing is -/
/-- the name of a thing's class (not of an instance, not of a value by itself) -/
def tyN : Dt → Option String
  | .non => some "NoneType"
  | .bl _ => some "bool"
  | .int _ => some "int"
  | .str _ => some "str"
  | .lst _ => some "list"
  | .tup _ => some "tuple"
  | .dic => some "dict"
  | .raw (.ty _) => none
  | _ => none
section
variable {K : PySem.W.Frag} {S : Sta} {ρ : List (Option Dt)} {H : Hp} {d : Dt} {v : V} {n T : String}
theorem Rep.ty (r : Rep K H v d) (h : tyN d = some n) : TyX K H v (.type n) := by
  cases r with
  | non => cases h; exact .base .non
  | bl b => cases h; exact .base (.bl b)
  | int i => cases h; exact .base (.int i)
  | str x => cases h; exact .base (.str x)
  | lst q r =>
    cases h
    rcases q with (q | ⟨o, q⟩) | ⟨o, its, n, hk, hc, _⟩
    · exact .base (.lst q)
    · exact .base (.frz q)
    · exact .kList hk hc
  | tup q r =>
    cases h
    rcases q with (q | ⟨o, q⟩) | ⟨o, its, n, hk, hc, _⟩
    · exact .base (.tup q)
    · exact .fTuple q
    · exact .kTuple hk hc
  | dic q => cases h; exact .base (.dK q)
  | ins q r => cases h
  | raw v => cases v <;> cases h
  | lat q r => cases h
  | err q1 q2 r => cases h
  | dct q r1 r2 => cases h
theorem rc_isi {b : Bool} (h : tyN d = some n) (hk : kitB n T = some b) : RvC K S (rIsi K) [d, .raw (.ty T)] (Eq (.bl b)) := rc_at fun H vs i r Q q => by
  obtain ⟨v, u, rfl, r1, r2⟩ := r.twoI
  obtain rfl := r2.rawI
  exact ⟨v, .ty T, _, _, b, rfl, .ty T, r1.ty h, kit_ty hk, q _ (.bl b)⟩
end

/-! ### G. == and repr of data without dicts, instances -/
mutual
def py : Dt → PyData
  | .non => .none
  | .bl b => .bool b
  | .int i => .int i
  | .str x => .str x
  | .lst xs => .list (pyA xs)
  | .tup xs => .tuple (pyA xs)
  | .dic => .dict []
  | .ins _ _ _ => .none
  | .raw _ => .none
  | .lat _ _ => .none
  | .err _ _ _ => .none
  | .dct _ _ => .none
def pyA : List Dt → List PyData
  | [] => []
  | x :: xs => py x :: pyA xs
end
mutual
/-- no dict, no instance, no value by itself -/
def pur : Dt → Bool
  | .lst xs => purA xs
  | .tup xs => purA xs
  | .dic => false
  | .ins _ _ _ => false
  | .raw _ => false
  | .lat _ _ => false
  | .err _ _ _ => false
  | .dct _ _ => false
  | _ => true
def purA : List Dt → Bool
  | [] => true
  | x :: xs => pur x && purA xs
end
section
variable {K : PySem.W.Frag} {H : Hp}
mutual
theorem Rep.dp : ∀ {v : V} {d : Dt}, pur d = true → Rep K H v d → Dp K H v (py d)
  | _, _, _, .non => by unfold py; exact .non
  | _, _, _, .bl b => by unfold py; exact .bl b
  | _, _, _, .int i => by unfold py; exact .int i
  | _, _, _, .str x => by unfold py; exact .str x
  | _, _, h, .lst q r => by unfold py; exact .lst q (r.dp (by simpa [pur] using h))
  | _, _, h, .tup q r => by unfold py; exact .tup q (r.dp (by simpa [pur] using h))
  | _, _, h, .dic _ => by simp [pur] at h
  | _, _, h, .ins _ _ => by simp [pur] at h
  | _, _, h, .raw _ => by simp [pur] at h
  | _, _, h, .lat _ _ => by simp [pur] at h
  | _, _, h, .err _ _ _ => by simp [pur] at h
  | _, _, h, .dct _ _ _ => by simp [pur] at h
theorem RepA.dp : ∀ {vs : List V} {ds : List Dt}, purA ds = true → RepA K H vs ds → DpAll K H vs (pyA ds)
  | _, _, _, .nil => by unfold pyA; exact .nil
  | _, _, h, .cons q r => by
    simp only [purA, Bool.and_eq_true] at h
    unfold pyA
    exact .cons (q.dp h.1) (r.dp h.2)
end
end
/-- fit to be compared -/
def cmpOk (d : Dt) : Bool := pur d && SeqAt.shaped (py d)
section
variable {K : PySem.W.Frag} {S : Sta} {x y : Dt}
theorem rv_eqD (hx : cmpOk x = true) (hy : cmpOk y = true) : Rv2 K S (rEqD K) x y (Eq (.bl (PyData.eqv (py x) (py y)))) := rv_at fun H v u _ r1 r2 Q q => by
  simp only [cmpOk, Bool.and_eq_true] at hx hy
  exact ⟨_, _, r1.dp hx.1, r2.dp hy.1, hx.2, hy.2, q _ (.bl _)⟩
theorem rv_neD (hx : cmpOk x = true) (hy : cmpOk y = true) : Rv2 K S (rNeD K) x y (Eq (.bl (!PyData.eqv (py x) (py y)))) := rv_at fun H v u _ r1 r2 Q q => by
  simp only [cmpOk, Bool.and_eq_true] at hx hy
  exact ⟨_, _, r1.dp hx.1, r2.dp hy.1, hx.2, hy.2, q _ (.bl _)⟩
end
/-- repr(x) -/
def rRepr (K : PySem.W.Frag) : List V → Hp → VK → Prop := fun xs H Q => ∃ x d, xs = [x] ∧ Dp K H x d ∧ d.showable = true ∧ SeqAt.shaped d = true ∧ d.shown.length ≤ sizeLine ∧ Q (.str d.shown) H
theorem call_reprD {X : Cx} (hg : X.A.guards = some []) (hu : X.A.units + 70 < cLine) : CallR X (.builtin "repr") (rRepr X.K) := by
  intro pins s σ H xs us Q I r h
  obtain ⟨x, d, rfl, hd, hs, hsh, hz, q⟩ := h
  obtain ⟨u, rfl, ru⟩ := vals1 r
  have hq : ∀ t, EP X pins σ Q (.str d.shown t) { s with toks := s.toks + 1 } := fun t => ⟨.str _, H, I.tok _, ⟨_, rfl⟩, q⟩
  cases hd with
  | non => cases ru; exact PySem.P.repr_of_none (by simpa [PyData.shown] using hq _)
  | bl b => cases ru; exact PySem.P.repr_of_bool (by simpa [PyData.shown] using hq _)
  | int i =>
    obtain ⟨t, rfl⟩ := ru
    exact PySem.P.repr_of_int (by simpa [PyData.showable] using hs) (by simpa [PyData.shown] using hq _)
  | str y =>
    obtain ⟨t, rfl⟩ := ru
    exact PySem.P.repr_of_str (by simpa [PyData.shown] using hq _) (by simpa [PyData.shown] using hz)
  | lst q1 q2 =>
    cases ru
    obtain ⟨as, rd⟩ := Dp.reads I _ _ _ (Dp.lst q1 q2) rfl
    have hdep := SeqAt.depth_of_shaped hsh
    exact repr_of_reads' rd hs (PyData.noDict_hsm (PyData.hasDict_of_canLay _ (SeqAt.canLay_of_shaped hsh))) hg (by omega) (fun _ _ e => e) (fun h' u tk hk => ⟨.str _, H, I.kept (t' := tk) hk, ⟨_, rfl⟩, q⟩) hz
  | tup q1 q2 =>
    cases ru
    obtain ⟨as, rd⟩ := Dp.reads I _ _ _ (Dp.tup q1 q2) rfl
    have hdep := SeqAt.depth_of_shaped hsh
    exact repr_of_reads' rd hs (PyData.noDict_hsm (PyData.hasDict_of_canLay _ (SeqAt.canLay_of_shaped hsh))) hg (by omega) (fun _ _ e => e) (fun h' u tk hk => ⟨.str _, H, I.kept (t' := tk) hk, ⟨_, rfl⟩, q⟩) hz
/-- fit to be shown -/
def shwOk (d : Dt) : Prop := cmpOk d = true ∧ (py d).showable = true ∧ (py d).shown.length ≤ sizeLine
theorem rc_repr {K : PySem.W.Frag} {S : Sta} {d : Dt} (h : shwOk d) : RvC K S (rRepr K) [d] (Eq (.str (py d).shown)) := rc_at fun H vs i r Q q => by
  obtain ⟨v, rfl, rv⟩ := r.oneI
  have h1 := h.1
  simp only [cmpOk, Bool.and_eq_true] at h1
  exact ⟨v, _, rfl, rv.dp h1.1, h.2.1, h1.2, h.2.2, q _ (.str _)⟩

/-! ### H. lists joined, whatever their lists are -/
def rCatS (K : PySem.W.Frag) : R2 := fun x y H Q => ∃ l b xs zs, x = .ref l ∧ y = .ref b ∧ SqL K H l xs ∧ SqL K H b zs ∧ xs.length + zs.length ≤ sizeLine ∧ ∀ p, H p = none → Q (.ref p) (upd H p (.lst (xs ++ zs)))
theorem op_catS {X : Cx} : OpR X (binaryOp .Add) (rCatS X.K) := by
  intro pins s σ H x y v u Q I rx ry h
  obtain ⟨l, b, xs, zs, rfl, rfl, h1, h2, hz, q⟩ := h
  cases rx
  cases ry
  obtain ⟨its, r1, ⟨⟨c1, d1, dt1, sl1⟩, n1, o1, e1, _, f1⟩, _⟩ := I.list h1
  obtain ⟨jts, r2, ⟨⟨c2, d2, dt2, sl2⟩, n2, o2, e2, _, f2⟩, _⟩ := I.list h2
  simp only at e1 e2 f1 f2
  subst e1 e2 f1 f2
  have l1 := r1.length
  have l2 := r2.length
  refine concat_meets ⟨_, o1, rfl⟩ ⟨_, o2, rfl⟩ noFill_list_add seq_list_add PySem.F.slot_list_add PySem.F.entry_list_add (PySem.F.args_list_add_2 _ _)
    (list_addW l b its.toArray jts.toArray n1 n2 d1 d2 sl1 sl2 (by rw [List.size_toArray, List.size_toArray]; omega)) ⟨o1, o2, ?_⟩
  rw [show its.toArray ++ jts.toArray = (its ++ jts).toArray by simp]
  exact ⟨.ref _, _, I.lnew (t' := s.toks) (r1.append r2) (by rw [List.length_append]; omega), rfl, q _ I.fresh⟩
section
variable {K : PySem.W.Frag} {S : Sta} {ρ : List (Option Dt)} {x y d : Dt}
theorem rv_catL {xs ys : List Dt} (hz : xs.length + ys.length ≤ sizeLine) : Rv2 K S (rCatS K) (.lst xs) (.lst ys) (Eq (.lst (xs ++ ys))) := fun H v u i r1 r2 Q q => by
  obtain ⟨a, vs, rfl, h1, ra⟩ := r1.lstI
  obtain ⟨b, us, rfl, h2, rb⟩ := r2.lstI
  exact ⟨a, b, vs, us, rfl, rfl, h1, h2, by rw [ra.len, rb.len]; exact hz, fun p hp => q _ _ _ (same_new hp).gr (S.st i (same_new hp)) (.lst (SqL.of upd_same) ((ra.app rb).mono (same_new hp).gr)) rfl⟩
/-! tuple(..), list(..) -/
def rTupO (K : PySem.W.Frag) : List V → Hp → VK → Prop := fun xs H Q => ∃ p ys, xs = [.ref p] ∧ ((SqL K H p ys ∧ ∀ l, H l = none → Q (.ref l) (upd H l (.tup ys))) ∨ (SqT K H p ys ∧ Q (.ref p) H))
def rLstO (K : PySem.W.Frag) : List V → Hp → VK → Prop := fun xs H Q => ∃ p ys, xs = [.ref p] ∧ (SqL K H p ys ∨ SqT K H p ys) ∧ ∀ l, H l = none → Q (.ref l) (upd H l (.lst ys))
theorem rc_tupL {xs : List Dt} : RvC K S (rTupO K) [.lst xs] (Eq (.tup xs)) := fun H vs i r Q q => by
  obtain ⟨v, rfl, r1⟩ := r.oneI
  obtain ⟨a, us, rfl, h, ra⟩ := r1.lstI
  exact ⟨a, us, rfl, .inl ⟨h, fun p hp => q _ _ _ (same_new hp).gr (S.st i (same_new hp)) (.tup (SqT.of upd_same) (ra.mono (same_new hp).gr)) rfl⟩⟩
theorem rc_tupT {xs : List Dt} : RvC K S (rTupO K) [.tup xs] (Eq (.tup xs)) := fun H vs i r Q q => by
  obtain ⟨v, rfl, r1⟩ := r.oneI
  obtain ⟨a, us, rfl, h, ra⟩ := r1.tupI
  exact ⟨a, us, rfl, .inr ⟨h, q _ _ H (Gr.refl H) i (.tup h ra) rfl⟩⟩
theorem rc_lstT {xs : List Dt} : RvC K S (rLstO K) [.tup xs] (Eq (.lst xs)) := fun H vs i r Q q => by
  obtain ⟨v, rfl, r1⟩ := r.oneI
  obtain ⟨a, us, rfl, h, ra⟩ := r1.tupI
  exact ⟨a, us, rfl, .inr h, fun p hp => q _ _ _ (same_new hp).gr (S.st i (same_new hp)) (.lst (SqL.of upd_same) (ra.mono (same_new hp).gr)) rfl⟩
theorem rc_lstL {xs : List Dt} : RvC K S (rLstO K) [.lst xs] (Eq (.lst xs)) := fun H vs i r Q q => by
  obtain ⟨v, rfl, r1⟩ := r.oneI
  obtain ⟨a, us, rfl, h, ra⟩ := r1.lstI
  exact ⟨a, us, rfl, .inl h, fun p hp => q _ _ _ (same_new hp).gr (S.st i (same_new hp)) (.lst (SqL.of upd_same) (ra.mono (same_new hp).gr)) rfl⟩
/-! int(True) -/
def rInt1 : List V → Hp → VK → Prop := fun xs H Q => (∃ i, xs = [.int i] ∧ Q (.int i) H) ∨ ∃ k, xs = [.bl k] ∧ Q (.int (if k then 1 else 0)) H
theorem rc_intI {i : Int} : RvC K S rInt1 [.int i] (Eq (.int i)) := rc_at fun H vs _ r Q q => by
  obtain ⟨v, rfl, r1⟩ := r.oneI
  obtain rfl := r1.intI
  exact .inl ⟨i, rfl, q _ (.int i)⟩
theorem rc_intB {b : Bool} : RvC K S rInt1 [.bl b] (Eq (.int (if b then 1 else 0))) := rc_at fun H vs _ r Q q => by
  obtain ⟨v, rfl, r1⟩ := r.oneI
  obtain rfl := r1.blI
  exact .inr ⟨b, rfl, q _ (.int _)⟩
/-! in a written tuple of ints -/
theorem any_ints {H : Hp} (i : Int) : ∀ (ns : List Int), inV (.int i) (ns.map V.int) = decide (i ∈ ns)
  | [] => by simp [inV]
  | n :: ns => by
    have ih := any_ints (H := H) i ns
    unfold inV at ih ⊢
    rw [List.map_cons, List.any_cons, ih]
    have e : eqV (.int n) (.int i) = decide (n = i) := by
      unfold eqV
      by_cases h : n = i
      · simp [h]
      · simp [h]
    rw [e]
    by_cases h : n = i
    · simp [h]
    · by_cases h2 : i ∈ ns
      · simp [h, h2]
      · simp [h, h2, Ne.symm h]
theorem rv_inT {i : Int} {ns : List Int} : Rv2 K S (rIn K false) (.int i) (.tup (ns.map Dt.int)) (Eq (.bl (decide (i ∈ ns)))) := rv_at fun H v u _ r1 r2 Q q => by
  obtain rfl := r1.intI
  obtain ⟨a, vs, rfl, ht, ra⟩ := r2.tupI
  refine ⟨a, vs, rfl, .inr ht, rfl, ?_, ?_⟩
  · rw [ra.ints, List.all_eq_true]
    intro y hy
    obtain ⟨n, _, rfl⟩ := List.mem_map.mp hy
    rfl
  · rw [if_neg Bool.false_ne_true, ra.ints, any_ints (H := H)]
    exact q _ (.bl _)
end

/-! ### I. a def over data, by its body -/
def startD (n : Nat) (ds : List Dt) : List (Option Dt) := ds.map some ++ List.replicate (n - ds.length) none
theorem slots_start {K : PySem.W.Frag} {H : Hp} {N : List Str} {vs : List V} {ds : List Dt} (r : RepA K H vs ds) : Slots K H (L2.start N vs) (startD N.length ds) := by
  refine ⟨by simp [L2.start, startD, r.len], fun i d h => ?_⟩
  unfold startD at h
  unfold L2.start
  by_cases hi : i < ds.length
  · rw [List.getElem?_append_left (by simpa using hi), List.getElem?_map] at h
    cases e : ds[i]? with
    | none => rw [e] at h; cases h
    | some d' =>
      rw [e] at h
      cases h
      obtain ⟨v, hv, rv⟩ := r.at_ e
      exact ⟨v, by rw [List.getElem?_append_left (by rw [List.length_map, r.len]; exact hi), List.getElem?_map, hv]; rfl, rv⟩
  · rw [List.getElem?_append_right (by simpa using hi), List.getElem?_replicate] at h
    split at h <;> cases h
/-- all that was is as it was -/
abbrev staSame (H : Hp) : Sta := staSameQ H
theorem staSame_mu {H : Hp} : (staSame H).Mu := fun {H1 H2 D o} i1 _ hD i2 b u e => by
  have hb : b ≠ D := fun z => by
    have y := i1 b u e
    rw [z, hD] at y
    cases y
  rw [upd_ne hb]
  exact i2 b u e
theorem okF {P : Program} {w : World} {K : PySem.W.Frag} {mg : Str → Option Value} {base : Heap} {x qual : Str} {st : Stmt} {f : Addr} {fd : FuncData} {N ps : List Str} {k : Nat} {pre : List Dt → Prop} {F : List Dt → Dt} (Fu : Fun K x qual st f fd) (Sc : FnScope N ps (defScope st))
    (hb : ∀ (cdv : Value) (A : Around) (out : List Env) (s : Shared) (H : Hp) (E : XK), Room k (A.deeper (envOfC qual (defScope st) s.heap.objs.size f cdv)) → A.guards = some [] →
      ∃ t, PSs (cxOf (L2.CX P w) P w K mg base N qual (defScope st) f cdv A out s H E).nox (defBody st) t ∧ ∀ (S : Sta), S.Mu → ∀ ds : List Dt, ds.length = ps.length → pre ds → So K S S [] t (startD N.length ds) { nx := fun _ => F ds = .non, rt := Eq (F ds) }) :
    GOk P w K mg base (k + 1) f fd ps (spF K ps.length pre F) := by
  refine okG Fu Sc (fun vs H Q E h => ?_) fun cdv A out s H vs Q E hr hg h => ?_
  · obtain ⟨ds, r, hl, _⟩ := h
    exact r.len.trans hl
  · obtain ⟨ds, r, hl, hp, q⟩ := h
    obtain ⟨t, ht, so⟩ := hb cdv A out s H E hr hg
    refine ⟨t, ht.nox, so (staSame H) staSame_mu ds hl hp _ _ H H ⟨Gr.refl H, Same.refl H, fun _ z => nomatch z⟩ (Same.refl H) (slots_start r) ⟨fun σ ρ H' g i s' e => ?_, fun v d H' g i r' e => ?_, fun _ _ _ _ _ _ z => z.elim, fun _ _ _ _ _ _ z => z.elim⟩⟩
    · exact q _ H' i ((show F ds = .non from e) ▸ .non)
    · exact q v H' i ((show F ds = d from e) ▸ r')

theorem okNew {P : Program} {w : World} {K : PySem.W.Frag} {mg : Str → Option Value} {base : Heap} {x qual : Str} {st : Stmt} {f : Addr} {fd : FuncData} {N ps : List Str} {k : Nat} {pre : List Dt → Prop} {F : List Dt → List Dt} (Fu : Fun K x qual st f fd) (Sc : FnScope N ps (defScope st))
    (hb : ∀ (cdv : Value) (A : Around) (out : List Env) (s : Shared) (H : Hp) (E : XK), Room k (A.deeper (envOfC qual (defScope st) s.heap.objs.size f cdv)) → A.guards = some [] →
      ∃ t, PSs (cxOf (L2.CX P w) P w K mg base N qual (defScope st) f cdv A out s H E).nox (defBody st) t ∧ ∀ (H0 : Hp) (ds : List Dt), ds.length = ps.length → pre ds → So K (staSame H0) (staSame H0) [] t (startD N.length ds) { rt := fun d => ∃ p, d = .lat p (F ds) ∧ H0 p = none }) :
    GOk P w K mg base (k + 1) f fd ps (spN K ps.length pre F) := by
  refine okG Fu Sc (fun vs H Q E h => ?_) fun cdv A out s H vs Q E hr hg h => ?_
  · obtain ⟨ds, r, hl, _⟩ := h
    exact r.len.trans hl
  · obtain ⟨ds, r, hl, hp, q⟩ := h
    obtain ⟨t, ht, so⟩ := hb cdv A out s H E hr hg
    refine ⟨t, ht.nox, so H ds hl hp _ _ H H ⟨Gr.refl H, Same.refl H, fun _ z => nomatch z⟩ (Same.refl H) (slots_start r) ⟨fun _ _ _ _ _ _ z => z.elim, fun v d H' g i r' e => ?_, fun _ _ _ _ _ _ z => z.elim, fun _ _ _ _ _ _ z => z.elim⟩⟩
    obtain ⟨p, rfl, hp⟩ := e
    obtain ⟨rfl, us, e, ra⟩ := r'.latI
    exact q p us H' i hp e ra
end Bf
namespace Bf
open PySem PySem.Spec PyProof.Rows L2
/-! ### J. the readings' names -/
abbrev rAddI : R2 := rI0 fun i j => .int (i + j)
abbrev rSubI : R2 := rI0 fun i j => .int (i - j)
abbrev rMulW : R2 := rI CMulW fun i j => .int (i * j)
abbrev rDivW : R2 := rI CDivW fun i j => .int (i / j)
abbrev rModI : R2 := rI (fun _ j => 0 < j) fun i j => .int (i % j)
abbrev rPowI : R2 := rI CPow fun i j => .int (i ^ j.toNat)
abbrev rLtI : R2 := rI0 fun i j => .bl (decide (i < j))
abbrev rLeI : R2 := rI0 fun i j => .bl (decide (i ≤ j))
abbrev rGtI : R2 := rI0 fun i j => .bl (decide (j < i))
abbrev rGeI : R2 := rI0 fun i j => .bl (decide (j ≤ i))
abbrev rIsNo : R2 := fun x y H Q => y = .non ∧ Q (.bl (decide (x = .non))) H
abbrev rNoNo : R2 := fun x y H Q => y = .non ∧ Q (.bl (!decide (x = .non))) H
abbrev rNegI : V → Hp → VK → Prop := rU fun i => .int (-i)
section
variable {K : PySem.W.Frag} {S S1 S2 : Sta} {ρ : List (Option Dt)} {te tl ta : TE} {vs : List Nat} {j : Nat} {x y d : Dt} {t u : TT}
theorem ev_neg {i : Int} (h : Ev K S S1 ρ ta (Eq (.int i))) : Ev K S S1 ρ (tUn rNegI ta) (Eq (.int (-i))) := ev_un h fun H v _ r Q q => ⟨i, r.intI, q _ _ H (Gr.refl H) (by assumption) (.int _) rfl⟩
/-! and, or where the first answer decides -/
theorem ev_andT {b : Bool} {tb : TE} (ha : Ev K S S1 ρ ta (Eq (.bl true))) (hb : Ev K S1 S1 ρ tb (Eq (.bl b))) : Ev K S S1 ρ (tAndV ta tb) (Eq (.bl b)) := (ev_and ha fun _ => hb).to (by rw [Bool.true_and])
theorem ev_andF {tb : TE} (ha : Ev K S S1 ρ ta (Eq (.bl false))) : Ev K S S1 ρ (tAndV ta tb) (Eq (.bl false)) := (ev_and (b := false) ha fun e => nomatch e).to (by rw [Bool.false_and])
theorem et_andT {b : Bool} (ha : EvT K S S1 ρ t (Eq true)) (hb : EvT K S1 S1 ρ u (Eq b)) : EvT K S S1 ρ (tAnd t u) (Eq b) := (et_and ha fun _ => hb).to (by rw [Bool.true_and])
theorem et_andF (ha : EvT K S S1 ρ t (Eq false)) : EvT K S S1 ρ (tAnd t u) (Eq false) := (et_and (b := false) ha fun e => nomatch e).to (by rw [Bool.false_and])
theorem et_orT (ha : EvT K S S1 ρ t (Eq true)) : EvT K S S1 ρ (tOr t u) (Eq true) := (et_or (b := true) ha fun e => nomatch e).to (by rw [Bool.true_or])
theorem et_orF {b : Bool} (ha : EvT K S S1 ρ t (Eq false)) (hb : EvT K S1 S1 ρ u (Eq b)) : EvT K S S1 ρ (tOr t u) (Eq b) := (et_or ha fun _ => hb).to (by rw [Bool.false_or])
theorem et_notT (ha : EvT K S S1 ρ t (Eq true)) : EvT K S S1 ρ (tNot t) (Eq false) := (et_not ha).to rfl
theorem et_notF (ha : EvT K S S1 ρ t (Eq false)) : EvT K S S1 ρ (tNot t) (Eq true) := (et_not ha).to rfl
theorem ev_ifT {Φ : Dt → Prop} {tb : TE} (ht : EvT K S S1 ρ t (Eq true)) (ha : Ev K S1 S2 ρ ta Φ) : Ev K S S2 ρ (tIf t ta tb) Φ := ev_if ht (fun _ => ha) fun e => nomatch e
theorem ev_ifF {Φ : Dt → Prop} {tb : TE} (ht : EvT K S S1 ρ t (Eq false)) (hb : Ev K S1 S2 ρ tb Φ) : Ev K S S2 ρ (tIf t ta tb) Φ := ev_if ht (fun e => nomatch e) fun _ => hb
/-! a < b < c where the first already fails, or not -/

/-! isinstance -/
def okN (d : Dt) : Bool := (tyN d).isSome
def isIntD : Dt → Bool
  | .int _ => true
  | .bl _ => true
  | _ => false
def isBlD : Dt → Bool
  | .bl _ => true
  | _ => false
def isTupD : Dt → Bool
  | .tup _ => true
  | _ => false
def isStrD : Dt → Bool
  | .str _ => true
  | _ => false
def isLstD : Dt → Bool
  | .lst _ => true
  | _ => false
theorem rc_isInt (h : okN d = true) : RvC K S (rIsi K) [d, .raw (.ty "int")] (Eq (.bl (isIntD d))) := by
  cases d with
  | non => exact rc_isi (b := false) rfl (by decide +kernel)
  | bl => exact rc_isi (b := true) rfl (by decide +kernel)
  | int => exact rc_isi (b := true) rfl (by decide +kernel)
  | str => exact rc_isi (b := false) rfl (by decide +kernel)
  | lst => exact rc_isi (b := false) rfl (by decide +kernel)
  | tup => exact rc_isi (b := false) rfl (by decide +kernel)
  | dic => exact rc_isi (b := false) rfl (by decide +kernel)
  | ins => cases h
  | raw v => cases v <;> cases h
  | lat => cases h
  | err => cases h
  | dct => cases h
theorem rc_isBl (h : okN d = true) : RvC K S (rIsi K) [d, .raw (.ty "bool")] (Eq (.bl (isBlD d))) := by
  cases d with
  | non => exact rc_isi (b := false) rfl (by decide +kernel)
  | bl => exact rc_isi (b := true) rfl (by decide +kernel)
  | int => exact rc_isi (b := false) rfl (by decide +kernel)
  | str => exact rc_isi (b := false) rfl (by decide +kernel)
  | lst => exact rc_isi (b := false) rfl (by decide +kernel)
  | tup => exact rc_isi (b := false) rfl (by decide +kernel)
  | dic => exact rc_isi (b := false) rfl (by decide +kernel)
  | ins => cases h
  | raw v => cases v <;> cases h
  | lat => cases h
  | err => cases h
  | dct => cases h
theorem rc_isTup (h : okN d = true) : RvC K S (rIsi K) [d, .raw (.ty "tuple")] (Eq (.bl (isTupD d))) := by
  cases d with
  | non => exact rc_isi (b := false) rfl (by decide +kernel)
  | bl => exact rc_isi (b := false) rfl (by decide +kernel)
  | int => exact rc_isi (b := false) rfl (by decide +kernel)
  | str => exact rc_isi (b := false) rfl (by decide +kernel)
  | lst => exact rc_isi (b := false) rfl (by decide +kernel)
  | tup => exact rc_isi (b := true) rfl (by decide +kernel)
  | dic => exact rc_isi (b := false) rfl (by decide +kernel)
  | ins => cases h
  | raw v => cases v <;> cases h
  | lat => cases h
  | err => cases h
  | dct => cases h
theorem rc_isStr (h : okN d = true) : RvC K S (rIsi K) [d, .raw (.ty "str")] (Eq (.bl (isStrD d))) := by
  cases d with
  | non => exact rc_isi (b := false) rfl (by decide +kernel)
  | bl => exact rc_isi (b := false) rfl (by decide +kernel)
  | int => exact rc_isi (b := false) rfl (by decide +kernel)
  | str => exact rc_isi (b := true) rfl (by decide +kernel)
  | lst => exact rc_isi (b := false) rfl (by decide +kernel)
  | tup => exact rc_isi (b := false) rfl (by decide +kernel)
  | dic => exact rc_isi (b := false) rfl (by decide +kernel)
  | ins => cases h
  | raw v => cases v <;> cases h
  | lat => cases h
  | err => cases h
  | dct => cases h
theorem rc_isLst (h : okN d = true) : RvC K S (rIsi K) [d, .raw (.ty "list")] (Eq (.bl (isLstD d))) := by
  cases d with
  | non => exact rc_isi (b := false) rfl (by decide +kernel)
  | bl => exact rc_isi (b := false) rfl (by decide +kernel)
  | int => exact rc_isi (b := false) rfl (by decide +kernel)
  | str => exact rc_isi (b := false) rfl (by decide +kernel)
  | lst => exact rc_isi (b := true) rfl (by decide +kernel)
  | tup => exact rc_isi (b := false) rfl (by decide +kernel)
  | dic => exact rc_isi (b := false) rfl (by decide +kernel)
  | ins => cases h
  | raw v => cases v <;> cases h
  | lat => cases h
  | err => cases h
  | dct => cases h

/-! [te for x in a list for y in (a tuple)] -/
theorem en_lc2 {xs : List Dt} {ys : List Dt} {f : Dt → Dt → Dt} {j1 : Nat} {vs1 : List Nat} {tl1 : TE} (hmu : S.Mu) (h : Ev K S S ρ tl (Eq (.lst xs))) (hj : j ∈ vs) (hj1 : j1 ∈ vs1) (hz : xs.length * ys.length ≤ 100000)
    (h1 : ∀ x ∈ xs, Ev K S S ((wipeD ρ vs).set j (some x)) tl1 (Eq (.tup ys)))
    (he : ∀ x ∈ xs, ∀ y ∈ ys, Ev K S S ((wipeD ((wipeD ρ vs).set j (some x)) vs1).set j1 (some y)) te (Eq (f x y))) (hf : ∀ x ∈ xs, ∀ y ∈ ys, nol (f x y) = true) (hnoy : nolA ys = true) :
    EvN K S S ρ (tLc2 (iList K tl) (gName j) tYes (iTup K tl1) (gName j1) tYes te vs vs1) (xs.flatMap fun x => ys.map (f x)) := fun σ H i s Q q =>
  h σ H i s _ fun v d H1 g1 i1 r1 p1 => by
    subst p1
    obtain ⟨a, us, rfl, hT, ra⟩ := r1.lstI
    refine ⟨a, rfl, ⟨us, hT⟩, fun D hD => ?_⟩
    refine ⟨fun n m H' => m = us.length - n ∧ n ≤ us.length ∧ Gr H1 H' ∧ S.I H' ∧ ∃ acc, H' D = some (.lst acc) ∧ RepA K H' acc ((xs.take n).flatMap fun x => ys.map (f x)), ⟨us.length, by simp, Nat.zero_le _, (same_new hD).gr, S.st i1 (same_new hD), [], upd_same, .nil⟩, fun n m H' hw => ?_⟩
    obtain ⟨rfl, hn, g2, i2, acc, ha, rac⟩ := hw
    have hT' := g2.sqL hT
    by_cases hlt : n < us.length
    · have hlx : n < xs.length := by rw [← ra.len]; exact hlt
      refine .inr ⟨⟨us, us[n], hT', by simp [hlt]⟩, fun H' => Gr H1 H' ∧ S.I H' ∧ ∃ acc, H' D = some (.lst acc) ∧ RepA K H' acc ((xs.take (n + 1)).flatMap fun x => ys.map (f x)), fun H3 ⟨g3, i3, w3⟩ => ⟨us.length - (n + 1), by omega, rfl, hlt, g3, i3, w3⟩, fun x H3 hy => ?_⟩
      obtain ⟨rfl, hxs⟩ := hy
      have hux : us[n]? = some x := hxs us hT'
      obtain ⟨dx, hdx, rdx⟩ := ra.ta hux
      have hmem : dx ∈ xs := List.mem_of_getElem? hdx
      have htake : xs.take (n + 1) = xs.take n ++ [dx] := by rw [List.take_add_one, hdx]; rfl
      refine ⟨wipe_put _ σ hj, ?_⟩
      unfold tYes
      dsimp only
      rw [if_pos rfl]
      have s2 : Slots K H3 ((L2.wipe σ vs).set j (some x)) ((wipeD ρ vs).set j (some dx)) := ((s.mono (g1.trans g2)).wipe vs).set (rdx.mono g2) j
      refine h1 dx hmem _ H3 i2 s2 _ fun v1 d1 H4 g4 i4 r4 p4 => ?_
      subst p4
      obtain ⟨b, ws, rfl, hU, rb⟩ := r4.tupI
      have hD4 : H4 D = some (.lst acc) := g4 _ _ ha rfl
      have ra4 := rac.mono g4
      refine ⟨b, rfl, ⟨ws, hU⟩, ?_⟩
      -- the inner walk: what H4 knew but D
      refine ⟨fun k l H' => l = ws.length - k ∧ k ≤ ws.length ∧ Gr H1 H' ∧ S.I H' ∧ SqT K H' b ws ∧ RepA K H' ws ys ∧ ∃ acc, H' D = some (.lst acc) ∧ RepA K H' acc (((xs.take n).flatMap fun x => ys.map (f x)) ++ (ys.take k).map (f dx)), ⟨ws.length, by simp, Nat.zero_le _, g2.trans g4, i4, hU, rb, acc, hD4, by simpa using ra4⟩, fun k l H5 hw => ?_⟩
      obtain ⟨rfl, hk, g5, i5, hU5, rb5, acc5, hD5, rac5⟩ := hw
      by_cases hkt : k < ws.length
      · refine .inr ⟨⟨ws, ws[k], hU5, by simp [hkt]⟩, fun H' => Gr H1 H' ∧ S.I H' ∧ SqT K H' b ws ∧ RepA K H' ws ys ∧ ∃ acc, H' D = some (.lst acc) ∧ RepA K H' acc (((xs.take n).flatMap fun x => ys.map (f x)) ++ (ys.take (k + 1)).map (f dx)), fun H6 ⟨g6, i6, w6⟩ => ⟨ws.length - (k + 1), by omega, rfl, hkt, g6, i6, w6⟩, fun y H6 hyy => ?_⟩
        obtain ⟨rfl, hys⟩ := hyy
        obtain ⟨dy, hdy, rdy⟩ := rb5.ta (hys ws hU5)
        have hmy : dy ∈ ys := List.mem_of_getElem? hdy
        refine ⟨wipe_put _ _ hj1, ?_⟩
        dsimp only
        rw [if_pos rfl]
        refine he dx hmem dy hmy _ H6 i5 ((((s.mono (g1.trans g5)).wipe vs).set (rdx.mono g5) j |>.wipe vs1).set rdy j1) _ fun z dz H7 g7 i7 r7 p7 => ?_
        subst p7
        have hD7 : H7 D = some (.lst acc5) := g7 _ _ hD5 rfl
        have hno := hf dx hmem dy hmy
        have hnoA : nolA (((xs.take n).flatMap fun x => ys.map (f x)) ++ (ys.take k).map (f dx)) = true := nolA_all.mpr fun z hz => by
          rcases List.mem_append.mp hz with hz | hz
          · obtain ⟨p, hp, hz⟩ := List.mem_flatMap.mp hz
            obtain ⟨r, hr, rfl⟩ := List.mem_map.mp hz
            exact hf p (List.mem_of_mem_take hp) r hr
          · obtain ⟨r, hr, rfl⟩ := List.mem_map.mp hz
            exact hf dx hmem r (List.mem_of_mem_take hr)
        have hlen : (((xs.take n).flatMap fun x => ys.map (f x)) ++ (ys.take k).map (f dx)).length < 100001 := by
          have e1 : ((xs.take n).flatMap fun x => ys.map (f x)).length = n * ys.length := by
            rw [List.length_flatMap]
            simp only [List.length_map]
            rw [List.map_const', List.sum_replicate_nat, List.length_take, Nat.min_eq_left (Nat.le_of_lt hlx)]
          have e2 : ((ys.take k).map (f dx)).length ≤ ys.length := by simp [List.length_take]; omega
          rw [List.length_append, e1]
          have e3 : (n + 1) * ys.length ≤ xs.length * ys.length := Nat.mul_le_mul_right _ hlx
          rw [Nat.succ_mul] at e3
          omega
        -- ys' own items stand: no list
        refine ⟨acc5, hD7, by rw [rac5.len]; exact Nat.lt_of_lt_of_le hlen (by decide), gr_off (g5.trans g7) hD, hmu i1 (g5.trans g7) hD i7, ?_, ?_, acc5 ++ [z], upd_same, ?_⟩
        · rcases g7.sqT hU5 with (w | ⟨o, w⟩) | w
          · exact .inl (.inl (upd_other hD7 w fun _ z => nomatch z))
          · exact .inl (.inr ⟨o, upd_other hD7 w fun _ z => nomatch z⟩)
          · exact .inr w
        · exact (rb5.mono g7).off hD7 hnoy
        · have e : (ys.take (k + 1)).map (f dx) = (ys.take k).map (f dx) ++ [f dx dy] := by rw [List.take_add_one, hdy, List.map_append]; rfl
          rw [e, ← List.append_assoc]
          exact ((rac5.mono g7).off hD7 hnoA).app (.cons (r7.off hD7 hno) .nil)
      · have hke : k = ws.length := by omega
        refine .inl ⟨⟨ws, hU5, by omega⟩, g5, i5, acc5, hD5, ?_⟩
        rw [htake, List.flatMap_append, List.flatMap_cons, List.flatMap_nil, List.append_nil]
        rw [hke, rb.len, List.take_length] at rac5
        exact rac5
    · have hne : n = us.length := by omega
      rw [hne, ra.len, List.take_length] at rac
      exact .inl ⟨⟨us, hT', by omega⟩, q D acc H1 H' g1 i1 hD g2 i2 ha rac⟩
end
end Bf
namespace Bf
open PySem PySem.Spec PyProof.Rows L2

/-! ### K. a def of the text -/
structure Cal (K : PySem.W.Frag) (mg : Str → Option Value) (x : Str) (st : Stmt) (ps : List Str) (f : Addr) (fd : FuncData) : Prop where
  fn : Fun K x x st f fd
  gl : mg x = some (.ref f)
  bp : BPos fd ps
def idL : List Value → List Value := fun ws => ws
def swpL : List Value → List Value
  | [a, b] => [b, a]
  | ws => ws
def idV : List V → List V := fun ws => ws
def swpV : List V → List V
  | [a, b] => [b, a]
  | ws => ws
theorem kwv {n : Nat} : ∀ {vs : List V} {us : List Value}, Vals vs us → vs.length = n → Vals (idV vs) (idL us) := fun r _ => r
theorem kws {n : Nat} : ∀ {vs : List V} {us : List Value}, Vals vs us → vs.length = n → Vals (swpV vs) (swpL us)
  | _, _, .nil, _ => .nil
  | _, _, .cons a .nil, _ => .cons a .nil
  | _, _, .cons a (.cons b .nil), _ => .cons b (.cons a .nil)
  | _, _, .cons a (.cons b (.cons c r)), _ => .cons a (.cons b (.cons c r))
theorem idV_rep {K : PySem.W.Frag} {H : Hp} {vs : List V} {ds : List Dt} (r : RepA K H vs ds) : RepA K H (idV vs) ds := r
theorem swpV_rep {K : PySem.W.Frag} {H : Hp} {vs : List V} {x y : Dt} (r : RepA K H vs [x, y]) : RepA K H (swpV vs) [y, x] := by
  obtain ⟨v, u, rfl, r1, r2⟩ := r.twoI
  exact .cons r2 (.cons r1 .nil)

/-! ### L. the draws' dict -/
def rSetD : TSet := fun o i v H Q => ∃ a H', o = .ref a ∧ DPut H a i v H' ∧ Q H'
theorem set_dict {X : Cx} (hu : X.A.units + 1 < cLine) : PSet X rSetD := by
  intro pins s σ H o i v ov iv u Q I ro ri rv h
  obtain ⟨a, H', rfl, g, q⟩ := h
  obtain rfl : ov = Value.ref a := ro
  exact d_setItem hu I g ri rv fun s4 I4 => ⟨H', I4, q⟩
def drK (c : Addr) (i l u : Int) : List (Key × V) := [(.inr "cells", .ref c), (.inr "at", .int i), (.inr "left", .int l), (.inr "used", .int u)]
section
variable {c : Addr} {i l u x : Int}
theorem dr_cells : valV (drK c i l u) (.inr "cells") = some (.ref c) := by with_unfolding_all rfl
theorem dr_at : valV (drK c i l u) (.inr "at") = some (.int i) := by with_unfolding_all rfl
theorem dr_left : valV (drK c i l u) (.inr "left") = some (.int l) := by with_unfolding_all rfl
theorem dr_used : valV (drK c i l u) (.inr "used") = some (.int u) := by with_unfolding_all rfl
theorem dr_pat : putK (drK c i l u) (.inr "at") (.int x) = drK c x l u := by with_unfolding_all rfl
theorem dr_pleft : putK (drK c i l u) (.inr "left") (.int x) = drK c i x u := by with_unfolding_all rfl
theorem dr_pused : putK (drK c i l u) (.inr "used") (.int x) = drK c i l x := by with_unfolding_all rfl
theorem dr_merge : mergeK [] [((.inr "cells" : Key), V.ref c), (.inr "at", .int i), (.inr "left", .int l), (.inr "used", .int u)] = drK c i l u := by with_unfolding_all rfl
end
/-- the draws' dict at a, its cells cs at c: just so -/
def DS (K : PySem.W.Frag) (a c : Addr) (cs : List Int) (i l u : Int) : Sta :=
  ⟨fun H => H a = some (.dK (drK c i l u)) ∧ SqL K H c (cs.map V.int), fun h s => ⟨s _ _ h.1, s.seq h.2⟩⟩
/-- .. with counts up to n -/
def DW (K : PySem.W.Frag) (a c : Addr) (cs : List Int) (n : Nat) : Sta :=
  ⟨fun H => ∃ i l u, (DS K a c cs i l u).I H ∧ 0 ≤ i ∧ i ≤ n ∧ 0 ≤ l ∧ 0 ≤ u ∧ u ≤ n, fun ⟨i, l, u, h, r⟩ s => ⟨i, l, u, (DS K a c cs i l u).st h s, r⟩⟩
section
variable {K : PySem.W.Frag} {a c : Addr} {cs : List Int} {i l u x : Int} {n m : Nat} {S S1 SF : Sta} {L : List Addr} {ρ : List (Option Dt)} {P : Po} {te : TE} {w : TS} {Φ : Dt → Prop}
theorem dw_le (h : n ≤ m) : (DW K a c cs n).Le (DW K a c cs m) := fun H ⟨i, l, u, h0, h1, h2, h3, h4, h5⟩ => ⟨i, l, u, h0, h1, by omega, h3, h4, by omega⟩
theorem dw_of (h0 : 0 ≤ i) (h1 : i ≤ n) (h2 : 0 ≤ l) (h3 : 0 ≤ u) (h4 : u ≤ n) : (DS K a c cs i l u).Le (DW K a c cs n) := fun H h => ⟨i, l, u, h, h0, h1, h2, h3, h4⟩
theorem ds_off {H1 H : Hp} {D : Addr} {o : HO} (ha : ∃ o, H1 a = some o) (hc : SqL K H1 c (cs.map V.int)) (g : Gr H1 H) (hD : H1 D = none) (h : (DS K a c cs i l u).I H) : (DS K a c cs i l u).I (upd H D o) := by
  obtain ⟨o1, e⟩ := ha
  refine ⟨?_, (gr_off g hD).sqL hc⟩
  rw [upd_ne (ne_of_none e hD)]
  exact h.1
theorem dw_off {H1 H : Hp} {D : Addr} {o : HO} (h1 : (DW K a c cs m).I H1) (g : Gr H1 H) (hD : H1 D = none) (h : (DW K a c cs n).I H) : (DW K a c cs n).I (upd H D o) := by
  obtain ⟨i1, l1, u1, hh, _⟩ := h1
  obtain ⟨i, l, u, h, r⟩ := h
  exact ⟨i, l, u, ds_off ⟨_, hh.1⟩ hh.2 g hD h, r⟩
theorem dw_mu : (DW K a c cs n).Mu := fun i1 g hD i2 => dw_off i1 g hD i2
theorem dw_loose : Loose (DW K a c cs n) (DW K a c cs m) := fun iB g hp _ i => dw_off iB g hp i
/-- what is so by cases -/
theorem so_open (h : ∀ i l u : Int, 0 ≤ i → i ≤ n → 0 ≤ l → 0 ≤ u → u ≤ n → So K (DS K a c cs i l u) SF L w ρ P) : So K (DW K a c cs n) SF L w ρ P := fun D σ B H b ⟨i, l, u, h0, h1, h2, h3, h4, h5⟩ s f => h i l u h1 h2 h3 h4 h5 D σ B H b h0 s f
theorem ev_dget {k : Str} {v : V} {d : Dt} {j : Nat} (hj : ρ[j]? = some (some (.raw (.ref a)))) (hk : valV (drK c i l u) (.inr k) = some v) (hd : ∀ H, (DS K a c cs i l u).I H → Rep K H v d) : Ev K (DS K a c cs i l u) (DS K a c cs i l u) ρ (tDGet (tVar j) (tC (.str k))) (Eq d) := fun σ H h s Q q => by
  obtain ⟨v0, hv, rv⟩ := s.val j _ hj
  obtain rfl := rv.rawI
  exact ⟨.ref a, hv, a, v, rfl, hk ▸ DGet.k (k := Sum.inr k) h.1, q _ _ H (Gr.refl H) h (hd H h) rfl⟩
theorem ev_dat {j : Nat} (hj : ρ[j]? = some (some (.raw (.ref a)))) : Ev K (DS K a c cs i l u) (DS K a c cs i l u) ρ (tDGet (tVar j) (tC (.str "at"))) (Eq (.int i)) := ev_dget hj dr_at fun _ _ => .int i
theorem ev_dleft {j : Nat} (hj : ρ[j]? = some (some (.raw (.ref a)))) : Ev K (DS K a c cs i l u) (DS K a c cs i l u) ρ (tDGet (tVar j) (tC (.str "left"))) (Eq (.int l)) := ev_dget hj dr_left fun _ _ => .int l
theorem ev_dused {j : Nat} (hj : ρ[j]? = some (some (.raw (.ref a)))) : Ev K (DS K a c cs i l u) (DS K a c cs i l u) ρ (tDGet (tVar j) (tC (.str "used"))) (Eq (.int u)) := ev_dget hj dr_used fun _ _ => .int u
theorem rep_ints {H : Hp} : ∀ ns : List Int, RepA K H (ns.map V.int) (ns.map Dt.int)
  | [] => .nil
  | n :: ns => .cons (.int n) (rep_ints ns)
theorem ev_dcells {j : Nat} (hj : ρ[j]? = some (some (.raw (.ref a)))) : Ev K (DS K a c cs i l u) (DS K a c cs i l u) ρ (tDGet (tVar j) (tC (.str "cells"))) (Eq (.lst (cs.map Dt.int))) := ev_dget hj dr_cells fun _ h => .lst h.2 (rep_ints cs)
/-- draw[k] = e -/
theorem so_dset {k : Str} {j : Nat} {i' l' u' : Int} (h : Ev K S (DS K a c cs i l u) ρ te (Eq (.int x))) (hj : ρ[j]? = some (some (.raw (.ref a)))) (hk : putK (drK c i l u) (.inr k) (.int x) = drK c i' l' u') (q : So K (DS K a c cs i' l' u') SF L w ρ P) :
    So K S SF L (tSeq (tAsg te (gSub (tVar j) (tC (.str k)) rSetD)) w) ρ P := fun D σ B H b hi s f => h σ H hi s _ fun v d H1 g1 i1 r1 e => by
  subst e
  obtain rfl := r1.intI
  obtain ⟨v0, hv, rv⟩ := (s.mono g1).val j _ hj
  obtain rfl := rv.rawI
  have gg : ∀ {C : Hp}, Gr C H1 → Gr C (upd H1 a (.dK (drK c i' l' u'))) := fun {C} g p o e d => by
    by_cases hp : p = a
    · subst hp
      have y := g p o e d
      rw [i1.1] at y
      cases y
      cases d
    · rw [upd_ne hp]
      exact g p o e d
  refine ⟨.ref a, hv, a, _, rfl, DPut.k (k := Sum.inr k) i1.1 (by show 4 < sizeLine; decide), ?_⟩
  rw [hk]
  exact q D σ B _ ⟨gg (b.gr.trans g1), b.i, b.new⟩ ⟨upd_same, (gg (Gr.refl H1)).sqL i1.2⟩ ((s.mono g1).mono (gg (Gr.refl H1))) f
/-- cell, draw["left"] = (x, y) -/
theorem so_dset2 {j m : Nat} {ta : TA} {x y : Int} (h : EvA K S (DS K a c cs i l u) ρ ta (Eq [.int x, .int y])) (hj : ρ[j]? = some (some (.raw (.ref a)))) (hm : m ≠ j) (q : So K (DS K a c cs i y u) SF L w (ρ.set m (some (.int x))) P) :
    So K S SF L (tSeq (tAsg (tTup ta) (gTup K 2 (gCons (gName m) (gCons (gSub (tVar j) (tC (.str "left")) rSetD) gNil)))) w) ρ P := fun D σ B H b hi s f => h σ H hi s _ fun vs ds H1 g1 i1 r1 e => by
  subst e
  obtain ⟨v, u', rfl, ra, rb⟩ := r1.twoI
  obtain rfl := ra.intI
  obtain rfl := rb.intI
  refine ⟨by show 2 ≤ sizeLine; decide, fun p hp => ?_⟩
  have s2 := same_new (o := .tup [.int x, .int y]) hp
  have i2 := (DS K a c cs i l u).st i1 s2
  have g2 := g1.trans s2.gr
  have hs := ((s.mono g2).set (v := .int x) (d := .int x) (.int x) m)
  obtain ⟨v0, hv, rv⟩ := hs.val j (.raw (.ref a)) (by rw [List.getElem?_set_ne hm]; exact hj)
  obtain rfl := rv.rawI
  have gg : ∀ {C : Hp}, Gr C (upd H1 p (.tup [.int x, .int y])) → Gr C (upd (upd H1 p (.tup [.int x, .int y])) a (.dK (drK c i y u))) := fun {C} g p' o e d => by
    by_cases hp : p' = a
    · subst hp
      have z := g p' o e d
      rw [i2.1] at z
      cases z
      cases d
    · rw [upd_ne hp]
      exact g p' o e d
  refine ⟨p, _, rfl, SqT.of upd_same, rfl, .int x, [.int y], rfl, .int y, [], rfl, .ref a, hv, a, _, rfl, DPut.k (k := Sum.inr "left") i2.1 (by show 4 < sizeLine; decide), rfl, ?_⟩
  rw [dr_pleft]
  exact q D _ B _ ⟨gg (b.gr.trans g2), b.i, b.new⟩ ⟨upd_same, (gg (Gr.refl _)).sqL i2.2⟩ (hs.mono (gg (Gr.refl _))) f

/-! ### M. defs that draw -/
def spD (K : PySem.W.Frag) (nargs : Nat) (pre : List Dt → Prop) (Φ : List Dt → Dt → Prop) (cost : Nat) : Sp := fun vs H Q _ => ∃ a c cs n ds ws, vs = .ref a :: ws ∧ RepA K H ws ds ∧ ds.length = nargs ∧ pre ds ∧ cs ≠ [] ∧ n + cost ≤ 1000000 ∧ (DW K a c cs n).I H ∧
  ∀ v d H', Gr H H' → (DW K a c cs (n + cost)).I H' → Rep K H' v d → Φ ds d → Q v H'
theorem ev_callD {t : TA} {ds : List Dt} {k cost : Nat} {pre : List Dt → Prop} {Φ : List Dt → Dt → Prop} {E : XK} (ha : EvA K S (DW K a c cs n) ρ t (Eq (.raw (.ref a) :: ds))) (hn : ds.length = k) (hp : pre ds) (hc : cs ≠ []) (hb : n + cost ≤ 1000000) :
    Ev K S (DW K a c cs (n + cost)) ρ (tCall (spD K k pre Φ cost) [] E t) (Φ ds) := fun σ H i s Q q =>
  ha σ H i s _ fun vs ds' H1 g1 i1 r1 p1 => by
    subst p1
    rw [List.append_nil]
    cases r1 with
    | cons r0 r1 =>
      obtain rfl := r0.rawI
      exact ⟨a, c, cs, n, ds, _, rfl, r1, hn, hp, hc, hb, i1, fun v d H' g i' r p => q v d H' (g1.trans g) i' r p⟩
theorem okD {P : Program} {w : World} {mg : Str → Option Value} {base : Heap} {x qual : Str} {st : Stmt} {f : Addr} {fd : FuncData} {N ps : List Str} {k na cost : Nat} {pre : List Dt → Prop} {Φ : List Dt → Dt → Prop} (Fu : Fun K x qual st f fd) (Sc : FnScope N ps (defScope st)) (hps : ps.length = na + 1)
    (hb : ∀ (cdv : Value) (A : Around) (out : List Env) (s : Shared) (H : Hp) (E : XK), Room k (A.deeper (envOfC qual (defScope st) s.heap.objs.size f cdv)) → A.guards = some [] →
      ∃ t, PSs (cxOf (L2.CX P w) P w K mg base N qual (defScope st) f cdv A out s H E).nox (defBody st) t ∧ ∀ (a c : Addr) (cs : List Int) (n : Nat) (ds : List Dt), cs ≠ [] → n + cost ≤ 1000000 → ds.length = na → pre ds →
        So K (DW K a c cs n) (DW K a c cs (n + cost)) [] t (startD N.length (.raw (.ref a) :: ds)) { nx := fun _ => Φ ds .non, rt := Φ ds }) :
    GOk P w K mg base (k + 1) f fd ps (spD K na pre Φ cost) := by
  refine okG Fu Sc (fun vs H Q E h => ?_) fun cdv A out s H vs Q E hr hg h => ?_
  · obtain ⟨a, c, cs, n, ds, ws, rfl, r, hl, _⟩ := h
    rw [List.length_cons, r.len, hl, hps]
  · obtain ⟨a, c, cs, n, ds, ws, rfl, r, hl, hp, hc, hn, hi, q⟩ := h
    obtain ⟨t, ht, so⟩ := hb cdv A out s H E hr hg
    refine ⟨t, ht.nox, so a c cs n ds hc hn hl hp _ _ H H ⟨Gr.refl H, dw_le (Nat.le_add_right n cost) H hi, fun _ z => nomatch z⟩ hi (slots_start (.cons (.raw _) r)) ⟨fun σ ρ H' g i s' e => ?_, fun v d H' g i r' e => ?_, fun _ _ _ _ _ _ z => z.elim, fun _ _ _ _ _ _ z => z.elim⟩⟩
    · exact q _ _ H' g i .non e
    · exact q v d H' g i r' e
end
end Bf
namespace Bf
open PySem PySem.Spec PyProof.Rows L2
/-! ### N. the operations by their names -/
section
variable {K : PySem.W.Frag} {S S1 S2 S3 : Sta} {ρ : List (Option Dt)} {i j : Int} {ta tb tc te : TE} {d x y : Dt}
theorem rv_add : Rv2 K S rAddI (.int i) (.int j) (Eq (.int (i + j))) := rv_ii
theorem rv_sub : Rv2 K S rSubI (.int i) (.int j) (Eq (.int (i - j))) := rv_ii
theorem rv_mul (h : CMulW i j) : Rv2 K S rMulW (.int i) (.int j) (Eq (.int (i * j))) := rv_iic h
theorem rv_div (h : CDivW i j) : Rv2 K S rDivW (.int i) (.int j) (Eq (.int (i / j))) := rv_iic h
theorem rv_mod (h : 0 < j) : Rv2 K S rModI (.int i) (.int j) (Eq (.int (i % j))) := rv_iic (C := fun _ j => 0 < j) h
theorem rv_pow (h : CPow i j) : Rv2 K S rPowI (.int i) (.int j) (Eq (.int (i ^ j.toNat))) := rv_iic h
theorem rv_lt : Rv2 K S rLtI (.int i) (.int j) (Eq (.bl (decide (i < j)))) := rv_ib
theorem rv_le : Rv2 K S rLeI (.int i) (.int j) (Eq (.bl (decide (i ≤ j)))) := rv_ib
theorem rv_gt : Rv2 K S rGtI (.int i) (.int j) (Eq (.bl (decide (j < i)))) := rv_ib
theorem rv_ge : Rv2 K S rGeI (.int i) (.int j) (Eq (.bl (decide (j ≤ i)))) := rv_ib
theorem rv_isNo : Rv2 K S rIsNo d .non (Eq (.bl d.isNon)) := rv_isN
theorem rv_noNo : Rv2 K S rNoNo d .non (Eq (.bl (!d.isNon))) := rv_notN
theorem ev_lele {l : Int} (ha : Ev K S S1 ρ ta (Eq (.int i))) (hb : Ev K S1 S2 ρ tb (Eq (.int j))) (hc : Ev K S2 S2 ρ tc (Eq (.int l))) : Ev K S S2 ρ (tChain rLeI rLeI ta tb tc) (Eq (.bl (decide (i ≤ j) && decide (j ≤ l)))) := ev_chain ha hb hc
/-- the class's name as an argument -/
theorem ev_ty {T : String} : Ev K S S ρ (tC (.ty T)) (Eq (.raw (.ty T))) := ev_raw
theorem ev_isInt (h : Ev K S S1 ρ ta (Eq d)) (hd : okN d = true) : Ev K S S1 ρ (tCB (rIsi K) (tCons ta (tCons (tC (.ty "int")) tNil))) (Eq (.bl (isIntD d))) := ev_cb (ea_cons h (ea_cons ev_ty ea_nil)) (rc_isInt hd)
theorem ev_isBl (h : Ev K S S1 ρ ta (Eq d)) (hd : okN d = true) : Ev K S S1 ρ (tCB (rIsi K) (tCons ta (tCons (tC (.ty "bool")) tNil))) (Eq (.bl (isBlD d))) := ev_cb (ea_cons h (ea_cons ev_ty ea_nil)) (rc_isBl hd)
theorem ev_isTup (h : Ev K S S1 ρ ta (Eq d)) (hd : okN d = true) : Ev K S S1 ρ (tCB (rIsi K) (tCons ta (tCons (tC (.ty "tuple")) tNil))) (Eq (.bl (isTupD d))) := ev_cb (ea_cons h (ea_cons ev_ty ea_nil)) (rc_isTup hd)
theorem ev_isStr (h : Ev K S S1 ρ ta (Eq d)) (hd : okN d = true) : Ev K S S1 ρ (tCB (rIsi K) (tCons ta (tCons (tC (.ty "str")) tNil))) (Eq (.bl (isStrD d))) := ev_cb (ea_cons h (ea_cons ev_ty ea_nil)) (rc_isStr hd)
theorem ev_isLst (h : Ev K S S1 ρ ta (Eq d)) (hd : okN d = true) : Ev K S S1 ρ (tCB (rIsi K) (tCons ta (tCons (tC (.ty "list")) tNil))) (Eq (.bl (isLstD d))) := ev_cb (ea_cons h (ea_cons ev_ty ea_nil)) (rc_isLst hd)
theorem ev_lenT {xs : List Dt} (h : Ev K S S1 ρ ta (Eq (.tup xs))) : Ev K S S1 ρ (tCB (rLen K) (tCons ta tNil)) (Eq (.int xs.length)) := ev_cb (ea_cons h ea_nil) rc_lenT
theorem ev_lenL {xs : List Dt} (h : Ev K S S1 ρ ta (Eq (.lst xs))) : Ev K S S1 ρ (tCB (rLen K) (tCons ta tNil)) (Eq (.int xs.length)) := ev_cb (ea_cons h ea_nil) rc_lenL
theorem ev_allL {bs : List Bool} (h : Ev K S S1 ρ ta (Eq (.lst (bs.map Dt.bl)))) : Ev K S S1 ρ (tCB (rAll K) (tCons ta tNil)) (Eq (.bl (bs.all id))) := ev_cb (ea_cons h ea_nil) rc_all
/-- all([p(x) for x in a tuple]) -/
theorem ev_allT {tl : TE} {m : Nat} {vs : List Nat} {xs : List Dt} {p : Dt → Bool} (hmu : S.Mu) (h : Ev K S S ρ tl (Eq (.tup xs))) (hj : m ∈ vs) (hz : xs.length ≤ 100000) (he : ∀ x ∈ xs, Ev K S S ((wipeD ρ vs).set m (some x)) te (Eq (.bl (p x)))) :
    Ev K S S ρ (tCB (rAll K) (tCons (tLc (iTup K tl) (gName m) tYes te vs) tNil)) (Eq (.bl (xs.all p))) := by
  have h1 := ev_lcT (K := K) (S := S) (ρ := ρ) (te := te) (tl := tl) (tt := tYes) (vs := vs) (j := m) (xs := xs) (f := fun x => .bl (p x)) (p := fun _ => true) hmu h hj hz (fun _ _ => et_yes) (fun x hx _ => he x hx) fun _ _ _ => rfl
  have e : ((xs.filter fun _ => true).map fun x => Dt.bl (p x)) = (xs.map p).map Dt.bl := by
    rw [List.filter_eq_self.mpr fun _ _ => rfl, List.map_map]
    rfl
  rw [e] at h1
  have e2 : xs.all p = (xs.map p).all id := by rw [List.all_map]; rfl
  rw [e2]
  exact ev_allL h1
/-- t[-1], t[k] of a written shape -/
theorem ev_ixT {xs : List Dt} (h : Ev K S S1 ρ ta (Eq (.tup xs))) (hb : Ev K S1 S2 ρ tb (Eq (.int i))) (hi : atI xs i = some d) : Ev K S S2 ρ (tOp (rIx K) ta tb) (Eq d) := ev_op h hb (rv_ixST hi)
theorem ev_ixL {xs : List Dt} (h : Ev K S S1 ρ ta (Eq (.lst xs))) (hb : Ev K S1 S2 ρ tb (Eq (.int i))) (hi : atI xs i = some d) : Ev K S S2 ρ (tOp (rIx K) ta tb) (Eq d) := ev_op h hb (rv_ixSL hi)
theorem ev_ixLP {xs : List Dt} {Φ Θ : Dt → Prop} (h : Ev K S S1 ρ ta (Eq (.lst xs))) (hb : Ev K S1 S2 ρ tb Φ) (hi : ∀ y, Φ y → ∃ k d, y = .int k ∧ atI xs k = some d ∧ Θ d) : Ev K S S2 ρ (tOp (rIx K) ta tb) Θ := ev_opP h hb fun x y e p => by
  obtain ⟨k, d, rfl, hk, hd⟩ := hi y p
  subst e
  exact fun H v u i r1 r2 Q q => rv_ixSL hk H v u i r1 r2 Q fun v' d' H' g i' r e => q v' d' H' g i' r (e ▸ hd)
theorem ev_ixLPL {xs : List Dt} {Φ Θ : Dt → Prop} (h : Ev K S S1 ρ ta (Eq (.lst xs))) (hb : Ev K S1 S2 ρ tb Φ) (hi : ∀ y, Φ y → ∃ k d, y = .int k ∧ atI xs k = some d ∧ Θ d) : Ev K S S2 ρ (tOp (rIxL K) ta tb) Θ := ev_opP h hb fun x y e p => by
  obtain ⟨k, d, rfl, hk, hd⟩ := hi y p
  subst e
  exact fun H v u i r1 r2 Q q => rv_ixL hk H v u i r1 r2 Q fun v' d' H' g i' r e => q v' d' H' g i' r (e ▸ hd)
end
/-! ### O. plain through and through -/
mutual
def pl : Dt → Bool
  | .lst xs => plA xs
  | .tup xs => plA xs
  | .ins _ _ _ => false
  | .raw _ => false
  | .lat _ _ => false
  | .err _ _ _ => false
  | .dct _ _ => false
  | _ => true
def plA : List Dt → Bool
  | [] => true
  | x :: xs => pl x && plA xs
end
theorem pl_okN {d : Dt} (h : pl d = true) : okN d = true := by
  cases d with
  | ins => simp [pl] at h
  | raw => simp [pl] at h
  | lat => simp [pl] at h
  | err => simp [pl] at h
  | dct => simp [pl] at h
  | _ => rfl
theorem plA_all : ∀ {xs : List Dt}, plA xs = true ↔ ∀ x ∈ xs, pl x = true
  | [] => by simp [plA]
  | x :: xs => by simp [plA, plA_all]
theorem pl_tup {xs : List Dt} (h : pl (.tup xs) = true) : ∀ x ∈ xs, pl x = true := plA_all.mp (by simpa [pl] using h)
end Bf
namespace Bf
open PySem PySem.Spec PyProof.Rows L2
/-! ## Lists that are changed within loops -/
section
variable {K : PySem.W.Frag} {S S0 S1 SB SF : Sta} {L : List Addr} {ρ : List (Option Dt)} {P : Po} {te tl t1 t2 : TE} {w t : TS} {d : Dt} {p q : Addr} {j : Nat} {xs ys : List Dt} {H : Hp} {σ : L2.St}
/-- what holds bears that the list at p is changed -/
def LooseP (S S0 : Sta) (p : Addr) : Prop := ∀ {B H : Hp} {vs : List V} {o : HO}, S0.I B → Gr B H → B p = none → H p = some (.lst vs) → S.I H → S.I (upd H p o)
theorem Loose.at_ (h : Loose S S0) (p : Addr) : LooseP S S0 p := fun i g hp e k => h i g hp e k
theorem mu_loose (h : S.Mu) : Loose S S := fun i g hp _ k => h i g hp k
theorem mu_looseP (h : S.Mu) : LooseP S S p := fun i g hp _ k => h i g hp k
/-- d is not touched where the list at p is changed -/
def offOk (p : Addr) : Dt → Prop
  | .lat q xs => q ≠ p ∧ nolA xs = true
  | d => nol d = true
theorem Rep.offK {v : V} {acc : List V} {o : HO} (hD : H p = some (.lst acc)) (h : offOk p d) (r : Rep K H v d) : Rep K (upd H p o) v d := by
  cases d with
  | lat q xs =>
    obtain ⟨rfl, vs, e, ra⟩ := r.latI
    exact .lat (by rw [upd_ne h.1]; exact e) (ra.off hD h.2)
  | _ => exact r.off hD h
def Offs (p : Addr) (ρ : List (Option Dt)) (j : Nat) : Prop := ∀ (i : Nat) (d : Dt), i ≠ j → ρ[i]? = some (some d) → offOk p d
/-- slot by slot -/
def offL (p : Addr) (j : Nat) : Nat → List (Option Dt) → Prop
  | _, [] => True
  | n, o :: r => (n ≠ j → ∀ d, o = some d → offOk p d) ∧ offL p j (n + 1) r
theorem offs_of : ∀ {ρ : List (Option Dt)} {n : Nat}, offL p j n ρ → ∀ (i : Nat) (d : Dt), i + n ≠ j → ρ[i]? = some (some d) → offOk p d
  | [], _, _, i, d, _, e => by simp at e
  | o :: r, n, h, 0, d, hi, e => h.1 (by omega) d (by simpa using e)
  | o :: r, n, h, i + 1, d, hi, e => offs_of h.2 i d (by omega) (by simpa using e)
theorem Offs.mk (h : offL p j 0 ρ) : Offs p ρ j := fun i d hi e => offs_of h i d (by omega) e
theorem slots_offK {vs us : List V} (s : Slots K H σ ρ) (hj : ρ[j]? = some (some (.lat p xs))) (hn : Offs p ρ j) (hp : H p = some (.lst vs)) (r : RepA K (upd H p (.lst us)) us ys) : Slots K (upd H p (.lst us)) σ (ρ.set j (some (.lat p ys))) := by
  refine ⟨by rw [List.length_set]; exact s.len, fun i d h => ?_⟩
  by_cases hij : j = i
  · subst hij
    have hl : j < ρ.length := (List.getElem?_eq_some_iff.mp hj).1
    rw [List.getElem?_set_self hl] at h
    cases h
    obtain ⟨v, hv, rv⟩ := s.val j _ hj
    obtain ⟨rfl, _⟩ := rv.latI
    exact ⟨_, hv, .lat upd_same r⟩
  · rw [List.getElem?_set_ne hij] at h
    obtain ⟨v, hv, rv⟩ := s.val i d h
    exact ⟨v, hv, rv.offK hp (hn i d (Ne.symm hij) h)⟩
/-- the list at p is changed -/
theorem sg_put {D : Ends} {B : Hp} {vs us : List V} (hL : p ∈ L) (hlo : LooseP S SB p) (hj : ρ[j]? = some (some (.lat p xs))) (hn : Offs p ρ j) (b : Bs SB L B H) (i : S.I H) (s : Slots K H σ ρ) (f : Ft K SF P D B) (hp : H p = some (.lst vs)) (r : RepA K (upd H p (.lst us)) us ys)
    (k : Sg K S SB SF L w (ρ.set j (some (.lat p ys))) P) : w D σ (upd H p (.lst us)) :=
  k D σ B _ ⟨gr_off b.gr (b.new p hL), b.i, b.new⟩ (hlo b.i b.gr (b.new p hL) hp i) (slots_offK s hj hn hp r) f
/-- xs.append(e) -/
theorem so_appP (hL : p ∈ L) (hlo : LooseP S SB p) (hj : ρ[j]? = some (some (.lat p xs))) (hx : nolA xs = true) (hn : Offs p ρ j) (hz : xs.length < 100000) (h : Ev K S S ρ te (Eq d)) (hd : nol d = true)
    (k : Sg K S SB SF L w (ρ.set j (some (.lat p (xs ++ [d])))) P) : Sg K S SB SF L (tSeq (tDrop (tBM K "list" rAppend (tVar j) (tCons te tNil))) w) ρ P := fun D σ B H b i s f => by
  obtain ⟨v, hv, rv⟩ := s.val j _ hj
  obtain ⟨rfl, vs, hp, ra⟩ := rv.latI
  refine ⟨.ref p, hv, .inl ⟨rfl, _, SqL.of hp⟩, h σ H i s _ fun u d' H1 g1 i1 r1 e => ?_⟩
  subst e
  have hp1 : H1 p = some (.lst vs) := g1 _ _ hp rfl
  have ra1 := ra.mono g1
  refine ⟨p, vs, u, rfl, rfl, hp1, by rw [ra1.len]; exact Nat.lt_of_lt_of_le hz (by decide), ?_⟩
  exact sg_put (w := w) (D := D) hL hlo hj hn (b.up g1) i1 (s.mono g1) f hp1 ((ra1.off hp1 hx).app (.cons (r1.off hp1 hd) .nil)) k
/-- .. as the last statement -/
theorem sg_last (h : Sg K S SB SF L (tSeq t tNext) ρ P) : Sg K S SB SF L t ρ P := fun D σ B H b i s f => h D σ B H b i s f
/-- xs.extend(a tuple) -/
theorem extend_tup (l : Addr) (items : Array Value) (n : Nat) (b : Addr) (items2 : Array Value) (n2 : Nat) (dd : Option Addr) (sl : Array (Option Value)) (hs0 : ¬(!items.isEmpty && Builtin.List.listTooLong (items.size + items2.size)) = true) (hs1 : items.size ≤ sizeLine) (hs2 : items.size + items2.size ≤ sizeLine + 1) :
    Meets (Builtin.«list.extend» ⟨[.ref l, .ref b], []⟩) (fun _ R s => s.heap.get? l = some { cls := .type "list", dict := none, data := .seq items n, slots := #[] } ∧ s.heap.get? b = some { cls := .type "tuple", dict := dd, data := .seq items2 n2, slots := sl } ∧
      R (.ok (.ret Value.none)) { s with heap := s.heap.update l (Obj.mapSeq fun x => x ++ items2), toks := s.toks }) :=
  .of_wp fun prog w A R s h => by
    obtain ⟨hp, g, d, tk, os⟩ := s
    obtain ⟨hl, hb, h⟩ := h
    have f1 := AutoSeq1.idx_int
    have f2 := AutoSeq1.sub_tuple_tuple
    have f3 := AutoSeq1.sub_list_list
    have f4 := AutoSeq1.sub_tuple_list
    have f5 := AutoSeq1.sub_list_tuple
    have hz' : (items ++ items2).size ≤ sizeLine + 1 := by rw [Array.size_append]; exact hs2
    wp_walk using (wpAny_updateSeq hl rfl (hz := hs1) (_hz' := hz')), wpAny_loadPart' hl, wpAny_loadPart' hb
    exact ⟨_, rfl, h⟩
def rExtendT (K : PySem.W.Frag) : V → List V → Hp → VK → Prop := fun x vs H Q => ∃ l b xs zs, x = .ref l ∧ vs = [.ref b] ∧ H l = some (.lst xs) ∧ SqT K H b zs ∧ xs.length + zs.length ≤ sizeLine ∧ Q .non (upd H l (.lst (xs ++ zs)))
theorem mt_extendT {X : Cx} : MtM X "list.extend" (rExtendT X.K) := by
  intro pins s σ H x vs v us Q I rx rv h
  obtain ⟨l, b, xs, zs, rfl, rfl, hH, hB, hz, q⟩ := h
  cases rx
  obtain ⟨u, rfl, ru⟩ := rv.one
  cases ru
  obtain ⟨z, its, n, r, hl, e⟩ := I.lstM hH
  obtain ⟨its2, r2, ⟨⟨cls, dd, data, sl⟩, ho, hc, n2, hd⟩, _⟩ := I.tuple hB
  simp only at hc hd
  subst hc hd
  have hl2 := r2.length
  have hsz : its.toArray.size + its2.toArray.size ≤ sizeLine := by rw [List.size_toArray, List.size_toArray]; omega
  have hlong : ¬ (!its.toArray.isEmpty && Builtin.List.listTooLong (its.toArray.size + its2.toArray.size)) = true := by
    rw [notLongL hsz, Bool.and_false]
    exact Bool.false_ne_true
  refine call_meets F.slot_list_extend ⟨_, e, rfl⟩ F.entry_list_extend (F.args_list_extend_2 _ _)
    (extend_tup l its.toArray n b its2.toArray n2 dd sl hlong (by rw [List.size_toArray]; omega) (by omega)) ⟨e, ho, ?_⟩
  refine ⟨.non, _, I.lset (its' := its ++ its2) hH e (by simp) (r.append r2) ?_, rfl, q⟩
  rw [List.length_append]
  omega
theorem so_extT {Φ : Dt → Prop} (hL : p ∈ L) (hlo : LooseP S SB p) (hj : ρ[j]? = some (some (.lat p xs))) (hx : nolA xs = true) (hn : Offs p ρ j) (h : Ev K S S ρ te (Eq (.tup ys))) (hy : nolA ys = true) (hz : xs.length + ys.length ≤ 100000)
    (k : Sg K S SB SF L w (ρ.set j (some (.lat p (xs ++ ys)))) P) : Sg K S SB SF L (tSeq (tDrop (tBM K "list" (rExtendT K) (tVar j) (tCons te tNil))) w) ρ P := fun D σ B H b i s f => by
  obtain ⟨v, hv, rv⟩ := s.val j _ hj
  obtain ⟨rfl, vs, hp, ra⟩ := rv.latI
  refine ⟨.ref p, hv, .inl ⟨rfl, _, SqL.of hp⟩, h σ H i s _ fun u d' H1 g1 i1 r1 e => ?_⟩
  subst e
  obtain ⟨b2, us, rfl, ht, rb⟩ := r1.tupI
  have hp1 : H1 p = some (.lst vs) := g1 _ _ hp rfl
  have ra1 := ra.mono g1
  refine ⟨p, b2, vs, us, rfl, rfl, hp1, ht, by rw [ra1.len, rb.len]; exact Nat.le_trans hz (by decide), ?_⟩
  exact sg_put (w := w) (D := D) hL hlo hj hn (b.up g1) i1 (s.mono g1) f hp1 ((ra1.off hp1 hx).app (rb.off hp1 hy)) k
/-- xs.extend([..]) -/
theorem so_extN (hL : p ∈ L) (hlo : LooseP S SB p) (hj : ρ[j]? = some (some (.lat p xs))) (hx : nolA xs = true) (hn : Offs p ρ j) (h : EvN K S S ρ te ys) (hy : nolA ys = true) (hz : xs.length + ys.length ≤ 100000)
    (k : Sg K S SB SF L w (ρ.set j (some (.lat p (xs ++ ys)))) P) : Sg K S SB SF L (tSeq (tDrop (tBM K "list" rExtend (tVar j) (tCons te tNil))) w) ρ P := fun D σ B H b i s f => by
  obtain ⟨v, hv, rv⟩ := s.val j _ hj
  obtain ⟨rfl, vs, hp, ra⟩ := rv.latI
  refine ⟨.ref p, hv, .inl ⟨rfl, _, SqL.of hp⟩, h σ H i s _ fun r us H1 H2 g1 _ _ g2 i2 e rb => ?_⟩
  have g := g1.trans g2
  have hp1 : H2 p = some (.lst vs) := g _ _ hp rfl
  have ra1 := ra.mono g
  refine ⟨p, r, vs, us, rfl, rfl, hp1, e, by rw [ra1.len, rb.len]; exact Nat.le_trans hz (by decide), ?_⟩
  exact sg_put (w := w) (D := D) hL hlo hj hn (b.up g) i2 (s.mono g) f hp1 ((ra1.off hp1 hx).app (rb.off hp1 hy)) k
theorem RepA.front {vs : List V} : ∀ {us : List V} {ds : List Dt} {d : Dt}, RepA K H us (ds ++ [d]) → RepA K H us.dropLast ds ∧ ∃ v, us[us.length - 1]? = some v ∧ Rep K H v d
  | _, [], _, .cons r .nil => ⟨.nil, _, rfl, r⟩
  | _, a :: ds, _, .cons (v := v) (vs := vs') r ra => by
    obtain ⟨h1, u, h2, h3⟩ := RepA.front (vs := vs) ra
    have hne : vs' ≠ [] := fun e => by rw [e] at h2; simp at h2
    refine ⟨by rw [List.dropLast_cons_of_ne_nil hne]; exact .cons r h1, u, ?_, h3⟩
    have hl : 0 < vs'.length := List.length_pos_iff.mpr hne
    rw [List.length_cons, Nat.add_sub_cancel]
    obtain ⟨m, hm⟩ : ∃ m, vs'.length = m + 1 := ⟨vs'.length - 1, by omega⟩
    rw [hm, List.getElem?_cons_succ]
    rwa [hm, Nat.add_sub_cancel] at h2
/-- xs.pop() -/
theorem so_pop (hL : p ∈ L) (hlo : LooseP S SB p) (hj : ρ[j]? = some (some (.lat p (xs ++ [d])))) (hx : nolA xs = true) (hn : Offs p ρ j)
    (k : Sg K S SB SF L w (ρ.set j (some (.lat p xs))) P) : Sg K S SB SF L (tSeq (tDrop (tBM0 K "list" rPop (tVar j))) w) ρ P := fun D σ B H b i s f => by
  obtain ⟨v, hv, rv⟩ := s.val j _ hj
  obtain ⟨rfl, vs, hp, ra⟩ := rv.latI
  obtain ⟨h1, u, h2, h3⟩ := RepA.front (vs := vs) ra
  refine ⟨.ref p, hv, .inl ⟨rfl, _, SqL.of hp⟩, p, vs, u, rfl, rfl, hp, h2, ?_⟩
  exact sg_put (w := w) (D := D) hL hlo hj hn b i s f hp (h1.off hp hx) k
/-- xs[i], by values -/
theorem get_list {X : Cx} : PGet X (rIxL X.K) := by
  intro pins s σ H x y v u Q I rx ry h
  obtain ⟨p, xs, i, z, rfl, rfl, hq, he, q⟩ := h
  cases rx
  obtain ⟨t, rfl⟩ := ry
  obtain ⟨its, r, pl, hz⟩ := I.list hq
  obtain ⟨j, h1, h2, h3, h4, h5⟩ := atI_get he
  obtain ⟨w, ew, rw'⟩ := r.get h2
  have hl := r.length
  have hn := line63
  have fin : EP X pins σ Q w s := ⟨z, H, I, rw', q⟩
  by_cases h0 : 0 ≤ i
  · have hj : i.toNat = j := by
      rw [seqIndex_of h0 h5] at h1
      exact Option.some.inj h1
    exact wpAny_getItem_list pl.isList h0 (by omega) (by rw [hj]; simpa using ew) fin
  · have hj : (i + (its.toArray.size : Int)).toNat = j := by
      rw [seqIndex_neg (by omega) h4] at h1
      rw [List.size_toArray, ← hl]
      exact Option.some.inj h1
    exact wpAny_getItem_list_neg pl.isList (by omega) (by rw [List.size_toArray] <;> omega) (by omega) (by rw [hj]; simpa using ew) fin
theorem RepA.setI {vs : List V} {ds : List Dt} (r : RepA K H vs ds) {i : Nat} {v : V} {d : Dt} (rv : Rep K H v d) : RepA K H (vs.set i v) (ds.set i d) := by
  induction ds generalizing vs i with
  | nil => cases r; exact .nil
  | cons x xs ih =>
    cases r with
    | cons r0 ra =>
      cases i with
      | zero => exact .cons rv ra
      | succ i => exact .cons r0 (ih ra)
theorem set_last {α : Type} (xs : List α) (a b : α) : (xs ++ [a]).set xs.length b = xs ++ [b] := by
  rw [List.set_append_right _ _ (Nat.le_refl _), Nat.sub_self]
  rfl
/-- xs[-1] += e -/
theorem so_aug {n m : Int} (hL : p ∈ L) (hlo : LooseP S SB p) (hj : ρ[j]? = some (some (.lat p (xs ++ [.int n])))) (hx : nolA xs = true) (hn : Offs p ρ j) (h : Ev K S S ρ te (Eq (.int m)))
    (k : Sg K S SB SF L w (ρ.set j (some (.lat p (xs ++ [.int (n + m)])))) P) : Sg K S SB SF L (tSeq (tAugS (tVar j) (tUn (rU fun i => .int (-i)) (tC (.int 1))) te (rIxL K) (ipI fun i j => i + j) rSetL) w) ρ P := fun D σ B H b i s f => by
  obtain ⟨v, hv, rv⟩ := s.val j _ hj
  obtain ⟨rfl, vs, hp, ra⟩ := rv.latI
  have hl : vs.length = xs.length + 1 := by rw [ra.len, List.length_append]; rfl
  obtain ⟨u, hu, ru⟩ := ra.at_ (i := xs.length) (d := .int n) (by simp)
  obtain rfl := ru.intI
  have ha : atI vs (-1) = some (.int n) := by
    unfold atI
    have : ixN vs.length (-1) = some xs.length := by
      unfold ixN
      rw [if_neg (by decide), if_pos (by omega)]
      congr 1
      omega
    rw [this]
    exact hu
  refine ⟨.ref p, hv, 1, rfl, p, vs, -1, .int n, rfl, rfl, SqL.of hp, ha, h σ H i s _ fun u d' H1 g1 i1 r1 e => ?_⟩
  subst e
  obtain rfl := r1.intI
  have hp1 : H1 p = some (.lst vs) := g1 _ _ hp rfl
  have ra1 := ra.mono g1
  refine ⟨n, m, rfl, rfl, p, vs, -1, xs.length, rfl, rfl, hp1, ?_, ?_⟩
  · unfold ixN
    rw [if_neg (by decide), if_pos (by omega)]
    congr 1
    omega
  · have hnol : nolA (xs ++ [.int n]) = true := by rw [nolA_app, hx]; rfl
    have := (ra1.off (o := .lst (vs.set xs.length (.int (n + m)))) hp1 hnol).setI (i := xs.length) (Rep.int (n + m))
    rw [set_last] at this
    exact sg_put (w := w) (D := D) hL hlo hj hn (b.up g1) i1 (s.mono g1) f hp1 this k
/-- x = a new list, no list of ours before -/
theorem so_newF {i : Nat} (h : EvN K S S1 ρ te xs) (l : S1.Le SF) (k : ∀ p, (∀ (i : Nat) (p' : Addr) (zs : List Dt), ρ[i]? = some (some (Dt.lat p' zs)) → p' ≠ p) → So K S1 SF [p] w (ρ.set i (some (.lat p xs))) P) : Sg K S SB SF L (tSeq (tAsg te (gName i)) w) ρ P := fun D σ B H b i s f =>
  h σ H i s _ fun p vs H1 H2 g1 i1 hp g2 i2 e r => k p (fun i p' zs e2 e3 => by
      obtain ⟨v, _, rv⟩ := (s.mono g1).val i _ e2
      obtain ⟨_, vs', hp', _⟩ := rv.latI
      rw [e3, hp] at hp'
      cases hp') D _ H1 H2 ⟨g2, l _ i1, fun a ha => by rw [List.mem_singleton.mp ha]; exact hp⟩ i2 ((s.mono (g1.trans g2)).set (.lat e r) _) (f.mono (b.gr.trans g1))
/-! ### loops in which loose lists are changed -/
/-- .. and what is walked stays -/
def staT (K : PySem.W.Frag) (S : Sta) (a : Addr) (vs : List V) (xs : List Dt) : Sta := ⟨fun H => S.I H ∧ SqT K H a vs ∧ RepA K H vs xs, fun h s => ⟨S.st h.1 s, s.gr.sqT h.2.1, h.2.2.mono s.gr⟩⟩
theorem SqT.offP {a : Addr} {vs ws : List V} {o : HO} (hD : H p = some (.lst ws)) (q : SqT K H a vs) : SqT K (upd H p o) a vs := by
  rcases q with (q | ⟨o', q⟩) | q
  · exact .inl (.inl (upd_other hD q fun _ z => nomatch z))
  · exact .inl (.inr ⟨o', upd_other hD q fun _ z => nomatch z⟩)
  · exact .inr q
/-- for x in a tuple -/
theorem so_forTX (h : Ev K S S ρ tl (Eq (.tup xs))) (hx : nolA xs = true) (J : Nat → List (Option Dt) → Prop) (h0 : J 0 ρ)
    (hs : ∀ (S' : Sta), S'.Le S → (∀ S0 p, LooseP S S0 p → LooseP S' S0 p) → (S.Mu → S'.Mu) → ∀ i x ρ', xs[i]? = some x → J i ρ' → Sg K S' SB S' L t (ρ'.set j (some x)) { P with nx := J (i + 1), ct := J (i + 1), bk := P.nx })
    (hd : ∀ ρ', J xs.length ρ' → P.nx ρ') : Sg K S SB S L (tFor (iTup K tl) (gName j) t) ρ P := fun D σ B H b i s f =>
  h σ H i s _ fun v d H1 g1 i1 r1 p1 => by
    subst p1
    obtain ⟨a, vs, rfl, ht, ra⟩ := r1.tupI
    have le : (staT K S a vs xs).Le S := fun _ z => z.1
    have lo : ∀ S0 p, LooseP S S0 p → LooseP (staT K S a vs xs) S0 p := fun S0 p l => fun iB g hp e z => ⟨l iB g hp e z.1, SqT.offP e z.2.1, z.2.2.off e hx⟩
    have mu : S.Mu → (staT K S a vs xs).Mu := fun m => fun i1 g hD z => ⟨m i1.1 g hD z.1, (gr_off g hD).sqT i1.2.1, i1.2.2.mono (gr_off g hD)⟩
    refine ⟨a, rfl, ⟨vs, ht⟩, for_tup (K := K) (a := a) (xs := vs) (fun n σ' H' => Gr B H' ∧ (staT K S a vs xs).I H' ∧ ∃ ρ', Slots K H' σ' ρ' ∧ J n ρ') ⟨b.gr.trans g1, ⟨i1, ht, ra⟩, ρ, s.mono g1, h0⟩ (fun n σ' H' _ p => p.2.1.2.1) (fun n x σ' H' hx p => ?_) fun σ' H' p => ?_⟩
    · obtain ⟨g2, i2, ρ', s2, jn⟩ := p
      obtain ⟨d, hd', rd⟩ := i2.2.2.ta hx
      refine hs _ le lo mu n d ρ' hd' jn _ _ B H' ⟨g2, b.i, b.new⟩ i2 (s2.set rd j) ⟨fun σ3 ρ3 H3 g3 i3 s3 q => ⟨g3, i3, ρ3, s3, q⟩, fun v3 d3 H3 g3 i3 => f.rt v3 d3 H3 g3 (le _ i3), fun σ3 ρ3 H3 g3 i3 s3 q => f.nx σ3 ρ3 H3 g3 (le _ i3) s3 q, fun σ3 ρ3 H3 g3 i3 s3 q => ⟨g3, i3, ρ3, s3, q⟩⟩
    · obtain ⟨g2, i2, ρ', s2, jn⟩ := p
      rw [ra.len] at jn
      exact f.nx σ' ρ' H' g2 i2.1 s2 (hd ρ' jn)
/-- a loop over zip of two lists -/
theorem for_zipM {K : PySem.W.Frag} {a b : Addr} {xs ys : List V} {g : TG} {tb : TS} {D : Ends} {σ : L2.St} {H : Hp} (Pv : Nat → L2.St → Hp → Prop) (h0 : Pv 0 σ H) (hq : ∀ i σ H, Pv i σ H → SqL K H a xs ∧ SqL K H b ys)
    (hs : ∀ (i : Nat) (x y : V) (T : Addr) (σ : L2.St) (H : Hp), xs[i]? = some x → ys[i]? = some y → Pv i σ H → H T = none → g (.ref T) σ (upd H T (.tup [x, y])) fun σ2 H2 => tb { D with nx := Pv (i + 1), ct := Pv (i + 1), bk := D.nx } σ2 H2) (hd : ∀ σ H, Pv (min xs.length ys.length) σ H → D.nx σ H) :
    ∃ Wk : Nat → Nat → L2.St → Hp → Prop, (∃ m, Wk 0 m σ H) ∧ ∀ i m σ H, Wk i m σ H →
      ((Itz K a b).stop i H ∧ D.nx σ H) ∨ ((Itz K a b).go i H ∧ ∃ Nx : L2.St → Hp → Prop, (∀ σ' H', Nx σ' H' → ∃ m2, m2 < m ∧ Wk (i + 1) m2 σ' H') ∧ ∀ v H', (Itz K a b).yld i H v H' → g v σ H' fun σ2 H2 => tb { D with nx := Nx, ct := Nx, bk := D.nx } σ2 H2) := by
  refine ⟨fun i m σ H => m = min xs.length ys.length - i ∧ i ≤ min xs.length ys.length ∧ Pv i σ H, ⟨_, rfl, Nat.zero_le _, h0⟩, ?_⟩
  rintro i m σ H ⟨rfl, hi, p⟩
  obtain ⟨qx, qy⟩ := hq i σ H p
  by_cases hlt : i < min xs.length ys.length
  · have l1 : i < xs.length := by omega
    have l2 : i < ys.length := by omega
    refine .inr ⟨⟨xs, ys, _, _, qx, qy, List.getElem?_eq_getElem l1, List.getElem?_eq_getElem l2⟩, Pv (i + 1), fun σ' H' p' => ⟨min xs.length ys.length - (i + 1), by omega, rfl, hlt, p'⟩, fun v H' y => ?_⟩
    obtain ⟨T, x2, y2, rfl, hT, rfl, f1, f2⟩ := y
    exact hs i x2 y2 T σ H (f1 xs qx) (f2 ys qy) p hT
  · have e : i = min xs.length ys.length := by omega
    refine .inl ⟨⟨xs, ys, qx, qy, by omega⟩, hd σ H (e ▸ p)⟩
def staZ (K : PySem.W.Frag) (S : Sta) (a c : Addr) (vs us : List V) (xs ys : List Dt) : Sta :=
  ⟨fun H => S.I H ∧ H a = some (.lst vs) ∧ RepA K H vs xs ∧ H c = some (.lst us) ∧ RepA K H us ys, fun h s => ⟨S.st h.1 s, s _ _ h.2.1, h.2.2.1.mono s.gr, s _ _ h.2.2.2.1, h.2.2.2.2.mono s.gr⟩⟩
/-- for x, y in zip(a list of ours, a new one) -/
theorem so_forZX {j1 j2 : Nat} (h1 : Ev K S S ρ t1 (Eq (.lat q xs))) (h2 : EvN K S S ρ t2 ys) (hx : nolA xs = true) (hy : nolA ys = true) (J : Nat → List (Option Dt) → Prop) (h0 : J 0 ρ)
    (hs : ∀ (S' : Sta) (r : Addr), S'.Le S → (∀ (i : Nat) (p : Addr) (zs : List Dt), ρ[i]? = some (some (Dt.lat p zs)) → p ≠ r) → (∀ S0 p, p ≠ q → p ≠ r → LooseP S S0 p → LooseP S' S0 p) → ∀ i x y ρ', xs[i]? = some x → ys[i]? = some y → J i ρ' →
      Sg K S' SB S' L t ((ρ'.set j1 (some x)).set j2 (some y)) { P with nx := J (i + 1), ct := J (i + 1), bk := P.nx })
    (hd : ∀ ρ', J (min xs.length ys.length) ρ' → P.nx ρ') : Sg K S SB S L (tFor (iZip K (tCons t1 (tCons t2 tNil))) (gTup K 2 (gCons (gName j1) (gCons (gName j2) gNil))) t) ρ P := fun D σ B H b i s f =>
  h1 σ H i s _ fun v d H1 g1 i1 r1 p1 => by
    subst p1
    refine h2 σ H1 i1 (s.mono g1) _ fun r us H2 H3 g2 _ hr g3 i3 hr3 rb => ?_
    obtain ⟨rfl, vs, ha, ra⟩ := r1.latI
    have g23 := g2.trans g3
    have ha3 : H3 q = some (.lst vs) := g23 _ _ ha rfl
    have ra3 := ra.mono g23
    have s3 := s.mono (g1.trans g23)
    have hq : q ≠ r := fun e => by
      have := g2 _ _ ha rfl
      rw [e, hr] at this
      cases this
    have hslots : ∀ (i : Nat) (p : Addr) (zs : List Dt), ρ[i]? = some (some (Dt.lat p zs)) → p ≠ r := fun i p zs e e2 => by
      obtain ⟨v, _, rv⟩ := (s.mono (g1.trans g2)).val i _ e
      obtain ⟨_, vs', hp, _⟩ := rv.latI
      rw [e2, hr] at hp
      cases hp
    have le : (staZ K S q r vs us xs ys).Le S := fun _ z => z.1
    have lo : ∀ S0 p, p ≠ q → p ≠ r → LooseP S S0 p → LooseP (staZ K S q r vs us xs ys) S0 p := fun S0 p n1 n2 l => fun iB g hp e z =>
      ⟨l iB g hp e z.1, by rw [upd_ne (Ne.symm n1)]; exact z.2.1, z.2.2.1.off e hx, by rw [upd_ne (Ne.symm n2)]; exact z.2.2.2.1, z.2.2.2.2.off e hy⟩
    refine ⟨q, r, vs, us, rfl, SqL.of ha3, SqL.of hr3, for_zipM (K := K) (a := q) (b := r) (xs := vs) (ys := us) (fun n σ' H' => Gr B H' ∧ (staZ K S q r vs us xs ys).I H' ∧ ∃ ρ', Slots K H' σ' ρ' ∧ J n ρ') ⟨b.gr.trans (g1.trans g23), ⟨i3, ha3, ra3, hr3, rb⟩, ρ, s3, h0⟩
      (fun n σ' H' p => ⟨SqL.of p.2.1.2.1, SqL.of p.2.1.2.2.2.1⟩) (fun n x y T σ' H' hx' hy' p hT => ?_) fun σ' H' p => ?_⟩
    · obtain ⟨g4, i4, ρ', s4, jn⟩ := p
      obtain ⟨dx, hdx, rdx⟩ := i4.2.2.1.ta hx'
      obtain ⟨dy, hdy, rdy⟩ := i4.2.2.2.2.ta hy'
      have sn := same_new (o := .tup [x, y]) hT
      refine ⟨T, [x, y], rfl, SqT.of upd_same, rfl, names_run (is := [j1, j2]) (ds := [dx, dy]) (s4.mono sn.gr) (.cons (rdx.mono sn.gr) (.cons (rdy.mono sn.gr) .nil)) rfl fun σ5 s5 => ?_⟩
      refine hs _ r le hslots lo n dx dy ρ' hdx hdy jn _ _ B _ ⟨g4.trans sn.gr, b.i, b.new⟩ ((staZ K S q r vs us xs ys).st i4 sn) s5 ⟨fun σ3 ρ3 H3 g3 i3 s3 q => ⟨g3, i3, ρ3, s3, q⟩, fun v3 d3 H3 g3 i3 => f.rt v3 d3 H3 g3 (le _ i3), fun σ3 ρ3 H3 g3 i3 s3 q => f.nx σ3 ρ3 H3 g3 (le _ i3) s3 q, fun σ3 ρ3 H3 g3 i3 s3 q => ⟨g3, i3, ρ3, s3, q⟩⟩
    · obtain ⟨g4, i4, ρ', s4, jn⟩ := p
      rw [ra.len, rb.len] at jn
      exact f.nx σ' ρ' H' g4 i4.1 s4 (hd ρ' jn)
end
end Bf
namespace Bf
open PySem PySem.Spec PyProof.Rows L2
/-! ## a tuple times 0 or 1 -/
theorem mul_one (l : Addr) (items : Array Value) (n : Nat) (dd : Option Addr) (sl : Array (Option Value)) (u : Tok) :
    Meets (Builtin.«tuple.__mul__» ⟨[.ref l, .int 1 u], []⟩) (fun _ R s => s.heap.get? l = some { cls := .type "tuple", dict := dd, data := .seq items n, slots := sl } ∧ R (.ok (.ret (Value.ref l))) s) :=
  .of_wp fun prog w A R s h => by
    obtain ⟨hp, g, d, tk, os⟩ := s
    obtain ⟨hl, h⟩ := h
    have f1 := AutoSeq1.idx_int
    have c0 : (decide ((1 : Int) < -(2 ^ 63)) || decide ((1 : Int) ≥ 2 ^ 63)) = false := by decide
    have c1 : (items.isEmpty || (1 : Int) == 1) = true := by simp
    wp_walk using wpAny_loadPart' hl
    repeat (first
      | (refine wpAny_ite_false (decide_eq_false (by rw [c0]; exact Bool.false_ne_true)) ?_; wp_walk using wpAny_loadPart' hl)
      | (refine wpAny_ite_true (decide_eq_true c1) ?_; wp_walk using wpAny_loadPart' hl))
    exact ⟨_, rfl, h⟩
theorem mul_zero (l : Addr) (items : Array Value) (n : Nat) (dd : Option Addr) (sl : Array (Option Value)) (u : Tok) (hi : items.isEmpty = false) :
    Meets (Builtin.«tuple.__mul__» ⟨[.ref l, .int 0 u], []⟩) (fun _ R s => s.heap.get? l = some { cls := .type "tuple", dict := dd, data := .seq items n, slots := sl } ∧ R (.ok (.ret (Value.ref s.heap.objs.size))) { s with heap := s.heap.push { cls := Value.type "tuple", data := Data.seq #[] }, toks := s.toks }) :=
  .of_wp fun prog w A R s h => by
    obtain ⟨hp, g, d, tk, os⟩ := s
    obtain ⟨hl, h⟩ := h
    have f1 := AutoSeq1.idx_int
    have c0 : (decide ((0 : Int) < -(2 ^ 63)) || decide ((0 : Int) ≥ 2 ^ 63)) = false := by decide
    have c1 : (items.isEmpty || (0 : Int) == 1) = false := by rw [hi]; rfl
    have c2 : (decide ((0 : Int) ≤ 0) || items.isEmpty) = true := by rw [hi]; rfl
    wp_walk using wpAny_loadPart' hl
    repeat (first
      | (refine wpAny_ite_false (decide_eq_false (by rw [c0]; exact Bool.false_ne_true)) ?_; wp_walk using wpAny_loadPart' hl)
      | (refine wpAny_ite_false (decide_eq_false (by rw [c1]; exact Bool.false_ne_true)) ?_; wp_walk using wpAny_loadPart' hl)
      | (refine wpAny_ite_true (decide_eq_true c2) ?_; wp_walk using wpAny_loadPart' hl))
    exact ⟨_, rfl, h⟩
def rRep01 (K : PySem.W.Frag) : R2 := fun x y H Q => ∃ l k xs, x = .ref l ∧ y = .int k ∧ SqT K H l xs ∧ xs ≠ [] ∧ (k = 1 ∧ Q (.ref l) H ∨ k = 0 ∧ ∀ p, H p = none → Q (.ref p) (upd H p (.tup [])))
theorem op_rep01 {X : Cx} : OpR X (binaryOp .Mult) (rRep01 X.K) := by
  intro pins s σ H x y v u Q I rx ry h
  obtain ⟨l, k, xs, rfl, rfl, hT, hne, h1⟩ := h
  cases rx
  obtain ⟨t, rfl⟩ := ry
  obtain ⟨its, r, ⟨⟨cls, dd, data, sl⟩, ho, hc, n, hd⟩, hs⟩ := I.tuple hT
  simp only at hc hd
  subst hc hd
  have hle : its.length = xs.length := r.length.symm
  have hi : its.toArray.isEmpty = false := by
    cases its with
    | nil => exact absurd (List.eq_nil_of_length_eq_zero hle.symm) hne
    | cons a b => rfl
  refine wpAny_binaryOp_repeat_ref (T := "tuple") (U := "int") (by decide) ⟨_, ho, rfl⟩ (fun s' => typeIs_int s' k t) noFill_tuple_mul F.fills_int_mul F.slot_int_rmul repeat_tuple F.slot_int_index.lookup
    (call_meets F.slot_int_rmul (typeIs_int s k t) F.entry_int_rmul (F.args_int_rmul_2 _ _) (int_rmul_tuple k t l its.toArray n dd sl) ⟨ho, rfl, ⟨_, ho, rfl⟩, ?_⟩)
  rcases h1 with ⟨rfl, q⟩ | ⟨rfl, q⟩
  · exact call_meets F.slot_tuple_mul ⟨_, ho, rfl⟩ F.entry_tuple_mul (F.args_tuple_mul_2 _ _) (mul_one l its.toArray n dd sl t) ⟨ho, .ref l, H, I, rfl, q⟩
  · refine call_meets F.slot_tuple_mul ⟨_, ho, rfl⟩ F.entry_tuple_mul (F.args_tuple_mul_2 _ _) (mul_zero l its.toArray n dd sl t hi) ⟨ho, ?_⟩
    exact ⟨.ref s.heap.objs.size, _, I.laid (t' := s.toks) (o := .tup []) (fun b ob q => Heap.get?_push_of_some _ q) (Nat.le_refl _) ⟨by rw [sizeLine_eq]; decide, _, .nil, IsTup.new _ _⟩, rfl, q _ (I.hok.fresh (Nat.le_refl _))⟩
theorem rv_rep01 {K : PySem.W.Frag} {S : Sta} {xs : List Dt} {b : Bool} (hx : xs ≠ []) : Rv2 K S (rRep01 K) (.tup xs) (.int (if b = true then 1 else 0)) (Eq (.tup (if b = true then xs else []))) := fun H v u i r1 r2 Q q => by
  obtain ⟨a, vs, rfl, ht, ra⟩ := r1.tupI
  obtain rfl := r2.intI
  refine ⟨a, _, vs, rfl, rfl, ht, fun e => ?_, ?_⟩
  · rw [e] at ra
    cases ra
    exact hx rfl
  · cases b with
    | true => exact .inl ⟨rfl, q _ _ H (Gr.refl H) i (.tup ht ra) rfl⟩
    | false => exact .inr ⟨rfl, fun p hp => q _ _ _ (same_new hp).gr (S.st i (same_new hp)) (.tup (SqT.of upd_same) .nil) rfl⟩
end Bf
namespace Bf
open PySem PySem.Spec PyProof.Rows L2
/-! ## Promises by a relation -/
section
variable {K : PySem.W.Frag} {S S1 S2 SB SF : Sta} {L : List Addr} {ρ : List (Option Dt)} {P : Po} {te tl : TE} {w t : TS} {d : Dt} {j : Nat} {vs : List Nat} {xs : List Dt}
def spR (K : PySem.W.Frag) (n : Nat) (R : List Dt → Dt → Prop) : Sp := fun vs H Q _ => ∃ ds d, RepA K H vs ds ∧ ds.length = n ∧ R ds d ∧ ∀ v H', Same H H' → Rep K H' v d → Q v H'
theorem ev_callR {t : TA} {ds : List Dt} {n : Nat} {R : List Dt → Dt → Prop} {E : XK} (ha : EvA K S S1 ρ t (Eq ds)) (hn : ds.length = n) (hp : R ds d) : Ev K S S1 ρ (tCall (spR K n R) [] E t) (Eq d) := fun σ H i s Q q =>
  ha σ H i s _ fun vs ds' H1 g1 i1 r1 p1 => by
    subst p1
    rw [List.append_nil]
    exact ⟨ds, d, r1, hn, hp, fun v H2 sm r => q v _ H2 (g1.trans sm.gr) (S1.st i1 sm) r rfl⟩
theorem ev_callRW {t : TA} {ds es : List Dt} {n m : Nat} {gV : List V → List V} {R : List Dt → Dt → Prop} {E : XK} (ha : EvA K S S1 ρ t (Eq es)) (hm : es.length = m) (hg : ∀ H vs, RepA K H vs es → RepA K H (gV vs) ds) (hn : ds.length = n) (hp : R ds d) :
    Ev K S S1 ρ (tCallW (spR K n R) m gV E t) (Eq d) := fun σ H i s Q q =>
  ha σ H i s _ fun vs ds' H1 g1 i1 r1 p1 => by
    subst p1
    exact ⟨r1.len.trans hm, ds, d, hg _ _ r1, hn, hp, fun v H2 sm r => q v _ H2 (g1.trans sm.gr) (S1.st i1 sm) r rfl⟩
def spM (K : PySem.W.Frag) (n : Nat) (R : List Dt → List Dt → Prop) : Sp := fun vs H Q _ => ∃ ds xs, RepA K H vs ds ∧ ds.length = n ∧ R ds xs ∧ ∀ p us H', Same H H' → H p = none → H' p = some (.lst us) → RepA K H' us xs → Q (.ref p) H'
theorem en_callR {t : TA} {ds : List Dt} {n : Nat} {R : List Dt → List Dt → Prop} {E : XK} (ha : EvA K S S1 ρ t (Eq ds)) (hn : ds.length = n) (hp : R ds xs) : EvN K S S1 ρ (tCall (spM K n R) [] E t) xs := fun σ H i s Q q =>
  ha σ H i s _ fun vs ds' H1 g1 i1 r1 p1 => by
    subst p1
    rw [List.append_nil]
    exact ⟨ds, xs, r1, hn, hp, fun p us H2 sm hp e r => q p us H1 H2 g1 i1 hp sm.gr (S1.st i1 sm) e r⟩
theorem en_callRW {t : TA} {ds es : List Dt} {n m : Nat} {gV : List V → List V} {R : List Dt → List Dt → Prop} {E : XK} (ha : EvA K S S1 ρ t (Eq es)) (hm : es.length = m) (hg : ∀ H vs, RepA K H vs es → RepA K H (gV vs) ds) (hn : ds.length = n) (hp : R ds xs) :
    EvN K S S1 ρ (tCallW (spM K n R) m gV E t) xs := fun σ H i s Q q =>
  ha σ H i s _ fun vs ds' H1 g1 i1 r1 p1 => by
    subst p1
    exact ⟨r1.len.trans hm, ds, xs, hg _ _ r1, hn, hp, fun p us H2 sm hp e r => q p us H1 H2 g1 i1 hp sm.gr (S1.st i1 sm) e r⟩
theorem okR {P : Program} {w : World} {mg : Str → Option Value} {base : Heap} {x qual : Str} {st : Stmt} {f : Addr} {fd : FuncData} {N ps : List Str} {k : Nat} {R : List Dt → Dt → Prop} (Fu : Fun K x qual st f fd) (Sc : FnScope N ps (defScope st))
    (hb : ∀ (cdv : Value) (A : Around) (out : List Env) (s : Shared) (H : Hp) (E : XK), Room k (A.deeper (envOfC qual (defScope st) s.heap.objs.size f cdv)) → A.guards = some [] →
      ∃ t, PSs (cxOf (L2.CX P w) P w K mg base N qual (defScope st) f cdv A out s H E).nox (defBody st) t ∧ ∀ (S : Sta), S.Mu → ∀ (ds : List Dt) (d : Dt), ds.length = ps.length → R ds d → So K S S [] t (startD N.length ds) { nx := fun _ => d = .non, rt := Eq d }) :
    GOk P w K mg base (k + 1) f fd ps (spR K ps.length R) := by
  refine okG Fu Sc (fun vs H Q E h => ?_) fun cdv A out s H vs Q E hr hg h => ?_
  · obtain ⟨ds, d, r, hl, _⟩ := h
    exact r.len.trans hl
  · obtain ⟨ds, d, r, hl, hp, q⟩ := h
    obtain ⟨t, ht, so⟩ := hb cdv A out s H E hr hg
    refine ⟨t, ht.nox, so (staSame H) staSame_mu ds d hl hp _ _ H H ⟨Gr.refl H, Same.refl H, fun _ z => nomatch z⟩ (Same.refl H) (slots_start r) ⟨fun σ ρ H' g i s' e => ?_, fun v d' H' g i r' e => ?_, fun _ _ _ _ _ _ z => z.elim, fun _ _ _ _ _ _ z => z.elim⟩⟩
    · exact q _ H' i ((show d = .non from e) ▸ .non)
    · exact q v H' i ((show d = d' from e) ▸ r')
theorem okM {P : Program} {w : World} {mg : Str → Option Value} {base : Heap} {x qual : Str} {st : Stmt} {f : Addr} {fd : FuncData} {N ps : List Str} {k : Nat} {R : List Dt → List Dt → Prop} (Fu : Fun K x qual st f fd) (Sc : FnScope N ps (defScope st))
    (hb : ∀ (cdv : Value) (A : Around) (out : List Env) (s : Shared) (H : Hp) (E : XK), Room k (A.deeper (envOfC qual (defScope st) s.heap.objs.size f cdv)) → A.guards = some [] →
      ∃ t, PSs (cxOf (L2.CX P w) P w K mg base N qual (defScope st) f cdv A out s H E).nox (defBody st) t ∧ ∀ (H0 : Hp) (ds xs : List Dt), ds.length = ps.length → R ds xs → So K (staSame H0) (staSame H0) [] t (startD N.length ds) { rt := fun d => ∃ p, d = .lat p xs ∧ H0 p = none }) :
    GOk P w K mg base (k + 1) f fd ps (spM K ps.length R) := by
  refine okG Fu Sc (fun vs H Q E h => ?_) fun cdv A out s H vs Q E hr hg h => ?_
  · obtain ⟨ds, xs, r, hl, _⟩ := h
    exact r.len.trans hl
  · obtain ⟨ds, xs, r, hl, hp, q⟩ := h
    obtain ⟨t, ht, so⟩ := hb cdv A out s H E hr hg
    refine ⟨t, ht.nox, so H ds xs hl hp _ _ H H ⟨Gr.refl H, Same.refl H, fun _ z => nomatch z⟩ (Same.refl H) (slots_start r) ⟨fun _ _ _ _ _ _ z => z.elim, fun v d H' g i r' e => ?_, fun _ _ _ _ _ _ z => z.elim, fun _ _ _ _ _ _ z => z.elim⟩⟩
    obtain ⟨p, rfl, hp⟩ := e
    obtain ⟨rfl, us, e, ra⟩ := r'.latI
    exact q p us H' i hp e ra
/-- return a new list -/
theorem so_retN0 {H0 : Hp} (h : EvN K (staSameQ H0) (staSameQ H0) ρ te xs) (l : (staSameQ H0).Le SF) (q : ∀ p, H0 p = none → P.rt (.lat p xs)) : Sg K (staSameQ H0) SB SF L (tRet te) ρ P := fun D σ B H b i s f =>
  h σ H i s _ fun p vs H1 H2 g1 i1 hp g2 i2 e r => f.rt _ _ H2 ((b.gr.trans g1).trans g2) (l _ i2) (.lat e r) (q p (same_none i1 hp))
theorem so_retN1 {H0 : Hp} (h : EvN K (staSameQ H0) (staSameQ H0) ρ te xs) (l : (staSameQ H0).Le SF) (q : ∀ p, H0 p = none → P.rt (.lat p xs)) : Sg K (staSameQ H0) SB SF L (tSeq (tRet te) w) ρ P := fun D σ B H b i s f =>
  h σ H i s _ fun p vs H1 H2 g1 i1 hp g2 i2 e r => f.rt _ _ H2 ((b.gr.trans g1).trans g2) (l _ i2) (.lat e r) (q p (same_none i1 hp))
/-- list(a tuple), a new list -/
theorem en_listT (h : Ev K S S1 ρ te (Eq (.tup xs))) : EvN K S S1 ρ (tCB (rLstO K) (tCons te tNil)) xs := fun σ H i s Q q =>
  h σ H i s _ fun v d H1 g1 i1 r1 e => by
    subst e
    obtain ⟨a, us, rfl, ht, ra⟩ := r1.tupI
    exact ⟨a, us, rfl, .inr ht, fun p hp => q p us H1 _ g1 i1 hp (same_new hp).gr (S1.st i1 (same_new hp)) upd_same (ra.mono (same_new hp).gr)⟩
/-- a slice of a list, a new list -/
theorem en_slL {tl th : TO} {lo hi : Option Int} (ha : Ev K S S1 ρ te (Eq (.lst xs))) (hl : EvO K S1 S2 ρ tl (Eq lo)) (hh : EvO K S2 S2 ρ th (Eq hi)) : EvN K S S2 ρ (tSl (rSlL K) te tl th) (cutD xs lo hi) := fun σ H i s Q q =>
  ha σ H i s _ fun v d H1 g1 i1 r1 p1 => hl σ H1 i1 (s.mono g1) _ fun o2 H2 g2 i2 p2 => hh σ H2 i2 (s.mono (g1.trans g2)) _ fun o3 H3 g3 i3 p3 => by
    subst p1 p2 p3
    obtain ⟨a, us, rfl, h, ra⟩ := r1.lstI
    have g23 := g2.trans g3
    exact ⟨a, us, rfl, g23.sqL h, fun p hp => q p _ H3 _ (g1.trans g23) i3 hp (same_new hp).gr (S2.st i3 (same_new hp)) upd_same ((cut_rep (ra.mono g23) lo hi).mono (same_new hp).gr)⟩
/-- [te for x in a tuple], a new list -/
theorem en_lcT {f : Dt → Dt} (hmu : S.Mu) (h : Ev K S S ρ tl (Eq (.tup xs))) (hj : j ∈ vs) (hz : xs.length ≤ 100000)
    (he : ∀ x ∈ xs, Ev K S S ((wipeD ρ vs).set j (some x)) te (Eq (f x))) (hf : ∀ x ∈ xs, nol (f x) = true) : EvN K S S ρ (tLc (iTup K tl) (gName j) tYes te vs) (xs.map f) := fun σ H i s Q q =>
  h σ H i s _ fun v d H1 g1 i1 r1 p1 => by
    subst p1
    obtain ⟨a, us, rfl, hT, ra⟩ := r1.tupI
    refine ⟨a, rfl, ⟨us, hT⟩, fun D hD => lc_tup (K := K) (a := a) (xs := us) (fun n H' => Gr H1 H' ∧ S.I H' ∧ ∃ acc, H' D = some (.lst acc) ∧ RepA K H' acc ((xs.take n).map f)) ⟨(same_new hD).gr, S.st i1 (same_new hD), [], upd_same, .nil⟩
      (fun n H' _ q' => q'.1.sqT hT) (fun n x H' hx q' => ?_) fun H' q' => ?_⟩
    · obtain ⟨g2, i2, acc, ha, rac⟩ := q'
      obtain ⟨dx, hdx, rdx⟩ := ra.ta hx
      have hmem : dx ∈ xs := List.mem_of_getElem? hdx
      have htake : xs.take (n + 1) = xs.take n ++ [dx] := by rw [List.take_add_one, hdx]; rfl
      have hnol : nolA ((xs.take n).map f) = true := nolA_all.mpr fun y hy => by
        obtain ⟨z, hz1, rfl⟩ := List.mem_map.mp hy
        exact hf z (List.mem_of_mem_take hz1)
      refine lc_turns (g := σ) (Z := fun _ _ => True) (i := n) (acc := acc) (ds := (xs.take n).map f) (dx := dx) (p := true) (Φ := Eq (f dx)) (S := S) (S1 := S) (fun g i => hmu i1 g hD i) (Sta.Le.refl S) hD hj (s.mono g1) g2 i2 ha rac hnol (rdx.mono g2) ?_ et_yes (fun e => (he dx hmem).weak fun d e2 => ⟨e2, e2 ▸ hf dx hmem⟩) (fun e H2 acc' d e1 _ g3 i3 h3 r3 => ?_) fun e => nomatch e
      · rw [List.length_map]
        refine Nat.lt_of_le_of_lt (List.length_take_le _ _) (Nat.lt_of_le_of_lt (Nat.le_trans (Nat.le_of_lt ?_) hz) (by decide))
        exact (List.getElem?_eq_some_iff.mp hdx).1
      · subst e1
        refine ⟨g3, i3, acc', h3, ?_⟩
        rw [htake, List.map_append]
        exact r3
    · obtain ⟨g2, i2, acc, ha, rac⟩ := q'
      rw [ra.len, List.take_length] at rac
      exact q D acc H1 H' g1 i1 hD g2 i2 ha rac
end
end Bf
namespace Bf
open PySem PySem.Spec PyProof.Rows L2
/-! ## raise C(e), C an own error with a field -/
/-- what is known of the class at C, by the name x -/
structure BadCls (prog : Program) (K : PySem.W.Frag) (mg : Str → Option Value) (x f : Str) (C fI : Addr) : Prop where
  T : BadTxt prog K f C fI
  gC : mg x = some (.ref C)
  kC : PySem.W.keepIn K (.ref C) = true
  exC : PySem.W.subIn K (.ref C) (.type "BaseException") = some true
  tyC : PySem.W.typeIn K (.ref C) = some (.type "type")
  ga : PySem.W.findIn K (.ref C) "__getattribute__" = some (some (.builtin "BaseException.__getattribute__"))
  gg : PySem.W.findIn K (.ref C) "__getattr__" = some none
  hdC : PySem.W.hasDictIn K C = true
  te : PySem.W.exmOne K (.ref C) (.ref C) = some true
  ms : mg "super" = none
  top : (prog.main.scope.names.lookup ("super" : Str)).isSome = false
  fn : f ≠ "self" ∧ f ≠ "super" ∧ f ≠ "__class__" ∧ f ≠ "__debug__"
theorem relO_one {f : Str} {v : V} {v' : Value} (r : RelV v v') (g : Str) : RelO (List.lookup g [(f, v)]) (if g = f then some v' else none) := by
  by_cases h : g = f
  · subst h
    rw [if_pos rfl]
    have q : List.lookup g [(g, v)] = some v := by simp [List.lookup]
    rw [q]
    exact r
  · rw [if_neg h]
    have q1 : (g == f) = false := by simpa using h
    have q2 : List.lookup g [(f, v)] = none := by simp [List.lookup, q1]
    rw [q2]
    trivial
section
variable {X : Cx} {C fI : Addr} {x f : Str}
def tMkB (C : Addr) (f : Str) (ta : TA) : L2.St → Hp → XK → Prop := fun σ H Q => ta σ H fun vs H1 => ∃ v, vs = [v] ∧ ∀ d, H1 d = none → Q (.ref C) (some d) (upd H1 d (.xd [(f, v)]))
theorem pmk_bad {a : Expr} {ta : TA} {p pos : Pos} {k : Nat} (T : BadCls X.prog X.K X.mg x f C fI) (hr : Room k X.A) (ha : PA X [a] ta) (hg : Gl X x := by rfl) (hdb : (x == ("__debug__" : Str)) = false := by decide)
    (he : starEach (a :: []) X.env = (false, eval a X.env) :: starEach [] X.env := by rfl) (hpl : (backTo pos (starEach [] X.env)).any (·.1) = false := by rfl) :
    PMk X (.Call (.Name x p) [a] [] pos) (tMkB C f ta) := by
  intro pins s σ H Q I h
  refine wpAny_Call_Name_kw (ld_glob I hg T.gC ?_ hdb)
  refine PySem.W.callWith_K (h₀ := X.base) I.ok.mod.kin T.kC (thn (ha.run pos pins s σ H _ I h) fun us s1 hh => ?_) he hpl
  obtain ⟨vs, H1, I1, r1, v, rfl, q1⟩ := hh
  refine ⟨I1.kIn, ?_⟩
  obtain ⟨u, rfl, ru⟩ := r1.one
  show wpAny _ _ (call (.ref C) [u]) _ _ _
  have hlim := I1.nolimit
  obtain ⟨mb, hb1, hb2⟩ := I1.mod.blt
  have hg1 := I1.mod.glob.keeps I1.bk
  have hb3 := hb1.keeps I1.bk
  obtain ⟨hp, g, dr, tk, os⟩ := s1
  refine wpAny_call (bad_made T.T I1.kIn hlim hg1 hb3 T.ms ((hb2 _ (by decide)).trans (by first | rfl | decide +kernel)) T.top T.fn (by have := hr.dp; omega) fun h' tk' e d M => ?_)
  show MkP X pins σ Q (.ref e) ⟨h', g, dr, tk', os⟩
  obtain ⟨t1, hoe⟩ := M.obj
  obtain ⟨G', g1, g2⟩ := restrict h' fun b => decide (b ≠ e)
  have gk : ∀ b, b ≠ e → G'.get? b = h'.get? b := fun b hb => g1 b (decide_eq_true hb)
  have ge : G'.get? e = none := g2 e (by simp)
  have old : ∀ b o, hp.get? b = some o → G'.get? b = some o := fun b o q => (gk b (Nat.ne_of_lt (Nat.lt_of_lt_of_le (Heap.lt_size q) M.new))).trans (M.keep b o q)
  have ob : ObjOk X.prog X.w (upd H1 d (.xd [(f, v)])) G' d (.xd [(f, v)]) := ⟨_, M.ns.at (fun o q => (gk d M.dne).trans q), fun y => relO_one ru y⟩
  have J : Inv X pins σ (upd H1 d (.xd [(f, v)])) ⟨G', g, dr, tk', os⟩ := I1.laid (t' := tk') old M.dbig ob
  refine ⟨e, _, _, ⟨G', g, dr, tk', os⟩, _, .ref C, some d, rfl, J, fun b o q => ?_, ge, hoe, ⟨rfl, rfl⟩, rfl, rfl, ?_, rfl, I1.bare, raises_own T.exC T.tyC, q1 d (I1.hok.fresh M.dbig)⟩
  · by_cases hb : b = e
    · have q' : G'.get? b = some o := q
      rw [hb, ge] at q'
      cases q'
    · exact (gk b hb).symm.trans q
  · rw [upd_ne (Ne.symm M.dne)]
    exact I1.hok.fresh M.new
/-- raise C(e) -/
def tRaiseB (C : Addr) (f : Str) (W : WX) (ta : TA) : TS := fun _ σ H => tMkB C f ta σ H fun cls d H' => W cls d σ H'
theorem ps_raiseB {a : Expr} {ta : TA} {W : WX} {p pos pos2 : Pos} {k : Nat} (hc : X.calm = true) (T : BadCls X.prog X.K X.mg x f C fI) (hr : Room k X.A) (tk : Takes X W) (ha : PA X [a] ta) (hg : Gl X x := by rfl) (hdb : (x == ("__debug__" : Str)) = false := by decide)
    (he : starEach (a :: []) X.env = (false, eval a X.env) :: starEach [] X.env := by rfl) (hpl : (backTo pos (starEach [] X.env)).any (·.1) = false := by rfl) :
    PS X (.Raise (some (.Call (.Name x p) [a] [] pos)) none pos2) (tRaiseB C f W ta) := ps_raise hc tk (pmk_bad T hr ha hg hdb he hpl)
/-- n.f, n the error that the suite holds (at a; its class cls, its dict d) -/
def tFld (C : Addr) (f : Str) (a : Addr) (cls : Value) (d : Option Addr) (te : TE) : TE := fun σ H Q => te σ H fun y H1 => y = .ref a ∧ cls = .ref C ∧ ∃ (dd : Addr) (v : V), d = some dd ∧ H1 dd = some (.xd [(f, v)]) ∧ Q v H1
theorem pe_fld {a : Addr} {oe : Obj} {cls : Value} {d : Option Addr} {pn : List (Addr × Obj)} {e : Expr} {te : TE} {pos : Pos} (T : BadCls X.prog X.K X.mg x f C fI) (hz : Zc cls d oe) (hf : ∃ vs, oe.data = .fields vs) (he : PE (X.suite a ((a, oe) :: pn)) e te)
    (hb : attributeBase e f X.env (eval e X.env) = eval e X.env := by rfl) :
    PE (X.suite a ((a, oe) :: pn)) (.Attribute e f pos) (tFld C f a cls d te) := by
  refine ⟨fun pins s σ H Q I h => ?_⟩
  refine attr_of hb (thn (he.run pins s σ H _ I h) fun u s1 hq => ?_)
  obtain ⟨y, H1, I1, rx, rfl, rfl, dd, v, rfl, ea, q⟩ := hq
  obtain rfl : u = Value.ref a := rx
  obtain ⟨ha, _⟩ := I1.pin (a, oe) (List.mem_append_left _ List.mem_cons_self)
  obtain ⟨vs, hd⟩ := hf
  obtain ⟨mA, hns, hr⟩ := show ObjOk X.prog X.w H1 s1.heap dd (.xd [(f, v)]) from I1.hok dd _ ea
  obtain ⟨od, ho, hl⟩ := lookIn_ns hns
  have l : List.lookup f [(f, v)] = some v := by simp [List.lookup]
  obtain ⟨u, hu, ru⟩ := RelO.some_of (v := v) (o := mA f) (by rw [← l]; exact hr f)
  have J : PySem.W.InstAt s1.heap a oe C (some od) := ⟨ha, hz.1, by unfold PySem.W.notCls; rw [hd] <;> rfl, by rw [hz.2]; exact ho⟩
  exact HandSPX.exc_get I1.kIn J T.ga T.gg T.exC (PySem.W.findObj_own T.hdC T.T.noN rfl (by rw [hl, hu])) (handed_of ru) ⟨v, H1, I1.tok _, ru, q⟩
end
end Bf
namespace Bf
open PySem PySem.Spec PyProof.Rows L2
/-! ## Defs that raise, over data -/
section
variable {X : Cx} {k : Nat} {f : Addr} {fd : FuncData} {ps : List Str} {sp : Sp} {E : L2.St → XK} {x : Str} {p pos : Pos} {e : Expr} {es : List Expr} {t : TA}
/-- f(e, ..) in a try: what f lets out goes by the slots as they stand -/
theorem pe_gS (G : GOk X.prog X.w X.K X.mg X.base k f fd ps sp) (hb : BPos fd ps) (hm : X.mg x = some (.ref f)) (hk : PySem.W.keepIn X.K (.ref f) = true) (hr : Room k X.A) (hgd : X.A.guards = some []) (hx : ∀ σ, PassesAt (L2.CX X.prog X.w) X σ (E σ)) (ha : PA X (e :: es) t)
    (hg : Gl X x := by rfl) (hdb : (x == ("__debug__" : Str)) = false := by decide) (he : starEach (e :: es) X.env = (false, eval e X.env) :: starEach es X.env := by rfl) (hpl : (backTo pos (starEach es X.env)).any (·.1) = false := by rfl) :
    PE X (.Call (.Name x p) (e :: es) [] pos) (tCallS sp E t) := by
  refine ⟨fun pins s σ H Q I h => wpAny_Call_Name_kw (ld_glob I hg hm ?_ hdb)⟩
  refine PySem.W.callWith_K (h₀ := X.base) I.ok.mod.kin hk (thn (ha.run pos pins s σ H _ I h) fun us s1 ⟨vs, H1, I1, r, q⟩ => ⟨I1.kIn, ?_⟩) he hpl
  show wpAny _ _ (call (.ref f) us) _ _ _
  refine wpAny_call (codeAny_mono (G.go X.A X.stack s1 H1 ⟨us, []⟩ us vs Q (E σ) hr hgd I1.env0 (hb s1 us (r.length.symm.trans (G.len _ _ _ _ q))) r q) fun r' s' hq => ?_)
  match r', hq with
  | .error er, hq => exact hx σ pins H1 s1 er s' I1 hq
  | .ok (.ret u), hq => exact I1.after hq
  | .ok .next, hq => exact hq.elim
  | .ok .brk, hq => exact hq.elim
  | .ok .cont, hq => exact hq.elim
end
/-- what a call comes to -/
inductive Out where
  | ok (d : Dt)
  | er (C : Addr) (f : Str) (d : Dt)
def spX (K : PySem.W.Frag) (n : Nat) (R : List Dt → Out → Prop) : Sp := fun vs H Q E => ∃ ds o, RepA K H vs ds ∧ ds.length = n ∧ R ds o ∧ match o with
  | .ok d => ∀ v H', Same H H' → Rep K H' v d → Q v H'
  | .er C f d => ∀ a v H', Same H H' → H' a = some (.xd [(f, v)]) → Rep K H' v d → E (.ref C) (some a) H'
/-- E takes the error -/
def XW (K : PySem.W.Frag) (S : Sta) (C : Addr) (f : Str) (d : Dt) (E : XK) : Prop := ∀ a v H', S.I H' → H' a = some (.xd [(f, v)]) → Rep K H' v d → E (.ref C) (some a) H'
def PO : Out → Po
  | .ok d => { nx := fun _ => d = .non, rt := Eq d }
  | .er _ _ _ => {}
section
variable {K : PySem.W.Frag} {S S1 S2 SB SF : Sta} {L : List Addr} {ρ : List (Option Dt)} {P : Po} {te ta tb : TE} {tt : TT} {w t u : TS} {tl : TA} {d : Dt} {j n : Nat} {ds : List Dt} {R : List Dt → Out → Prop} {E : XK} {C : Addr} {f : Str}
theorem okX {Pg : Program} {w : World} {mg : Str → Option Value} {base : Heap} {x qual : Str} {st : Stmt} {g : Addr} {fd : FuncData} {N ps : List Str} {k : Nat} (Fu : Fun K x qual st g fd) (Sc : FnScope N ps (defScope st))
    (hb : ∀ (cdv : Value) (A : Around) (out : List Env) (s : Shared) (H : Hp) (E : XK), Room k (A.deeper (envOfC qual (defScope st) s.heap.objs.size g cdv)) → A.guards = some [] →
      ∃ t, PSs (cxOf (L2.CX Pg w) Pg w K mg base N qual (defScope st) g cdv A out s H E) (defBody st) t ∧ ∀ (S : Sta), S.Mu → ∀ (ds : List Dt) (o : Out), ds.length = ps.length → R ds o → (∀ C f d, o = .er C f d → XW K S C f d E) → So K S S [] t (startD N.length ds) (PO o)) :
    GOk Pg w K mg base (k + 1) g fd ps (spX K ps.length R) := by
  refine okG Fu Sc (fun vs H Q E h => ?_) fun cdv A out s H vs Q E hr hg h => ?_
  · obtain ⟨ds, o, r, hl, _⟩ := h
    exact r.len.trans hl
  · obtain ⟨ds, o, r, hl, hp, q⟩ := h
    obtain ⟨t, ht, so⟩ := hb cdv A out s H E hr hg
    have hw : ∀ C f d, o = .er C f d → XW K (staSame H) C f d E := fun C f d e a v H' i ha rv => by
      subst e
      exact q a v H' i ha rv
    refine ⟨t, ht, so (staSame H) staSame_mu ds o hl hp hw _ _ H H ⟨Gr.refl H, Same.refl H, fun _ z => nomatch z⟩ (Same.refl H) (slots_start r) ⟨fun σ ρ H' g i s' e => ?_, fun v d' H' g i r' e => ?_, fun σ ρ H' g i s' e => ?_, fun σ ρ H' g i s' e => ?_⟩⟩
    · cases o with
      | ok d => exact q _ H' i ((show d = .non from e) ▸ .non)
      | er => exact (show False from e).elim
    · cases o with
      | ok d => exact q v H' i ((show d = d' from e) ▸ r')
      | er => exact (show False from e).elim
    · cases o <;> exact (show False from e).elim
    · cases o <;> exact (show False from e).elim
/-- f(..) that comes back -/
theorem ev_callX (ha : EvA K S S1 ρ tl (Eq ds)) (hn : ds.length = n) (hp : R ds (.ok d)) : Ev K S S1 ρ (tCall (spX K n R) [] E tl) (Eq d) := fun σ H i s Q q =>
  ha σ H i s _ fun vs ds' H1 g1 i1 r1 p1 => by
    subst p1
    rw [List.append_nil]
    exact ⟨ds, .ok d, r1, hn, hp, fun v H2 sm r => q v _ H2 (g1.trans sm.gr) (S1.st i1 sm) r rfl⟩
theorem ev_callXS {Es : L2.St → XK} (ha : EvA K S S1 ρ tl (Eq ds)) (hn : ds.length = n) (hp : R ds (.ok d)) : Ev K S S1 ρ (tCallS (spX K n R) Es tl) (Eq d) := fun σ H i s Q q =>
  ha σ H i s _ fun vs ds' H1 g1 i1 r1 p1 => by
    subst p1
    exact ⟨ds, .ok d, r1, hn, hp, fun v H2 sm r => q v _ H2 (g1.trans sm.gr) (S1.st i1 sm) r rfl⟩
/-- te raises, whatever is wished of its value -/
def EvR (K : PySem.W.Frag) (S : Sta) (ρ : List (Option Dt)) (te : TE) : Prop := ∀ (σ : L2.St) (H : Hp), S.I H → Slots K H σ ρ → ∀ Q : VK, te σ H Q
def EvRA (K : PySem.W.Frag) (S : Sta) (ρ : List (Option Dt)) (t : TA) : Prop := ∀ (σ : L2.St) (H : Hp), S.I H → Slots K H σ ρ → ∀ Q : List V → Hp → Prop, t σ H Q
def EvRT (K : PySem.W.Frag) (S : Sta) (ρ : List (Option Dt)) (t : TT) : Prop := ∀ (σ : L2.St) (H : Hp), S.I H → Slots K H σ ρ → ∀ Q : Bool → Hp → Prop, t σ H Q
theorem er_callX (ha : EvA K S S1 ρ tl (Eq ds)) (hn : ds.length = n) (hp : R ds (.er C f d)) (hw : XW K S1 C f d E) : EvR K S ρ (tCall (spX K n R) [] E tl) := fun σ H i s Q =>
  ha σ H i s _ fun vs ds' H1 g1 i1 r1 p1 => by
    subst p1
    rw [List.append_nil]
    exact ⟨ds, .er C f d, r1, hn, hp, fun a v H2 sm ea rv => hw a v H2 (S1.st i1 sm) ea rv⟩
theorem er_op1 {r : R2} (h : EvR K S ρ ta) : EvR K S ρ (tOp r ta tb) := fun σ H i s Q => h σ H i s _
theorem er_op2 {r : R2} {Φ : Dt → Prop} (ha : Ev K S S1 ρ ta Φ) (h : EvR K S1 ρ tb) : EvR K S ρ (tOp r ta tb) := fun σ H i s Q => ha σ H i s _ fun v d H1 g1 i1 r1 p1 => h σ H1 i1 (s.mono g1) _
theorem er_args1 {tr : TA} (h : EvR K S ρ ta) : EvRA K S ρ (tCons ta tr) := fun σ H i s Q => h σ H i s _
theorem er_args2 {tr : TA} {Φ : Dt → Prop} (ha : Ev K S S1 ρ ta Φ) (h : EvRA K S1 ρ tr) : EvRA K S ρ (tCons ta tr) := fun σ H i s Q => ha σ H i s _ fun v d H1 g1 i1 r1 p1 => h σ H1 i1 (s.mono g1) _
theorem er_call {sp : Sp} {dvs : List V} (h : EvRA K S ρ tl) : EvR K S ρ (tCall sp dvs E tl) := fun σ H i s Q => h σ H i s _
theorem er_cb {r : List V → Hp → VK → Prop} (h : EvRA K S ρ tl) : EvR K S ρ (tCB r tl) := fun σ H i s Q => h σ H i s _
theorem er_test (h : EvR K S ρ ta) : EvRT K S ρ (tTest ta) := fun σ H i s Q => h σ H i s _
theorem er_B (h : EvR K S ρ ta) : EvRT K S ρ (tB ta) := fun σ H i s Q => h σ H i s _
theorem er_not {c : TT} (h : EvRT K S ρ c) : EvRT K S ρ (tNot c) := fun σ H i s Q => h σ H i s _
theorem so_dropR (h : EvR K S ρ te) : Sg K S SB SF L (tSeq (tDrop te) w) ρ P := fun D σ B H b i s ft => h σ H i s _
theorem so_setR {g : TG} (h : EvR K S ρ te) : Sg K S SB SF L (tSeq (tAsg te g) w) ρ P := fun D σ B H b i s ft => h σ H i s _
theorem so_set0R {g : TG} (h : EvR K S ρ te) : Sg K S SB SF L (tAsg te g) ρ P := fun D σ B H b i s ft => h σ H i s _
theorem so_retR (h : EvR K S ρ te) : Sg K S SB SF L (tRet te) ρ P := fun D σ B H b i s ft => h σ H i s _
theorem so_ret1R (h : EvR K S ρ te) : Sg K S SB SF L (tSeq (tRet te) w) ρ P := fun D σ B H b i s ft => h σ H i s _
theorem so_ifR {c : TT} (h : EvRT K S ρ c) : Sg K S SB SF L (tSeq (tIfS c t u) w) ρ P := fun D σ B H b i s ft => h σ H i s _
/-- raise C(e) -/
theorem so_raiseB (h : Ev K S S1 ρ te (Eq d)) (hw : XW K S1 C f d E) : Sg K S SB SF L (tRaiseB C f (fun cls d _ H => E cls d H) (tCons te tNil)) ρ P := fun D σ B H b i s ft =>
  h σ H i s _ fun v d' H1 g1 i1 r1 e => by
    subst e
    exact ⟨v, rfl, fun a ha => hw a v _ (S1.st i1 (same_new ha)) upd_same (r1.mono (same_new ha).gr)⟩
theorem so_raise1B (h : Ev K S S1 ρ te (Eq d)) (hw : XW K S1 C f d E) : Sg K S SB SF L (tSeq (tRaiseB C f (fun cls d _ H => E cls d H) (tCons te tNil)) w) ρ P := fun D σ B H b i s ft =>
  h σ H i s _ fun v d' H1 g1 i1 r1 e => by
    subst e
    exact ⟨v, rfl, fun a ha => hw a v _ (S1.st i1 (same_new ha)) upd_same (r1.mono (same_new ha).gr)⟩
/-! ### try .. except C as n -/
/-- .. and the error's dict is at a -/
def staD (K : PySem.W.Frag) (S : Sta) (a : Addr) (f : Str) (v : V) (d : Dt) : Sta := ⟨fun H => S.I H ∧ H a = some (.xd [(f, v)]) ∧ Rep K H v d, fun h s => ⟨S.st h.1 s, s _ _ h.2.1, h.2.2.mono s.gr⟩⟩
theorem Slots.none_ {H : Hp} {σ : L2.St} (s : Slots K H σ ρ) (j : Nat) : Slots K H (σ.set j none) (ρ.set j none) := by
  refine ⟨by rw [List.length_set, List.length_set]; exact s.len, fun i d h => ?_⟩
  by_cases hij : j = i
  · subst hij
    by_cases hl : j < ρ.length
    · rw [List.getElem?_set_self hl] at h
      cases h
    · rw [List.getElem?_eq_none (by rw [List.length_set]; omega)] at h
      cases h
  · rw [List.getElem?_set_ne hij] at h
    obtain ⟨v, hv, rv⟩ := s.val i d h
    exact ⟨v, by rw [List.getElem?_set_ne hij]; exact hv, rv⟩
/-- n.f in the suite -/
theorem ev_fld {a dd : Addr} {v : V} {i : Nat} (hi : ρ[i]? = some (some (.raw (.ref a)))) : Ev K (staD K S dd f v d) (staD K S dd f v d) ρ (tFld C f a (.ref C) (some dd) (tVar i)) (Eq d) := fun σ H h s Q q => by
  obtain ⟨v0, hv, rv⟩ := s.val i _ hi
  obtain rfl := rv.rawI
  exact ⟨.ref a, hv, rfl, rfl, dd, v, rfl, h.2.1, q v d H (Gr.refl H) h h.2.2 rfl⟩
variable {c : Value} {i : Nat} {tw : WX → TS} {ts : Addr → Value → Option Addr → TS} {Wout : WX}
/-- the body ends by itself -/
theorem so_tryOk (h : ∀ W, Sg K S SB SF L (tw W) ρ P) : Sg K S SB SF L (fun D σ H => tw (wAs K c i ts Wout D) D σ H) ρ P := fun D σ B H b hi s ft => h (wAs K c i ts Wout D) D σ B H b hi s ft
/-- the body raises, with the slots as they were -/
theorem so_tryEr (hm : PySem.W.exmOne K (.ref C) c = some true)
    (hb : ∀ (W : WX) (D : Ends) (σ : L2.St) (H : Hp), S.I H → Slots K H σ ρ → (∀ a v H', Gr H H' → S1.I H' → H' a = some (.xd [(f, v)]) → Rep K H' v d → W (.ref C) (some a) σ H') → tw W D σ H)
    (hs : ∀ (e a : Addr) (v : V), Sg K (staD K S1 a f v d) SB SF L (ts e (.ref C) (some a)) (ρ.set i (some (.raw (.ref e)))) { nx := fun ρ' => P.nx (ρ'.set i none), rt := P.rt, bk := fun ρ' => P.bk (ρ'.set i none), ct := fun ρ' => P.ct (ρ'.set i none) }) :
    Sg K S SB SF L (fun D σ H => tw (wAs K c i ts Wout D) D σ H) ρ P := fun D σ B H b hi s ft =>
  hb _ D σ H hi s fun a v H' g i' ha rv => ⟨true, hm, fun _ e he => hs e a v _ _ B H' (b.up g) ⟨i', ha, rv⟩ ((s.mono g).set (v := .ref e) (.raw _) i)
    ⟨fun σ' ρ' H2 g2 i2 s2 q => ft.nx _ _ H2 g2 i2 (s2.none_ i) q, ft.rt, fun σ' ρ' H2 g2 i2 s2 q => ft.bk _ _ H2 g2 i2 (s2.none_ i) q, fun σ' ρ' H2 g2 i2 s2 q => ft.ct _ _ H2 g2 i2 (s2.none_ i) q⟩, fun z => nomatch z⟩
/-! at one place: what is wished plays no part -/
section
variable {σ : L2.St} {H : Hp} {D : Ends}
theorem pr_callS {Es : L2.St → XK} (hi : S.I H) (hs : Slots K H σ ρ) (ha : EvA K S S1 ρ tl (Eq ds)) (hn : ds.length = n) (hp : R ds (.er C f d)) (hw : ∀ a v H', Gr H H' → S1.I H' → H' a = some (.xd [(f, v)]) → Rep K H' v d → Es σ (.ref C) (some a) H') (Q : VK) : tCallS (spX K n R) Es tl σ H Q :=
  ha σ H hi hs _ fun vs ds' H1 g1 i1 r1 e => by
    subst e
    exact ⟨ds, .er C f d, r1, hn, hp, fun a v H2 sm ea rv => hw a v H2 (g1.trans sm.gr) (S1.st i1 sm) ea rv⟩
theorem pr_args {tr : TA} (h : ∀ Q, ta σ H Q) (Q : List V → Hp → Prop) : (tCons ta tr) σ H Q := h _
theorem pr_cb {r : List V → Hp → VK → Prop} (h : ∀ Q, tl σ H Q) (Q : VK) : (tCB r tl) σ H Q := h _
theorem pr_op {r : R2} (h : ∀ Q, ta σ H Q) (Q : VK) : (tOp r ta tb) σ H Q := h _
theorem pr_test (h : ∀ Q, ta σ H Q) (Q : Bool → Hp → Prop) : (tTest ta) σ H Q := h _
theorem pr_if {c : TT} (h : ∀ Q, c σ H Q) (Q : VK) : (tIf c ta tb) σ H Q := h _
theorem pr_asg {g : TG} (h : ∀ Q, te σ H Q) : (tAsg te g) D σ H := h _
theorem pr_drop (h : ∀ Q, te σ H Q) : (tDrop te) D σ H := h _
theorem pr_ret (h : ∀ Q, te σ H Q) : (tRet te) D σ H := h _
end
end
end Bf
namespace Bf
open PySem PySem.Spec PyProof.Rows L2
/-! ## Tables: the defs over data, and their readings -/
/-! ### is_whole, is_whole_from, is_duration, is_bit_count -/
def isW (d : Dt) : Bool := isIntD d && !isBlD d
def isWF (d : Dt) (lo hi : Int) : Bool := match d with
  | .int i => decide (lo ≤ i) && decide (i ≤ hi)
  | _ => false
def one1 (g : Dt → Dt) : List Dt → Dt
  | [d] => g d
  | _ => .non
abbrev p_is_whole (K : PySem.W.Frag) : Sp := spF K 1 (fun ds => ∃ d, ds = [d] ∧ okN d = true) (one1 fun d => .bl (isW d))
def f_wf : List Dt → Dt
  | [d, .int lo, .int hi] => .bl (isWF d lo hi)
  | _ => .non
abbrev p_is_whole_from (K : PySem.W.Frag) : Sp := spF K 3 (fun ds => ∃ d lo hi, ds = [d, .int lo, .int hi] ∧ okN d = true) f_wf
abbrev p_is_duration (K : PySem.W.Frag) : Sp := spF K 1 (fun ds => ∃ d, ds = [d] ∧ okN d = true) (one1 fun d => .bl (isWF d 1 99999))
abbrev p_is_bit_count (K : PySem.W.Frag) : Sp := spF K 1 (fun ds => ∃ d, ds = [d] ∧ okN d = true) (one1 fun d => .bl (isWF d 1 8))
/-- what a pure def's body is to come to -/
abbrev Pu (d : Dt) : Po := { nx := fun _ => d = .non, rt := Eq d }
abbrev t_is_whole (K : PySem.W.Frag) : TS := (tRet (tAndV (tCB (rIsi K) (tCons (tVar 0) (tCons (tC (.ty "int")) tNil))) (tNotV (tCB (rIsi K) (tCons (tVar 0) (tCons (tC (.ty "bool")) tNil))))))
abbrev t_is_whole_from (K : PySem.W.Frag) : TS := (tRet (tAndV (tCall (p_is_whole K) [] E0 (tCons (tVar 0) tNil)) (tChain rLeI rLeI (tVar 1) (tVar 0) (tVar 2))))
abbrev t_is_duration (K : PySem.W.Frag) : TS := (tRet (tCall (p_is_whole_from K) [] E0 (tCons (tVar 0) (tCons (tC (.int 1)) (tCons (tC (.int 99999)) tNil)))))
abbrev t_is_bit_count (K : PySem.W.Frag) : TS := (tRet (tCall (p_is_whole_from K) [] E0 (tCons (tVar 0) (tCons (tC (.int 1)) (tCons (tC (.int 8)) tNil)))))
section
variable {K : PySem.W.Frag} {S : Sta} {ds : List Dt}
theorem so_is_whole (hmu : S.Mu) (hp : ∃ d, ds = [d] ∧ okN d = true) : So K S S [] (t_is_whole K) (startD 1 ds) (Pu (one1 (fun d => .bl (isW d)) ds)) := by
  obtain ⟨d, rfl, hd⟩ := hp
  exact so_retD (ev_and (ev_isInt (ev_var rfl) hd) fun _ => ev_not (ev_isBl (ev_var rfl) hd)) (Sta.Le.refl S) rfl
theorem ev_is_whole {S1 : Sta} {ρ : List (Option Dt)} {ta : TE} {d : Dt} (h : Ev K S S1 ρ ta (Eq d)) (hd : okN d = true) : Ev K S S1 ρ (tCall (p_is_whole K) [] E0 (tCons ta tNil)) (Eq (.bl (isW d))) := ev_callF (ea_cons h ea_nil) rfl ⟨d, rfl, hd⟩
theorem so_is_whole_from (hmu : S.Mu) (hp : ∃ d lo hi, ds = [d, .int lo, .int hi] ∧ okN d = true) : So K S S [] (t_is_whole_from K) (startD 3 ds) (Pu (f_wf ds)) := by
  obtain ⟨d, lo, hi, rfl, hd⟩ := hp
  cases d with
  | int i => exact so_retD (ev_andT (ev_is_whole (ev_var rfl) hd) (ev_lele (ev_var rfl) (ev_var rfl) (ev_var rfl))) (Sta.Le.refl S) rfl
  | _ => exact so_retD (ev_andF (ev_is_whole (ev_var rfl) hd)) (Sta.Le.refl S) rfl
theorem ev_is_whole_from {S1 : Sta} {ρ : List (Option Dt)} {ta : TE} {d : Dt} {lo hi : Int} (h : Ev K S S1 ρ ta (Eq d)) (hd : okN d = true) : Ev K S S1 ρ (tCall (p_is_whole_from K) [] E0 (tCons ta (tCons (tC (.int lo)) (tCons (tC (.int hi)) tNil)))) (Eq (.bl (isWF d lo hi))) :=
  ev_callF (ea_cons h (ea_cons ev_int (ea_cons ev_int ea_nil))) rfl ⟨d, lo, hi, rfl, hd⟩
theorem so_is_duration (hmu : S.Mu) (hp : ∃ d, ds = [d] ∧ okN d = true) : So K S S [] (t_is_duration K) (startD 1 ds) (Pu (one1 (fun d => .bl (isWF d 1 99999)) ds)) := by
  obtain ⟨d, rfl, hd⟩ := hp
  exact so_retD (ev_is_whole_from (ev_var rfl) hd) (Sta.Le.refl S) rfl
theorem so_is_bit_count (hmu : S.Mu) (hp : ∃ d, ds = [d] ∧ okN d = true) : So K S S [] (t_is_bit_count K) (startD 1 ds) (Pu (one1 (fun d => .bl (isWF d 1 8)) ds)) := by
  obtain ⟨d, rfl, hd⟩ := hp
  exact so_retD (ev_is_whole_from (ev_var rfl) hd) (Sta.Le.refl S) rfl
theorem ev_is_duration {S1 : Sta} {ρ : List (Option Dt)} {ta : TE} {d : Dt} (h : Ev K S S1 ρ ta (Eq d)) (hd : okN d = true) : Ev K S S1 ρ (tCall (p_is_duration K) [] E0 (tCons ta tNil)) (Eq (.bl (isWF d 1 99999))) := ev_callF (ea_cons h ea_nil) rfl ⟨d, rfl, hd⟩
theorem ev_is_bit_count {S1 : Sta} {ρ : List (Option Dt)} {ta : TE} {d : Dt} (h : Ev K S S1 ρ ta (Eq d)) (hd : okN d = true) : Ev K S S1 ρ (tCall (p_is_bit_count K) [] E0 (tCons ta tNil)) (Eq (.bl (isWF d 1 8))) := ev_callF (ea_cons h ea_nil) rfl ⟨d, rfl, hd⟩
end
/-! ### are_durations, is_pulse_and_gap -/
def areD : Dt → Bool
  | .tup xs => xs.all fun x => isWF x 1 99999
  | _ => false
def isPG (d : Dt) : Bool := areD d && match d with
  | .tup xs => decide ((xs.length : Int) = 2)
  | _ => false
/-- plain, and its tuple not too long -/
def plS (d : Dt) : Bool := pl d && match d with
  | .tup xs => decide (xs.length ≤ 100000)
  | _ => true
theorem plS_pl {d : Dt} (h : plS d = true) : pl d = true := (Bool.and_eq_true_iff.mp h).1
abbrev p_are_durations (K : PySem.W.Frag) : Sp := spF K 1 (fun ds => ∃ d, ds = [d] ∧ plS d = true) (one1 fun d => .bl (areD d))
abbrev p_is_pulse_and_gap (K : PySem.W.Frag) : Sp := spF K 1 (fun ds => ∃ d, ds = [d] ∧ plS d = true) (one1 fun d => .bl (isPG d))
abbrev t_are_durations (K : PySem.W.Frag) : TS := (tRet (tAndV (tCB (rIsi K) (tCons (tVar 0) (tCons (tC (.ty "tuple")) tNil))) (tCB (rAll K) (tCons (tLc (iTup K (tVar 0)) (gName 1) tYes (tCall (p_is_duration K) [] E0 (tCons (tVar 1) tNil)) [1]) tNil))))
abbrev t_is_pulse_and_gap (K : PySem.W.Frag) : TS := (tRet (tAndV (tCall (p_are_durations K) [] E0 (tCons (tVar 0) tNil)) (tOp rEq (tCB (rLen K) (tCons (tVar 0) tNil)) (tC (.int 2)))))
section
variable {K : PySem.W.Frag} {S : Sta} {ds : List Dt}
theorem so_are_durations (hmu : S.Mu) (hp : ∃ d, ds = [d] ∧ plS d = true) : So K S S [] (t_are_durations K) (startD 2 ds) (Pu (one1 (fun d => .bl (areD d)) ds)) := by
  obtain ⟨d, rfl, hd⟩ := hp
  have ho := pl_okN (plS_pl hd)
  cases d with
  | tup xs =>
    have hl : xs.length ≤ 100000 := of_decide_eq_true (Bool.and_eq_true_iff.mp hd).2
    have hx := pl_tup (plS_pl hd)
    exact so_retD (ev_andT (ev_isTup (ev_var rfl) ho) (ev_allT (p := fun x => isWF x 1 99999) hmu (ev_var rfl) (by decide) hl fun x h => ev_is_duration (ev_var rfl) (pl_okN (hx x h)))) (Sta.Le.refl S) rfl
  | _ => exact so_retD (ev_andF (ev_isTup (ev_var rfl) ho)) (Sta.Le.refl S) rfl
theorem ev_are_durations {S1 : Sta} {ρ : List (Option Dt)} {ta : TE} {d : Dt} (h : Ev K S S1 ρ ta (Eq d)) (hd : plS d = true) : Ev K S S1 ρ (tCall (p_are_durations K) [] E0 (tCons ta tNil)) (Eq (.bl (areD d))) := ev_callF (ea_cons h ea_nil) rfl ⟨d, rfl, hd⟩
theorem so_is_pulse_and_gap (hmu : S.Mu) (hp : ∃ d, ds = [d] ∧ plS d = true) : So K S S [] (t_is_pulse_and_gap K) (startD 1 ds) (Pu (one1 (fun d => .bl (isPG d)) ds)) := by
  obtain ⟨d, rfl, hd⟩ := hp
  cases d with
  | tup xs => exact so_retD (ev_and (ev_are_durations (ev_var rfl) hd) fun _ => ev_op (ev_lenT (ev_var rfl)) ev_int rv_eqI) (Sta.Le.refl S) rfl
  | _ => exact so_retD (ev_andF (ev_are_durations (ev_var rfl) hd)) (Sta.Le.refl S) rfl
theorem ev_is_pulse_and_gap {S1 : Sta} {ρ : List (Option Dt)} {ta : TE} {d : Dt} (h : Ev K S S1 ρ ta (Eq d)) (hd : plS d = true) : Ev K S S1 ρ (tCall (p_is_pulse_and_gap K) [] E0 (tCons ta tNil)) (Eq (.bl (isPG d))) := ev_callF (ea_cons h ea_nil) rfl ⟨d, rfl, hd⟩
end
/-! ### begins_with, the first wrong part -/
def bwD (d : Dt) (n : Str) (k : Int) : Bool := match d with
  | .tup (.str s :: xs) => decide (((xs.length + 1 : Nat) : Int) = k) && decide (s = n)
  | _ => false
def f_bw : List Dt → Dt
  | [d, .str n, .int k] => .bl (bwD d n k)
  | _ => .non
abbrev p_begins_with (K : PySem.W.Frag) : Sp := spF K 3 (fun ds => ∃ d n k, ds = [d, .str n, .int k] ∧ pl d = true ∧ 0 < k) f_bw
def len024 : Dt → Bool
  | .tup xs => decide ((xs.length : Int) ∈ [0, 2, 4])
  | _ => false
/-- of a tuple of six -/
def wrongP : List Dt → Dt
  | [_, h, z, o, s, b] =>
    if !(areD h && len024 h) then .str "header"
    else if !isPG z then .str "zero"
    else if !isPG o || PyData.eqv (py o) (py z) then .str "one"
    else if !isWF s 1 99999 then .str "stop"
    else if !isWF b 1 8 then .str "bits"
    else .non
  | _ => .non
def wrongH : List Dt → Dt
  | [_, u, b] => if !isWF u 1 99999 then .str "unit" else if !isWF b 1 8 then .str "bits" else .non
  | _ => .non
def tupF (g : List Dt → Dt) : List Dt → Dt
  | [.tup xs] => g xs
  | _ => .non
def plSA (xs : List Dt) : Bool := xs.all plS
abbrev p_wrong_part_of_pairs (K : PySem.W.Frag) : Sp := spF K 1 (fun ds => ∃ xs, ds = [.tup xs] ∧ xs.length = 6 ∧ plSA xs = true) (tupF wrongP)
abbrev p_wrong_part_of_halves (K : PySem.W.Frag) : Sp := spF K 1 (fun ds => ∃ xs, ds = [.tup xs] ∧ xs.length = 3 ∧ plSA xs = true) (tupF wrongH)
abbrev t_begins_with (K : PySem.W.Frag) : TS := (tSeq (tIfS (tOr (tNot (tB (tCB (rIsi K) (tCons (tVar 0) (tCons (tC (.ty "tuple")) tNil))))) (tTest (tOp rNe (tCB (rLen K) (tCons (tVar 0) tNil)) (tVar 2)))) (tRet (tC (.bl false))) tNext)
    (tRet (tAndV (tCB (rIsi K) (tCons (tOp (rIx K) (tVar 0) (tC (.int 0))) (tCons (tC (.ty "str")) tNil))) (tOp rEq (tOp (rIx K) (tVar 0) (tC (.int 0))) (tVar 1)))))
abbrev t_wrong_part_of_pairs (K : PySem.W.Frag) : TS := (tSeq (tAsg (tSl (rSlA K) (tVar 0) (tPart (tC (.int 1))) tNoPart) (gTup K 5 (gCons (gName 1) (gCons (gName 2) (gCons (gName 3) (gCons (gName 4) (gCons (gName 5) gNil)))))))
    (tSeq (tIfS (tNot (tAnd (tB (tCall (p_are_durations K) [] E0 (tCons (tVar 1) tNil))) (tTest (tOp (rIn K false) (tCB (rLen K) (tCons (tVar 1) tNil)) (tTup (tCons (tC (.int 0)) (tCons (tC (.int 2)) (tCons (tC (.int 4)) tNil)))))))) (tRet (tC (.str "header"))) tNext)
    (tSeq (tIfS (tNot (tB (tCall (p_is_pulse_and_gap K) [] E0 (tCons (tVar 2) tNil)))) (tRet (tC (.str "zero"))) tNext)
    (tSeq (tIfS (tOr (tNot (tB (tCall (p_is_pulse_and_gap K) [] E0 (tCons (tVar 3) tNil)))) (tTest (tOp (rEqD K) (tVar 3) (tVar 2)))) (tRet (tC (.str "one"))) tNext)
    (tSeq (tIfS (tNot (tB (tCall (p_is_duration K) [] E0 (tCons (tVar 4) tNil)))) (tRet (tC (.str "stop"))) tNext)
    (tSeq (tIfS (tNot (tB (tCall (p_is_bit_count K) [] E0 (tCons (tVar 5) tNil)))) (tRet (tC (.str "bits"))) tNext)
    (tRet (tC .non))))))))
abbrev t_wrong_part_of_halves (K : PySem.W.Frag) : TS := (tSeq (tIfS (tNot (tB (tCall (p_is_duration K) [] E0 (tCons (tOp (rIx K) (tVar 0) (tC (.int 1))) tNil)))) (tRet (tC (.str "unit"))) tNext)
    (tSeq (tIfS (tNot (tB (tCall (p_is_bit_count K) [] E0 (tCons (tOp (rIx K) (tVar 0) (tC (.int 2))) tNil)))) (tRet (tC (.str "bits"))) tNext)
    (tRet (tC .non))))
theorem isPG_shape {d : Dt} (h : isPG d = true) : ∃ a b, d = .tup [.int a, .int b] ∧ 1 ≤ a ∧ a ≤ 99999 ∧ 1 ≤ b ∧ b ≤ 99999 := by
  cases d with
  | tup xs =>
    simp only [isPG, areD, Bool.and_eq_true, decide_eq_true_eq] at h
    obtain ⟨h1, h2⟩ := h
    match xs, h1, h2 with
    | [x, y], h1, _ =>
      simp only [List.all_cons, List.all_nil, Bool.and_true, Bool.and_eq_true] at h1
      obtain ⟨hx, hy⟩ := h1
      cases x <;> simp [isWF] at hx
      cases y <;> simp [isWF] at hy
      exact ⟨_, _, rfl, hx.1, hx.2, hy.1, hy.2⟩
    | [], _, h2 => simp at h2
    | [_], _, h2 => simp at h2
    | _ :: _ :: _ :: _, _, h2 => simp at h2; omega
  | _ => simp [isPG, areD] at h
theorem cmp2 (a b : Int) : cmpOk (.tup [.int a, .int b]) = true := by
  simp [cmpOk, pur, purA, py, pyA, SeqAt.shaped, PyData.canLay0, PyData.canLayAll0, PyData.depth, PyData.depthAll]
section
variable {K : PySem.W.Frag} {S : Sta} {ds : List Dt}
theorem so_begins_with (hmu : S.Mu) (hp : ∃ d n k, ds = [d, .str n, .int k] ∧ pl d = true ∧ 0 < k) : So K S S [] (t_begins_with K) (startD 3 ds) (Pu (f_bw ds)) := by
  obtain ⟨d, n, k, rfl, hd, hk⟩ := hp
  have ho := pl_okN hd
  cases d with
  | tup xs =>
    have hx := pl_tup hd
    refine so_if (et_orF (et_notT (et_B (ev_isTup (ev_var rfl) ho))) (et_test (ev_op (ev_lenT (ev_var rfl)) (ev_var rfl) rv_neI))) (fun e => ?_) fun e => ?_
    · refine so_ret1D ev_bl (Sta.Le.refl S) ?_
      simp only [Bool.not_eq_true', decide_eq_false_iff_not] at e
      show f_bw [.tup xs, .str n, .int k] = .bl false
      cases xs with
      | nil => rfl
      | cons x xs =>
        cases x with
        | str s =>
          have : ¬ (((xs.length + 1 : Nat) : Int) = k) := e
          show Dt.bl (decide (((xs.length + 1 : Nat) : Int) = k) && decide (s = n)) = .bl false
          rw [decide_eq_false this, Bool.false_and]
        | _ => rfl
    · simp only [Bool.not_eq_false', decide_eq_true_eq] at e
      cases xs with
      | nil => simp at e; omega
      | cons x xs =>
        have hox := pl_okN (hx x List.mem_cons_self)
        have e' : decide (((xs.length + 1 : Nat) : Int) = k) = true := decide_eq_true e
        have hat : atI (x :: xs) 0 = some x := atI_nat (j := 0) rfl
        refine so_skip ?_
        cases x with
        | str s =>
          refine so_retD (ev_andT (ev_isStr (ev_ixT (ev_var rfl) ev_int hat) hox) (ev_op (ev_ixT (ev_var rfl) ev_int hat) (ev_var rfl) rv_eqS)) (Sta.Le.refl S) ?_
          show Dt.bl (decide (((xs.length + 1 : Nat) : Int) = k) && decide (s = n)) = .bl (decide (s = n))
          rw [e', Bool.true_and]
        | _ => exact so_retD (ev_andF (ev_isStr (ev_ixT (ev_var rfl) ev_int hat) hox)) (Sta.Le.refl S) rfl
  | _ => exact so_ifT (et_orT (et_notF (et_B (ev_isTup (ev_var rfl) ho)))) (so_ret1D ev_bl (Sta.Le.refl S) rfl)
theorem ev_begins_with {S1 : Sta} {ρ : List (Option Dt)} {ta : TE} {d : Dt} {n : Str} {k : Int} (h : Ev K S S1 ρ ta (Eq d)) (hd : pl d = true) (hk : 0 < k) : Ev K S S1 ρ (tCall (p_begins_with K) [] E0 (tCons ta (tCons (tC (.str n)) (tCons (tC (.int k)) tNil)))) (Eq (.bl (bwD d n k))) :=
  ev_callF (ea_cons h (ea_cons ev_str (ea_cons ev_int ea_nil))) rfl ⟨d, n, k, rfl, hd, hk⟩
theorem so_wrong_part_of_halves (hmu : S.Mu) (hp : ∃ xs, ds = [.tup xs] ∧ xs.length = 3 ∧ plSA xs = true) : So K S S [] (t_wrong_part_of_halves K) (startD 1 ds) (Pu (tupF wrongH ds)) := by
  obtain ⟨xs, rfl, hl, hx⟩ := hp
  match xs, hl, hx with
  | [a, u, b], _, hx =>
    have hu : plS u = true := List.all_eq_true.mp hx u (by simp)
    have hb : plS b = true := List.all_eq_true.mp hx b (by simp)
    refine so_ifD (et_not (et_B (ev_is_duration (ev_ixT (ev_var rfl) ev_int (atI_nat (j := 1) rfl)) (pl_okN (plS_pl hu))))) (fun e => so_ret1D ev_str (Sta.Le.refl S) ?_) fun e => so_skip ?_
    · show wrongH [a, u, b] = _
      simp only [wrongH, e, if_true]
    · refine so_ifD (et_not (et_B (ev_is_bit_count (ev_ixT (ev_var rfl) ev_int (atI_nat (j := 2) rfl)) (pl_okN (plS_pl hb))))) (fun e2 => so_ret1D ev_str (Sta.Le.refl S) ?_) fun e2 => so_skip (so_retD ev_non (Sta.Le.refl S) ?_)
      · show wrongH [a, u, b] = _
        simp only [wrongH, e, e2, if_true, Bool.false_eq_true, if_false]
      · show wrongH [a, u, b] = _
        simp only [wrongH, e, e2, Bool.false_eq_true, if_false]
theorem so_wrong_part_of_pairs (hmu : S.Mu) (hp : ∃ xs, ds = [.tup xs] ∧ xs.length = 6 ∧ plSA xs = true) : So K S S [] (t_wrong_part_of_pairs K) (startD 6 ds) (Pu (tupF wrongP ds)) := by
  obtain ⟨xs, rfl, hl, hx⟩ := hp
  match xs, hl, hx with
  | [a, h, z, o, s, b], _, hx =>
    have hh : plS h = true := List.all_eq_true.mp hx h (by simp)
    have hz : plS z = true := List.all_eq_true.mp hx z (by simp)
    have ho : plS o = true := List.all_eq_true.mp hx o (by simp)
    have hs : plS s = true := List.all_eq_true.mp hx s (by simp)
    have hb : plS b = true := List.all_eq_true.mp hx b (by simp)
    refine so_unp (is := [1, 2, 3, 4, 5]) (xs := [h, z, o, s, b]) ((ev_slT (ev_var rfl) (eo_some ev_int) eo_none).to rfl) rfl rfl rfl ?_
    refine so_ifD (et_not (a := (areD h && len024 h)) ?_) (fun e => so_ret1D ev_str (Sta.Le.refl S) ?_) fun e => so_skip ?_
    · cases h with
      | tup ys => exact et_and (et_B (ev_are_durations (ev_var rfl) hh)) fun _ => et_test (ev_op (ev_lenT (ev_var rfl)) (ev_tup (ea_cons ev_int (ea_cons ev_int (ea_cons ev_int ea_nil))) (by show 3 ≤ sizeLine; decide)) (rv_inT (ns := [0, 2, 4])))
      | _ => exact et_andF (et_B (ev_are_durations (ev_var rfl) hh))
    · show wrongP [a, h, z, o, s, b] = _
      simp only [wrongP, e, if_true]
    refine so_ifD (et_not (et_B (ev_is_pulse_and_gap (ev_var rfl) hz))) (fun e1 => so_ret1D ev_str (Sta.Le.refl S) ?_) fun e1 => so_skip ?_
    · show wrongP [a, h, z, o, s, b] = _
      simp only [wrongP, e, e1, if_true, Bool.false_eq_true, if_false]
    have hz2 : isPG z = true := by simpa using e1
    refine so_ifD (et_or (a := !isPG o) (b := PyData.eqv (py o) (py z)) (et_not (et_B (ev_is_pulse_and_gap (ev_var rfl) ho))) fun e2 => ?_) (fun e2 => so_ret1D ev_str (Sta.Le.refl S) ?_) fun e2 => so_skip ?_
    · have ho2 : isPG o = true := by simpa using e2
      obtain ⟨x1, y1, rfl, _⟩ := isPG_shape hz2
      obtain ⟨x2, y2, rfl, _⟩ := isPG_shape ho2
      exact et_test (ev_op (ev_var rfl) (ev_var rfl) (rv_eqD (cmp2 _ _) (cmp2 _ _)))
    · show wrongP [a, h, z, o, s, b] = _
      simp only [wrongP, e, e1, e2, if_true, Bool.false_eq_true, if_false]
    refine so_ifD (et_not (et_B (ev_is_duration (ev_var rfl) (pl_okN (plS_pl hs))))) (fun e3 => so_ret1D ev_str (Sta.Le.refl S) ?_) fun e3 => so_skip ?_
    · show wrongP [a, h, z, o, s, b] = _
      simp only [wrongP, e, e1, e2, e3, if_true, Bool.false_eq_true, if_false]
    refine so_ifD (et_not (et_B (ev_is_bit_count (ev_var rfl) (pl_okN (plS_pl hb))))) (fun e4 => so_ret1D ev_str (Sta.Le.refl S) ?_) fun e4 => so_skip (so_retD ev_non (Sta.Le.refl S) ?_)
    · show wrongP [a, h, z, o, s, b] = _
      simp only [wrongP, e, e1, e2, e3, e4, if_true, Bool.false_eq_true, if_false]
    · show wrongP [a, h, z, o, s, b] = _
      simp only [wrongP, e, e1, e2, e3, e4, Bool.false_eq_true, if_false]
end
end Bf
namespace Bf
open PySem PySem.Spec PyProof.Rows L2
/-! ## Right tables, words -/
/-- a right table's parts -/
inductive Tab where
  | ha (u b : Int)
  | pa (h : List Int) (z1 z2 o1 o2 s b : Int)
def tI (ns : List Int) : Dt := .tup (ns.map Dt.int)
def Tab.d : Tab → Dt
  | .ha u b => .tup [.str "halves", .int u, .int b]
  | .pa h z1 z2 o1 o2 s b => .tup [.str "pairs", tI h, tI [z1, z2], tI [o1, o2], .int s, .int b]
def Tab.b : Tab → Int
  | .ha _ b => b
  | .pa _ _ _ _ _ _ b => b
def dur (i : Int) : Prop := 1 ≤ i ∧ i ≤ 99999
def Tab.ok : Tab → Prop
  | .ha u b => dur u ∧ 1 ≤ b ∧ b ≤ 8
  | .pa h z1 z2 o1 o2 s b => (h.length = 0 ∨ h.length = 2 ∨ h.length = 4) ∧ (∀ x ∈ h, dur x) ∧ dur z1 ∧ dur z2 ∧ dur o1 ∧ dur o2 ∧ ¬ (o1 = z1 ∧ o2 = z2) ∧ dur s ∧ 1 ≤ b ∧ b ≤ 8
theorem Tab.b1 {T : Tab} (h : T.ok) : 1 ≤ T.b ∧ T.b ≤ 8 := by
  cases T with
  | ha u b => exact h.2
  | pa => exact ⟨h.2.2.2.2.2.2.2.2.1, h.2.2.2.2.2.2.2.2.2⟩
def tabPart (d : Dt) : Dt := if bwD d "pairs" 6 = true then tupF wrongP [d] else if bwD d "halves" 3 = true then tupF wrongH [d] else .str "form"
theorem plA_ints : ∀ ns : List Int, plA (ns.map Dt.int) = true
  | [] => rfl
  | n :: ns => by simp [plA, pl, plA_ints ns]
theorem pl_tI (ns : List Int) : pl (tI ns) = true := by simp [tI, pl, plA_ints]
theorem plS_tI {ns : List Int} (h : ns.length ≤ 100000) : plS (tI ns) = true := by
  simp only [plS, Bool.and_eq_true]
  exact ⟨pl_tI ns, decide_eq_true (by rw [List.length_map]; exact h)⟩
theorem isWF_int {i lo hi : Int} (h1 : lo ≤ i) (h2 : i ≤ hi) : isWF (.int i) lo hi = true := by simp [isWF, h1, h2]
theorem areD_tI {ns : List Int} (h : ∀ x ∈ ns, dur x) : areD (tI ns) = true := by
  simp only [areD, tI, List.all_map, List.all_eq_true]
  intro x hx
  exact isWF_int (h x hx).1 (h x hx).2
theorem isPG_two {a b : Int} (h1 : dur a) (h2 : dur b) : isPG (tI [a, b]) = true := by
  have : areD (tI [a, b]) = true := areD_tI (by intro x hx; simp at hx; rcases hx with rfl | rfl <;> assumption)
  simp only [isPG, this, Bool.true_and]
  rfl
theorem eqv2 (a b c d : Int) : PyData.eqv (py (tI [a, b])) (py (tI [c, d])) = (decide (a = c) && decide (b = d)) := by
  simp only [tI, List.map_cons, List.map_nil, py, pyA, PyData.eqv, PyData.eqvAll, Bool.and_true]
  by_cases h1 : a = c <;> by_cases h2 : b = d <;> simp [h1, h2]
theorem wrong_ok {T : Tab} (h : T.ok) : tabPart T.d = .non := by
  cases T with
  | ha u b =>
    obtain ⟨⟨h1, h2⟩, h3, h4⟩ := h
    show (if bwD (Tab.ha u b).d "pairs" 6 = true then _ else if bwD (Tab.ha u b).d "halves" 3 = true then tupF wrongH [(Tab.ha u b).d] else _) = Dt.non
    rw [if_neg (by simp [bwD, Tab.d]), if_pos (by simp [bwD, Tab.d])]
    show wrongH [.str "halves", .int u, .int b] = _
    simp only [wrongH, isWF_int h1 h2, isWF_int h3 h4, Bool.not_true, Bool.false_eq_true, if_false]
  | pa hd z1 z2 o1 o2 s b =>
    obtain ⟨h0, h1, h2, h3, h4, h5, h6, h7, h8, h9⟩ := h
    show (if bwD (Tab.pa hd z1 z2 o1 o2 s b).d "pairs" 6 = true then tupF wrongP [(Tab.pa hd z1 z2 o1 o2 s b).d] else _) = Dt.non
    rw [if_pos (by simp [bwD, Tab.d])]
    show wrongP [.str "pairs", tI hd, tI [z1, z2], tI [o1, o2], .int s, .int b] = _
    have e1 : len024 (tI hd) = true := by
      simp only [len024, tI, List.length_map]
      rcases h0 with h | h | h <;> rw [h] <;> decide
    have e2 : (decide (o1 = z1) && decide (o2 = z2)) = false := by
      by_cases a : o1 = z1
      · by_cases b : o2 = z2
        · exact absurd ⟨a, b⟩ h6
        · simp [b]
      · simp [a]
    simp only [wrongP, areD_tI h1, e1, isPG_two h2 h3, isPG_two h4 h5, eqv2, e2, isWF_int h7.1 h7.2, isWF_int h8 h9, Bool.and_self, Bool.not_true, Bool.or_self, Bool.false_eq_true, if_false]
theorem pl_tab (T : Tab) : pl T.d = true := by
  cases T <;> simp [Tab.d, pl, plA, tI, plA_ints]
theorem plSA_tab {T : Tab} (h : T.ok) : ∀ xs, T.d = .tup xs → plSA xs = true := by
  intro xs e
  cases T with
  | ha u b => cases e; simp [plSA, plS, pl]
  | pa hd z1 z2 o1 o2 s b =>
    cases e
    have : hd.length ≤ 100000 := by have := h.1; omega
    have h1 : plS (tI [z1, z2]) = true := plS_tI (by show 2 ≤ 100000; decide)
    have h2 : plS (tI [o1, o2]) = true := plS_tI (by show 2 ≤ 100000; decide)
    simp only [plSA, List.all_cons, List.all_nil, plS_tI this, h1, h2]
    rfl
abbrev preTab : List Dt → Prop := fun ds => ∃ T : Tab, T.ok ∧ ds = [T.d]
abbrev p_need_table (K : PySem.W.Frag) : Sp := spF K 1 preTab (one1 fun d => d)
def bitsD : Dt → Dt
  | .tup xs => xs.getLastD .non
  | _ => .non
abbrev p_bits_of (K : PySem.W.Frag) : Sp := spF K 1 preTab (one1 bitsD)
theorem bits_tab (T : Tab) : bitsD T.d = .int T.b := by cases T <;> rfl
theorem at_tab (T : Tab) : ∃ xs, T.d = .tup xs ∧ atI xs (-1) = some (.int T.b) := by
  cases T with
  | ha u b => exact ⟨_, rfl, atI_last [Dt.str "halves", Dt.int u] (Dt.int b)⟩
  | pa hd z1 z2 o1 o2 s b => exact ⟨_, rfl, atI_last [Dt.str "pairs", tI hd, tI [z1, z2], tI [o1, o2], Dt.int s] (Dt.int b)⟩
abbrev t_need_table (K : PySem.W.Frag) : TS := (tSeq (tIfS (tB (tCall (p_begins_with K) [] E0 (tCons (tVar 0) (tCons (tC (.str "pairs")) (tCons (tC (.int 6)) tNil))))) (tAsg (tCall (p_wrong_part_of_pairs K) [] E0 (tCons (tVar 0) tNil)) (gName 1)) (tIfS (tB (tCall (p_begins_with K) [] E0 (tCons (tVar 0) (tCons (tC (.str "halves")) (tCons (tC (.int 3)) tNil))))) (tAsg (tCall (p_wrong_part_of_halves K) [] E0 (tCons (tVar 0) tNil)) (gName 1)) (tAsg (tC (.str "form")) (gName 1))))
    (tSeq (tIfS (tTest (tOp rNoNo (tVar 1) (tC .non))) tNever tNext)
    (tRet (tVar 0))))
abbrev t_bits_of (K : PySem.W.Frag) : TS := (tRet (tOp (rIx K) (tVar 0) (tUn rNegI (tC (.int 1)))))
section
variable {K : PySem.W.Frag} {S : Sta} {ds : List Dt}
theorem so_bits_of (hmu : S.Mu) (hp : preTab ds) : So K S S [] (t_bits_of K) (startD 1 ds) (Pu (one1 bitsD ds)) := by
  obtain ⟨T, hT, rfl⟩ := hp
  obtain ⟨xs, e, ha⟩ := at_tab T
  show So K S S [] _ (startD 1 [T.d]) (Pu (bitsD T.d))
  rw [bits_tab, e]
  exact so_retD (ev_ixT (ev_var rfl) (ev_neg ev_int) ha) (Sta.Le.refl S) rfl
theorem ev_bits_of {S1 : Sta} {ρ : List (Option Dt)} {ta : TE} {T : Tab} (h : Ev K S S1 ρ ta (Eq T.d)) (hT : T.ok) : Ev K S S1 ρ (tCall (p_bits_of K) [] E0 (tCons ta tNil)) (Eq (.int T.b)) := (ev_callF (ea_cons h ea_nil) rfl ⟨T, hT, rfl⟩).to (bits_tab T)
theorem so_need_table (hmu : S.Mu) (hp : preTab ds) : So K S S [] (t_need_table K) (startD 2 ds) (Pu (one1 (fun d => d) ds)) := by
  obtain ⟨T, hT, rfl⟩ := hp
  have hpl := pl_tab T
  have hw := wrong_ok hT
  have hsa := plSA_tab hT
  -- what follows the choice
  have rest : So K S S [] (tSeq (tIfS (tTest (tOp rNoNo (tVar 1) (tC .non))) tNever tNext) (tRet (tVar 0))) [some T.d, some .non] (Pu T.d) :=
    so_ifF (et_test (ev_op (ev_var rfl) ev_non rv_noNo)) (so_skip (so_retD (ev_var rfl) (Sta.Le.refl S) rfl))
  cases e : bwD T.d "pairs" 6 with
  | true =>
    have hw2 : tupF wrongP [T.d] = .non := by
      have : tabPart T.d = tupF wrongP [T.d] := if_pos e
      rw [← this, hw]
    refine so_ifT ((et_B (ev_begins_with (ev_var rfl) hpl (by decide))).to e) ?_
    cases T with
    | ha u b => simp [bwD, Tab.d] at e
    | pa hd z1 z2 o1 o2 s b => exact so_setD ((ev_callF (ea_cons (ev_var rfl) ea_nil) rfl ⟨_, rfl, rfl, hsa _ rfl⟩).to hw2) rest
  | false =>
    refine so_ifF ((et_B (ev_begins_with (ev_var rfl) hpl (by decide))).to e) ?_
    cases T with
    | pa hd z1 z2 o1 o2 s b => simp [bwD, Tab.d] at e
    | ha u b =>
      have hw2 : tupF wrongH [(Tab.ha u b).d] = .non := by
        have : tabPart (Tab.ha u b).d = tupF wrongH [(Tab.ha u b).d] := (if_neg (by rw [e]; decide)).trans (if_pos (by simp [bwD, Tab.d]))
        rw [← this, hw]
      refine so_ifT ((et_B (ev_begins_with (ev_var rfl) hpl (by decide))).to (by simp [bwD, Tab.d])) ?_
      exact so_setD ((ev_callF (ea_cons (ev_var rfl) ea_nil) rfl ⟨_, rfl, rfl, hsa _ rfl⟩).to hw2) rest
theorem ev_need_table {S1 : Sta} {ρ : List (Option Dt)} {ta : TE} {T : Tab} (h : Ev K S S1 ρ ta (Eq T.d)) (hT : T.ok) : Ev K S S1 ρ (tCall (p_need_table K) [] E0 (tCons ta tNil)) (Eq T.d) := ev_callF (ea_cons h ea_nil) rfl ⟨T, hT, rfl⟩
end
/-! ### is_word -/
def isWd (b : Int) : Dt → Bool
  | .tup xs => decide ((xs.length : Int) = b) && xs.all fun x => isWF x 0 1
  | _ => false
def f_isw : List Dt → Dt
  | [t, d] => match bitsD t with
    | .int b => .bl (isWd b d)
    | _ => .non
  | _ => .non
abbrev p_is_word (K : PySem.W.Frag) : Sp := spF K 2 (fun ds => ∃ (T : Tab) (d : Dt), T.ok ∧ ds = [T.d, d] ∧ plS d = true) f_isw
theorem f_isw_tab (T : Tab) (d : Dt) : f_isw [T.d, d] = .bl (isWd T.b d) := by
  show (match bitsD T.d with | .int b => Dt.bl (isWd b d) | _ => .non) = _
  rw [bits_tab]
abbrev t_is_word (K : PySem.W.Frag) : TS := (tSeq (tDrop (tCall (p_need_table K) [] E0 (tCons (tVar 0) tNil)))
    (tSeq (tIfS (tOr (tNot (tB (tCB (rIsi K) (tCons (tVar 1) (tCons (tC (.ty "tuple")) tNil))))) (tTest (tOp rNe (tCB (rLen K) (tCons (tVar 1) tNil)) (tCall (p_bits_of K) [] E0 (tCons (tVar 0) tNil))))) (tRet (tC (.bl false))) tNext)
    (tRet (tCB (rAll K) (tCons (tLc (iTup K (tVar 1)) (gName 2) tYes (tCall (p_is_whole_from K) [] E0 (tCons (tVar 2) (tCons (tC (.int 0)) (tCons (tC (.int 1)) tNil)))) [2]) tNil)))))
section
variable {K : PySem.W.Frag} {S : Sta} {ds : List Dt}
theorem so_is_word (hmu : S.Mu) (hp : ∃ (T : Tab) (d : Dt), T.ok ∧ ds = [T.d, d] ∧ plS d = true) : So K S S [] (t_is_word K) (startD 3 ds) (Pu (f_isw ds)) := by
  obtain ⟨T, d, hT, rfl, hd⟩ := hp
  rw [f_isw_tab]
  have ho := pl_okN (plS_pl hd)
  refine so_drop (ev_need_table (ev_var rfl) hT) ?_
  cases d with
  | tup xs =>
    have hl : xs.length ≤ 100000 := of_decide_eq_true (Bool.and_eq_true_iff.mp hd).2
    have hx := pl_tup (plS_pl hd)
    refine so_if (et_orF (et_notT (et_B (ev_isTup (ev_var rfl) ho))) (et_test (ev_op (ev_lenT (ev_var rfl)) (ev_bits_of (ev_var rfl) hT) rv_neI))) (fun e => so_ret1D ev_bl (Sta.Le.refl S) ?_) fun e => so_skip ?_
    · have e' : ¬ ((xs.length : Int) = T.b) := by simpa using e
      simp [isWd, e']
    · have e' : (xs.length : Int) = T.b := by simpa using e
      refine so_retD (ev_allT (p := fun x => isWF x 0 1) hmu (ev_var rfl) (by decide) hl fun x h => ev_is_whole_from (ev_var rfl) (pl_okN (hx x h))) (Sta.Le.refl S) ?_
      simp [isWd, e']
  | _ => exact so_ifT (et_orT (et_notF (et_B (ev_isTup (ev_var rfl) ho)))) (so_ret1D ev_bl (Sta.Le.refl S) rfl)
theorem ev_is_word {S1 S2 : Sta} {ρ : List (Option Dt)} {ta tb : TE} {T : Tab} {d : Dt} (h : Ev K S S1 ρ ta (Eq T.d)) (hT : T.ok) (h2 : Ev K S1 S2 ρ tb (Eq d)) (hd : plS d = true) : Ev K S S2 ρ (tCall (p_is_word K) [] E0 (tCons ta (tCons tb tNil))) (Eq (.bl (isWd T.b d))) :=
  (ev_callF (ea_cons h (ea_cons h2 ea_nil)) rfl ⟨T, d, hT, rfl, hd⟩).to (f_isw_tab T d)
end
/-! ### words -/
def wordsL : Nat → List (List Int)
  | 0 => [[]]
  | n + 1 => (wordsL n).flatMap fun w => [w ++ [0], w ++ [1]]
def wordsR : Nat → List (List Int)
  | 0 => [[]]
  | n + 1 => (wordsR n).map (0 :: ·) ++ (wordsR n).map (1 :: ·)
theorem wordsR_step : ∀ n, wordsR (n + 1) = (wordsR n).flatMap fun w => [w ++ [0], w ++ [1]]
  | 0 => rfl
  | n + 1 => by
    have ih := wordsR_step n
    show (wordsR (n + 1)).map (0 :: ·) ++ (wordsR (n + 1)).map (1 :: ·) = _
    have h : ∀ (a : Int) (l : List (List Int)), (l.map (a :: ·)).flatMap (fun w => [w ++ [0], w ++ [1]]) = (l.flatMap fun w => [w ++ [0], w ++ [1]]).map (a :: ·) := by
      intro a l
      induction l with
      | nil => rfl
      | cons x l ih => simp only [List.map_cons, List.flatMap_cons, List.map_append, ih]; rfl
    conv => rhs; rw [show wordsR (n + 1) = (wordsR n).map (0 :: ·) ++ (wordsR n).map (1 :: ·) from rfl, List.flatMap_append, h, h, ← ih]
theorem words_eq : ∀ n, wordsR n = wordsL n
  | 0 => rfl
  | n + 1 => by rw [wordsR_step, words_eq n]; rfl
theorem wordsL_len : ∀ n, (wordsL n).length = 2 ^ n
  | 0 => rfl
  | n + 1 => by
    have h : ∀ l : List (List Int), (l.flatMap fun w => [w ++ [0], w ++ [1]]).length = 2 * l.length := by
      intro l
      induction l with
      | nil => rfl
      | cons x l ih => simp only [List.flatMap_cons, List.length_append, ih, List.length_cons, List.length_nil]; omega
    show ((wordsL n).flatMap fun w => [w ++ [0], w ++ [1]]).length = _
    rw [h, wordsL_len n, Nat.pow_succ, Nat.mul_comm]
/-- a word: so many bits -/
def isBits (n : Nat) (w : List Int) : Prop := w.length = n ∧ ∀ x ∈ w, x = 0 ∨ x = 1
theorem wordsL_bits : ∀ (n : Nat) (w : List Int), w ∈ wordsL n → isBits n w
  | 0, w, h => by
    have : w = [] := by simpa [wordsL] using h
    subst this
    exact ⟨rfl, fun _ z => nomatch z⟩
  | n + 1, w, h => by
    obtain ⟨u, hu, hw⟩ := List.mem_flatMap.mp h
    obtain ⟨h1, h2⟩ := wordsL_bits n u hu
    have : w = u ++ [0] ∨ w = u ++ [1] := by simpa using hw
    rcases this with rfl | rfl <;> refine ⟨by simp [h1], fun x hx => ?_⟩ <;> rcases List.mem_append.mp hx with hx | hx
    · exact h2 x hx
    · exact .inl (List.mem_singleton.mp hx)
    · exact h2 x hx
    · exact .inr (List.mem_singleton.mp hx)
def wordsD (b : Int) : List Dt := (wordsL b.toNat).map tI
def f_words : List Dt → List Dt
  | [t] => match bitsD t with
    | .int b => wordsD b
    | _ => []
  | _ => []
theorem f_words_tab (T : Tab) : f_words [T.d] = wordsD T.b := by
  show (match bitsD T.d with | .int b => wordsD b | _ => []) = _
  rw [bits_tab]
abbrev p_words_of (K : PySem.W.Frag) : Sp := spN K 1 preTab f_words
abbrev t_words_of (K : PySem.W.Frag) : TS := (tSeq (tDrop (tCall (p_need_table K) [] E0 (tCons (tVar 0) tNil)))
    (tSeq (tAsg (tLst (tCons (tTup tNil) tNil)) (gName 1))
    (tSeq (tFor (iRng1 (tCons (tCall (p_bits_of K) [] E0 (tCons (tVar 0) tNil)) tNil)) (gName 2) (tAsg (tLc2 (iList K (tVar 1)) (gName 3) tYes (iTup K (tTup (tCons (tC (.int 0)) (tCons (tC (.int 1)) tNil)))) (gName 4) tYes (tTup (StX.tStar K (tVar 3) (tCons (tVar 4) tNil))) [3, 4] [4]) (gName 1)))
    (tRet (tVar 1)))))
section
variable {K : PySem.W.Frag} {S : Sta} {ds : List Dt}
theorem nol_tI (ns : List Int) : nol (tI ns) = true := by
  have : ∀ ns : List Int, nolA (ns.map Dt.int) = true := fun ns => nolA_all.mpr fun x hx => by
    obtain ⟨n, _, rfl⟩ := List.mem_map.mp hx
    rfl
  simp [tI, nol, this]
def app1 : Dt → Dt → Dt
  | .tup xs, y => .tup (xs ++ [y])
  | _, _ => .non
theorem app1_words (ws : List (List Int)) : ((ws.map tI).flatMap fun x => [Dt.int 0, .int 1].map (app1 x)) = (ws.flatMap fun w => [w ++ [0], w ++ [1]]).map tI := by
  induction ws with
  | nil => rfl
  | cons w ws ih =>
    simp only [List.map_cons, List.flatMap_cons, List.map_append, ih]
    congr 1
    simp [app1, tI]
theorem so_words_of {H0 : Hp} (hp : preTab ds) : So K (staSame H0) (staSame H0) [] (t_words_of K) (startD 5 ds) { rt := fun d => ∃ p, d = .lat p (f_words ds) ∧ H0 p = none } := by
  obtain ⟨T, hT, rfl⟩ := hp
  rw [f_words_tab]
  obtain ⟨b1, b2⟩ := Tab.b1 hT
  have hb : ((T.b.toNat : Nat) : Int) = T.b := Int.toNat_of_nonneg (by omega)
  refine so_drop (ev_need_table (ev_var rfl) hT) ?_
  refine so_newS (en_lst (ea_cons (ev_tup ea_nil (by decide)) ea_nil) (by show 1 ≤ sizeLine; decide)) fun p hp => ?_
  refine so_seq (M := fun ρ' => ∃ p x y z, ρ' = [some T.d, some (.lat p (wordsD T.b)), x, y, z] ∧ H0 p = none) (so_forR (n := T.b.toNat) (Z := fun _ => staSame H0) (ea_cons ((ev_bits_of (ev_var rfl) hT).to (by rw [hb])) ea_nil) (by omega) (fun _ _ => Sta.Le.refl _) (fun _ _ => Sta.Le.refl _)
    (fun i ρ' => ∃ p x y z, ρ' = [some T.d, some (.lat p ((wordsL i).map tI)), x, y, z] ∧ H0 p = none) ⟨p, _, _, _, rfl, hp⟩ (fun i ρ' hi hJ => ?_) fun ρ' hJ => hJ) fun ρ' hM => ?_
  · obtain ⟨q, x, y, z, rfl, hq⟩ := hJ
    have hpow : (wordsL i).length ≤ 256 := by
      rw [wordsL_len]
      exact Nat.pow_le_pow_right (n := 2) (by decide) (show i ≤ 8 by omega)
    refine so_newS0 ((en_lc2 (xs := (wordsL i).map tI) (ys := [.int 0, .int 1]) (f := app1) staSame_mu (ev_lat (ev_var rfl)) (by decide) (by decide) (by rw [List.length_map]; show _ * 2 ≤ _; omega) (fun x hx => ev_tup (ea_cons ev_int (ea_cons ev_int ea_nil)) (by show 2 ≤ sizeLine; decide)) (fun x hx y hy => ?_) (fun x hx y hy => ?_) rfl).to (app1_words (wordsL i))) (Sta.Le.refl _) fun r hr => ⟨r, _, _, _, rfl, hr⟩
    · obtain ⟨w, hw, rfl⟩ := List.mem_map.mp hx
      have hl := (wordsL_bits i w hw).1
      exact ev_tup (ea_starT (ev_var rfl) (ea_cons (ev_var rfl) ea_nil)) (by rw [List.length_append, List.length_map, hl]; show i + 1 ≤ sizeLine; exact Nat.le_trans (show i + 1 ≤ 9 by omega) (by decide))
    · obtain ⟨w, hw, rfl⟩ := List.mem_map.mp hx
      have hyy : y = .int 0 ∨ y = .int 1 := by simpa using hy
      have e : ∀ k : Int, app1 (tI w) (.int k) = tI (w ++ [k]) := fun k => by simp [app1, tI]
      rcases hyy with rfl | rfl <;> rw [e] <;> exact nol_tI _
  · obtain ⟨q, x, y, z, rfl, hq⟩ := hM
    exact so_retD (ev_var rfl) (Sta.Le.refl _) ⟨q, rfl, hq⟩
theorem en_words_of {S1 : Sta} {ρ : List (Option Dt)} {ta : TE} {T : Tab} (h : Ev K S S1 ρ ta (Eq T.d)) (hT : T.ok) : EvN K S S1 ρ (tCall (p_words_of K) [] E0 (tCons ta tNil)) (wordsD T.b) := (en_call (ea_cons h ea_nil) rfl ⟨T, hT, rfl⟩).to (f_words_tab T)
end
end Bf
namespace Bf
open PySem PySem.Spec PyProof.Rows L2
/-! ## need_table for any plain data -/
def plD (d : Dt) : Prop := pl d = true ∧ ∀ xs, d = .tup xs → plSA xs = true
def ntO (C : Addr) (d : Dt) : Out := if (tabPart d).isNon = true then .ok d else .er C "part" (tabPart d)
def r_nt (C : Addr) (ds : List Dt) (o : Out) : Prop := ∃ d, ds = [d] ∧ plD d ∧ o = ntO C d
abbrev p_need_tableX (K : PySem.W.Frag) (C : Addr) : Sp := spX K 1 (r_nt C)
abbrev t_need_tableX (K : PySem.W.Frag) (C : Addr) (E : XK) : TS := (tSeq (tIfS (tB (tCall (p_begins_with K) [] E0 (tCons (tVar 0) (tCons (tC (.str "pairs")) (tCons (tC (.int 6)) tNil))))) (tAsg (tCall (p_wrong_part_of_pairs K) [] E0 (tCons (tVar 0) tNil)) (gName 1)) (tIfS (tB (tCall (p_begins_with K) [] E0 (tCons (tVar 0) (tCons (tC (.str "halves")) (tCons (tC (.int 3)) tNil))))) (tAsg (tCall (p_wrong_part_of_halves K) [] E0 (tCons (tVar 0) tNil)) (gName 1)) (tAsg (tC (.str "form")) (gName 1))))
    (tSeq (tIfS (tTest (tOp rNoNo (tVar 1) (tC .non))) (tRaiseB C "part" (fun cls d _ H => E cls d H) (tCons (tVar 1) tNil)) tNext)
    (tRet (tVar 0))))
theorem bwD_shape {d : Dt} {n : Str} {k : Int} (h : bwD d n k = true) : ∃ xs, d = .tup xs ∧ (xs.length : Int) = k := by
  unfold bwD at h
  split at h
  · simp only [Bool.and_eq_true, decide_eq_true_eq] at h
    exact ⟨_, rfl, by simpa using h.1⟩
  · cases h
section
variable {K : PySem.W.Frag} {S : Sta} {ds : List Dt} {o : Out} {C : Addr} {E : XK}
theorem so_need_tableX (hmu : S.Mu) (hp : r_nt C ds o) (hw : ∀ C' f d, o = .er C' f d → XW K S C' f d E) : So K S S [] (t_need_tableX K C E) (startD 2 ds) (PO o) := by
  obtain ⟨d, rfl, ⟨hpl, hsa⟩, rfl⟩ := hp
  have rest : ∀ p, tabPart d = p → So K S S [] (tSeq (tIfS (tTest (tOp rNoNo (tVar 1) (tC .non))) (tRaiseB C "part" (fun cls d _ H => E cls d H) (tCons (tVar 1) tNil)) tNext) (tRet (tVar 0))) [some d, some p] (PO (ntO C d)) := fun p hpp => by
    refine so_ifD (k := !p.isNon) (et_test (ev_op (ev_var rfl) ev_non rv_noNo)) (fun e => ?_) fun e => so_skip ?_
    · have hn : ¬ ((tabPart d).isNon = true) := by rw [hpp]; simpa using e
      have ho : ntO C d = .er C "part" p := by rw [ntO, if_neg hn, hpp]
      exact so_raise1B (ev_var rfl) (hw C "part" p ho)
    · have hn : (tabPart d).isNon = true := by rw [hpp]; simpa using e
      have ho : ntO C d = .ok d := by rw [ntO, if_pos hn]
      rw [ho]
      exact so_retD (ev_var rfl) (Sta.Le.refl S) rfl
  refine so_if (Φb := Eq (bwD d "pairs" 6)) (et_B (ev_begins_with (ev_var rfl) hpl (by decide))) (fun e => ?_) fun e => ?_
  · obtain ⟨xs, rfl, hl⟩ := bwD_shape e
    exact so_setD (ev_callF (ea_cons (ev_var rfl) ea_nil) rfl ⟨xs, rfl, by omega, hsa xs rfl⟩) (rest _ (if_pos e))
  · refine so_if (Φb := Eq (bwD d "halves" 3)) (et_B (ev_begins_with (ev_var rfl) hpl (by decide))) (fun e2 => ?_) fun e2 => ?_
    · obtain ⟨xs, rfl, hl⟩ := bwD_shape e2
      exact so_setD (ev_callF (ea_cons (ev_var rfl) ea_nil) rfl ⟨xs, rfl, by omega, hsa xs rfl⟩) (rest _ (by rw [tabPart, if_neg (by rw [e]; decide), if_pos e2]))
    · exact so_setD ev_str (rest _ (by rw [tabPart, if_neg (by rw [e]; decide), if_neg (by rw [e2]; decide)]))
end
end Bf
namespace Bf
open PySem PySem.Spec PyProof.Rows L2
/-! ## Small data may be compared and shown -/
mutual
/-- n deep, at most ten things each, ints below 10^12, texts of at most 40 signs -/
def gd : Nat → Dt → Bool
  | _, .non => true
  | _, .bl _ => true
  | _, .int i => decide (i.natAbs < 10 ^ 12)
  | _, .str x => x.cps.all (· < 0x110000) && decide (x.cps.size ≤ 40)
  | n + 1, .lst xs => gdA n xs && decide (xs.length ≤ 10)
  | n + 1, .tup xs => gdA n xs && decide (xs.length ≤ 10)
  | _, _ => false
def gdA : Nat → List Dt → Bool
  | _, [] => true
  | n, x :: xs => gd n x && gdA n xs
end
def wB : Nat → Nat
  | 0 => 64
  | n + 1 => 10 * (wB n + 1)
theorem wB_ge : ∀ n, 64 ≤ wB n
  | 0 => Nat.le_refl _
  | n + 1 => by have := wB_ge n; simp only [wB]; omega
theorem gdA_all {n : Nat} : ∀ {xs : List Dt}, gdA n xs = true ↔ ∀ x ∈ xs, gd n x = true
  | [] => by simp [gdA]
  | x :: xs => by simp [gdA, gdA_all]
structure GdW (n : Nat) (d : Dt) : Prop where
  p : pur d = true
  c : (py d).canLay0 = true
  t : (py d).depth ≤ n
  i : (py d).intsShort 13 = true
  s : (py d).showable = true
  w : (py d).weight ≤ wB n
structure GdWA (n m : Nat) (xs : List Dt) : Prop where
  p : purA xs = true
  c : PyData.canLayAll0 (pyA xs) = true
  t : PyData.depthAll (pyA xs) ≤ n
  i : PyData.intsShortAll 13 (pyA xs) = true
  s : PyData.showableAll (pyA xs) = true
  w : PyData.weightAll (pyA xs) ≤ m * (wB n + 1)
theorem log_lt {i : Int} (h : i.natAbs < 10 ^ 12) : i.natAbs.log2 < 40 := by
  by_cases h0 : i.natAbs = 0
  · rw [h0]; decide
  · exact (Nat.log2_lt h0).mpr (Nat.lt_trans h (by decide))
mutual
theorem gd_w : ∀ (n : Nat) (d : Dt), gd n d = true → GdW n d
  | n, .non, _ => ⟨rfl, rfl, Nat.zero_le _, rfl, rfl, Nat.zero_le _⟩
  | n, .bl b, _ => ⟨rfl, rfl, Nat.zero_le _, rfl, rfl, Nat.zero_le _⟩
  | n, .int i, h => by
    have h : i.natAbs < 10 ^ 12 := by simpa [gd] using h
    have hl := log_lt h
    refine ⟨rfl, rfl, Nat.zero_le _, ?_, ?_, ?_⟩
    · unfold py
      simp only [PyData.intsShort, decide_eq_true_eq]
      exact PyData.shown_int_le h
    · unfold py
      simp only [PyData.showable, decide_eq_true_eq]
      omega
    · unfold py
      simp only [PyData.weight]
      have := wB_ge n
      split <;> omega
  | n, .str x, h => by
    have h : x.cps.all (· < 0x110000) = true ∧ x.cps.size ≤ 40 := by simpa only [gd, Bool.and_eq_true, decide_eq_true_eq] using h
    refine ⟨rfl, ?_, Nat.zero_le _, rfl, rfl, ?_⟩
    · unfold py
      simp only [PyData.canLay0, PyData.strOk]
      exact h.1
    · unfold py
      simp only [PyData.weight]
      have := wB_ge n
      omega
  | n + 1, .lst xs, h => by
    simp only [gd, Bool.and_eq_true, decide_eq_true_eq] at h
    have g := gdA_w n xs h.1
    refine ⟨by unfold pur; exact g.p, by unfold py; simp only [PyData.canLay0]; exact g.c, by unfold py; simp only [PyData.depth]; have := g.t; omega, by unfold py; simp only [PyData.intsShort]; exact g.i, by unfold py; simp only [PyData.showable]; exact g.s, ?_⟩
    unfold py
    simp only [PyData.weight, wB]
    exact Nat.le_trans g.w (Nat.mul_le_mul_right _ h.2)
  | n + 1, .tup xs, h => by
    simp only [gd, Bool.and_eq_true, decide_eq_true_eq] at h
    have g := gdA_w n xs h.1
    refine ⟨by unfold pur; exact g.p, by unfold py; simp only [PyData.canLay0]; exact g.c, by unfold py; simp only [PyData.depth]; have := g.t; omega, by unfold py; simp only [PyData.intsShort]; exact g.i, by unfold py; simp only [PyData.showable]; exact g.s, ?_⟩
    unfold py
    simp only [PyData.weight, wB]
    exact Nat.le_trans g.w (Nat.mul_le_mul_right _ h.2)
  | 0, .lst xs, h => by simp [gd] at h
  | 0, .tup xs, h => by simp [gd] at h
  | n, .dic, h => by simp [gd] at h
  | n, .ins _ _ _, h => by simp [gd] at h
  | n, .raw _, h => by simp [gd] at h
  | n, .lat _ _, h => by simp [gd] at h
theorem gdA_w : ∀ (n : Nat) (xs : List Dt), gdA n xs = true → GdWA n xs.length xs
  | n, [], _ => ⟨rfl, rfl, Nat.zero_le _, rfl, rfl, Nat.zero_le _⟩
  | n, x :: xs, h => by
    simp only [gdA, Bool.and_eq_true] at h
    have g := gd_w n x h.1
    have r := gdA_w n xs h.2
    refine ⟨by unfold purA; rw [g.p, r.p]; rfl, by unfold pyA; simp only [PyData.canLayAll0]; rw [g.c, r.c]; rfl, by unfold pyA; simp only [PyData.depthAll]; exact Nat.max_le.mpr ⟨g.t, r.t⟩, by unfold pyA; simp only [PyData.intsShortAll]; rw [g.i, r.i]; rfl, by unfold pyA; simp only [PyData.showableAll]; rw [g.s, r.s]; rfl, ?_⟩
    unfold pyA
    simp only [PyData.weightAll, List.length_cons]
    have h1 := g.w
    have h2 := r.w
    rw [Nat.add_mul]
    omega
end
theorem gd_cmp {n : Nat} {d : Dt} (h : gd n d = true) (hn : n ≤ 64) : cmpOk d = true := by
  have g := gd_w n d h
  simp only [cmpOk, SeqAt.shaped, Bool.and_eq_true, decide_eq_true_eq]
  exact ⟨g.p, g.c, Nat.le_trans g.t hn⟩
theorem gd_shw {d : Dt} (h : gd 4 d = true) : shwOk d := by
  have g := gd_w 4 d h
  exact ⟨gd_cmp h (by decide), g.s, PyData.shown_fits (by decide) (by decide) (PyData.leavesShort_of_canLay0 13 _ g.c g.i) (Nat.le_trans g.w (by decide))⟩
end Bf
namespace Bf
open PySem PySem.Spec PyProof.Rows L2
/-! ## The end: the law's def is called with the script -/
theorem lt70 {k : Nat} {A : Around} (hr : Room k A) : A.units + 70 < cLine := by
  have := hr.un
  omega
section
variable {P : Program} {w : World} {K : PySem.W.Frag} {mg mb : Str → Option Value} {k : Nat} {fa a : Addr} {fd : FuncData} {x : Str} {sp : Sp} {s₁ : Shared} {vs : List Value} {ns : List Int}
/-- where H knows the script at a and nothing else -/
theorem law_from {H : Hp} (KX : K.In s₁.heap) (hns : s₁.heap.Ns mainGlobals mg) (hb : s₁.heap.Ns builtinsNs mb) (hbb : ∀ y : Str, y ≠ "__name__" → mb y = bootBuiltins y) (hlim : s₁.heap.NoLimit) (hg : s₁.gens = #[])
    (ha : s₁.heap.get? a = some { cls := .type "list", data := .seq vs.toArray }) (hr : Room k callerA) (F : ∀ base : Heap, K.In base → base.Ns mainGlobals mg → GOk P w K mg base k fa fd [x] sp) (hbind : ∀ (s : Shared) (u : Value), BindsTo s fd ⟨[u], []⟩ [(x, u)])
    (hsp : sp [.ref a] H (fun v _ => v = .bl true) fun _ _ _ => False) (hO : Only H) (hok : HOk P w H s₁.heap) (hA : ∀ b, H b ≠ none → b = a) (hK : H a ≠ none → K.lookup a = none) :
    codeAny (model P w) callerA (.call (.ref fa) ⟨[.ref a], []⟩) (fun r s' => r = .ok (.ret (.bool true)) ∧ OldK s₁.heap s'.heap ∧ s'.os = s₁.os ∧ AllBare s'.gens) s₁ := by
  have below : ∀ {b : Addr} {o : Obj}, s₁.heap.get? b = some o → H b = none → (hidT s₁.heap H).get? b = some o := fun e z => hidT_get e z
  have free : ∀ {b : Addr} {o : Obj} {es : Array DictEntry} {ep : Nat}, s₁.heap.get? b = some o → o.data = .dict es ep → H b = none := by
    intro b o es ep e d
    cases q : H b with
    | none => rfl
    | some y =>
      obtain rfl := hA b (by rw [q]; exact Option.some_ne_none y)
      rw [ha] at e
      cases e
      exact nomatch (show Data.seq vs.toArray _ = Data.dict es ep from d)
  have lift : ∀ {b : Addr} {m : Str → Option Value}, s₁.heap.Ns b m → (hidT s₁.heap H).Ns b m := fun {b m} z => by
    obtain ⟨o, es, ep, e, d, r⟩ := z
    exact ⟨o, es, ep, below e (free e d), d, r⟩
  have inK : K.In (hidT s₁.heap H) := fun b o e => below (KX b o e) (by
    cases q : H b with
    | none => rfl
    | some y =>
      obtain rfl := hA b (by rw [q]; exact Option.some_ne_none y)
      rw [hK (by rw [q]; exact Option.some_ne_none y)] at e
      cases e)
  obtain ⟨mc, l1, l2⟩ := hlim
  have e0 : Env0 P w K mg (hidT s₁.heap H) callerA [] s₁ H :=
    ⟨rfl, ⟨inK, lift hns, ⟨mb, lift hb, hbb⟩, ⟨mc, lift l1, l2⟩⟩, fun b o e => of_hidT e, Nat.le_of_eq (hidT_size _ _), trivial, fun b z => absurd (show b ∈ ([] : List Addr) from z) (by simp), hok, .of_eq hg⟩
  have run := (F _ inK (lift hns)).go callerA [] s₁ H ⟨[.ref a], []⟩ [.ref a] [.ref a] _ _ hr rfl e0 (hbind s₁ (.ref a)) (.cons rfl .nil) hsp
  refine codeAny_mono run fun r s' h => ?_
  match r, h with
  | .error e, h =>
    obtain ⟨_, _, _, _, _, _, _, _, _, _, _, _, z⟩ := h
    exact z.elim
  | .ok .next, h => exact h.elim
  | .ok .brk, h => exact h.elim
  | .ok .cont, h => exact h.elim
  | .ok (.ret u), h =>
    obtain ⟨v, H', os, bare, un, hok', rv, q⟩ := h
    obtain rfl : v = V.bl true := q
    obtain rfl : u = Value.bool true := rv
    refine ⟨rfl, OldK.of_keep fun b o e => ?_, os, bare⟩
    rcases hO b with z | ⟨ob, ys, z⟩
    · exact un.keep b o e z (fun y => absurd (show b ∈ ([] : List Addr) from y) (by simp)) (by simp)
    · obtain ⟨e1, _⟩ := hok b _ z
      obtain ⟨e2, _⟩ := hok' b _ (un.frzs b ob _ z)
      rw [e] at e1
      cases e1
      exact e2
theorem law_callG (KX : K.In s₁.heap) (hns : s₁.heap.Ns mainGlobals mg) (hb : s₁.heap.Ns builtinsNs mb) (hbb : ∀ y : Str, y ≠ "__name__" → mb y = bootBuiltins y) (hlim : s₁.heap.NoLimit) (hg : s₁.gens = #[])
    (ha : s₁.heap.get? a = some { cls := .type "list", data := .seq vs.toArray }) (hi : IntsAre vs ns) (hl : ns.length ≤ sizeLine) (hr : Room k callerA) (F : ∀ base : Heap, K.In base → base.Ns mainGlobals mg → GOk P w K mg base k fa fd [x] sp)
    (hbind : ∀ (s : Shared) (u : Value), BindsTo s fd ⟨[u], []⟩ [(x, u)]) (hsp : ∀ H : Hp, Only H → SqL K H a (ns.map V.int) → sp [.ref a] H (fun v _ => v = .bl true) fun _ _ _ => False) :
    codeAny (model P w) callerA (.call (.ref fa) ⟨[.ref a], []⟩) (fun r s' => r = .ok (.ret (.bool true)) ∧ OldK s₁.heap s'.heap ∧ s'.os = s₁.os ∧ AllBare s'.gens) s₁ := by
  have rv := vals_ints hi
  have lv := hi.length
  cases hk : K.lookup a with
  | some o =>
    have e := KX a o hk
    rw [ha] at e
    cases e
    have none_ : Only (fun _ => none) := fun _ => .inl rfl
    exact law_from KX hns hb hbb hlim hg ha hr F hbind (hsp _ none_ (.inr ⟨_, vs.toArray, _, hk, rfl, rfl, rfl, by rw [List.size_toArray, lv]; exact hl, by simpa using rv⟩)) none_
      (fun b u z => nomatch (show (none : Option HO) = some u from z)) (fun b z => absurd rfl z) fun z => absurd rfl z
  | none =>
    let H : Hp := fun b => if b = a then some (.frz { cls := .type "list", data := .seq vs.toArray } (.lst (ns.map V.int))) else none
    have at_ : H a = some (.frz { cls := .type "list", data := .seq vs.toArray } (.lst (ns.map V.int))) := if_pos rfl
    have off : ∀ {b}, b ≠ a → H b = none := fun hb => if_neg hb
    have only : Only H := fun b => by
      by_cases h : b = a
      · subst h
        exact .inr ⟨_, _, at_⟩
      · exact .inl (off h)
    refine law_from (H := H) KX hns hb hbb hlim hg ha hr F hbind (hsp H only (.inl (.inr ⟨_, at_⟩))) only (fun b u z => ?_) (fun b z => ?_) fun _ => hk
    · by_cases h : b = a
      · subst h
        rw [at_] at z
        cases z
        exact ⟨ha, by rw [List.length_map]; exact hl, vs, _, rv, ha⟩
      · rw [off h] at z
        cases z
    · by_cases h : b = a
      · exact h
      · exact absurd (off h) z
end
/-- a constant of the module -/
theorem pe_gc {X : Cx} {x : Str} {v : V} {pos : Pos} (hg : Gl X x) (hm : ∃ u, X.mg x = some u ∧ RelV v u) (hd : (x == ("__debug__" : Str)) = false := by decide) : PE X (.Name x pos) (tC v) := by
  obtain ⟨u, e, r⟩ := hm
  exact pe_glob hg e r hd
/-- what k_head leaves, from the law's promise -/
theorem walk_g {l : PySem.W.OpenLaw} {n k : Nat} {q : Program} {loose : List Str} {XP : (Str → Option Value) → Heap → Prop} {YP : World → Heap → Prop} {d : DefRec} {K : Params → PySem.W.Frag} {sp : PySem.W.Frag → Sp} {x : Str}
    (hn : l.most = some n) (hn2 : n ≤ sizeLine) (hdf : d.params.defaults = []) (hr : Room k callerA) (hY : ∀ (w : World) (h : Heap), YP w h → (K w.params).In h)
    (F : ∀ (w : World) (mg : Str → Option Value) (fa : Addr) (h : Heap), (K w.params).In h → h.Ns mainGlobals mg → mg d.name = some (.ref fa) →
      ∃ fd : FuncData, (∀ (s : Shared) (u : Value), BindsTo s fd ⟨[u], []⟩ [(x, u)]) ∧ ∀ base : Heap, (K w.params).In base → base.Ns mainGlobals mg → GOk l.prog w (K w.params) mg base k fa fd [x] (sp (K w.params)))
    (hsp : ∀ (K : PySem.W.Frag) (H : Hp) (a : Addr) (ns : List Int), ns.length ≤ n → Only H → SqL K H a (ns.map V.int) → sp K [.ref a] H (fun v _ => v = .bl true) fun _ _ _ => False) :
    PySem.W.WalkO q loose XP YP l.row.toRowW d [] (fun f vs => PySem.call f vs) := by
  refine Att.attach_call hn hdf fun w s₀ s₁ mg mb fa o pm cd doc a vs ns G Y ho hd hcd hmg hobj hints hlen hg => ?_
  have KX := hY w _ Y
  obtain ⟨fd, hb, hF⟩ := F w mg fa _ KX G.T.g hmg
  exact law_callG KX G.T.g G.T.b G.T.builtins G.T.nolimit hg hobj hints (Nat.le_trans hlen hn2) hr hF hb fun H hO hS => hsp _ H a ns hlen hO hS
/-- the law's promise: True, whatever the script -/
def spLaw (K : PySem.W.Frag) : Sp := fun vs H Q _ => ∃ (s : Addr) (ns : List Int), vs = [.ref s] ∧ SqL K H s (ns.map V.int) ∧ ns.length ≤ 63 ∧ ∀ H', Q (.bl true) H'
end Bf
namespace Bf
open PySem PySem.Spec PyProof.Rows L2
/-! ## The law's draws -/
/-- a number below ds' one -/
def nextR : List Dt → Dt → Prop := fun ds d => ∃ m r, ds = [.int m] ∧ d = .int r ∧ 0 ≤ r ∧ r < m
abbrev p__law_next (K : PySem.W.Frag) : Sp := spD K 1 (fun ds => ∃ m, ds = [.int m] ∧ 0 < m ∧ m.natAbs < 2 ^ 8000) nextR 1
abbrev t__law_next (K : PySem.W.Frag) : TS := (tSeq (tIfS (tTest (tOp rGtI (tDGet (tVar 0) (tC (.str "left"))) (tC (.int 0)))) (tSeq (tAsg (tTup (tCons (tDGet (tVar 0) (tC (.str "left"))) (tCons (tOp rDivW (tDGet (tVar 0) (tC (.str "left"))) (tVar 1)) tNil))) (gTup K 2 (gCons (gName 2) (gCons (gSub (tVar 0) (tC (.str "left")) rSetD) gNil))))
    (tRet (tOp rModI (tVar 2) (tVar 1)))) tNext)
    (tSeq (tAsg (tDGet (tVar 0) (tC (.str "cells"))) (gName 3))
    (tSeq (tAsg (tOp (rIx K) (tVar 3) (tOp rModI (tDGet (tVar 0) (tC (.str "at"))) (tCB (rLen K) (tCons (tVar 3) tNil)))) (gName 2))
    (tSeq (tAsg (tOp rAddI (tDGet (tVar 0) (tC (.str "at"))) (tC (.int 1))) (gSub (tVar 0) (tC (.str "at")) rSetD))
    (tSeq (tIfS (tAnd (tTest (tOp rGeI (tVar 2) (tOp rPowI (tC (.int 10)) (tC (.int 18))))) (tTest (tOp rLeI (tDGet (tVar 0) (tC (.str "at"))) (tCB (rLen K) (tCons (tVar 3) tNil))))) (tSeq (tAsg (tOp rDivW (tVar 2) (tVar 1)) (gSub (tVar 0) (tC (.str "left")) rSetD))
    (tRet (tOp rModI (tVar 2) (tVar 1)))) tNext)
    (tSeq (tAsg (tOp rAddI (tDGet (tVar 0) (tC (.str "used"))) (tC (.int 1))) (gSub (tVar 0) (tC (.str "used")) rSetD))
    (tSeq (tAsg (tOp rAddI (tOp rModI (tVar 2) (tC (.int 1000000007))) (tOp rMulW (tOp rMulW (tC (.int 7919)) (tDGet (tVar 0) (tC (.str "used")))) (tDGet (tVar 0) (tC (.str "used"))))) (gName 4))
    (tSeq (tFor (iTup K (tTup (tCons (tDGet (tVar 0) (tC (.str "at"))) (tCons (tDGet (tVar 0) (tC (.str "used"))) tNil)))) (gName 5) (tSeq (tAsg (tOp rModI (tOp rMulW (tOp rAddI (tOp rAddI (tVar 4) (tOp rMulW (tC (.int 31)) (tVar 5))) (tC (.int 7))) (tC (.int 48271))) (tC (.int 2147483647))) (gName 4))
    (tAsg (tOp rModI (tOp rMulW (tVar 4) (tOp rAddI (tC (.int 69621)) (tOp rMulW (tC (.int 2)) (tOp rModI (tVar 5) (tC (.int 1000)))))) (tC (.int 2147483629))) (gName 4))))
    (tRet (tOp rModI (tOp rDivW (tVar 4) (tC (.int 7))) (tVar 1)))))))))))
theorem mul_in {x y B C : Int} (h1 : 0 ≤ x) (h2 : x ≤ B) (h3 : 0 ≤ y) (h4 : y ≤ C) : 0 ≤ x * y ∧ x * y ≤ B * C :=
  ⟨Int.mul_nonneg h1 h3, Int.mul_le_mul h2 h4 h3 (Int.le_trans h1 h2)⟩
theorem cmul {x y : Int} (h1 : 0 ≤ x) (h2 : x < 2 ^ 100) (h3 : 0 ≤ y) (h4 : y < 2 ^ 100) : CMulW x y := wide_mul (a := 100) (b := 100) (by omega) (by omega) (by decide) (by decide) (by decide)
theorem cdivs {x y : Int} (h : 0 < y) (hb : y.natAbs < 2 ^ 8000) : CDivW x y := wide_div (b := 8000) h hb (by decide) (by decide)
section
variable {K : PySem.W.Frag} {a c : Addr} {cs : List Int} {n : Nat} {ds : List Dt}
theorem so__law_next (hc : cs ≠ []) (hn : n + 1 ≤ 1000000) (hp : ∃ m, ds = [.int m] ∧ 0 < m ∧ m.natAbs < 2 ^ 8000) :
    So K (DW K a c cs n) (DW K a c cs (n + 1)) [] (t__law_next K) (startD 6 (.raw (.ref a) :: ds)) { nx := fun _ => nextR ds .non, rt := nextR ds } := by
  obtain ⟨m, rfl, hm, hmb⟩ := hp
  refine so_open fun i l u i0 i1 l0 u0 u1 => ?_
  have fin : ∀ x : Int, nextR [.int m] (.int (x % m)) := fun x => ⟨m, _, rfl, rfl, Int.emod_nonneg _ (by omega), Int.emod_lt_of_pos _ hm⟩
  refine so_ifD (et_test (ev_op (ev_dleft rfl) ev_int rv_gt)) (fun e => ?_) fun e => so_skip ?_
  · have hl : 0 < l := of_decide_eq_true e
    refine so_assoc (so_dset2 (ea_cons (ev_dleft rfl) (ea_cons (ev_op (ev_dleft rfl) (ev_var rfl) (rv_div (cdivs hm hmb))) ea_nil)) rfl (by decide) ?_)
    exact so_ret1D (ev_op (ev_var rfl) (ev_var rfl) (rv_mod hm)) (dw_of i0 (by omega) (Int.ediv_nonneg (by omega) (by omega)) u0 (by omega)) (fin _)
  · have hcl : 0 < cs.length := List.length_pos_iff.mpr hc
    have hcm : (0 : Int) < ((cs.map Dt.int).length : Nat) := by rw [List.length_map]; omega
    have hix : 0 ≤ i % ((cs.map Dt.int).length : Nat) ∧ i % ((cs.map Dt.int).length : Nat) < (cs.length : Nat) := ⟨Int.emod_nonneg _ (by omega), by have := Int.emod_lt_of_pos i hcm; rw [List.length_map] at this ⊢; exact this⟩
    obtain ⟨cell, hcell⟩ : ∃ cell : Int, atI (cs.map Dt.int) (i % ((cs.map Dt.int).length : Nat)) = some (.int cell) := by
      have hlt : (i % ((cs.map Dt.int).length : Nat)).toNat < cs.length := by omega
      refine ⟨cs[(i % ((cs.map Dt.int).length : Nat)).toNat], ?_⟩
      have e1 : ((i % ((cs.map Dt.int).length : Nat)).toNat : Int) = i % ((cs.map Dt.int).length : Nat) := Int.toNat_of_nonneg hix.1
      have := atI_nat (xs := cs.map Dt.int) (j := (i % ((cs.map Dt.int).length : Nat)).toNat) (v := .int cs[(i % ((cs.map Dt.int).length : Nat)).toNat]) (by rw [List.getElem?_map, List.getElem?_eq_getElem hlt]; rfl)
      rwa [e1] at this
    refine so_setD (ev_dcells rfl) ?_
    refine so_setD (ev_ixL (ev_var rfl) (ev_op (ev_dat rfl) (ev_lenL (ev_var rfl)) (rv_mod hcm)) hcell) ?_
    refine so_dset (ev_op (ev_dat rfl) ev_int rv_add) rfl dr_pat ?_
    refine so_ifD (et_and (et_test (ev_op (ev_var rfl) (ev_op ev_int ev_int (rv_pow ⟨by decide, by decide, by decide⟩)) rv_ge)) fun _ => et_test (ev_op (ev_dat rfl) (ev_lenL (ev_var rfl)) rv_le)) (fun e2 => ?_) fun e2 => so_skip ?_
    · have hbig : (10 : Int) ^ (18 : Int).toNat ≤ cell := of_decide_eq_true (Bool.and_eq_true_iff.mp e2).1
      have hpos : 0 ≤ cell := Int.le_trans (by decide) hbig
      refine so_assoc (so_dset (ev_op (ev_var rfl) (ev_var rfl) (rv_div (cdivs hm hmb))) rfl dr_pleft ?_)
      exact so_ret1D (ev_op (ev_var rfl) (ev_var rfl) (rv_mod hm)) (dw_of (by omega) (by omega) (Int.ediv_nonneg hpos (by omega)) u0 (by omega)) (fin _)
    · refine so_dset (ev_op (ev_dused rfl) ev_int rv_add) rfl dr_pused ?_
      have u2 : 0 ≤ u + 1 ∧ u + 1 ≤ 1000001 := by omega
      have q1 := mul_in (x := 7919) (y := u + 1) (B := 7919) (C := 1000001) (by decide) (Int.le_refl _) u2.1 u2.2
      have q2 := mul_in (x := 7919 * (u + 1)) (y := u + 1) (B := 7919 * 1000001) (C := 1000001) q1.1 q1.2 u2.1 u2.2
      have c0 := Int.emod_nonneg cell (show (1000000007 : Int) ≠ 0 by decide)
      have c1 := Int.emod_lt_of_pos cell (show (0 : Int) < 1000000007 by decide)
      refine so_setD (ev_op (ev_op (ev_var rfl) ev_int (rv_mod (by decide))) (ev_op (ev_op ev_int (ev_dused rfl) (rv_mul (cmul (by decide) (by decide) u2.1 (by omega)))) (ev_dused rfl) (rv_mul (cmul q1.1 (by omega) u2.1 (by omega)))) rv_add) ?_
      have le1 : (DS K a c cs (i + 1) l (u + 1)).Le (DW K a c cs (n + 1)) := dw_of (by omega) (by omega) l0 u2.1 (by omega)
      refine so_mid (M := fun ρ' => ∃ (num : Int) (x : Option Dt), 0 ≤ num ∧ num < 2 ^ 64 ∧ ρ' = [some (.raw (.ref a)), some (.int m), some (.int cell), some (.lst (cs.map Dt.int)), some (.int num), x]) le1
        (so_forT (xs := [.int (i + 1), .int (u + 1)]) (ev_tup (ea_cons (ev_dat rfl) (ea_cons (ev_dused rfl) ea_nil)) (by show 2 ≤ sizeLine; decide)) (fun _ ρ' => ∃ (num : Int) (x : Option Dt), 0 ≤ num ∧ num < 2 ^ 64 ∧ ρ' = [some (.raw (.ref a)), some (.int m), some (.int cell), some (.lst (cs.map Dt.int)), some (.int num), x])
          ⟨_, _, ?_, ?_, rfl⟩ (fun t x ρ' hx hJ => ?_) fun ρ' h => h) fun ρ' hM => ?_
      · omega
      · have e7 : (7919 * 1000001 * 1000001 : Int) = 7919015838007919 := by decide
        omega
      · obtain ⟨num, y, n0, n1, rfl⟩ := hJ
        obtain ⟨k, rfl, k0, k1⟩ : ∃ k : Int, x = .int k ∧ 0 ≤ k ∧ k ≤ 1000001 := by
          match t, hx with
          | 0, hx => exact ⟨i + 1, (by simpa using hx.symm), by omega, by omega⟩
          | 1, hx => exact ⟨u + 1, (by simpa using hx.symm), by omega, by omega⟩
          | t + 2, hx => simp at hx
        have s0 := Int.emod_nonneg ((num + 31 * k + 7) * 48271) (show (2147483647 : Int) ≠ 0 by decide)
        have s1 := Int.emod_lt_of_pos ((num + 31 * k + 7) * 48271) (show (0 : Int) < 2147483647 by decide)
        have k2 := Int.emod_nonneg k (show (1000 : Int) ≠ 0 by decide)
        have k3 := Int.emod_lt_of_pos k (show (0 : Int) < 1000 by decide)
        refine so_setD (ev_op (ev_op (ev_op (ev_op (ev_var rfl) (ev_op ev_int (ev_var rfl) (rv_mul (cmul (by decide) (by decide) k0 (by omega)))) rv_add) ev_int rv_add) ev_int (rv_mul (cmul (by omega) (by omega) (by decide) (by decide)))) ev_int (rv_mod (by decide))) ?_
        refine so_set0D (ev_op (ev_op (ev_var rfl) (ev_op ev_int (ev_op ev_int (ev_op (ev_var rfl) ev_int (rv_mod (by decide))) (rv_mul (cmul (by decide) (by decide) k2 (by omega)))) rv_add) (rv_mul (cmul s0 (by omega) (by omega) (by omega)))) ev_int (rv_mod (by decide))) (Sta.Le.refl _) ⟨_, _, Int.emod_nonneg _ (by decide), ?_, rfl⟩
        have := Int.emod_lt_of_pos ((num + 31 * k + 7) * 48271 % 2147483647 * (69621 + 2 * (k % 1000))) (show (0 : Int) < 2147483629 by decide)
        omega
      · obtain ⟨num, y, n0, n1, rfl⟩ := hM
        exact so_retD (ev_op (ev_op (ev_var rfl) ev_int (rv_div (cdivs (by decide) (by decide)))) (ev_var rfl) (rv_mod hm)) le1 (fin _)
theorem ev__law_next {S : Sta} {ρ : List (Option Dt)} {ta tm : TE} {m : Int} (h : EvA K S (DW K a c cs n) ρ (tCons ta (tCons tm tNil)) (Eq [.raw (.ref a), .int m])) (hc : cs ≠ []) (hn : n + 1 ≤ 1000000) (h0 : 0 < m) (h1 : m.natAbs < 2 ^ 8000) :
    Ev K S (DW K a c cs (n + 1)) ρ (tCall (p__law_next K) [] E0 (tCons ta (tCons tm tNil))) (fun d => ∃ r, d = .int r ∧ 0 ≤ r ∧ r < m) :=
  (ev_callD (ds := [.int m]) h rfl ⟨m, rfl, h0, h1⟩ hc hn).weak fun d ⟨m', r, e, e2, r0, r1⟩ => by cases e; exact ⟨r, e2, r0, r1⟩
end
/-! ### _law_pick -/
def pickR : List Dt → Dt → Prop := fun ds d => ∃ xs, (ds = [.lst xs] ∨ ds = [.tup xs]) ∧ d ∈ xs
abbrev p__law_pick (K : PySem.W.Frag) : Sp := spD K 1 (fun ds => ∃ xs, (ds = [.lst xs] ∨ ds = [.tup xs]) ∧ xs ≠ [] ∧ xs.length ≤ 100000) pickR 1
abbrev t__law_pick (K : PySem.W.Frag) : TS := (tRet (tOp (rIx K) (tVar 1) (tCall (p__law_next K) [] E0 (tCons (tVar 0) (tCons (tCB (rLen K) (tCons (tVar 1) tNil)) tNil)))))
section
variable {K : PySem.W.Frag} {a c : Addr} {cs : List Int} {n : Nat} {ds : List Dt}
theorem at_in {xs : List Dt} {r : Int} (h0 : 0 ≤ r) (h1 : r < (xs.length : Nat)) : ∃ d, atI xs r = some d ∧ d ∈ xs := by
  have hlt : r.toNat < xs.length := by omega
  have e1 : (r.toNat : Int) = r := Int.toNat_of_nonneg h0
  have := atI_nat (xs := xs) (j := r.toNat) (v := xs[r.toNat]) (List.getElem?_eq_getElem hlt)
  rw [e1] at this
  exact ⟨_, this, List.getElem_mem hlt⟩
theorem so__law_pick (hc : cs ≠ []) (hn : n + 1 ≤ 1000000) (hp : ∃ xs, (ds = [.lst xs] ∨ ds = [.tup xs]) ∧ xs ≠ [] ∧ xs.length ≤ 100000) :
    So K (DW K a c cs n) (DW K a c cs (n + 1)) [] (t__law_pick K) (startD 2 (.raw (.ref a) :: ds)) { nx := fun _ => pickR ds .non, rt := pickR ds } := by
  obtain ⟨xs, h, hx, hz⟩ := hp
  have hl : 0 < xs.length := List.length_pos_iff.mpr hx
  have hb : (xs.length : Int).natAbs < 2 ^ 8000 := Nat.lt_of_le_of_lt (show (xs.length : Int).natAbs ≤ 100000 by omega) (by decide)
  rcases h with rfl | rfl
  · refine so_ret (ev_ixLP (ev_var rfl) (ev__law_next (ea_cons (ev_var rfl) (ea_cons (ev_lenL (ev_var rfl)) ea_nil)) hc hn (by omega) hb) (fun y ⟨r, e, r0, r1⟩ => ?_)) (Sta.Le.refl _) fun d p => p
    obtain ⟨d, h1, h2⟩ := at_in r0 r1
    exact ⟨r, d, e, h1, xs, .inl rfl, h2⟩
  · refine so_ret (ev_opP (ev_var rfl) (ev__law_next (ea_cons (ev_var rfl) (ea_cons (ev_lenT (ev_var rfl)) ea_nil)) hc hn (by omega) hb) (fun x y e ⟨r, e2, r0, r1⟩ => ?_)) (Sta.Le.refl _) fun d p => p
    obtain ⟨d, h1, h2⟩ := at_in r0 r1
    subst e e2
    exact fun H v u i r1 r2 Q q => rv_ixST h1 H v u i r1 r2 Q fun v' d' H' g i' r e => q v' d' H' g i' r (e ▸ ⟨xs, .inr rfl, h2⟩)
theorem ev__law_pick {S : Sta} {ρ : List (Option Dt)} {ta tm : TE} {xs : List Dt} (h : EvA K S (DW K a c cs n) ρ (tCons ta (tCons tm tNil)) (Eq [.raw (.ref a), .lst xs])) (hc : cs ≠ []) (hn : n + 1 ≤ 1000000) (h0 : xs ≠ []) (h1 : xs.length ≤ 100000) :
    Ev K S (DW K a c cs (n + 1)) ρ (tCall (p__law_pick K) [] E0 (tCons ta (tCons tm tNil))) (fun d => d ∈ xs) :=
  (ev_callD (ds := [.lst xs]) h rfl ⟨xs, .inl rfl, h0, h1⟩ hc hn).weak fun d ⟨ys, e, hd⟩ => by
    rcases e with e | e <;> cases e
    exact hd
end
/-! ### _law_size, _law_table -/
def sizeR : List Dt → Dt → Prop := fun _ d => ∃ s, d = .int s ∧ dur s
abbrev p__law_size (K : PySem.W.Frag) : Sp := spD K 0 (fun ds => ds = []) sizeR 3
abbrev t__law_size (K : PySem.W.Frag) : TS := (tSeq (tPar 1 2 (tCons (tOp rAddI (tC (.int 1)) (tCall (p__law_next K) [] E0 (tCons (tVar 0) (tCons (tC (.int 6)) tNil)))) (tCons (tOp rAddI (tC (.int 100)) (tCall (p__law_next K) [] E0 (tCons (tVar 0) (tCons (tC (.int 900)) tNil)))) tNil)))
    (tRet (tCall (p__law_pick K) [] E0 (tCons (tVar 0) (tCons (tLst (tCons (tVar 1) (tCons (tVar 1) (tCons (tOp rAddI (tVar 1) (tC (.int 3))) (tCons (tVar 2) (tCons (tC (.int 560)) (tCons (tC (.int 99999)) tNil))))))) tNil)))))
section
variable {K : PySem.W.Frag} {a c : Addr} {cs : List Int} {n : Nat} {ds : List Dt}
theorem ev_addP {S S1 S2 : Sta} {ρ : List (Option Dt)} {ta tb : TE} {i : Int} {Φ : Dt → Prop} (ha : Ev K S S1 ρ ta (Eq (.int i))) (hb : Ev K S1 S2 ρ tb Φ) {Θ : Dt → Prop} (h : ∀ y, Φ y → ∃ r, y = .int r ∧ Θ (.int (i + r))) : Ev K S S2 ρ (tOp rAddI ta tb) Θ := ev_opP ha hb fun x y e p => by
  obtain ⟨r, rfl, q⟩ := h y p
  subst e
  exact fun H v u i' r1 r2 Q k => rv_add H v u i' r1 r2 Q fun v' d' H' g i2 r e => k v' d' H' g i2 r (e ▸ q)
theorem so__law_size (hc : cs ≠ []) (hn : n + 3 ≤ 1000000) (hp : ds = []) :
    So K (DW K a c cs n) (DW K a c cs (n + 3)) [] (t__law_size K) (startD 3 (.raw (.ref a) :: ds)) { nx := fun _ => sizeR ds .non, rt := sizeR ds } := by
  subst hp
  refine so_par (ea_consP (Φ := fun d => ∃ r, d = .int r ∧ 1 ≤ r ∧ r ≤ 6) (ev_addP ev_int (ev__law_next (ea_cons (ev_var rfl) (ea_cons ev_int ea_nil)) hc (by omega) (by decide) (by decide)) fun y ⟨r, e, r0, r1⟩ => ⟨r, e, _, rfl, by omega, by omega⟩)
    (ea_consP (Φ := fun d => ∃ r, d = .int r ∧ 100 ≤ r ∧ r ≤ 999) (ev_addP ev_int (ev__law_next (n := n + 1) (ea_cons (ev_var rfl) (ea_cons ev_int ea_nil)) hc (by omega) (by decide) (by decide)) fun y ⟨r, e, r0, r1⟩ => ⟨r, e, _, rfl, by omega, by omega⟩) ea_nil)) (fun l ⟨x, xs, e, _, y, ys, e2, _, e3⟩ => by subst e e2 e3; rfl) fun x y hxy => ?_
  obtain ⟨x', xs, e, ⟨r, rfl, r0, r1⟩, y', ys, e2, ⟨s, rfl, s0, s1⟩, e3⟩ := hxy
  subst e3
  subst e2
  cases e
  refine so_ret (ev__law_pick (n := n + 1 + 1) (xs := [.int r, .int r, .int (r + 3), .int s, .int 560, .int 99999]) (ea_cons (ev_var rfl) (ea_cons (ev_lst (ea_cons (ev_var rfl) (ea_cons (ev_var rfl) (ea_cons (ev_op (ev_var rfl) ev_int rv_add) (ea_cons (ev_var rfl) (ea_cons ev_int (ea_cons ev_int ea_nil)))))) (by show 6 ≤ sizeLine; decide)) ea_nil)) hc (by omega) (by simp) (by show 6 ≤ 100000; decide)) (Sta.Le.refl _) fun d hd => ?_
  simp only [List.mem_cons, List.not_mem_nil, or_false] at hd
  rcases hd with rfl | rfl | rfl | rfl | rfl | rfl <;> exact ⟨_, rfl, by omega, by omega⟩
theorem ev__law_size {S : Sta} {ρ : List (Option Dt)} {ta : TE} (h : Ev K S (DW K a c cs n) ρ ta (Eq (.raw (.ref a)))) (hc : cs ≠ []) (hn : n + 3 ≤ 1000000) :
    Ev K S (DW K a c cs (n + 3)) ρ (tCall (p__law_size K) [] E0 (tCons ta tNil)) (fun d => ∃ s, d = .int s ∧ dur s) := ev_callD (ds := []) (ea_cons h ea_nil) rfl rfl hc hn
end
def tableR : List Dt → Dt → Prop := fun ds d => ∃ (T : Tab) (m : Int), ds = [.int m] ∧ T.ok ∧ d = T.d ∧ T.b ≤ m
abbrev p__law_table (K : PySem.W.Frag) : Sp := spD K 1 (fun ds => ∃ m, ds = [.int m] ∧ 1 ≤ m ∧ m ≤ 8) tableR 40
abbrev t__law_table (K : PySem.W.Frag) : TS := (tSeq (tAsg (tOp rAddI (tC (.int 1)) (tCall (p__law_next K) [] E0 (tCons (tVar 0) (tCons (tVar 1) tNil)))) (gName 2))
    (tSeq (tIfS (tTest (tOp rEq (tCall (p__law_next K) [] E0 (tCons (tVar 0) (tCons (tC (.int 3)) tNil))) (tC (.int 0)))) (tRet (tTup (tCons (tC (.str "halves")) (tCons (tCall (p__law_size K) [] E0 (tCons (tVar 0) tNil)) (tCons (tVar 2) tNil))))) tNext)
    (tSeq (tAsg (tCB (rTupO K) (tCons (tLc (iRng1 (tCons (tOp (rIxL K) (tLst (tCons (tC (.int 0)) (tCons (tC (.int 0)) (tCons (tC (.int 2)) (tCons (tC (.int 4)) tNil))))) (tCall (p__law_next K) [] E0 (tCons (tVar 0) (tCons (tC (.int 4)) tNil)))) tNil)) (gName 4) tYes (tCall (p__law_size K) [] E0 (tCons (tVar 0) tNil)) [4]) tNil)) (gName 3))
    (tSeq (tPar 5 6 (tCons (tTup (tCons (tCall (p__law_size K) [] E0 (tCons (tVar 0) tNil)) (tCons (tCall (p__law_size K) [] E0 (tCons (tVar 0) tNil)) tNil))) (tCons (tTup (tCons (tCall (p__law_size K) [] E0 (tCons (tVar 0) tNil)) (tCons (tCall (p__law_size K) [] E0 (tCons (tVar 0) tNil)) tNil))) tNil)))
    (tSeq (tIfS (tTest (tOp (rEqD K) (tVar 6) (tVar 5))) (tAsg (tTup (tCons (tOp (rIx K) (tVar 5) (tC (.int 0))) (tCons (tOp rAddI (tOp rAddI (tOp rModI (tOp (rIx K) (tVar 5) (tC (.int 1))) (tC (.int 9))) (tC (.int 1))) (tCB rInt1 (tCons (tOp rGtI (tOp (rIx K) (tVar 5) (tC (.int 1))) (tC (.int 9))) tNil))) tNil))) (gName 6)) tNext)
    (tRet (tTup (tCons (tC (.str "pairs")) (tCons (tVar 3) (tCons (tVar 5) (tCons (tVar 6) (tCons (tCall (p__law_size K) [] E0 (tCons (tVar 0) tNil)) (tCons (tVar 2) tNil)))))))))))))
section
variable {K : PySem.W.Frag} {a c : Addr} {cs : List Int} {n : Nat} {ds : List Dt}
theorem ea_twoP {S S1 S2 : Sta} {ρ : List (Option Dt)} {ta tb : TE} {Φ Ψ : Dt → Prop} (ha : Ev K S S1 ρ ta Φ) (hb : Ev K S1 S2 ρ tb Ψ) : EvA K S S2 ρ (tCons ta (tCons tb tNil)) (fun l => ∃ x y, l = [x, y] ∧ Φ x ∧ Ψ y) := fun σ H i s Q q =>
  ea_consP ha (ea_consP hb ea_nil) σ H i s Q fun vs ds H' g i' r ⟨x, xs, e, hx, y, ys, e2, hy, e3⟩ => q vs ds H' g i' r ⟨x, y, by rw [e, e2, ← e3], hx, hy⟩
theorem ev_two {S S1 S2 : Sta} {ρ : List (Option Dt)} {ta tb : TE} (ha : Ev K S S1 ρ ta (fun d => ∃ s, d = .int s ∧ dur s)) (hb : Ev K S1 S2 ρ tb (fun d => ∃ s, d = .int s ∧ dur s)) :
    Ev K S S2 ρ (tTup (tCons ta (tCons tb tNil))) (fun d => ∃ x y, d = tI [x, y] ∧ dur x ∧ dur y) := (ev_tupP (ea_twoP ha hb) fun l ⟨x, y, e, _⟩ => by rw [e]; show 2 ≤ sizeLine; decide).weak fun d h => by
  obtain ⟨l, e, x, y, e2, ⟨s, e3, hs⟩, ⟨t, e4, ht⟩⟩ := h
  exact ⟨s, t, by rw [e, e2, e3, e4]; rfl, hs, ht⟩
theorem ints_of : ∀ {ds : List Dt}, (∀ x ∈ ds, ∃ s, x = .int s ∧ dur s) → ∃ ns : List Int, ds = ns.map Dt.int ∧ ∀ x ∈ ns, dur x
  | [], _ => ⟨[], rfl, fun _ z => nomatch z⟩
  | d :: ds, h => by
    obtain ⟨s, rfl, hs⟩ := h d List.mem_cons_self
    obtain ⟨ns, rfl, hn⟩ := ints_of (ds := ds) fun x hx => h x (List.mem_cons_of_mem _ hx)
    exact ⟨s :: ns, rfl, fun x hx => by
      rcases List.mem_cons.mp hx with e | hx
      · rw [e]; exact hs
      · exact hn x hx⟩
theorem ev_tupL {S S1 : Sta} {ρ : List (Option Dt)} {ta : TE} {Φ : List Dt → Prop} (h : Ev K S S1 ρ ta (fun d => ∃ xs, d = .lst xs ∧ Φ xs)) : Ev K S S1 ρ (tCB (rTupO K) (tCons ta tNil)) (fun d => ∃ xs, d = .tup xs ∧ Φ xs) :=
  ev_cbP (Φl := fun l => ∃ xs, l = [.lst xs] ∧ Φ xs) (fun σ H i s Q q => ea_consP h ea_nil σ H i s Q fun vs ds H' g i' r ⟨d, ds', e, ⟨xs, e2, p⟩, e3⟩ => q vs ds H' g i' r ⟨xs, by rw [e, e2, ← e3], p⟩) fun l ⟨xs, e, p⟩ => by
    subst e
    exact fun H vs i r Q q => rc_tupL H vs i r Q fun v' d H' g i' r' e => q v' d H' g i' r' ⟨xs, e.symm, p⟩
theorem so__law_table (hc : cs ≠ []) (hn : n + 40 ≤ 1000000) (hp : ∃ m, ds = [.int m] ∧ 1 ≤ m ∧ m ≤ 8) :
    So K (DW K a c cs n) (DW K a c cs (n + 40)) [] (t__law_table K) (startD 7 (.raw (.ref a) :: ds)) { nx := fun _ => tableR ds .non, rt := tableR ds } := by
  obtain ⟨m, rfl, m1, m8⟩ := hp
  refine so_set (ev_addP (Θ := fun d => ∃ b, d = .int b ∧ 1 ≤ b ∧ b ≤ m) ev_int (ev__law_next (ea_cons (ev_var rfl) (ea_cons (ev_var rfl) ea_nil)) hc (by omega) (by omega) (Nat.lt_of_le_of_lt (show m.natAbs ≤ 8 by omega) (by decide))) fun y ⟨r, e, r0, r1⟩ => ⟨r, e, _, rfl, by omega, by omega⟩) fun d hd => ?_
  obtain ⟨b, rfl, b1, b2⟩ := hd
  refine so_if (Φb := fun _ => True) (et_testP (ev_opP (Θ := fun d => ∃ k, d = .bl k ∧ True) (ev__law_next (n := n + 1) (ea_cons (ev_var rfl) (ea_cons ev_int ea_nil)) hc (by omega) (by decide) (by decide)) ev_int fun x y ⟨r, e, _⟩ e2 => ?_)) (fun _ => ?_) fun _ => so_skip ?_
  · subst e e2
    exact fun H v u i r1 r2 Q q => rv_eqI H v u i r1 r2 Q fun v' d' H' g i' r e => q v' d' H' g i' r ⟨_, e.symm, trivial⟩
  · -- halves
    refine so_ret1 (ev_tupP (ea_consP ev_str (ea_twoP (ev__law_size (n := n + 1 + 1) (ev_var rfl) hc (by omega)) (ev_var (d := .int b) rfl))) fun l ⟨x, xs, e, _, y, z, e2, _⟩ => by rw [e, e2]; show 3 ≤ sizeLine; decide) (dw_le (by omega)) fun d hd => ?_
    obtain ⟨l, rfl, x, xs, rfl, rfl, y, z, rfl, ⟨s, rfl, hs⟩, rfl⟩ := hd
    exact ⟨.ha s b, m, rfl, ⟨hs, b1, by omega⟩, rfl, b2⟩
  · -- pairs: the header
    refine so_set (S1 := DW K a c cs (n + 15)) (Φ := fun d => ∃ xs, d = .tup xs ∧ ((xs.length = 0 ∨ xs.length = 2 ∨ xs.length = 4) ∧ ∀ x ∈ xs, ∃ s, x = .int s ∧ dur s)) (ev_tupL ?_) fun d hd => ?_
    · intro σ H i s Q q
      -- how many: drawn
      have hix : ∀ y : Dt, (∃ r, y = .int r ∧ 0 ≤ r ∧ r < 4) → ∃ k d, y = .int k ∧ atI [Dt.int 0, .int 0, .int 2, .int 4] k = some d ∧ ∃ k : Nat, d = .int k ∧ (k = 0 ∨ k = 2 ∨ k = 4) := by
        rintro y ⟨r, e, r0, r1⟩
        have : r = 0 ∨ r = 1 ∨ r = 2 ∨ r = 3 := by omega
        rcases this with rfl | rfl | rfl | rfl
        · exact ⟨0, .int 0, e, atI_nat (j := 0) rfl, 0, rfl, .inl rfl⟩
        · exact ⟨1, .int 0, e, atI_nat (j := 1) rfl, 0, rfl, .inl rfl⟩
        · exact ⟨2, .int 2, e, atI_nat (j := 2) rfl, 2, rfl, .inr (.inl rfl)⟩
        · exact ⟨3, .int 4, e, atI_nat (j := 3) rfl, 4, rfl, .inr (.inr rfl)⟩
      have hcount := ev_ixLPL (K := K) (S := DW K a c cs (n + 1 + 1)) (ρ := [some (.raw (.ref a)), some (.int m), some (.int b), none, none, none, none]) (ev_lst (ea_cons (ev_int (i := 0)) (ea_cons (ev_int (i := 0)) (ea_cons (ev_int (i := 2)) (ea_cons (ev_int (i := 4)) ea_nil)))) (by show 4 ≤ sizeLine; decide)) (ev__law_next (a := a) (c := c) (cs := cs) (n := n + 1 + 1) (ea_cons (ev_var (i := 0) (d := .raw (.ref a)) rfl) (ea_cons (ev_int (i := 4)) ea_nil)) hc (by omega) (by decide) (by decide)) hix
      refine hcount σ H i s _ fun v d H1 g1 i1 r1 p1 => ?_
      obtain ⟨k, rfl, hk⟩ := p1
      -- from here on the count is known
      have hcomp : Ev K (DW K a c cs (n + 3)) (DW K a c cs (n + 3 + 3 * k)) [some (.raw (.ref a)), some (.int m), some (.int b), none, none, none, none] (tLc (iRng1 (tCons (tC (.int k)) tNil)) (gName 4) tYes (tCall (p__law_size K) [] E0 (tCons (tVar 0) tNil)) [4]) (fun d => ∃ ds, d = .lst ds ∧ ds.length = k ∧ nolA ds = true ∧ ∀ x ∈ ds, ∃ s, x = .int s ∧ dur s) :=
        ev_lcRP (Z := fun i => DW K a c cs (n + 3 + 3 * i)) (fun h1 g hD h => dw_off h1 g hD h) (fun i => dw_le (by omega)) (ea_cons ev_int ea_nil) (by omega) (by decide) fun i hi => (ev__law_size (n := n + 3 + 3 * i) (ev_var rfl) hc (by omega)).weak fun d ⟨s, e, hs⟩ => ⟨⟨s, e, hs⟩, by rw [e]; rfl⟩
      obtain rfl := r1.intI
      refine hcomp σ H1 i1 (s.mono g1) Q fun v' d' H2 g2 i2 r2 p2 => ?_
      obtain ⟨xs, e, hl, _, hx⟩ := p2
      exact q v' d' H2 (g1.trans g2) (dw_le (by omega) _ i2) r2 ⟨xs, e, by rw [hl]; exact hk, hx⟩
    obtain ⟨xs, rfl, hl, hx⟩ := hd
    obtain ⟨hs, rfl, hh⟩ := ints_of hx
    rw [List.length_map] at hl
    refine so_par (ea_twoP (ev_two (ev__law_size (n := n + 15) (ev_var rfl) hc (by omega)) (ev__law_size (n := n + 15 + 3) (ev_var rfl) hc (by omega))) (ev_two (ev__law_size (n := n + 15 + 3 + 3) (ev_var rfl) hc (by omega)) (ev__law_size (n := n + 15 + 3 + 3 + 3) (ev_var rfl) hc (by omega)))) (fun l ⟨x, y, e, _⟩ => by rw [e]; rfl) fun x y hxy => ?_
    obtain ⟨x', y', e, ⟨z1, z2, rfl, hz1, hz2⟩, ⟨o1, o2, rfl, ho1, ho2⟩⟩ := hxy
    cases e
    -- the rest
    have rest : ∀ p1 p2 : Int, dur p1 → dur p2 → ¬ (p1 = z1 ∧ p2 = z2) → So K (DW K a c cs (n + 15 + 3 + 3 + 3 + 3)) (DW K a c cs (n + 40)) [] (tRet (tTup (tCons (tC (.str "pairs")) (tCons (tVar 3) (tCons (tVar 5) (tCons (tVar 6) (tCons (tCall (p__law_size K) [] E0 (tCons (tVar 0) tNil)) (tCons (tVar 2) tNil))))))))
        [some (.raw (.ref a)), some (.int m), some (.int b), some (.tup (hs.map Dt.int)), none, some (tI [z1, z2]), some (tI [p1, p2])] { nx := fun _ => tableR [.int m] .non, rt := tableR [.int m] } := fun p1 p2 hp1 hp2 hne => by
      refine so_ret (ev_tupP (ea_consP ev_str (ea_consP (ev_var (d := .tup (hs.map Dt.int)) rfl) (ea_consP (ev_var (d := tI [z1, z2]) rfl) (ea_consP (ev_var (d := tI [p1, p2]) rfl) (ea_twoP (ev__law_size (n := n + 15 + 3 + 3 + 3 + 3) (ev_var rfl) hc (by omega)) (ev_var (d := .int b) rfl)))))) fun l ⟨_, _, e, _, _, _, e1, _, _, _, e2, _, _, _, e3, _, _, _, e4, _⟩ => by rw [e, e1, e2, e3, e4]; show 6 ≤ sizeLine; decide) (dw_le (by omega)) fun d hd => ?_
      obtain ⟨l, rfl, _, _, rfl, rfl, _, _, rfl, rfl, _, _, rfl, rfl, _, _, rfl, rfl, _, _, rfl, ⟨s, rfl, hs'⟩, rfl⟩ := hd
      exact ⟨.pa hs z1 z2 p1 p2 s b, m, rfl, ⟨hl, hh, hz1, hz2, hp1, hp2, hne, hs', b1, by omega⟩, rfl, b2⟩
    refine so_ifD (et_test (ev_op (ev_var rfl) (ev_var rfl) (rv_eqD (cmp2 _ _) (cmp2 _ _)))) (fun e => ?_) fun e => so_skip ?_
    · have e' : (decide (o1 = z1) && decide (o2 = z2)) = true := by rw [← eqv2]; exact e
      simp only [Bool.and_eq_true, decide_eq_true_eq] at e'
      obtain ⟨rfl, rfl⟩ := e'
      refine so_setD (d := tI [o1, o2 % 9 + 1 + (if decide (9 < o2) = true then 1 else 0)]) (ev_tup (ea_cons (ev_ixT (ev_var rfl) ev_int (atI_nat (j := 0) rfl)) (ea_cons (ev_op (ev_op (ev_op (ev_ixT (ev_var rfl) ev_int (atI_nat (j := 1) rfl)) ev_int (rv_mod (by decide))) ev_int rv_add) (ev_cb (ea_cons (ev_op (ev_ixT (ev_var rfl) ev_int (atI_nat (j := 1) rfl)) ev_int rv_gt) ea_nil) rc_intB) rv_add) ea_nil)) (by show 2 ≤ sizeLine; decide)) ?_
      obtain ⟨z2a, z2b⟩ := hz2
      refine rest _ _ hz1 ⟨?_, ?_⟩ ?_
      · split <;> omega
      · split <;> omega
      · rintro ⟨_, q⟩
        split at q
        · rename_i h9
          have := of_decide_eq_true h9
          omega
        · rename_i h9
          have : ¬ (9 < o2) := fun z => h9 (decide_eq_true z)
          omega
    · refine rest o1 o2 ho1 ho2 ?_
      rintro ⟨rfl, rfl⟩
      have : PyData.eqv (py (tI [o1, o2])) (py (tI [o1, o2])) = false := e
      rw [eqv2] at this
      simp at this
theorem ev__law_table {S : Sta} {ρ : List (Option Dt)} {ta tm : TE} {m : Int} (h : EvA K S (DW K a c cs n) ρ (tCons ta (tCons tm tNil)) (Eq [.raw (.ref a), .int m])) (hc : cs ≠ []) (hn : n + 40 ≤ 1000000) (h0 : 1 ≤ m) (h1 : m ≤ 8) :
    Ev K S (DW K a c cs (n + 40)) ρ (tCall (p__law_table K) [] E0 (tCons ta (tCons tm tNil))) (fun d => ∃ T : Tab, T.ok ∧ d = T.d ∧ T.b ≤ m) :=
  (ev_callD (ds := [.int m]) h rfl ⟨m, rfl, h0, h1⟩ hc hn).weak fun d ⟨T, m', e, h1, h2, h3⟩ => by cases e; exact ⟨T, h1, h2, h3⟩
end
end Bf
namespace Bf
open PySem PySem.Spec PyProof.Rows L2
/-! ## Ratios: instances of an own class with two attributes -/
/-- the n-th statement of a class's body -/
def clsSt (s : Stmt) (n : Nat) : Stmt := match s with
  | .ClassDef _ _ _ b _ _ _ _ _ _ _ => b.getD n s
  | _ => s
def rat (C : Addr) (n d : Int) : Dt := .ins C ["_num", "_den"] [.int n, .int d]
theorem nol_rat {C : Addr} {n d : Int} : nol (rat C n d) = true := by simp [rat, nol, nolA]
section
variable {K : PySem.W.Frag} {H : Hp} {v : V} {C : Addr} {n d : Int}
theorem Rep.ratI (h : Rep K H v (rat C n d)) : ∃ a dx, v = .ref a ∧ H a = some (.ins C dx [("_num", .int n), ("_den", .int d)]) := by
  unfold rat at h
  cases h with
  | ins e r =>
    cases r with
    | cons r1 r =>
      cases r with
      | cons r2 r =>
        cases r
        obtain rfl := r1.intI
        obtain rfl := r2.intI
        exact ⟨_, _, rfl, e⟩
theorem rep_rat {a dx : Addr} (e : H a = some (.ins C dx [("_num", .int n), ("_den", .int d)])) : Rep K H (.ref a) (rat C n d) :=
  .ins (ns := ["_num", "_den"]) (vs := [.int n, .int d]) e (.cons (.int n) (.cons (.int d) .nil))
end
theorem look_den {n m : V} : ([(("_num" : Str), n), ("_den", m)] : List (Str × V)).lookup ("_den" : Str) = some m := by
  have : (("_den" : Str) == "_num") = false := by decide
  simp [List.lookup, this]
/-- what is known of the class -/
structure RatT (K : PySem.W.Frag) (mg : Str → Option Value) (C fI pN gN pD gD : Addr) : Prop where
  cl : Cls K C
  mK : Mk K C fI
  pn : PropOf K C "num" pN gN
  pd : PropOf K C "den" pD gD
  an : NoAttr K C "_num"
  ad : NoAttr K C "_den"
  gC : mg "Ratio" = some (.ref C)
  c1 : PySem.W.findIn K (.ref C) "__class__" = some (some (.builtin "object.__class__"))
  c2 : PySem.W.specialIn K (.builtin "object.__class__") "__get__" = some (some (.builtin "getset_descriptor.__get__"))
  c3 : PySem.W.takesIn K (.builtin "object.__class__") = some true
  c4 : PySem.W.mroIn K C (.type "object") = some true
  no : ∀ T ∈ ["NoneType", "bool", "int", "str", "list", "tuple", "dict"], PySem.W.kitOne K (.type T) (.ref C) = some false
  si : PySem.W.kitOne K (.ref C) (.ref C) = some true
  sT : ∀ T ∈ ["bool", "int", "str", "list", "tuple"], PySem.W.kitOne K (.ref C) (.type T) = some false
/-- any plain thing, or a ratio -/
def okRt (C : Addr) (d : Dt) : Prop := okN d = true ∨ ∃ n m, d = rat C n m
def isRatD : Dt → Bool
  | .ins _ _ _ => true
  | _ => false
section
variable {K : PySem.W.Frag} {mg : Str → Option Value} {C fI pN gN pD gD : Addr} {S S1 : Sta} {ρ : List (Option Dt)} {te : TE} {d : Dt} {n m : Int}
theorem ty_rat {H : Hp} {v : V} (T : RatT K mg C fI pN gN pD gD) (r : Rep K H v (rat C n m)) : TyX K H v (.ref C) := by
  obtain ⟨a, dx, rfl, e⟩ := r.ratI
  exact .base (.ins e T.cl T.c1 T.c2 T.c3 T.c4)
/-- isinstance(x, Ratio) -/
theorem rc_isRat (T : RatT K mg C fI pN gN pD gD) (h : okRt C d) : RvC K S (rIsi K) [d, .raw (.ref C)] (Eq (.bl (isRatD d))) := rc_at fun H vs i r Q q => by
  obtain ⟨v, u, rfl, r1, r2⟩ := r.twoI
  obtain rfl := r2.rawI
  rcases h with h | ⟨n, m, rfl⟩
  · cases d with
    | non => exact ⟨v, .ref C, _, _, _, rfl, .own C, r1.ty rfl, T.no _ (by simp), q _ (.bl _)⟩
    | bl => exact ⟨v, .ref C, _, _, _, rfl, .own C, r1.ty rfl, T.no _ (by simp), q _ (.bl _)⟩
    | int => exact ⟨v, .ref C, _, _, _, rfl, .own C, r1.ty rfl, T.no _ (by simp), q _ (.bl _)⟩
    | str => exact ⟨v, .ref C, _, _, _, rfl, .own C, r1.ty rfl, T.no _ (by simp), q _ (.bl _)⟩
    | lst => exact ⟨v, .ref C, _, _, _, rfl, .own C, r1.ty rfl, T.no _ (by simp), q _ (.bl _)⟩
    | tup => exact ⟨v, .ref C, _, _, _, rfl, .own C, r1.ty rfl, T.no _ (by simp), q _ (.bl _)⟩
    | dic => exact ⟨v, .ref C, _, _, _, rfl, .own C, r1.ty rfl, T.no _ (by simp), q _ (.bl _)⟩
    | ins => cases h
    | raw u => cases u <;> cases h
    | lat => cases h
    | err => cases h
    | dct => cases h
  · exact ⟨v, .ref C, _, _, _, rfl, .own C, ty_rat T r1, T.si, q _ (.bl _)⟩
theorem ev_isRat (T : RatT K mg C fI pN gN pD gD) (h : Ev K S S1 ρ te (Eq d)) (hd : okRt C d) : Ev K S S1 ρ (tCB (rIsi K) (tCons te (tCons (tC (.ref C)) tNil))) (Eq (.bl (isRatD d))) := ev_cb (ea_cons h (ea_cons ev_raw ea_nil)) (rc_isRat T hd)
/-- isinstance(a ratio, T) -/
theorem ev_ratIs {t : String} (T : RatT K mg C fI pN gN pD gD) (h : Ev K S S1 ρ te (Eq (rat C n m))) (ht : t ∈ ["bool", "int", "str", "list", "tuple"]) : Ev K S S1 ρ (tCB (rIsi K) (tCons te (tCons (tC (.ty t)) tNil))) (Eq (.bl false)) :=
  ev_cb (ea_cons h (ea_cons ev_ty ea_nil)) (rc_at fun H vs i r Q q => by
    obtain ⟨v, u, rfl, r1, r2⟩ := r.twoI
    obtain rfl := r2.rawI
    exact ⟨v, .ty t, _, _, _, rfl, .ty t, ty_rat T r1, T.sT t ht, q _ (.bl _)⟩)
/-- x.num, x.den -/
theorem ev_num {E : XK} (h : Ev K S S1 ρ te (Eq (rat C n m))) : Ev K S S1 ρ (tProp C (getSp C "_num") [] E te) (Eq (.int n)) := fun σ H i s Q q =>
  h σ H i s _ fun v d H1 g1 i1 r1 e => by
    subst e
    obtain ⟨a, dx, rfl, ea⟩ := r1.ratI
    exact ⟨a, dx, _, rfl, ea, a, dx, _, .int n, rfl, ea, by simp [List.lookup], q _ _ H1 g1 i1 (.int n) rfl⟩
theorem ev_den {E : XK} (h : Ev K S S1 ρ te (Eq (rat C n m))) : Ev K S S1 ρ (tProp C (getSp C "_den") [] E te) (Eq (.int m)) := fun σ H i s Q q =>
  h σ H i s _ fun v d H1 g1 i1 r1 e => by
    subst e
    obtain ⟨a, dx, rfl, ea⟩ := r1.ratI
    exact ⟨a, dx, _, rfl, ea, a, dx, _, .int m, rfl, ea, by rw [look_den], q _ _ H1 g1 i1 (.int m) rfl⟩
end
/-! ### Ratio(a, b) -/
/-- a right one is made -/
def spRI (C : Addr) : Sp := fun vs H Q _ => ∃ (x dx : Addr) (n m : Int), vs = [.ref x, .int n, .int m] ∧ H x = some (.ins C dx []) ∧ 0 ≤ n ∧ 1 ≤ m ∧ m.natAbs < 2 ^ 8000 ∧
  ∀ H', (∀ b o, b ≠ x → H b = some o → dob o = true → H' b = some o) → (∀ b o, b ≠ x → H b = some o → H' b = some o) → H' x = some (.ins C dx [("_num", .int (n / (Nat.gcd n.natAbs m.natAbs : Nat))), ("_den", .int (m / (Nat.gcd n.natAbs m.natAbs : Nat)))]) → Q .non H'
section
variable {X : Cx} {k : Nat} {f C : Addr} {fd : FuncData} {ps : List Str} {sp : Sp} {E : XK} {x : Str} {p pos : Pos} {e : Expr} {es : List Expr} {t : TA} {dvs : List V} {ds : List Value}
/-- C(e, ..) by an __init__ of the law's promises -/
theorem pe_makeG (M : Mk X.K C f) (F : GOk X.prog X.w X.K X.mg X.base k f fd ps sp) (hr : Room (k + 1) X.A) (hgd : X.A.guards = some []) (hm : X.mg x = some (.ref C)) (hb : Binds X.K fd ps ds) (hd : Vals dvs ds) (hx : Passes (L2.CX X.prog X.w) X E)
    (ha : PA X (e :: es) t) (hg : Gl X x := by rfl) (hdb : (x == ("__debug__" : Str)) = false := by decide) (he : starEach (e :: es) X.env = (false, eval e X.env) :: starEach es X.env := by rfl) (hpl : (backTo pos (starEach es X.env)).any (·.1) = false := by rfl) :
    PE X (.Call (.Name x p) (e :: es) [] pos) (tMake C sp dvs E t) := by
  refine ⟨fun pins s σ H Q I h => ?_⟩
  refine wpAny_Call_Name_kw (ld_glob I hg hm ?_ hdb)
  refine PySem.W.callWith_K (h₀ := X.base) I.ok.mod.kin M.kp (thn (ha.run pos pins s σ H _ I h) fun us s1 ⟨vs, H1, I1, r, q⟩ => ⟨I1.kIn, ?_⟩) he hpl
  have hq := q (s1.heap.objs.size + 1) s1.heap.objs.size (I1.hok.fresh (Nat.le_succ _)) (I1.hok.fresh (Nat.le_refl _)) (Nat.ne_of_lt (Nat.lt_succ_self _))
  have I2 := L2.Inv.made (C := C) I1
  have r2 : Vals (V.ref (s1.heap.objs.size + 1) :: (vs ++ dvs)) (Value.ref (s1.heap.objs.size + 1) :: (us ++ ds)) := .cons rfl (r.append hd)
  have hl : (Value.ref (s1.heap.objs.size + 1) :: us ++ ds).length = ps.length := by
    have e := r2.length
    rw [F.len _ _ _ _ hq] at e
    exact e.symm
  refine wpAny_call (make_map (f := f) I1.kIn M.makes M.init (beq_iff_eq.mp M.fn) (codeAny_mono (F.go _ X.stack _ _ ⟨Value.ref (s1.heap.objs.size + 1) :: us, []⟩ (Value.ref (s1.heap.objs.size + 1) :: (us ++ ds)) _ _ E (hr.make C us []) (by first | exact hgd | (simpa [Around.under] using hgd))
    (I2.env0.make C us []) (hb _ (Value.ref (s1.heap.objs.size + 1) :: us) I2.kIn hl) r2 hq) fun r s' hq' => ?_))
  cases r with
  | error e => exact hx pins σ _ _ e s' I2 hq'
  | ok fl =>
    cases fl with
    | ret u =>
      obtain ⟨v, H', I3, rv, ev, q3⟩ := I2.after hq'
      subst ev
      exact ⟨rv, ⟨V.ref (s1.heap.objs.size + 1), H', I3, rfl, q3⟩⟩
    | next => exact False.elim hq'
    | brk => exact False.elim hq'
    | cont => exact False.elim hq'
/-- a def with defaults, by its body -/
theorem okGD {P : Program} {w : World} {K : PySem.W.Frag} {mg : Str → Option Value} {base : Heap} {x qual : Str} {params : Arguments} {body : List Stmt} {scope : Scope} {dv : List V} {kws : List (Str × V)} {f : Addr} {fd : FuncData} {N ps : List Str} {k : Nat} {sp : Sp} (F : FunD K x qual params body scope dv kws f fd) (S : FnScope N ps scope) (len : ∀ vs H Q E, sp vs H Q E → vs.length = ps.length)
    (hb : ∀ (cdv : Value) (A : Around) (out : List Env) (s : Shared) (H : Hp) (vs : List V) (Q : VK) (E : XK), Room k (A.deeper (envOfC qual scope s.heap.objs.size f cdv)) → A.guards = some [] → sp vs H Q E →
      ∃ t, PSs (cxOf (L2.CX P w) P w K mg base N qual scope f cdv A out s H E) body t ∧ t { nx := fun _ H' => Q .non H', rt := Q } (start N vs) H) :
    GOk P w K mg base (k + 1) f fd ps sp := by
  obtain ⟨oc, od, dV, kV, doc, pm, an, cdv, ct, osl, rfl, lk, hcd, _, _⟩ := F.ex
  refine ⟨len, fun A out s H args us vs Q E hr hgd e0 hbi r hsp => ?_⟩
  refine StX.run_bnd lk hcd S hr e0 (G := fun xs H2 => xs = vs ∧ H2 = H) (fun A' Ex Q' h => ?_) fun s2 H2 xs ⟨ex, eH⟩ hr' => ?_
  · exact hbi _ _ _ _ (h s H vs us e0 Un.refl rfl (fun _ _ z => z) r (len _ _ _ _ hsp) ⟨rfl, rfl⟩)
  · subst ex eH
    exact hb cdv A out s2 _ _ Q E hr' hgd hsp
end
abbrev t_rat_init (K : PySem.W.Frag) : TS := (tSeq (tIfS (tNot (tAnd (tB (tCall (p_is_whole K) [] E0 (tCons (tVar 1) tNil))) (tAnd (tB (tCall (p_is_whole K) [] E0 (tCons (tVar 2) tNil))) (tAnd (tTest (tOp rGeI (tVar 1) (tC (.int 0)))) (tTest (tOp rGeI (tVar 2) (tC (.int 1)))))))) tNever tNext)
    (tSeq (tAsg (tCB rGcd (tCons (tVar 1) (tCons (tVar 2) tNil))) (gName 3))
    (tSeq (sFld K (tVar 0) (tOp rDivW (tVar 1) (tVar 3)) "_num") (sFld K (tVar 0) (tOp rDivW (tVar 2) (tVar 3)) "_den"))))
theorem run_ifF {K : PySem.W.Frag} {S S1 : Sta} {ρ : List (Option Dt)} {c : TT} {t u w : TS} {D : Ends} {σ : L2.St} {H : Hp} (h : EvT K S S1 ρ c (Eq false)) (i : S.I H) (s : Slots K H σ ρ) (k : ∀ H1, Gr H H1 → S1.I H1 → (tSeq u w) D σ H1) : (tSeq (tIfS c t u) w) D σ H := h σ H i s _ fun b H1 g1 i1 e => by
  subst e
  rw [if_neg Bool.false_ne_true]
  exact k H1 g1 i1
/-- nothing but the instance changes -/
theorem rd_rat_init {K : PySem.W.Frag} {mg : Str → Option Value} {C fI pN gN pD gD : Addr} (T : RatT K mg C fI pN gN pD gD) {vs : List V} {H : Hp} {Q : VK} {E : XK} (h : spRI C vs H Q E) : t_rat_init K { nx := fun _ H' => Q .non H', rt := Q } (start ["self", "num", "den", "shared"] vs) H := by
  obtain ⟨x, dx, n, m, rfl, hx, n0, m1, mb, q⟩ := h
  have s0 : Slots K H (start ["self", "num", "den", "shared"] [.ref x, .int n, .int m]) [some (.raw (.ref x)), some (.int n), some (.int m), none] := slots_start (N := ["self", "num", "den", "shared"]) (ds := [.raw (.ref x), .int n, .int m]) (.cons (.raw _) (.cons (.int n) (.cons (.int m) .nil)))
  have hw : ∀ (i : Nat) (j : Int), ([some (Dt.raw (.ref x)), some (.int n), some (.int m), none] : List (Option Dt))[i]? = some (some (.int j)) → EvT K (staSame H) (staSame H) [some (.raw (.ref x)), some (.int n), some (.int m), none] (tB (tCall (p_is_whole K) [] E0 (tCons (tVar i) tNil))) (Eq true) := fun i j hi =>
    (et_B (ev_callF (ds := [.int j]) (f := one1 fun d => .bl (isW d)) (ea_cons (ev_var hi) ea_nil) rfl ⟨.int j, rfl, rfl⟩)).to rfl
  have hc : EvT K (staSame H) (staSame H) [some (.raw (.ref x)), some (.int n), some (.int m), none] (tNot (tAnd (tB (tCall (p_is_whole K) [] E0 (tCons (tVar 1) tNil))) (tAnd (tB (tCall (p_is_whole K) [] E0 (tCons (tVar 2) tNil))) (tAnd (tTest (tOp rGeI (tVar 1) (tC (.int 0)))) (tTest (tOp rGeI (tVar 2) (tC (.int 1)))))))) (Eq false) := (et_not (et_andT (hw 1 n rfl) (et_andT (hw 2 m rfl) (et_andT ((et_test (ev_op (ev_var rfl) ev_int rv_ge)).to (decide_eq_true n0)) ((et_test (ev_op (ev_var rfl) ev_int rv_ge)).to (decide_eq_true m1)))))).to rfl
  refine run_ifF hc (Same.refl H) s0 fun H1 g1 i1 => ?_
  have hx1 := i1 _ _ hx
  have mp : (0 : Int) < (Nat.gcd n.natAbs m.natAbs : Nat) := by
    have : 0 < Nat.gcd n.natAbs m.natAbs := Nat.gcd_pos_of_pos_right _ (by omega)
    omega
  have gb : ((Nat.gcd n.natAbs m.natAbs : Nat) : Int).natAbs < 2 ^ 8000 := by
    rw [Int.natAbs_natCast]
    exact Nat.lt_of_le_of_lt (Nat.le_of_dvd (by omega) (Nat.gcd_dvd_right _ _)) mb
  refine ⟨_, rfl, _, rfl, n, m, rfl, ?_⟩
  refine ⟨_, rfl, _, rfl, n, _, rfl, rfl, cdivs mp gb, ?_⟩
  refine ⟨_, rfl, x, C, dx, [], rfl, hx1, T.cl, T.an, by decide, ?_⟩
  refine ⟨_, rfl, _, rfl, m, _, rfl, rfl, cdivs mp gb, ?_⟩
  refine ⟨_, rfl, x, C, dx, _, rfl, upd_same, T.cl, T.ad, by show 1 < 1000; decide, ?_⟩
  rw [upd_upd]
  refine q _ (fun b o hb ho _ => ?_) (fun b o hb ho => ?_) ?_
  · rw [upd_ne hb]; exact i1 _ _ ho
  · rw [upd_ne hb]; exact i1 _ _ ho
  · rw [upd_same]; rfl
section
variable {K : PySem.W.Frag} {S S1 : Sta} {ρ : List (Option Dt)} {tl : TA} {n m : Int} {C : Addr} {E : XK}
/-- in lowest terms -/
def ratL (C : Addr) (n m : Int) : Dt := rat C (n / (Nat.gcd n.natAbs m.natAbs : Nat)) (m / (Nat.gcd n.natAbs m.natAbs : Nat))
theorem ev_mkrat (h : EvA K S S1 ρ tl (Eq [.int n, .int m])) (h0 : 0 ≤ n) (h1 : 1 ≤ m) (hb : m.natAbs < 2 ^ 8000) : Ev K S S1 ρ (tMake C (spRI C) [] E tl) (Eq (ratL C n m)) := fun σ H i s Q q =>
  h σ H i s _ fun vs ds H1 g1 i1 r1 e => by
    subst e
    obtain ⟨v, u, rfl, ra, rb⟩ := r1.twoI
    obtain rfl := ra.intI
    obtain rfl := rb.intI
    intro x dx hx hdx ne
    refine ⟨x, dx, n, m, rfl, upd_same, h0, h1, hb, fun H' _ k e => ⟨rfl, ?_⟩⟩
    have sm : Same H1 H' := fun b o eb => by
      have hbx : b ≠ x := ne_of_none eb hx
      have hbd : b ≠ dx := ne_of_none eb hdx
      refine k b o hbx ?_
      rw [upd_ne hbx, upd_ne hbd]
      exact eb
    exact q _ _ H' (g1.trans sm.gr) (S1.st i1 sm) (rep_rat e) rfl
end
end Bf
namespace Bf
open PySem PySem.Spec PyProof.Rows L2 PySem.SeqAt
open AutoSeq1 (wpAny_loadPart')
/-! ## == of tuples that hold instances -/
theorem tuple_eqFirst (l b : Addr) (items items2 : Array Value) (n n2 : Nat) (dd dd2 : Option Addr) (sl sl2 : Array (Option Value)) :
    Meets (Builtin.«tuple.__eq__» ⟨[.ref l, .ref b], []⟩)
      (fun A R s => s.heap.get? l = some { cls := .type "tuple", dict := dd, data := .seq items n, slots := sl } ∧ s.heap.get? b = some { cls := .type "tuple", dict := dd2, data := .seq items2 n2, slots := sl2 } ∧
        (∃ (h1 : 0 < items.size) (h2 : 0 < items2.size), EqAt A.in1 s items[0] items2[0] false) ∧ R (.ok (.ret (.bool false))) s) :=
  .of_wp fun prog w A R s h => by
    obtain ⟨hp, g, d, tk, os⟩ := s; obtain ⟨hl, hb, ⟨h1, h2, he⟩, h⟩ := h
    have f2 := AutoSeq1.sub_tuple_tuple
    have hZ : 0 < (items.toList.zip items2.toList).length := by simp; omega
    wp_walk using wpAny_loadPart' hl, wpAny_loadPart' hb, wpAny_forIn_list _ (fun rest b s' => b.1 = none ∧ s' = ⟨hp, g, d, tk, os⟩ ∧ rest = items.toList.zip items2.toList) _
    case turn =>
      rintro ⟨y, x⟩ rest b s' ⟨hb', rfl, hz⟩
      have hz' : (items.toList.zip items2.toList) = (items.toList.zip items2.toList)[0] :: (items.toList.zip items2.toList).drop 1 := by
        rw [← List.drop_eq_getElem_cons hZ, List.drop_zero]
      rw [hz'] at hz
      injection hz with hyx hrest
      have hy : y = items[0] := by have := congrArg Prod.fst hyx; simpa using this
      have hx : x = items2[0] := by have := congrArg Prod.snd hyx; simpa using this
      subst hy hx
      refine wpAny_bind (he prog w _ _ ?_)
      wp_walk
      exact ⟨_, rfl, h⟩
    case fin =>
      rintro ⟨b1, b2⟩ s' ⟨hb', rfl, hz⟩
      rw [← hz] at hZ
      exact absurd hZ (by simp)
    case h =>
      exact ⟨rfl, rfl, rfl⟩
theorem dict_eq_declines_tuple (l b : Addr) (o : Obj) (items2 : Array Value) (n2 : Nat) (dd2 : Option Addr) (sl2 : Array (Option Value)) :
    Meets (Builtin.«dict.__eq__» ⟨[.ref l, .ref b], []⟩) (fun _ R s => s.heap.get? l = some o ∧ o.cls = .type "dict" ∧ s.heap.get? b = some { cls := .type "tuple", dict := dd2, data := .seq items2 n2, slots := sl2 } ∧ R (.ok (.ret .notImplemented)) s) :=
  .of_wp fun prog w A R s h => by obtain ⟨hp, g, d, tk, os⟩ := s; obtain ⟨hl, hc, hb, h⟩ := h; have f1 := F.sub_tuple_dict; wp_walk using wpAny_loadPart' hl, wpAny_loadPart' hb; exact ⟨_, rfl, h⟩
theorem tuple_eq_declines_dict (l b : Addr) (o : Obj) (items : Array Value) (n : Nat) (dd : Option Addr) (sl : Array (Option Value)) :
    Meets (Builtin.«tuple.__eq__» ⟨[.ref l, .ref b], []⟩) (fun _ R s => s.heap.get? l = some { cls := .type "tuple", dict := dd, data := .seq items n, slots := sl } ∧ s.heap.get? b = some o ∧ o.cls = .type "dict" ∧ R (.ok (.ret .notImplemented)) s) :=
  .of_wp fun prog w A R s h => by
    obtain ⟨hp, g, d, tk, os⟩ := s
    obtain ⟨hl, hb, hc, h⟩ := h
    obtain ⟨cls2, dd2, data2, sl2⟩ := o
    simp only at hc
    subst hc
    have f1 := F.sub_dict_tuple
    wp_walk using wpAny_loadPart' hl, wpAny_loadPart' hb
    exact ⟨_, rfl, h⟩
section
variable {A : Around} {s : Shared}
theorem RcAt_first {l b : Addr} {items items2 : Array Value} (hl : s.heap.IsTuple l items) (hb : s.heap.IsTuple b items2) (hu : A.units < cLine)
    (he : ∃ (h1 : 0 < items.size) (h2 : 0 < items2.size), EqAt A.in1 s items[0] items2[0] false) : RcAt A s (.ref l) (.ref b) false := fun prog w E Q h => by
  obtain ⟨⟨cls, dd, data, sl⟩, ho, hc, n, hd⟩ := id hl
  obtain ⟨⟨cls2, dd2, data2, sl2⟩, ho2, hc2, n2, hd2⟩ := id hb
  simp only at hc hd hc2 hd2
  subst hc hd hc2 hd2
  exact richCompare_meets_room (op := .Eq) ⟨_, ho, rfl⟩ ⟨_, ho2, rfl⟩ F.slot_tuple_eq F.entry_tuple_eq (F.args_tuple_eq_2 _ _) (tuple_eqFirst l b items items2 n n2 dd dd2 sl sl2)
    ⟨ho, ho2, he, show Value.bool false ≠ Value.notImplemented ∧ Q (.bool false) s from ⟨(fun x => nomatch x), h⟩⟩ hu
end
section
variable {A : Around} {s : Shared}
theorem RcAt_dict_tuple {l b : Addr} {o : Obj} {items2 : Array Value} (ho : s.heap.get? l = some o) (hc : o.cls = .type "dict") (hb : s.heap.IsTuple b items2) (hu : A.units < cLine) : RcAt A s (.ref l) (.ref b) false := fun prog w E Q h => by
  obtain ⟨⟨cls2, dd2, data2, sl2⟩, ho2, hc2, n2, hd2⟩ := id hb
  simp only at hc2 hd2
  subst hc2 hd2
  have hne : l ≠ b := fun e => by
    subst e
    rw [ho] at ho2
    cases ho2
    exact absurd hc (by simp)
  exact (rc_eq_decline_or (k := false) ⟨_, ho, hc⟩ ⟨_, ho2, rfl⟩ (by decide) F.sub_tuple_dict F.slot_dict_eq F.slot_tuple_eq_refl
    (fun _ hq => call_meets F.slot_dict_eq ⟨_, ho, hc⟩ F.entry_dict_eq (F.args_dict_eq_2 _ _) (dict_eq_declines_tuple l b o items2 n2 dd2 sl2) ⟨ho, hc, ho2, hq⟩)
    (fun _ hq => call_meets F.slot_tuple_eq_refl ⟨_, ho2, rfl⟩ F.entry_tuple_eq (F.args_tuple_eq_2 _ _) (tuple_eq_declines_dict b l o items2 n2 dd2 sl2) ⟨ho2, ho, hc, hq⟩)
    (fun _ hq => wpAny_isSame_ref_other hne ho ho2 (by rw [hc]; simp) hq) (.inr hu) h)
end
/-- how two values are seen to be equal, or not, by their first things; n deep -/
inductive EqW (K : PySem.W.Frag) (H : Hp) : Nat → V → V → Bool → Prop
  | same {n : Nat} {a : Addr} {xs : List V} : SqT K H a xs → EqW K H n (.ref a) (.ref a) true
  | nonT {n : Nat} {b : Addr} {ys : List V} : SqT K H b ys → EqW K H n .non (.ref b) false
  | intT {n : Nat} {i : Int} {b : Addr} {ys : List V} : SqT K H b ys → EqW K H n (.int i) (.ref b) false
  | strT {n : Nat} {x : Str} {b : Addr} {ys : List V} : SqT K H b ys → EqW K H n (.str x) (.ref b) false
  | tStr {n : Nat} {x : Str} {a : Addr} {xs : List V} : SqT K H a xs → EqW K H n (.ref a) (.str x) false
  | lstT {n : Nat} {a b : Addr} {xs ys : List V} : SqL K H a xs → SqT K H b ys → EqW K H n (.ref a) (.ref b) false
  | dicT {n : Nat} {a b : Addr} {ys : List V} : H a = some (.dK []) → SqT K H b ys → EqW K H n (.ref a) (.ref b) false
  | nilT {n : Nat} {a b : Addr} {y : V} {ys : List V} : SqT K H a [] → SqT K H b (y :: ys) → EqW K H n (.ref a) (.ref b) false
  | fst {n : Nat} {a b : Addr} {x y : V} {xs ys : List V} : SqT K H a (x :: xs) → SqT K H b (y :: ys) → x :: xs ≠ y :: ys → EqW K H n x y false → EqW K H (n + 1) (.ref a) (.ref b) false
theorem EqW.at_ {X : Cx} {pins : List (Addr × Obj)} {σ : L2.St} {H : Hp} {s : Shared} (I : L2.Inv X pins σ H s) : ∀ {n : Nat} {x y : V} {b : Bool}, EqW X.K H n x y b → ∀ {A : Around} {u v : Value}, A.units + n < cLine → RelV x u → RelV y v → RcAt A s u v b ∧ EqAt A s u v b
  | _, _, _, _, .same (a := a) ht, A, u, v, hu, ru, rv => by
    cases (show u = Value.ref a from ru)
    cases (show v = Value.ref a from rv)
    obtain ⟨its, r, p, _⟩ := I.tuple ht
    refine ⟨?_, EqAt.same _⟩
    have := RcAt.tuples (e := fun _ => true) p p (A := A) (s := s) (by omega) fun j h1 h2 => EqAt.same _
    have e : ((List.range (min its.toArray.size its.toArray.size)).all (fun _ => true) && its.toArray.size == its.toArray.size) = true := by simp
    rw [e] at this
    exact this
  | _, _, _, _, .nonT (b := b) ht, A, u, v, hu, ru, rv => by
    cases (show u = Value.none from ru)
    cases (show v = Value.ref b from rv)
    obtain ⟨its, r, p, _⟩ := I.tuple ht
    exact ⟨RcAt.none_tuple p (by omega), EqAt.none_tuple p (by omega)⟩
  | _, _, _, _, .intT (b := b) ht, A, u, v, hu, ru, rv => by
    obtain ⟨t, q⟩ := (show ∃ t, u = Value.int _ t from ru)
    cases q
    cases (show v = Value.ref b from rv)
    obtain ⟨its, r, p, _⟩ := I.tuple ht
    exact ⟨RcAt.int_tuple _ _ p (by omega), EqAt.int_tuple _ _ p (by omega)⟩
  | _, _, _, _, .strT (b := b) ht, A, u, v, hu, ru, rv => by
    obtain ⟨t, q⟩ := (show ∃ t, u = Value.str _ t from ru)
    cases q
    cases (show v = Value.ref b from rv)
    obtain ⟨its, r, p, _⟩ := I.tuple ht
    exact ⟨RcAt.str_tuple _ _ p (by omega), EqAt.str_tuple _ _ p (by omega)⟩
  | _, _, _, _, .tStr (a := a) ht, A, u, v, hu, ru, rv => by
    cases (show u = Value.ref a from ru)
    obtain ⟨t, q⟩ := (show ∃ t, v = Value.str _ t from rv)
    cases q
    obtain ⟨its, r, p, _⟩ := I.tuple ht
    exact ⟨RcAt.tuple_str _ _ p (by omega), EqAt.tuple_str _ _ p (by omega)⟩
  | _, _, _, _, .lstT (a := a) (b := b) hl ht, A, u, v, hu, ru, rv => by
    cases (show u = Value.ref a from ru)
    cases (show v = Value.ref b from rv)
    obtain ⟨its, r, p, _⟩ := I.tuple ht
    obtain ⟨its2, r2, p2, _⟩ := I.list hl
    exact ⟨RcAt.list_tuple p2.isList p (by omega), EqAt.list_tuple p2.isList p (by omega)⟩
  | _, _, _, _, .dicT (a := a) (b := b) hd ht, A, u, v, hu, ru, rv => by
    cases (show u = Value.ref a from ru)
    cases (show v = Value.ref b from rv)
    obtain ⟨its, r, p, _⟩ := I.tuple ht
    obtain ⟨_, _, vs, _, o, es, ep, h1, h2, _⟩ := (show ObjOk X.prog X.w H s.heap a (.dK []) from I.hok a _ hd)
    have rc := RcAt_dict_tuple (A := A) (s := s) h1 h2.1 p (by omega)
    have hne : a ≠ b := fun e => by
      subst e
      obtain ⟨o2, ho2, hc2, _⟩ := p
      rw [h1] at ho2
      cases ho2
      rw [h2.1] at hc2
      exact absurd hc2 (by simp)
    exact ⟨rc, .of_refs hne rc⟩
  | _, _, _, _, .nilT (a := a) (b := b) h1 h2, A, u, v, hu, ru, rv => by
    cases (show u = Value.ref a from ru)
    cases (show v = Value.ref b from rv)
    obtain ⟨its, r, p, _⟩ := I.tuple h1
    obtain ⟨its2, r2, p2, _⟩ := I.tuple h2
    cases r
    have hl := r2.length
    have rc := RcAt.tuples (e := fun _ => true) p p2 (A := A) (s := s) (by omega) fun j h1 h2 => absurd h1 (by simp)
    have e : ((List.range (min ([] : List Value).toArray.size its2.toArray.size)).all (fun _ => true) && ([] : List Value).toArray.size == its2.toArray.size) = false := by
      have : its2.length ≠ 0 := by rw [← hl]; simp
      simp
      intro z
      exact this (by rw [z])
    rw [e] at rc
    have hne : a ≠ b := fun z => by
      subst z
      have := I.tuple_inj h1 h2
      cases this
    exact ⟨rc, .of_refs hne rc⟩
  | _, _, _, _, .fst (a := a) (b := b) h1 h2 hd h, A, u, v, hu, ru, rv => by
    cases (show u = Value.ref a from ru)
    cases (show v = Value.ref b from rv)
    obtain ⟨its, r, p, _⟩ := I.tuple h1
    obtain ⟨its2, r2, p2, _⟩ := I.tuple h2
    cases r with
    | cons ra rr =>
      cases r2 with
      | cons rb rr2 =>
        have q := EqW.at_ I h (A := A.in1) (by rw [units_in1]; omega) ra rb
        have rc := RcAt_first (A := A) (s := s) p p2 (by omega) ⟨by simp, by simp, by simpa using q.2⟩
        have hne : a ≠ b := fun z => by
          subst z
          exact hd (I.tuple_inj h1 h2)
        exact ⟨rc, .of_refs hne rc⟩
def rEqW (K : PySem.W.Frag) : R2 := fun x y H Q => ∃ b, EqW K H 60 x y b ∧ Q (.bl b) H
theorem op_eqW {X : Cx} (hu : X.A.units + 64 < cLine) : OpR X (compareOp .Eq) (rEqW X.K) := by
  intro pins s σ H x y v u Q I rx ry h
  obtain ⟨b, e, q⟩ := h
  exact (EqW.at_ I e (A := X.A) (by omega) rx ry).1 X.prog X.w _ _ ⟨.bl b, H, I, rfl, q⟩
def rNeW (K : PySem.W.Frag) : R2 := fun x y H Q => (∃ a xs, x = .ref a ∧ y = .ref a ∧ SqT K H a xs ∧ Q (.bl false) H) ∨ ∃ a b xs, x = .ref a ∧ y = .ref b ∧ SqT K H a xs ∧ SqT K H b [] ∧ Q (.bl (!xs.isEmpty)) H
theorem op_neW {X : Cx} (hu : X.A.units + 64 < cLine) : OpR X (compareOp .NotEq) (rNeW X.K) := by
  intro pins s σ H x y v u Q I rx ry h
  rcases h with ⟨a, xs, rfl, rfl, ht, q⟩ | ⟨a, b, xs, rfl, rfl, ht, hb, q⟩
  · cases (show v = Value.ref a from rx)
    cases (show u = Value.ref a from ry)
    obtain ⟨its, r, p, _⟩ := I.tuple ht
    have rc := RcNeAt.tuples (e := fun _ => true) p p (A := X.A) (s := s) (by omega) fun j h1 h2 => EqAt.same _
    have e : (!((List.range (min its.toArray.size its.toArray.size)).all (fun _ => true) && its.toArray.size == its.toArray.size)) = false := by simp
    rw [e] at rc
    exact rc X.prog X.w _ _ ⟨.bl false, H, I, rfl, q⟩
  · cases (show v = Value.ref a from rx)
    cases (show u = Value.ref b from ry)
    obtain ⟨its, r, p, _⟩ := I.tuple ht
    obtain ⟨its2, r2, p2, _⟩ := I.tuple hb
    cases r2
    have hl := r.length
    have rc := RcNeAt.tuples (e := fun _ => true) p p2 (A := X.A) (s := s) (by omega) fun j h1 h2 => absurd h2 (by simp)
    have e : (!((List.range (min its.toArray.size ([] : List Value).toArray.size)).all (fun _ => true) && its.toArray.size == ([] : List Value).toArray.size)) = !xs.isEmpty := by
      cases xs with
      | nil =>
        have : its = [] := List.eq_nil_of_length_eq_zero hl.symm
        subst this
        rfl
      | cons x xs =>
        cases its with
        | nil => simp at hl
        | cons i is => simp
    rw [e] at rc
    exact rc X.prog X.w _ _ ⟨.bl _, H, I, rfl, q⟩
end Bf
namespace Bf
open PySem PySem.Spec PyProof.Rows L2
open AutoSeq1 (wpAny_loadPart')
/-! ## enumerate(a tuple) -/
section
variable {prog : Program} {w : World} {A : Around} {E : Value → Shared → Prop} {s : Shared}
theorem nextOf_tuple_item {it t : Addr} {i : Nat} {items : Array Value} {x : Value} {Q : Value → Shared → Prop} (hit : IsTupIter s.heap it t i) (ht : IsTup s.heap t items) (hx : items[i]? = some x)
    (hQ : ∀ h', IsTupIter h' it t (i + 1) → Heap.SameBut it s.heap h' → Q x { s with heap := h' }) : wpAny (model prog w) A (Builtin.SmallTypes.nextOf (.ref it)) Q E s := by
  obtain ⟨o, ho, hc, hd⟩ := id hit
  obtain ⟨ol, hol, _, nl, hdl⟩ := ht
  unfold Builtin.SmallTypes.nextOf
  refine wpAny_bind (wpAny_callSpecial?_slot (name := Str.ofString "__next__") hit.typeIs slot_tupleiter_next
    (wpAny_call_entry slot_tupleiter_next hit.typeIs entry_tupleiter_next ?_ (args_tupleiter_next _)))
  show wpAny _ _ (field (.ref it) 0 >>= _) _ _ s
  refine wpAny_bind (wpAny_field ho hd (x := .ref t) rfl ?_)
  show wpAny _ _ (if (Value.ref t == Value.none) = true then _ else _) _ _ s
  rw [if_neg (show ¬ ((Value.ref t == Value.none) = true) from Bool.false_ne_true)]
  show wpAny _ _ (field (.ref it) 1 >>= _) _ _ s
  refine wpAny_bind (wpAny_field ho hd (x := .int i 0) rfl ?_)
  show wpAny _ _ (seqItems? (.ref t) >>= _) _ _ s
  refine wpAny_bind (wpAny_seqItems hol hdl ?_)
  simp only [Int.toNat_natCast, hx]
  refine wpAny_bind (wpAny_setField ho hd (by simp) (wpAny_pure ⟨x, rfl, wpAny_pure (hQ _ ?_ (Heap.SameBut.update ..))⟩))
  exact ⟨_, Heap.get?_update_self _ ho (Obj.isFreed_of_fields (Obj.data_mapFields hd _)), (Obj.cls_mapFields ..).trans hc, by
    rw [Obj.data_mapFields hd]; simp [rawInt]⟩
theorem nextOf_tuple_end {it t : Addr} {i : Nat} {items : Array Value} {Q : Value → Shared → Prop} (hh : A.handled = none) (hit : IsTupIter s.heap it t i) (ht : IsTup s.heap t items) (hx : items[i]? = none)
    (hE : ∀ h' e, Heap.ExtBut it s.heap h' → (∃ o, h'.get? e = some o ∧ o.cls = .type "StopIteration") → E (.ref e) { s with heap := h' }) :
    wpAny (model prog w) A (Builtin.SmallTypes.nextOf (.ref it)) Q E s := by
  obtain ⟨o, ho, hc, hd⟩ := id hit
  obtain ⟨ol, hol, _, nl, hdl⟩ := ht
  unfold Builtin.SmallTypes.nextOf
  refine wpAny_bind (wpAny_callSpecial?_slot (name := Str.ofString "__next__") hit.typeIs slot_tupleiter_next
    (wpAny_call_entry slot_tupleiter_next hit.typeIs entry_tupleiter_next ?_ (args_tupleiter_next _)))
  show wpAny _ _ (field (.ref it) 0 >>= _) _ _ s
  refine wpAny_bind (wpAny_field ho hd (x := .ref t) rfl ?_)
  show wpAny _ _ (if (Value.ref t == Value.none) = true then _ else _) _ _ s
  rw [if_neg (show ¬ ((Value.ref t == Value.none) = true) from Bool.false_ne_true)]
  show wpAny _ _ (field (.ref it) 1 >>= _) _ _ s
  refine wpAny_bind (wpAny_field ho hd (x := .int i 0) rfl ?_)
  show wpAny _ _ (seqItems? (.ref t) >>= _) _ _ s
  refine wpAny_bind (wpAny_seqItems hol hdl ?_)
  simp only [Int.toNat_natCast, hx]
  refine wpAny_bind (wpAny_rule (wpAny_bind (wpAny_setField ho hd (by simp) ?_)))
  show wpAny _ _ (newExc (.type "StopIteration") [] >>= _) _ _ _
  refine wpAny_bind ?_
  simp only [newExc, newTuple]
  refine wpAny_bind (wpAny_newObj_type ?_ (by size_fits))
  refine wpAny_bind (m := firstArgMember _ _) (wpAny_of_eq (a := Value.none) (by first | rfl | (simp only [firstArgMember]; rfl)) ?_)
  refine wpAny_newObj_type ?_ (by size_fits)
  simp only [raiseNew]
  refine wpAny_bind (wpAny_handled ?_)
  first | rw [show A.in1.handled = none from hh] | rw [hh]
  refine wpAny_bind (wpAny_pure (wpAny_throw ?_))
  exact hE _ _ (((Heap.SameBut.update ..).extBut.push _).push _) ⟨_, Heap.get?_push_size _ rfl, rfl⟩
end
theorem draws_tuple {prog : Program} {w : World} {A : Around} (hh : A.handled = none) (it t : Addr) (hne : t ≠ it) (items : Array Value) :
    Draws prog w A it [it, t] items.size (fun i v => items[i]? = some v) (fun i h => IsTupIter h it t i ∧ IsTup h t items) where
  live := fun _ _ st => let ⟨o, ho, _⟩ := st.1; ⟨o, ho⟩
  frame := fun _ _ _ st hk => ⟨let ⟨o, ho, r⟩ := st.1; ⟨o, hk it (by simp) o ho, r⟩, let ⟨o, ho, r⟩ := st.2; ⟨o, hk t (by simp) o ho, r⟩⟩
  item := fun i s Q E hi st hQ => by
    refine nextOf_tuple_item st.1 st.2 (x := items[i]) (by simp [hi]) fun h' hit' hs' => ?_
    exact hQ _ h' s.toks (by simp [hi]) ⟨hit', st.2.extBut hs'.extBut hne⟩ hs'
  done := fun s Q E st hE => nextOf_tuple_end hh st.1 st.2 (by simp) hE
theorem meets_enumerate_newT (l : Addr) (items : Array Value) (n : Nat) (dct : Option Addr) (sl : Array (Option Value)) :
    Meets (Builtin.«enumerate.__new__» ⟨[.type "enumerate", .ref l], []⟩) (fun _ R s => s.heap.get? l = some { cls := .type "tuple", dict := dct, data := .seq items n, slots := sl } ∧
      R (.ok (.ret (.ref (s.heap.push { cls := .type "tuple_iterator", data := .fields #[.ref l, .int 0 0] }).objs.size)))
        { s with heap := (s.heap.push { cls := .type "tuple_iterator", data := .fields #[.ref l, .int 0 0] }).push { cls := .type "enumerate", data := .fields #[.none, .bool false, .ref s.heap.objs.size, rawInt 0, .none, .none] } }) :=
  .of_wp fun prog w A R s h => by
    obtain ⟨hp, g, d, tk, os⟩ := s; obtain ⟨hl, h⟩ := h
    have hsub := sub_enumerate
    have hL : IsTup (Shared.heap ⟨hp, g, d, tk, os⟩) l items := ⟨_, hl, rfl, n, rfl⟩
    wp_walk using wpAny_loadPart' hl
    refine wpAny_stack_any fun st => wpAny_pure ?_
    split
    · rename_i c _ _ _ _ _
      cases (c == Value.type "enumerate")
      · wp_walk using wpAny_loadPart' hl, iter_tuple hL
        exact ⟨_, rfl, h⟩
      · wp_walk using wpAny_loadPart' hl, iter_tuple hL
        exact ⟨_, rfl, h⟩
    · wp_walk using wpAny_loadPart' hl, iter_tuple hL
      exact ⟨_, rfl, h⟩
section
variable {prog : Program} {w : World} {A : Around} {E : Value → Shared → Prop} {s : Shared}
theorem call_enumerate_tuple {l : Addr} {items : Array Value} {Q : Value → Shared → Prop} (hL : IsTup s.heap l items)
    (h : ∀ h', IsEnum h' (s.heap.objs.size + 1) s.heap.objs.size 0 .none → IsTupIter h' s.heap.objs.size l 0 → h'.objs.size = s.heap.objs.size + 2 →
      (∀ b o, s.heap.get? b = some o → h'.get? b = some o) → Q (.ref (s.heap.objs.size + 1)) { s with heap := h' }) :
    wpAny (model prog w) A (call (.type "enumerate") [.ref l]) Q E s := by
  obtain ⟨⟨c, dct, dt, sl⟩, hl, hc, n, hd⟩ := hL
  replace hc : c = .type "tuple" := hc
  replace hd : dt = .seq items n := hd
  subst hc hd
  refine callType_new F.called_enumerate (by decide) (F.typeCall_enumerate_1 _) (F.newCall_enumerate_1 _) (fun obj => F.args_object_init_2 obj _) F.entry_enumerate_new
    (meets_enumerate_newT l items n dct sl) ⟨hl, ?_⟩
  have hz : (s.heap.push { cls := .type "tuple_iterator", data := .fields #[.ref l, .int 0 0] }).objs.size = s.heap.objs.size + 1 := Heap.size_push ..
  show _ ∧ _
  rw [hz]
  have he : IsEnum ((s.heap.push { cls := .type "tuple_iterator", data := .fields #[.ref l, .int 0 0] }).push
      { cls := .type "enumerate", data := .fields #[.none, .bool false, .ref s.heap.objs.size, rawInt 0, .none, .none] }) (s.heap.objs.size + 1) s.heap.objs.size 0 .none := by
    have := Heap.get?_push_size (s.heap.push { cls := .type "tuple_iterator", data := .fields #[.ref l, .int 0 0] })
      (o := { cls := .type "enumerate", data := .fields #[.none, .bool false, .ref s.heap.objs.size, rawInt 0, .none, .none] }) rfl
    rw [hz] at this; exact this
  refine ⟨⟨_, he, rfl⟩, h _ he ⟨_, Heap.get?_push_of_some _ (Heap.get?_push_size _ rfl), rfl, rfl⟩ (by rw [Heap.size_push, hz]) fun b o x => Heap.get?_push_of_some _ (Heap.get?_push_of_some _ x)⟩
end
/-- the tuple at a, each item in a new pair -/
def IteT (K : PySem.W.Frag) (a : Addr) : It :=
  ⟨fun i H => ∃ (xs : List V) (x : V), SqT K H a xs ∧ xs[i]? = some x, fun i H v H' => ∃ T x, v = .ref T ∧ H T = none ∧ H' = upd H T (.tup [.int (i : Nat), x]) ∧ ∀ xs, SqT K H a xs → xs[i]? = some x, fun i H => ∃ xs : List V, SqT K H a xs ∧ xs.length ≤ i⟩
theorem enum_ne_tup {h : Heap} {e it a : Addr} {i : Int} {old : Value} {items : Array Value} (he : IsEnum h e it i old) (ht : IsTup h a items) : e ≠ a := fun z => by
  obtain ⟨o, ho, hc, _⟩ := ht
  subst z
  have : h.get? e = _ := he
  rw [ho] at this
  cases this
  injection hc with q
  exact absurd q (by decide)
theorem tupit_ne_tup {h : Heap} {it a : Addr} {i : Nat} {items : Array Value} (hi : IsTupIter h it a i) (ht : IsTup h a items) : a ≠ it := fun z => by
  obtain ⟨o, ho, hc, _⟩ := ht
  obtain ⟨o2, ho2, hc2, _⟩ := hi
  subst z
  rw [ho] at ho2
  cases ho2
  rw [hc] at hc2
  injection hc2 with q
  exact absurd q (by decide)
theorem turn_enumT {P : Program} {w : World} {K : PySem.W.Frag} {elts : List Expr} {kk : Nat} {tpos : Pos} (a e it : Addr) :
    Turn P w K (.Tuple elts kk tpos) (IteT K a) [e, it] e (fun i h => (∃ old, IsEnum h e it ((i : Nat) : Int) old) ∧ IsTupIter h it a i ∧ e ≠ it) where
  mem := by simp
  obj := fun i h st b hb => by
    obtain ⟨⟨old, he⟩, ⟨o, ho, hc, hd⟩, _⟩ := st
    have e' : b = e ∨ b = it := by simpa using hb
    rcases e' with z | z
    · rw [z]; exact ⟨_, he, fun v q => nomatch q⟩
    · rw [z]; exact ⟨o, ho, fun v q => by rw [hd] at q; cases q⟩
  keep := fun i h h' st k => let ⟨⟨old, he⟩, ⟨o, ho, r⟩, hne⟩ := st; ⟨⟨old, k e (by simp) _ he⟩, ⟨o, k it (by simp) o ho, r⟩, hne⟩
  item := by
    intro X hP hw hK hc i pins s σ H E I hf st hg
    subst hP hw hK
    obtain ⟨⟨old, he⟩, hit, hne⟩ := st
    obtain ⟨xs, x, hq, hx⟩ := hg
    obtain ⟨its, rv, p, hz⟩ := I.tuple hq
    obtain ⟨u, hu, ru⟩ := rv.get hx
    have hel : e < s.heap.objs.size := Heap.lt_size he
    have hil : it < s.heap.objs.size := by obtain ⟨_, q, _⟩ := hit; exact Heap.lt_size q
    have hlt : i < its.toArray.size := by
      rw [List.size_toArray]
      exact (List.getElem?_eq_some_iff.mp hu).1
    refine wpAny_pyNext_enum_itemD (draws_tuple (show X.A.in1.handled = none from I.ok.hd hc) it a (tupit_ne_tup hit p) its.toArray) he ⟨hit, p⟩ hlt hne (by simp [hne, enum_ne_tup he p]) fun v h' tk hv ho hst' hT hsz hk => ?_
    have hvu : v = u := by
      have : its.toArray[i]? = some u := by simpa using hu
      rw [hv] at this
      exact Option.some.inj this
    subst hvu
    have hit' := hst'.1
    refine ⟨_, rfl, wpAny_letOwnedTupleGo_enum (s := { s with heap := h', toks := tk + 1 }) ho fun h'' he' sb => ?_⟩
    have hT2 : h''.get? s.heap.objs.size = some { cls := .type "tuple", data := .seq #[.int i tk, v] } := (sb.2 _ (Nat.ne_of_gt hel)).trans hT
    have new : ObjOk X.prog X.w (upd H s.heap.objs.size (.tup [.int (i : Nat), x])) h'' s.heap.objs.size (.tup [.int (i : Nat), x]) :=
      ⟨by show 2 ≤ sizeLine; decide, [.int i tk, v], .cons ⟨_, rfl⟩ (.cons ru .nil), ⟨_, hT2, rfl, _, rfl⟩⟩
    have I1 : L2.Inv X pins σ (upd H s.heap.objs.size (.tup [.int (i : Nat), x])) { s with heap := h'', toks := tk + 1 } :=
      I.turnedNew (ch := [e, it]) (fun b ob hb q => (sb.2 b (fun z => hb (by simp [z]))).trans (hk b ob (fun z => hb (by simp [z])) (fun z => hb (by simp [z])) q)) hf (Nat.le_refl _) new
    refine ⟨.ref s.heap.objs.size, _, I1, rfl, ⟨_, x, rfl, I.hok.fresh (Nat.le_refl _), rfl, fun ys hy => by rw [I.tuple_inj hy hq]; exact hx⟩, ⟨⟨v, ?_⟩, ?_, hne⟩, fun b hb => ?_⟩
    · have e1 : ((i + 1 : Nat) : Int) = (i : Int) + 1 := by omega
      rw [e1]; exact he'
    · obtain ⟨o, ho', r⟩ := hit'
      exact ⟨o, (sb.2 it (Ne.symm hne)).trans ho', r⟩
    · have hb' : b < s.heap.objs.size := by
        have e' : b = e ∨ b = it := by simpa using hb
        rcases e' with z | z
        · rw [z]; exact hel
        · rw [z]; exact hil
      rw [upd_ne (Nat.ne_of_lt hb')]
      exact (hf b hb).1
  done := by
    intro X hP hw hK hc i pins s σ H E I hf st hg
    subst hP hw hK
    obtain ⟨⟨old, he⟩, hit, hne⟩ := st
    obtain ⟨xs, hq, hx⟩ := hg
    obtain ⟨its, rv, p, hz⟩ := I.tuple hq
    obtain ⟨f0, f1, f2, f3, f4, f5⟩ := hf it (by simp)
    have hl := rv.length
    have hh : X.A.in1.handled = none := I.ok.hd hc
    refine wpAny_bind (wpAny_attempt (wpAny_callSpecial?_slot (name := Str.ofString "__next__") (T := "enumerate") ⟨_, he, rfl⟩ F.slot_enumerate_next
      (wpAny_call_entry F.slot_enumerate_next ⟨_, he, rfl⟩ F.entry_enumerate_next ?_ (F.args_enumerate_next_1 _))))
    show wpAny _ _ (field (.ref e) 2 >>= _) _ _ _
    refine wpAny_bind (wpAny_field he rfl (x := .ref it) rfl ?_)
    refine wpAny_bind (nextOf_tuple_end hh hit p (by simp; omega) fun h' x he' hx' => ?_)
    obtain ⟨o, ho, hc'⟩ := hx'
    refine wpAny_bind (wpAny_isInstance (T := "StopIteration") (b := true) ⟨o, ho, hc'⟩ isSubtype_stop ?_)
    exact wpAny_pure ⟨rfl, I.turned (t' := s.toks) (fun b o hb q => he' b o hb q) f0 f1 f3 f4 f5⟩
  self := fun A i s Q E st h => let ⟨⟨_, he⟩, _⟩ := st; wpAny_pyIter_enum he h
def iEnumT (K : PySem.W.Frag) (ta : TA) : TI := fun σ H R => ta σ H fun vs H1 => ∃ a xs, vs = [.ref a] ∧ SqT K H1 a xs ∧ R (IteT K a) H1
theorem pi_enumT {X : Cx} {e : Expr} {ta : TA} {p pos tpos : Pos} {elts : List Expr} {kk : Nat} (hg : Gl X "enumerate") (hm : X.mg "enumerate" = none) (ha : PA X [e] ta) (hs : starEach [e] X.env = [(false, eval e X.env)] := by rfl) :
    PI X (.Tuple elts kk tpos) (.Call (.Name "enumerate" p) [e] [] pos) (iEnumT X.K ta) := by
  refine ⟨fun pins s σ H R I h => ?_⟩
  refine Call_ (ld_blt I hg hm boot_enumerate (PyProof.Rows.callWith_type1 (thn (ha.run pos pins s σ H _ I h) fun us s1 ⟨vs, H1, I1, r1, q1⟩ => ?_) hs rfl))
  obtain ⟨a, xs, ex, hq, q⟩ := q1
  subst ex
  cases r1 with
  | cons r rr =>
    cases rr
    cases r
    obtain ⟨its, rv, p', hz⟩ := I1.tuple hq
    refine call_enumerate_tuple p' fun h' he hit hsz hk => wpAny_pyIter_enum he ?_
    have I2 : L2.Inv X pins σ H1 { s1 with heap := h' } := I1.kept (t' := s1.toks) hk
    refine ⟨s1.heap.objs.size + 1, [s1.heap.objs.size + 1, s1.heap.objs.size], _, _, H1, rfl, I2, turn_enumT a (s1.heap.objs.size + 1) s1.heap.objs.size, ⟨⟨.none, he⟩, hit, Nat.succ_ne_self _⟩, fun b hb => ?_, q⟩
    have e' : b = s1.heap.objs.size + 1 ∨ b = s1.heap.objs.size := by simpa using hb
    have hle : s1.heap.objs.size ≤ b := by
      rcases e' with z | z
      · rw [z]; exact Nat.le_add_right _ _
      · rw [z]; exact Nat.le_refl _
    exact I1.fpOk hle (I1.hok.fresh hle)
theorem walk_enumT {K : PySem.W.Frag} {a : Addr} {xs : List V} : Walk (IteT K a) xs.length (fun H => SqT K H a xs) (YPair (fun i => some (.int (i : Nat))) (fun i => xs[i]?)) := by
  refine ⟨fun i _ hi q => ⟨xs, xs[i], q, by simp [hi]⟩, fun _ q => ⟨xs, q, Nat.le_refl _⟩, fun i H v H' _ q y => ?_⟩
  obtain ⟨T, x, h1, h2, h3, h4⟩ := y
  exact ⟨T, .int (i : Nat), x, h1, h2, h3, rfl, h4 xs q⟩
section
variable {K : PySem.W.Frag} {S SB : Sta} {L : List Addr} {ρ : List (Option Dt)} {P : Po} {tl : TE} {t : TS}
/-- for j1, j2 in enumerate(a tuple) -/
theorem so_forET {j1 j2 : Nat} {xs : List Dt} (h : Ev K S S ρ tl (Eq (.tup xs))) (J : Nat → List (Option Dt) → Prop) (h0 : J 0 ρ)
    (hs : ∀ (i : Nat) x ρ', xs[i]? = some x → J i ρ' → So K S S [] t ((ρ'.set j1 (some (.int i))).set j2 (some x)) { P with nx := J (i + 1), ct := J (i + 1), bk := P.nx }) (hd : ∀ ρ', J xs.length ρ' → P.nx ρ') :
    Sg K S SB S L (tFor (iEnumT K (tCons tl tNil)) (gTup K 2 (gCons (gName j1) (gCons (gName j2) gNil))) t) ρ P := fun D σ B H b i s f0 =>
  have f := f0.mono b.gr
  h σ H i s _ fun v d H1 g1 i1 r1 p1 => by
    subst p1
    obtain ⟨a, vs, rfl, ht, ra⟩ := r1.tupI
    refine ⟨a, vs, rfl, ht, for_it walk_enumT (fun n σ' H' => Gr H1 H' ∧ S.I H' ∧ ∃ ρ', Slots K H' σ' ρ' ∧ J n ρ') ⟨Gr.refl H1, i1, ρ, s.mono g1, h0⟩ (fun n σ' H' _ p => p.1.sqT ht) (fun n x σ' H' H2 hn p y => ?_) fun σ' H' p => ?_⟩
    · obtain ⟨g2, i2, ρ', s2, jn⟩ := p
      obtain ⟨T, x1, x2, rfl, hT, rfl, e1, e2⟩ := y
      cases e1
      obtain ⟨d, hd', rd⟩ := ra.ta e2
      have sn := same_new (o := .tup [.int (n : Nat), x2]) hT
      refine ⟨T, [.int (n : Nat), x2], rfl, SqT.of upd_same, rfl, names_run (is := [j1, j2]) (ds := [.int (n : Nat), d]) (s2.mono sn.gr) (.cons (.int _) (.cons (rd.mono (g2.trans sn.gr)) .nil)) rfl fun σ5 s5 => ?_⟩
      have g3 := g2.trans sn.gr
      exact hs n d ρ' hd' jn _ _ _ _ ⟨Gr.refl _, S.st i2 sn, fun _ z => nomatch z⟩ (S.st i2 sn) s5 ⟨fun σ3 ρ3 H3 g4 i3 s3 q => ⟨g3.trans g4, i3, ρ3, s3, q⟩, fun v3 d3 H3 g4 => f.rt v3 d3 H3 ((g1.trans g3).trans g4), fun σ3 ρ3 H3 g4 i3 s3 q => f.nx σ3 ρ3 H3 ((g1.trans g3).trans g4) i3 s3 q, fun σ3 ρ3 H3 g4 i3 s3 q => ⟨g3.trans g4, i3, ρ3, s3, q⟩⟩
    · obtain ⟨g2, i2, ρ', s2, jn⟩ := p
      rw [ra.len] at jn
      exact f.nx σ' ρ' H' (g1.trans g2) i2 s2 (hd ρ' jn)
end
end Bf
namespace Bf
open PySem PySem.Spec PyProof.Rows L2
/-! ## Ratios' members in terms -/
structure RatG (K : PySem.W.Frag) (C gN : Addr) (hN : FuncData) (gD : Addr) (hD : FuncData) : Prop where
  n : ∀ (P : Program) (w : World) (mg : Str → Option Value) (base : Heap), FnOk P w K mg base CX0 1 gN hN ["self"] (getSp C "_num")
  d : ∀ (P : Program) (w : World) (mg : Str → Option Value) (base : Heap), FnOk P w K mg base CX0 1 gD hD ["self"] (getSp C "_den")
  bn : Binds K hN ["self"] []
  bd : Binds K hD ["self"] []
structure RatI (P : Program) (K : PySem.W.Frag) (mg : Str → Option Value) (fI : Addr) (fd : FuncData) (C : Addr) : Prop where
  i : ∀ (w : World) (base : Heap), GOk P w K mg base 2 fI fd ["self", "num", "den"] (spRI C)
  b2 : Binds K fd ["self", "num", "den"] []
  b1 : ∃ ds, Vals [V.int 1] ds ∧ Binds K fd ["self", "num", "den"] ds
section
variable {X : Cx} {C fI pN gN pD gD : Addr} {hN hD fd : FuncData} {e : Expr} {es : List Expr} {te : TE} {t : TA} {p pos : Pos}
theorem pe_num (T : RatT X.K X.mg C fI pN gN pD gD) (G : RatG X.K C gN hN gD hD) (hr : Room 2 X.A) (he : PE X e te) (hab : attributeBase e "num" X.env (eval e X.env) = eval e X.env := by rfl) : PE X (.Attribute e "num" pos) (tProp C (getSp C "_num") [] E0 te) :=
  pe_prop he T.cl T.pn (G.n _ _ _ _) hr G.bn .nil pass0 hab
theorem pe_den (T : RatT X.K X.mg C fI pN gN pD gD) (G : RatG X.K C gN hN gD hD) (hr : Room 2 X.A) (he : PE X e te) (hab : attributeBase e "den" X.env (eval e X.env) = eval e X.env := by rfl) : PE X (.Attribute e "den" pos) (tProp C (getSp C "_den") [] E0 te) :=
  pe_prop he T.cl T.pd (G.d _ _ _ _) hr G.bd .nil pass0 hab
theorem pe_mk2 (T : RatT X.K X.mg C fI pN gN pD gD) (I : RatI X.prog X.K X.mg fI fd C) (hr : Room 3 X.A) (hgd : X.A.guards = some []) (ha : PA X (e :: es) t) (hg : Gl X "Ratio" := by rfl)
    (he : starEach (e :: es) X.env = (false, eval e X.env) :: starEach es X.env := by rfl) (hpl : (backTo pos (starEach es X.env)).any (·.1) = false := by rfl) : PE X (.Call (.Name "Ratio" p) (e :: es) [] pos) (tMake C (spRI C) [] E0 t) :=
  pe_makeG T.mK (I.i _ _) hr hgd T.gC I.b2 .nil passL ha hg (by decide) he hpl
theorem pe_mk1 (T : RatT X.K X.mg C fI pN gN pD gD) (I : RatI X.prog X.K X.mg fI fd C) (hr : Room 3 X.A) (hgd : X.A.guards = some []) (ha : PA X (e :: es) t) (hg : Gl X "Ratio" := by rfl)
    (he : starEach (e :: es) X.env = (false, eval e X.env) :: starEach es X.env := by rfl) (hpl : (backTo pos (starEach es X.env)).any (·.1) = false := by rfl) : PE X (.Call (.Name "Ratio" p) (e :: es) [] pos) (tMake C (spRI C) [.int 1] E0 t) := by
  obtain ⟨ds, r, b⟩ := I.b1
  exact pe_makeG T.mK (I.i _ _) hr hgd T.gC b r passL ha hg (by decide) he hpl
end
section
variable {K : PySem.W.Frag} {S S1 : Sta} {ρ : List (Option Dt)} {tl : TA} {n : Int} {C : Addr} {E : XK}
/-- Ratio(n) -/
theorem ev_mkrat1 (h : EvA K S S1 ρ tl (Eq [.int n])) (h0 : 0 ≤ n) : Ev K S S1 ρ (tMake C (spRI C) [.int 1] E tl) (Eq (rat C n 1)) := fun σ H i s Q q =>
  h σ H i s _ fun vs ds H1 g1 i1 r1 e => by
    subst e
    obtain ⟨v, rfl, ra⟩ := r1.oneI
    obtain rfl := ra.intI
    intro x dx hx hdx ne
    refine ⟨x, dx, n, 1, rfl, upd_same, h0, by decide, by decide, fun H' _ k e => ⟨rfl, ?_⟩⟩
    have sm : Same H1 H' := fun b o eb => by
      have hbx : b ≠ x := ne_of_none eb hx
      have hbd : b ≠ dx := ne_of_none eb hdx
      refine k b o hbx ?_
      rw [upd_ne hbx, upd_ne hbd]
      exact eb
    have e1 : ((Nat.gcd n.natAbs (1 : Int).natAbs : Nat) : Int) = 1 := by
      show ((Nat.gcd n.natAbs 1 : Nat) : Int) = 1
      rw [Nat.gcd_one_right]
      rfl
    rw [e1, Int.ediv_one, Int.ediv_one] at e
    exact q _ _ H' (g1.trans sm.gr) (S1.st i1 sm) (rep_rat e) rfl
end
/-! ### try .. except C: without a name -/
section
variable {K : PySem.W.Frag} {S S1 SB SF : Sta} {L : List Addr} {ρ : List (Option Dt)} {P : Po} {te : TE} {w : TS} {d : Dt} {f : Str} {C : Addr} {c : Value} {tw : WX → TS} {ts : Addr → Value → Option Addr → TS} {Wout : WX}
theorem so_onlyOk (h : ∀ W, Sg K S SB SF L (tw W) ρ P) : Sg K S SB SF L (fun D σ H => tw (wOnly K c ts Wout D) D σ H) ρ P := fun D σ B H b hi s ft => h (wOnly K c ts Wout D) D σ B H b hi s ft
theorem so_onlyEr (hm : PySem.W.exmOne K (.ref C) c = some true)
    (hb : ∀ (W : WX) (D : Ends) (σ : L2.St) (H : Hp), S.I H → Slots K H σ ρ → (∀ a v H', Gr H H' → S1.I H' → H' a = some (.xd [(f, v)]) → Rep K H' v d → W (.ref C) (some a) σ H') → tw W D σ H)
    (hs : ∀ (e a : Addr), Sg K S1 SB SF L (ts e (.ref C) (some a)) ρ P) :
    Sg K S SB SF L (fun D σ H => tw (wOnly K c ts Wout D) D σ H) ρ P := fun D σ B H b hi s ft =>
  hb _ D σ H hi s fun a v H' g i' ha rv => ⟨true, hm, fun _ e he => hs e a _ _ B H' (b.up g) i' (s.mono g) (ft.mono (Gr.refl _)), fun z => nomatch z⟩
theorem so_drop0 {Φ : Dt → Prop} (h : Ev K S S1 ρ te Φ) (l : S1.Le SF) (q : P.nx ρ) : Sg K S SB SF L (tDrop te) ρ P := fun D σ B H b i s f => h σ H i s _ fun v d H1 g1 i1 r1 p1 => f.nx _ _ H1 (b.gr.trans g1) (l _ i1) (s.mono g1) q
end
end Bf
namespace Bf
open PySem PySem.Spec PyProof.Rows L2
/-! ## _law_begin, _law_words -/
def spB (K : PySem.W.Frag) : Sp := fun vs H Q _ => ∃ s ns, vs = [.ref s] ∧ SqL K H s (ns.map V.int) ∧ ns.length ≤ 63 ∧ ∀ p c H', Gr H H' → (DS K p c (ns ++ [0]) 0 0 0).I H' → Q (.ref p) H'
abbrev p__law_begin (K : PySem.W.Frag) : Sp := spB K
abbrev t__law_begin (K : PySem.W.Frag) : TS := (tRet (tDisp [((tC (.str "cells")), (tOp (rCatS K) (tVar 0) (tLst (tCons (tC (.int 0)) tNil)))), ((tC (.str "at")), (tC (.int 0))), ((tC (.str "left")), (tC (.int 0))), ((tC (.str "used")), (tC (.int 0)))]))
theorem rd__law_begin {K : PySem.W.Frag} {D : Ends} {σ : L2.St} {H : Hp} {s : Addr} {ns : List Int} (hs : σ[0]? = some (some (.ref s))) (h : SqL K H s (ns.map V.int)) (hl : ns.length ≤ 63)
    (q : ∀ p c H', Gr H H' → (DS K p c (ns ++ [0]) 0 0 0).I H' → D.rt (.ref p) H') : t__law_begin K D σ H := by
  intro p hp
  have s1 := same_new (o := .dK []) hp
  refine ⟨.ref s, hs, (by show 1 ≤ sizeLine; decide), fun t ht => ?_⟩
  have s2 := same_new (o := .lst [.int 0]) ht
  refine ⟨s, t, ns.map V.int, [.int 0], rfl, rfl, s2.seq (s1.seq h), SqL.of upd_same, (by rw [List.length_map]; exact Nat.le_trans (show ns.length + 1 ≤ 64 by omega) (by decide)), fun c hc => ?_⟩
  have s3 := same_new (o := .lst (ns.map V.int ++ [.int 0])) hc
  have hp3 := s3 _ _ (s2 _ _ (upd_same (H := H) (a := p) (o := .dK [])))
  refine ⟨hp3, [((.inr "cells" : Key), V.ref c), (.inr "at", .int 0), (.inr "left", .int 0), (.inr "used", .int 0)], rfl, (by show 4 ≤ 15; decide), ?_⟩
  rw [dr_merge]
  have hcp : c ≠ p := fun e => by
    rw [e] at hc
    rw [s2 _ _ (upd_same (H := H) (a := p) (o := .dK []))] at hc
    cases hc
  refine q p c _ (fun b o e d => ?_) ⟨upd_same, SqL.of ?_⟩
  · rw [upd_ne (ne_of_none e hp)]
    exact s3 _ _ (s2 _ _ (s1 _ _ e))
  · rw [upd_ne hcp, upd_same, List.map_append]
    rfl
def consI (i : Int) : Dt → Dt
  | .tup xs => .tup (.int i :: xs)
  | _ => .non
def f_lw : List Dt → Dt
  | [.int b] => .lst (wordsD b)
  | _ => .non
abbrev p__law_words (K : PySem.W.Frag) : Sp := spF K 1 (fun ds => ∃ b, ds = [.int b] ∧ 0 ≤ b ∧ b ≤ 8) f_lw
abbrev t__law_words (K : PySem.W.Frag) : TS := (tSeq (tAsg (tLst (tCons (tTup tNil) tNil)) (gName 1))
    (tSeq (tFor (iRng1 (tCons (tVar 0) tNil)) (gName 2) (tAsg (tOp (rCatS K) (tLc (iList K (tVar 1)) (gName 3) tYes (tOp (rCatA K) (tTup (tCons (tC (.int 0)) tNil)) (tVar 3)) [3]) (tLc (iList K (tVar 1)) (gName 3) tYes (tOp (rCatA K) (tTup (tCons (tC (.int 1)) tNil)) (tVar 3)) [3])) (gName 1)))
    (tRet (tVar 1))))
section
variable {K : PySem.W.Frag} {S : Sta} {ds : List Dt}
theorem wordsR_len (n : Nat) : (wordsR n).length = 2 ^ n := by rw [words_eq, wordsL_len]
theorem so__law_words (hmu : S.Mu) (hp : ∃ b, ds = [.int b] ∧ 0 ≤ b ∧ b ≤ 8) : So K S S [] (t__law_words K) (startD 4 ds) (Pu (f_lw ds)) := by
  obtain ⟨b, rfl, b0, b8⟩ := hp
  have hb : ((b.toNat : Nat) : Int) = b := Int.toNat_of_nonneg b0
  refine so_setD (ev_lst (ea_cons (ev_tup ea_nil (by decide)) ea_nil) (by show 1 ≤ sizeLine; decide)) ?_
  refine so_seq (M := fun ρ' => ∃ x y, ρ' = [some (.int b), some (.lst ((wordsR b.toNat).map tI)), x, y]) (so_forR (n := b.toNat) (Z := fun _ => S) (ea_cons ((ev_var rfl).to (by rw [hb])) ea_nil) (by omega) (fun _ _ => Sta.Le.refl _) (fun _ _ => Sta.Le.refl _)
    (fun i ρ' => ∃ x y, ρ' = [some (.int b), some (.lst ((wordsR i).map tI)), x, y]) ⟨_, _, rfl⟩ (fun i ρ' hi hJ => ?_) fun ρ' hJ => hJ) fun ρ' hM => ?_
  · obtain ⟨x, y, rfl⟩ := hJ
    have hpow : (wordsR i).length ≤ 256 := by
      rw [wordsR_len]
      exact Nat.pow_le_pow_right (n := 2) (by decide) (show i ≤ 8 by omega)
    have part : ∀ k : Int, Ev K S S [some (.int b), some (.lst ((wordsR i).map tI)), some (.int i), y] (tLc (iList K (tVar 1)) (gName 3) tYes (tOp (rCatA K) (tTup (tCons (tC (.int k)) tNil)) (tVar 3)) [3]) (Eq (.lst (((wordsR i).map (k :: ·)).map tI))) := fun k => by
      refine (ev_lcL (xs := (wordsR i).map tI) (f := consI k) (p := fun _ => true) hmu (ev_var rfl) (by decide) (by rw [List.length_map]; omega) (fun _ _ => et_yes) (fun z hz _ => ?_) (fun z hz _ => ?_)).to ?_
      · obtain ⟨w, hw, rfl⟩ := List.mem_map.mp hz
        have hl := (wordsL_bits i w (by rw [← words_eq]; exact hw)).1
        exact ev_op (ev_tup (ea_cons ev_int ea_nil) (by show 1 ≤ sizeLine; decide)) (ev_var rfl) (rv_catT (by rw [List.length_map, hl]; show 1 + i ≤ sizeLine; exact Nat.le_trans (show 1 + i ≤ 9 by omega) (by decide)))
      · obtain ⟨w, hw, rfl⟩ := List.mem_map.mp hz
        exact nol_tI (k :: w)
      · rw [List.filter_eq_self.mpr fun _ _ => rfl, List.map_map, List.map_map]
        rfl
    refine so_set0D ((ev_op (part 0) (part 1) (rv_catL (by simp only [List.length_map]; exact Nat.le_trans (show _ ≤ 512 by omega) (by decide)))).to ?_) (Sta.Le.refl _) ⟨_, _, rfl⟩
    rw [← List.map_append]
    rfl
  · obtain ⟨x, y, rfl⟩ := hM
    refine so_retD (ev_var rfl) (Sta.Le.refl _) ?_
    show Dt.lst (wordsD b) = _
    rw [words_eq]
    rfl
theorem ev__law_words {S1 : Sta} {ρ : List (Option Dt)} {ta : TE} {b : Int} (h : Ev K S S1 ρ ta (Eq (.int b))) (h0 : 0 ≤ b) (h8 : b ≤ 8) : Ev K S S1 ρ (tCall (p__law_words K) [] E0 (tCons ta tNil)) (Eq (.lst (wordsD b))) := ev_callF (ea_cons h ea_nil) rfl ⟨b, rfl, h0, h8⟩
end
/-! ### all words of up to eight bits may be compared and shown -/
theorem words_cmp : ∀ n : _root_.Fin 9, cmpOk (.lst ((wordsL n.val).map tI)) = true := by decide +kernel
theorem words_short : ∀ n : _root_.Fin 9, (py (.lst ((wordsL n.val).map tI))).leavesShort 13 = true := by decide +kernel
theorem words_shows : ∀ n : _root_.Fin 9, (py (.lst ((wordsL n.val).map tI))).showable = true := by decide +kernel
theorem words_light : ∀ n : _root_.Fin 9, (py (.lst ((wordsL n.val).map tI))).weight ≤ 2 ^ 20 := by decide +kernel
theorem wordsD_cmp {b : Int} (h8 : b ≤ 8) : cmpOk (.lst (wordsD b)) = true := words_cmp ⟨b.toNat, by omega⟩
theorem wordsD_shw {b : Int} (h8 : b ≤ 8) : shwOk (.lst (wordsD b)) := ⟨wordsD_cmp h8, words_shows ⟨b.toNat, by omega⟩, PyData.shown_fits (by decide) (by decide) (words_short ⟨b.toNat, by omega⟩) (words_light ⟨b.toNat, by omega⟩)⟩
theorem cmp_refl {d : Dt} (h : cmpOk d = true) : PyData.eqv (py d) (py d) = true := by
  simp only [cmpOk, Bool.and_eq_true] at h
  exact SeqAt.eqv_refl _ (SeqAt.canLay_of_shaped h.2)
/-! ### the word in the middle of which something else is put -/
theorem isWd_bad {b : Int} {xs ys : List Dt} {x : Dt} (h : isWF x 0 1 = false) : isWd b (.tup (xs ++ [x] ++ ys)) = false := by
  simp [isWd, List.all_append, h]
theorem isWd_len {b : Int} {xs : List Dt} (h : (xs.length : Int) ≠ b) : isWd b (.tup xs) = false := by simp [isWd, h]
theorem isWd_word {b : Int} {w : List Int} (h0 : 0 ≤ b) (h : isBits b.toNat w) : isWd b (tI w) = true := by
  simp only [isWd, tI, Bool.and_eq_true, decide_eq_true_eq, List.length_map, List.all_map, List.all_eq_true]
  refine ⟨by rw [h.1]; exact Int.toNat_of_nonneg h0, fun x hx => ?_⟩
  rcases h.2 x hx with rfl | rfl <;> rfl
theorem cutD_sub {xs : List Dt} {lo hi : Option Int} {x : Dt} (h : x ∈ cutD xs lo hi) : x ∈ xs := List.mem_of_mem_drop (List.mem_of_mem_take h)
theorem cutD_le (xs : List Dt) (lo hi : Option Int) : (cutD xs lo hi).length ≤ xs.length := by
  unfold cutD
  rw [List.length_take, List.length_drop]
  omega
theorem cutD_tail (x : Dt) (xs : List Dt) : cutD (x :: xs) (some 1) none = xs := by
  unfold cutD
  have e : HT.sIx (x :: xs).length 0 (some 1) = 1 := by
    have := HT.sIx_nat (x :: xs).length 0 1
    rw [show ((1 : Nat) : Int) = 1 from rfl] at this
    rw [this, List.length_cons]
    omega
  rw [e, HT.sIx_none, List.length_cons, List.drop_one, List.tail_cons, Nat.add_sub_cancel, List.take_length]
theorem plS_tup {xs : List Dt} (h : ∀ x ∈ xs, pl x = true) (hl : xs.length ≤ 100000) : plS (.tup xs) = true := by
  simp only [plS, pl, Bool.and_eq_true]
  exact ⟨plA_all.mpr h, decide_eq_true hl⟩
end Bf
namespace Bf
open PySem PySem.Spec PyProof.Rows L2
/-! ## receivers.py -/
/-- plain data, or a ratio -/
def plRt (C : Addr) (d : Dt) : Prop := plD d ∨ ∃ a b, d = rat C a b
def r_bwR (C : Addr) (ds : List Dt) (a : Dt) : Prop := ∃ d n k, ds = [d, .str n, .int k] ∧ (pl d = true ∨ ∃ a b, d = rat C a b) ∧ 0 < k ∧ a = .bl (bwD d n k)
abbrev p_begins_withR (K : PySem.W.Frag) (C : Addr) : Sp := spR K 3 (r_bwR C)
def r_ntR (CB C : Addr) (ds : List Dt) (o : Out) : Prop := ∃ d, ds = [d] ∧ plRt C d ∧ o = ntO CB d
abbrev p_need_tableR (K : PySem.W.Frag) (CB C : Addr) : Sp := spX K 1 (r_ntR CB C)
abbrev t_need_tableR (K : PySem.W.Frag) (CB C : Addr) (E : XK) : TS := (tSeq (tIfS (tB (tCall (p_begins_withR K C) [] E0 (tCons (tVar 0) (tCons (tC (.str "pairs")) (tCons (tC (.int 6)) tNil))))) (tAsg (tCall (p_wrong_part_of_pairs K) [] E0 (tCons (tVar 0) tNil)) (gName 1)) (tIfS (tB (tCall (p_begins_withR K C) [] E0 (tCons (tVar 0) (tCons (tC (.str "halves")) (tCons (tC (.int 3)) tNil))))) (tAsg (tCall (p_wrong_part_of_halves K) [] E0 (tCons (tVar 0) tNil)) (gName 1)) (tAsg (tC (.str "form")) (gName 1))))
    (tSeq (tIfS (tTest (tOp rNoNo (tVar 1) (tC .non))) (tRaiseB CB "part" (fun cls d _ H => E cls d H) (tCons (tVar 1) tNil)) tNext)
    (tRet (tVar 0))))
abbrev t_is_wordR (K : PySem.W.Frag) (CB C : Addr) : TS := (tSeq (tDrop (tCall (p_need_tableR K CB C) [] E0 (tCons (tVar 0) tNil)))
    (tSeq (tIfS (tOr (tNot (tB (tCB (rIsi K) (tCons (tVar 1) (tCons (tC (.ty "tuple")) tNil))))) (tTest (tOp rNe (tCB (rLen K) (tCons (tVar 1) tNil)) (tCall (p_bits_of K) [] E0 (tCons (tVar 0) tNil))))) (tRet (tC (.bl false))) tNext)
    (tRet (tCB (rAll K) (tCons (tLc (iTup K (tVar 1)) (gName 2) tYes (tCall (p_is_whole_from K) [] E0 (tCons (tVar 2) (tCons (tC (.int 0)) (tCons (tC (.int 1)) tNil)))) [2]) tNil)))))
def isPair : Dt → Bool
  | .tup [_, _] => true
  | _ => false
def r_ip (C : Addr) (ds : List Dt) (a : Dt) : Prop := ∃ d, ds = [d] ∧ okRt C d ∧ a = .bl (isPair d)
abbrev p_is_pair (K : PySem.W.Frag) (C : Addr) : Sp := spR K 1 (r_ip C)
abbrev t_is_pair (K : PySem.W.Frag) : TS := (tRet (tAndV (tCB (rIsi K) (tCons (tVar 0) (tCons (tC (.ty "tuple")) tNil))) (tOp rEq (tCB (rLen K) (tCons (tVar 0) tNil)) (tC (.int 2)))))
def r_it (C : Addr) (ds : List Dt) (a : Dt) : Prop := ∃ d, ds = [d] ∧ plRt C d ∧ a = .bl (tabPart d).isNon
abbrev p_is_table (K : PySem.W.Frag) (C : Addr) : Sp := spR K 1 (r_it C)
abbrev t_is_table (K : PySem.W.Frag) (CB C : Addr) : TS := (tSeq (fun D σ H => (fun W => (tDrop (tCallS (p_need_tableR K CB C) (WE W) (tCons (tVar 0) tNil)))) (wOnly K (.ref CB) (fun a cls d => (tRet (tC (.bl false)))) (fun _ _ _ _ => False) D) D σ H)
    (tRet (tC (.bl true))))
def blw : Dt → Bool
  | .ins _ _ [.int n, .int m] => decide (n < m)
  | _ => false
def r_bo (C : Addr) (ds : List Dt) (a : Dt) : Prop := ∃ d, ds = [d] ∧ okRt C d ∧ a = .bl (blw d)
abbrev p_is_below_one (K : PySem.W.Frag) (C : Addr) : Sp := spR K 1 (r_bo C)
abbrev t_is_below_one (K : PySem.W.Frag) (C : Addr) : TS := (tRet (tAndV (tCB (rIsi K) (tCons (tVar 0) (tCons (tC (.ref C)) tNil))) (tOp rLtI (tProp C (getSp C "_num") [] E0 (tVar 0)) (tProp C (getSp C "_den") [] E0 (tVar 0)))))
/-- as the things in a receiver are drawn -/
def elR (C : Addr) (d : Dt) : Prop := okRt C d ∧ ∀ a b, d = .tup [a, b] → plRt C a ∧ okRt C b
def pairB : Dt → Bool
  | .tup [a, b] => (tabPart a).isNon && blw b
  | _ => false
def r_tt (C : Addr) (ds : List Dt) (a : Dt) : Prop := ∃ d, ds = [d] ∧ elR C d ∧ a = .bl (pairB d)
abbrev p_is_table_with_tolerance (K : PySem.W.Frag) (C : Addr) : Sp := spR K 1 (r_tt C)
abbrev t_is_table_with_tolerance (K : PySem.W.Frag) (C : Addr) : TS := (tRet (tAndV (tCall (p_is_pair K C) [] E0 (tCons (tVar 0) tNil)) (tAndV (tCall (p_is_table K C) [] E0 (tCons (tOp (rIx K) (tVar 0) (tC (.int 0))) tNil)) (tCall (p_is_below_one K C) [] E0 (tCons (tOp (rIx K) (tVar 0) (tC (.int 1))) tNil)))))
section
variable {K : PySem.W.Frag} {mg : Str → Option Value} {C fI pN gN pD gD CB : Addr} {S : Sta} {ds : List Dt} {d : Dt} {o : Out} {E : XK}
theorem ok_of {d : Dt} (h : okRt C d) : okN d = true ∨ ∃ a b, d = rat C a b := h
theorem so_begins_withR (T : RatT K mg C fI pN gN pD gD) (hmu : S.Mu) (hp : r_bwR C ds d) : So K S S [] (t_begins_with K) (startD 3 ds) (Pu d) := by
  obtain ⟨x, n, k, rfl, hx, hk, rfl⟩ := hp
  rcases hx with hx | ⟨a, b, rfl⟩
  · exact so_begins_with hmu ⟨x, n, k, rfl, hx, hk⟩
  · exact so_ifT (et_orT (et_notF (et_B (ev_ratIs T (ev_var rfl) (by simp))))) (so_ret1D ev_bl (Sta.Le.refl S) rfl)
theorem ev_begins_withR {S1 : Sta} {ρ : List (Option Dt)} {ta : TE} {n : Str} {k : Int} (h : Ev K S S1 ρ ta (Eq d)) (hd : pl d = true ∨ ∃ a b, d = rat C a b) (hk : 0 < k) : Ev K S S1 ρ (tCall (p_begins_withR K C) [] E0 (tCons ta (tCons (tC (.str n)) (tCons (tC (.int k)) tNil)))) (Eq (.bl (bwD d n k))) :=
  ev_callR (ea_cons h (ea_cons ev_str (ea_cons ev_int ea_nil))) rfl ⟨d, n, k, rfl, hd, hk, rfl⟩
theorem so_need_tableR (hmu : S.Mu) (hp : r_ntR CB C ds o) (hw : ∀ C' f d, o = .er C' f d → XW K S C' f d E) : So K S S [] (t_need_tableR K CB C E) (startD 2 ds) (PO o) := by
  obtain ⟨d, rfl, hd, rfl⟩ := hp
  have hd' : pl d = true ∨ ∃ a b, d = rat C a b := hd.imp (fun h => h.1) id
  have rest : ∀ p, tabPart d = p → So K S S [] (tSeq (tIfS (tTest (tOp rNoNo (tVar 1) (tC .non))) (tRaiseB CB "part" (fun cls d _ H => E cls d H) (tCons (tVar 1) tNil)) tNext) (tRet (tVar 0))) [some d, some p] (PO (ntO CB d)) := fun p hpp => by
    refine so_ifD (k := !p.isNon) (et_test (ev_op (ev_var rfl) ev_non rv_noNo)) (fun e => ?_) fun e => so_skip ?_
    · have hn : ¬ ((tabPart d).isNon = true) := by rw [hpp]; simpa using e
      have ho : ntO CB d = .er CB "part" p := by rw [ntO, if_neg hn, hpp]
      exact so_raise1B (ev_var rfl) (hw CB "part" p ho)
    · have hn : (tabPart d).isNon = true := by rw [hpp]; simpa using e
      have ho : ntO CB d = .ok d := by rw [ntO, if_pos hn]
      rw [ho]
      exact so_retD (ev_var rfl) (Sta.Le.refl S) rfl
  have hsa : ∀ xs, d = .tup xs → plSA xs = true := fun xs e => by
    rcases hd with h | ⟨a, b, rfl⟩
    · exact h.2 xs e
    · cases e
  refine so_if (Φb := Eq (bwD d "pairs" 6)) (et_B (ev_begins_withR (ev_var rfl) hd' (by decide))) (fun e => ?_) fun e => ?_
  · obtain ⟨xs, rfl, hl⟩ := bwD_shape e
    exact so_setD (ev_callF (ea_cons (ev_var rfl) ea_nil) rfl ⟨xs, rfl, by omega, hsa xs rfl⟩) (rest _ (if_pos e))
  · refine so_if (Φb := Eq (bwD d "halves" 3)) (et_B (ev_begins_withR (ev_var rfl) hd' (by decide))) (fun e2 => ?_) fun e2 => ?_
    · obtain ⟨xs, rfl, hl⟩ := bwD_shape e2
      exact so_setD (ev_callF (ea_cons (ev_var rfl) ea_nil) rfl ⟨xs, rfl, by omega, hsa xs rfl⟩) (rest _ (by rw [tabPart, if_neg (by rw [e]; decide), if_pos e2]))
    · exact so_setD ev_str (rest _ (by rw [tabPart, if_neg (by rw [e]; decide), if_neg (by rw [e2]; decide)]))
theorem ntO_tab {T : Tab} (h : T.ok) : ntO CB T.d = .ok T.d := by
  rw [ntO, wrong_ok h]
  rfl
theorem ev_need_tableR {S1 : Sta} {ρ : List (Option Dt)} {ta : TE} {T : Tab} (h : Ev K S S1 ρ ta (Eq T.d)) (hT : T.ok) : Ev K S S1 ρ (tCall (p_need_tableR K CB C) [] E (tCons ta tNil)) (Eq T.d) :=
  ev_callX (ea_cons h ea_nil) rfl ⟨T.d, rfl, .inl ⟨pl_tab T, plSA_tab hT⟩, (ntO_tab hT).symm⟩
theorem so_is_wordR (hmu : S.Mu) (hp : ∃ (T : Tab) (d : Dt), T.ok ∧ ds = [T.d, d] ∧ plS d = true) : So K S S [] (t_is_wordR K CB C) (startD 3 ds) (Pu (f_isw ds)) := by
  obtain ⟨T, d, hT, rfl, hd⟩ := hp
  rw [f_isw_tab]
  have ho := pl_okN (plS_pl hd)
  refine so_drop (ev_need_tableR (ev_var rfl) hT) ?_
  cases d with
  | tup xs =>
    have hl : xs.length ≤ 100000 := of_decide_eq_true (Bool.and_eq_true_iff.mp hd).2
    have hx := pl_tup (plS_pl hd)
    refine so_if (et_orF (et_notT (et_B (ev_isTup (ev_var rfl) ho))) (et_test (ev_op (ev_lenT (ev_var rfl)) (ev_bits_of (ev_var rfl) hT) rv_neI))) (fun e => so_ret1D ev_bl (Sta.Le.refl S) ?_) fun e => so_skip ?_
    · have e' : ¬ ((xs.length : Int) = T.b) := by simpa using e
      simp [isWd, e']
    · have e' : (xs.length : Int) = T.b := by simpa using e
      refine so_retD (ev_allT (p := fun x => isWF x 0 1) hmu (ev_var rfl) (by decide) hl fun x h => ev_is_whole_from (ev_var rfl) (pl_okN (hx x h))) (Sta.Le.refl S) ?_
      simp [isWd, e']
  | _ => exact so_ifT (et_orT (et_notF (et_B (ev_isTup (ev_var rfl) ho)))) (so_ret1D ev_bl (Sta.Le.refl S) rfl)
theorem pair_len {xs : List Dt} : isPair (.tup xs) = decide ((xs.length : Int) = 2) := by
  match xs with
  | [] => rfl
  | [_] => rfl
  | [_, _] => rfl
  | a :: b :: c :: l =>
    have : ¬ (((a :: b :: c :: l : List Dt).length : Int) = 2) := by simp; omega
    rw [decide_eq_false this]
    rfl
theorem so_is_pair (T : RatT K mg C fI pN gN pD gD) (hp : r_ip C ds d) : So K S S [] (t_is_pair K) (startD 1 ds) (Pu d) := by
  obtain ⟨x, rfl, hx, rfl⟩ := hp
  rcases hx with hx | ⟨a, b, rfl⟩
  · cases x with
    | tup xs => exact so_retD ((ev_andT ((ev_isTup (ev_var rfl) hx).to rfl) (ev_op (ev_lenT (ev_var rfl)) ev_int rv_eqI)).to (by rw [pair_len])) (Sta.Le.refl S) rfl
    | _ => exact so_retD (ev_andF ((ev_isTup (ev_var rfl) hx).to rfl)) (Sta.Le.refl S) rfl
  · exact so_retD (ev_andF (ev_ratIs T (ev_var rfl) (by simp))) (Sta.Le.refl S) rfl
theorem so_is_table (hte : PySem.W.exmOne K (.ref CB) (.ref CB) = some true) (hp : r_it C ds d) : So K S S [] (t_is_table K CB C) (startD 1 ds) (Pu d) := by
  obtain ⟨x, rfl, hx, rfl⟩ := hp
  cases hn : (tabPart x).isNon with
  | true =>
    have ho : ntO CB x = .ok x := by rw [ntO, if_pos hn]
    exact so_seqG (S1 := S) (M := fun ρ' => ρ' = [some x]) (Sta.Le.refl _) (so_onlyOk fun W => so_drop0 (ev_callXS (R := r_ntR CB C) (d := x) (ea_cons (ev_var rfl) ea_nil) rfl ⟨x, rfl, hx, ho.symm⟩) (Sta.Le.refl _) rfl) fun ρ' hM => by
      subst hM
      exact so_retD ev_bl (Sta.Le.refl S) rfl
  | false =>
    have ho : ntO CB x = .er CB "part" (tabPart x) := by rw [ntO, if_neg (by rw [hn]; decide)]
    refine so_seqG (S1 := S) (M := fun ρ' => False) (Sta.Le.refl _) (so_onlyEr (S1 := S) (C := CB) (f := "part") (d := tabPart x) (c := .ref CB) (Wout := fun _ _ _ _ => False) (tw := fun W => tDrop (tCallS (p_need_tableR K CB C) (WE W) (tCons (tVar 0) tNil))) (ts := fun a cls d => tRet (tC (.bl false))) hte (fun W D σ H i s hW => ?_) (fun e a => ?_)) fun ρ' hM => hM.elim
    · exact pr_drop (pr_callS (R := r_ntR CB C) i s (ea_cons (ev_var rfl) ea_nil) rfl ⟨x, rfl, hx, ho.symm⟩ hW)
    · exact so_retD ev_bl (Sta.Le.refl S) rfl
theorem so_is_below_one (T : RatT K mg C fI pN gN pD gD) (hp : r_bo C ds d) : So K S S [] (t_is_below_one K C) (startD 1 ds) (Pu d) := by
  obtain ⟨x, rfl, hx, rfl⟩ := hp
  rcases hx with hx | ⟨a, b, rfl⟩
  · have e1 : isRatD x = false := by cases x <;> first | rfl | (cases hx)
    have e2 : blw x = false := by cases x <;> first | rfl | (cases hx)
    exact so_retD (ev_andF ((ev_isRat T (ev_var rfl) (.inl hx)).to (by rw [e1]))) (Sta.Le.refl S) (by rw [e2])
  · exact so_retD (ev_andT ((ev_isRat T (ev_var rfl) (.inr ⟨a, b, rfl⟩)).to rfl) (ev_op (ev_num (ev_var rfl)) (ev_den (ev_var rfl)) rv_lt)) (Sta.Le.refl S) rfl
theorem so_is_table_with_tolerance (hp : r_tt C ds d) : So K S S [] (t_is_table_with_tolerance K C) (startD 1 ds) (Pu d) := by
  obtain ⟨x, rfl, ⟨hx, hxx⟩, rfl⟩ := hp
  have e1 : Ev K S S [some x] (tCall (p_is_pair K C) [] E0 (tCons (tVar 0) tNil)) (Eq (.bl (isPair x))) := ev_callR (ea_cons (ev_var rfl) ea_nil) rfl ⟨x, rfl, hx, rfl⟩
  cases hip : isPair x with
  | true =>
    obtain ⟨a, b, rfl⟩ : ∃ a b, x = .tup [a, b] := by
      unfold isPair at hip
      split at hip
      · exact ⟨_, _, rfl⟩
      · cases hip
    obtain ⟨ha, hb⟩ := hxx a b rfl
    exact so_retD (ev_andT (e1.to rfl) (ev_and (ev_callR (R := r_it C) (ea_cons (ev_ixT (ev_var rfl) ev_int (atI_nat (j := 0) rfl)) ea_nil) rfl ⟨a, rfl, ha, rfl⟩) fun _ => ev_callR (R := r_bo C) (ea_cons (ev_ixT (ev_var rfl) ev_int (atI_nat (j := 1) rfl)) ea_nil) rfl ⟨b, rfl, hb, rfl⟩)) (Sta.Le.refl S) rfl
  | false =>
    have e2 : pairB x = false := by
      unfold pairB
      split
      · cases hip
      · rfl
    exact so_retD (ev_andF (e1.to (by rw [hip]))) (Sta.Le.refl S) (by rw [e2])
end
/-! ### promises that hand back the thing itself -/
def spI (K : PySem.W.Frag) (R : Dt → Out → Prop) : Sp := fun vs H Q E => ∃ v d o, vs = [v] ∧ Rep K H v d ∧ R d o ∧ match o with
  | .ok _ => ∀ H', Same H H' → Q v H'
  | .er C f x => ∀ a u H', Same H H' → H' a = some (.xd [(f, u)]) → Rep K H' u x → E (.ref C) (some a) H'
def POI (v : V) : Out → Po
  | .ok _ => { rt := Eq (.raw v) }
  | .er _ _ _ => {}
section
variable {K : PySem.W.Frag} {S S1 SB SF : Sta} {L : List Addr} {ρ : List (Option Dt)} {d : Dt} {R : Dt → Out → Prop} {E : XK} {C : Addr} {f : Str} {j : Nat} {xs : List Dt}
theorem okI {Pg : Program} {w : World} {mg : Str → Option Value} {base : Heap} {x qual : Str} {st : Stmt} {g : Addr} {fd : FuncData} {N : List Str} {p : Str} {k : Nat} (Fu : Fun K x qual st g fd) (Sc : FnScope N [p] (defScope st))
    (hb : ∀ (cdv : Value) (A : Around) (out : List Env) (s : Shared) (H : Hp) (E : XK), Room k (A.deeper (envOfC qual (defScope st) s.heap.objs.size g cdv)) → A.guards = some [] →
      ∃ t, PSs (cxOf (L2.CX Pg w) Pg w K mg base N qual (defScope st) g cdv A out s H E) (defBody st) t ∧ ∀ (S : Sta), S.Mu → ∀ (v : V) (d : Dt) (o : Out), (∀ H', S.I H' → Rep K H' v d) → R d o → (∀ C f x, o = .er C f x → XW K S C f x E) → So K S S [] t (startD N.length [.raw v]) (POI v o)) :
    GOk Pg w K mg base (k + 1) g fd [p] (spI K R) := by
  refine okG Fu Sc (fun vs H Q E h => ?_) fun cdv A out s H vs Q E hr hg h => ?_
  · obtain ⟨v, d, o, rfl, _⟩ := h
    rfl
  · obtain ⟨v, d, o, rfl, rv, hp, q⟩ := h
    obtain ⟨t, ht, so⟩ := hb cdv A out s H E hr hg
    have hw : ∀ C f x, o = .er C f x → XW K (staSame H) C f x E := fun C f x e a u H' i ha ru => by
      subst e
      exact q a u H' i ha ru
    refine ⟨t, ht, so (staSame H) staSame_mu v d o (fun H' i => rv.mono (Same.gr i)) hp hw _ _ H H ⟨Gr.refl H, Same.refl H, fun _ z => nomatch z⟩ (Same.refl H) (slots_start (.cons (.raw v) .nil)) ⟨fun σ ρ H' g i s' e => ?_, fun u d' H' g i r' e => ?_, fun σ ρ H' g i s' e => ?_, fun σ ρ H' g i s' e => ?_⟩⟩
    · cases o <;> exact (show False from e).elim
    · cases o with
      | ok d =>
        have e2 : Dt.raw v = d' := e
        subst e2
        obtain rfl := r'.rawI
        exact q H' i
      | er => exact (show False from e).elim
    · cases o <;> exact (show False from e).elim
    · cases o <;> exact (show False from e).elim
/-- a slot's value by itself, read as data -/
theorem ev_rawD {v : V} {j : Nat} (hj : ρ[j]? = some (some (.raw v))) (hv : ∀ H', S.I H' → Rep K H' v d) : Ev K S S ρ (tVar j) (Eq d) := fun σ H i s Q q => by
  obtain ⟨u, hu, ru⟩ := s.val j _ hj
  obtain rfl := ru.rawI
  exact ⟨u, hu, q u d H (Gr.refl H) i (hv H i) rfl⟩
theorem ev_callI {te : TE} {o : Dt} (ha : Ev K S S1 ρ te (Eq d)) (hp : R d (.ok o)) : Ev K S S1 ρ (tCall (spI K R) [] E (tCons te tNil)) (Eq d) := fun σ H i s Q q =>
  ha σ H i s _ fun v d' H1 g1 i1 r1 p1 => by
    subst p1
    exact ⟨v, d, .ok o, rfl, r1, hp, fun H2 sm => q v _ H2 (g1.trans sm.gr) (S1.st i1 sm) (r1.mono sm.gr) rfl⟩
/-- f(x) == x, f(k = x) != x where f hands x back -/
theorem ev_eqI {Es : L2.St → XK} {o : Dt} (hj : ρ[j]? = some (some (.tup xs))) (hp : R (.tup xs) (.ok o)) : Ev K S S ρ (tOp (rEqW K) (tCallS (spI K R) Es (tCons (tVar j) tNil)) (tVar j)) (Eq (.bl true)) := fun σ H i s Q q => by
  obtain ⟨v, hv, rv⟩ := s.val j _ hj
  refine ⟨v, hv, v, .tup xs, .ok o, rfl, rv, hp, fun H2 sm => ⟨v, hv, true, ?_, q _ _ H2 sm.gr (S.st i sm) (.bl true) rfl⟩⟩
  obtain ⟨a, vs, rfl, ht, ra⟩ := (rv.mono sm.gr).tupI
  exact .same ht
theorem ev_neI {Es : XK} {o : Dt} (hj : ρ[j]? = some (some (.tup xs))) (hp : R (.tup xs) (.ok o)) : Ev K S S ρ (tOp (rNeW K) (tCallW (spI K R) 1 idV Es (tCons (tVar j) tNil)) (tVar j)) (Eq (.bl false)) := fun σ H i s Q q => by
  obtain ⟨v, hv, rv⟩ := s.val j _ hj
  refine ⟨v, hv, rfl, v, .tup xs, .ok o, rfl, rv, hp, fun H2 sm => ⟨v, hv, ?_⟩⟩
  obtain ⟨a, vs, rfl, ht, ra⟩ := (rv.mono sm.gr).tupI
  exact .inl ⟨a, vs, rfl, rfl, ht, q _ _ H2 sm.gr (S.st i sm) (.bl false) rfl⟩
theorem pr_callI {te : TE} {x : Dt} {σ : L2.St} {H : Hp} {Es : L2.St → XK} (hi : S.I H) (hs : Slots K H σ ρ) (ha : Ev K S S1 ρ te (Eq d)) (hp : R d (.er C f x)) (hw : ∀ a v H', Gr H H' → S1.I H' → H' a = some (.xd [(f, v)]) → Rep K H' v x → Es σ (.ref C) (some a) H') (Q : VK) : tCallS (spI K R) Es (tCons te tNil) σ H Q :=
  ha σ H hi hs _ fun v d' H1 g1 i1 r1 p1 => by
    subst p1
    exact ⟨v, d, .er C f x, rfl, r1, hp, fun a u H2 sm ea ru => hw a u H2 (g1.trans sm.gr) (S1.st i1 sm) ea ru⟩
theorem pr_op1 {σ : L2.St} {H : Hp} {r : R2} {ta tb : TE} (h : ∀ Q, ta σ H Q) (Q : VK) : tOp r ta tb σ H Q := h _
end
/-! ### need_receiver -/
def rcvO (CR : Addr) (d : Dt) : Out := match d with
  | .tup xs => if 1 ≤ xs.length ∧ xs.length ≤ 4 then (match xs.findIdx? (fun x => !pairB x) with | none => .ok d | some i => .er CR "place" (.int i)) else .er CR "place" .non
  | _ => .er CR "place" .non
/-- as receivers are drawn -/
def vR (C : Addr) (d : Dt) : Prop := okRt C d ∧ ∀ xs, d = .tup xs → ∀ x ∈ xs, elR C x
def r_nr (C CR : Addr) (d : Dt) (o : Out) : Prop := vR C d ∧ o = rcvO CR d
abbrev p_need_receiver (K : PySem.W.Frag) (C CR : Addr) : Sp := spI K (r_nr C CR)
abbrev t_need_receiver (K : PySem.W.Frag) (C CR : Addr) (E : XK) : TS := (tSeq (tIfS (tOr (tNot (tB (tCB (rIsi K) (tCons (tVar 0) (tCons (tC (.ty "tuple")) tNil))))) (tNot (tTest (tChain rLeI rLeI (tC (.int 1)) (tCB (rLen K) (tCons (tVar 0) tNil)) (tC (.int 4)))))) (tRaiseB CR "place" (fun cls d _ H => E cls d H) (tCons (tC .non) tNil)) tNext)
    (tSeq (tFor (iEnumT K (tCons (tVar 0) tNil)) (gTup K 2 (gCons (gName 1) (gCons (gName 2) gNil))) (tIfS (tNot (tB (tCall (p_is_table_with_tolerance K C) [] E0 (tCons (tVar 2) tNil)))) (tRaiseB CR "place" (fun cls d _ H => E cls d H) (tCons (tVar 1) tNil)) tNext))
    (tRet (tVar 0))))
section
variable {K : PySem.W.Frag} {mg : Str → Option Value} {C fI pN gN pD gD CR : Addr} {S : Sta} {d : Dt} {o : Out} {E : XK} {v : V}
theorem so_raise0B {S1 SB SF : Sta} {L : List Addr} {ρ : List (Option Dt)} {P : Po} {te : TE} {f : Str} (h : Ev K S S1 ρ te (Eq d)) (hw : XW K S1 C f d E) : Sg K S SB SF L (tRaiseB C f (fun cls d _ H => E cls d H) (tCons te tNil)) ρ P := so_raiseB h hw
theorem so_need_receiver (T : RatT K mg C fI pN gN pD gD) (hv : ∀ H', S.I H' → Rep K H' v d) (hp : r_nr C CR d o) (hw : ∀ C' f x, o = .er C' f x → XW K S C' f x E) : So K S S [] (t_need_receiver K C CR E) (startD 3 [.raw v]) (POI v o) := by
  obtain ⟨⟨hd, hx⟩, rfl⟩ := hp
  have e0 : ∀ {y1 y2 : Option Dt}, Ev K S S [some (.raw v), y1, y2] (tVar 0) (Eq d) := fun {_ _} => ev_rawD rfl hv
  by_cases ht : ∃ xs, d = .tup xs
  · obtain ⟨xs, rfl⟩ := ht
    have c1 : EvT K S S [some (.raw v), none, none] (tOr (tNot (tB (tCB (rIsi K) (tCons (tVar 0) (tCons (tC (.ty "tuple")) tNil))))) (tNot (tTest (tChain rLeI rLeI (tC (.int 1)) (tCB (rLen K) (tCons (tVar 0) tNil)) (tC (.int 4)))))) (Eq (!(decide ((1 : Int) ≤ (xs.length : Nat)) && decide (((xs.length : Nat) : Int) ≤ 4)))) :=
      et_orF (et_notT ((et_B (ev_isTup e0 rfl)).to rfl)) (et_not (et_test (ev_lele ev_int (ev_lenT e0) ev_int)))
    by_cases hl : 1 ≤ xs.length ∧ xs.length ≤ 4
    · refine so_ifF (c1.to (by rw [decide_eq_true (by omega), decide_eq_true (by omega)]; rfl)) (so_skip ?_)
      have ho : rcvO CR (.tup xs) = (match xs.findIdx? (fun x => !pairB x) with | none => .ok (.tup xs) | some i => .er CR "place" (.int i)) := if_pos hl
      rw [ho] at hw ⊢
      refine so_mid (M := fun ρ' => xs.findIdx? (fun x => !pairB x) = none ∧ ∃ y1 y2, ρ' = [some (.raw v), y1, y2]) (Sta.Le.refl S)
        (so_forET e0 (fun i ρ' => (∀ j x, j < i → xs[j]? = some x → pairB x = true) ∧ ∃ y1 y2, ρ' = [some (.raw v), y1, y2]) ⟨fun j x h => absurd h (Nat.not_lt_zero j), _, _, rfl⟩ (fun i x ρ' hi hJ => ?_) (fun ρ' hJ => ⟨?_, hJ.2⟩)) fun ρ' hM => ?_
      · obtain ⟨hJ, y1, y2, rfl⟩ := hJ
        have hmem : x ∈ xs := List.mem_of_getElem? hi
        refine so_if0 (Φb := Eq (!pairB x)) (et_not (et_B (ev_callR (R := r_tt C) (ea_cons (ev_var rfl) ea_nil) rfl ⟨x, rfl, hx _ rfl x hmem, rfl⟩))) (fun e => ?_) fun e => so_next (Sta.Le.refl S) ⟨fun j y hj hy => ?_, _, _, rfl⟩
        · have hf : xs.findIdx? (fun x => !pairB x) = some i := by
            rw [List.findIdx?_eq_some_iff_getElem]
            have hlt : i < xs.length := (List.getElem?_eq_some_iff.mp hi).1
            refine ⟨hlt, ?_, fun j hj => ?_⟩
            · have : xs[i] = x := (List.getElem?_eq_some_iff.mp hi).2
              rw [this]
              simpa using e
            · have := hJ j xs[j] hj (List.getElem?_eq_getElem (by omega))
              simpa using this
          exact so_raise0B (ev_var rfl) (hw CR "place" (.int i) (by rw [hf]))
        · rcases Nat.lt_or_ge j i with h | h
          · exact hJ j y h hy
          · have : j = i := by omega
            subst this
            rw [hi] at hy
            cases hy
            simpa using e
      · rw [List.findIdx?_eq_none_iff]
        intro x hx'
        obtain ⟨j, hj⟩ := List.getElem?_of_mem hx'
        have := hJ.1 j x (List.getElem?_eq_some_iff.mp hj).1 hj
        simpa using this
      · obtain ⟨hn, y1, y2, rfl⟩ := hM
        rw [hn]
        exact so_retD (ev_var rfl) (Sta.Le.refl S) rfl
    · have ho : rcvO CR (.tup xs) = .er CR "place" .non := if_neg hl
      refine so_ifT (c1.to ?_) (so_raise1B ev_non (hw CR "place" .non ho))
      by_cases h1 : 1 ≤ xs.length
      · have : ¬ (((xs.length : Nat) : Int) ≤ 4) := fun z => hl ⟨h1, by omega⟩
        rw [decide_eq_false this, Bool.and_false]; rfl
      · have : ¬ ((1 : Int) ≤ (xs.length : Nat)) := by omega
        rw [decide_eq_false this, Bool.false_and]; rfl
  · have ho : rcvO CR d = .er CR "place" .non := by
      unfold rcvO
      split
      · exact absurd ⟨_, rfl⟩ ht
      · rfl
    refine so_ifT (et_orT (et_notF ?_)) (so_raise1B ev_non (hw CR "place" .non ho))
    rcases hd with hd | ⟨a, b, rfl⟩
    · refine (et_B (ev_isTup e0 hd)).to ?_
      cases d with
      | tup xs => exact absurd ⟨xs, rfl⟩ ht
      | _ => rfl
    · exact et_B (ev_ratIs T e0 (by simp))
end
end Bf
namespace Bf
open PySem PySem.Spec PyProof.Rows L2
/-! ## right receivers, sendings -/
def prD (C : Addr) (p : Tab × Int × Int) : Dt := .tup [p.1.d, rat C p.2.1 p.2.2]
def rcD (C : Addr) (rc : List (Tab × Int × Int)) : Dt := .tup (rc.map (prD C))
def prOk (p : Tab × Int × Int) : Prop := p.1.ok ∧ 0 ≤ p.2.1 ∧ p.2.1 < p.2.2
def rcOk (rc : List (Tab × Int × Int)) : Prop := 1 ≤ rc.length ∧ rc.length ≤ 4 ∧ ∀ p ∈ rc, prOk p
section
variable {C CR : Addr} {p : Tab × Int × Int} {rc : List (Tab × Int × Int)}
theorem plRt_tab {T : Tab} (h : T.ok) : plRt C T.d := .inl ⟨pl_tab T, plSA_tab h⟩
theorem pairB_pr (h : prOk p) : pairB (prD C p) = true := by
  show ((tabPart p.1.d).isNon && decide (p.2.1 < p.2.2)) = true
  rw [wrong_ok h.1, decide_eq_true h.2.2]
  rfl
theorem elR_pr (h : prOk p) : elR C (prD C p) := ⟨.inl rfl, fun a b e => by
  have e' : Dt.tup [p.1.d, rat C p.2.1 p.2.2] = .tup [a, b] := e
  cases e'
  exact ⟨plRt_tab h.1, .inr ⟨_, _, rfl⟩⟩⟩
theorem vR_rc (h : ∀ p ∈ rc, prOk p) : vR C (rcD C rc) := ⟨.inl rfl, fun xs e x hx => by
  cases e
  obtain ⟨p, hp, rfl⟩ := List.mem_map.mp hx
  exact elR_pr (h p hp)⟩
theorem rcvO_ok (h : rcOk rc) : rcvO CR (rcD C rc) = .ok (rcD C rc) := by
  have h1 : (if 1 ≤ (rc.map (prD C)).length ∧ (rc.map (prD C)).length ≤ 4 then (match (rc.map (prD C)).findIdx? (fun x => !pairB x) with | none => Out.ok (rcD C rc) | some i => .er CR "place" (.int i)) else .er CR "place" .non) = .ok (rcD C rc) := by
    rw [if_pos (by rw [List.length_map]; exact ⟨h.1, h.2.1⟩)]
    have : (rc.map (prD C)).findIdx? (fun x => !pairB x) = none := by
      rw [List.findIdx?_eq_none_iff]
      intro x hx
      obtain ⟨p, hp, rfl⟩ := List.mem_map.mp hx
      rw [pairB_pr (h.2.2 p hp)]
      rfl
    rw [this]
  exact h1
end
/-- as things are asked whether they are sendings -/
def sndP (d : Dt) : Prop := okN d = true ∧ ∀ a b, d = .tup [a, b] → okN a = true ∧ plS b = true
def isSnd (rc : List (Tab × Int × Int)) : Dt → Bool
  | .tup [.int i, w] => decide (0 ≤ i ∧ i ≤ (rc.length : Int) - 1) && (match rc[i.toNat]? with | some p => isWd p.1.b w | none => false)
  | _ => false
def r_is (C : Addr) (ds : List Dt) (a : Dt) : Prop := ∃ rc d, rcOk rc ∧ ds = [rcD C rc, d] ∧ sndP d ∧ a = .bl (isSnd rc d)
abbrev p_is_sending (K : PySem.W.Frag) (C : Addr) : Sp := spR K 2 (r_is C)
abbrev t_is_sending (K : PySem.W.Frag) (C CR : Addr) : TS := (tSeq (tDrop (tCall (p_need_receiver K C CR) [] E0 (tCons (tVar 0) tNil)))
    (tSeq (tIfS (tOr (tNot (tB (tCall (p_is_pair K C) [] E0 (tCons (tVar 1) tNil)))) (tNot (tB (tCall (p_is_whole_from K) [] E0 (tCons (tOp (rIx K) (tVar 1) (tC (.int 0))) (tCons (tC (.int 0)) (tCons (tOp rSubI (tCB (rLen K) (tCons (tVar 0) tNil)) (tC (.int 1))) tNil))))))) (tRet (tC (.bl false))) tNext)
    (tRet (tCall (p_is_word K) [] E0 (tCons (tOp (rIx K) (tOp (rIx K) (tVar 0) (tOp (rIx K) (tVar 1) (tC (.int 0)))) (tC (.int 0))) (tCons (tOp (rIx K) (tVar 1) (tC (.int 1))) tNil))))))
/-- what is told of a receiver -/
def sdD : Out → Dt
  | .ok _ => .lst []
  | .er _ _ x => .lst [x]
def r_sd (C CR : Addr) (ds : List Dt) (a : Dt) : Prop := ∃ d, ds = [d] ∧ vR C d ∧ a = sdD (rcvO CR d)
abbrev p__law_saidR (K : PySem.W.Frag) (C CR : Addr) : Sp := spR K 1 (r_sd C CR)
abbrev t__law_saidR (K : PySem.W.Frag) (C CR : Addr) : TS := (tSeq (tAsg (tLst (tCons (tC (.str "begun")) tNil)) (gName 1))
    (tSeq (fun D σ H => (fun W => (tAsg (tIf (tTest (tOp (rEqW K) (tCallS (p_need_receiver K C CR) (WE W) (tCons (tVar 0) tNil)) (tVar 0))) (tLst tNil) (tLst (tCons (tC (.str "another")) tNil))) (gName 1))) (wAs K (.ref CR) 2 (fun a cls d => (tAsg (tLst (tCons (tFld CR "place" a cls d (tVar 2)) tNil)) (gName 1))) (fun _ _ _ _ => False) D) D σ H)
    (tRet (tVar 1))))
section
variable {K : PySem.W.Frag} {mg : Str → Option Value} {C fI pN gN pD gD CR : Addr} {S : Sta} {ds : List Dt} {d : Dt}
theorem so_is_sending (T : RatT K mg C fI pN gN pD gD) (hmu : S.Mu) (hp : r_is C ds d) : So K S S [] (t_is_sending K C CR) (startD 2 ds) (Pu d) := by
  obtain ⟨rc, x, hrc, rfl, ⟨hx, hxx⟩, rfl⟩ := hp
  refine so_drop (ev_callI (R := r_nr C CR) (ev_var rfl) ⟨vR_rc hrc.2.2, (rcvO_ok hrc).symm⟩) ?_
  have e1 : Ev K S S [some (rcD C rc), some x] (tCall (p_is_pair K C) [] E0 (tCons (tVar 1) tNil)) (Eq (.bl (isPair x))) := ev_callR (R := r_ip C) (ea_cons (ev_var rfl) ea_nil) rfl ⟨x, rfl, .inl hx, rfl⟩
  cases hip : isPair x with
  | false =>
    have e2 : isSnd rc x = false := by
      unfold isSnd
      split
      · cases hip
      · rfl
    exact so_ifT (et_orT (et_notF ((et_B e1).to hip))) (so_ret1D ev_bl (Sta.Le.refl S) (by rw [e2]))
  | true =>
    obtain ⟨a, b, rfl⟩ : ∃ a b, x = .tup [a, b] := by
      unfold isPair at hip
      split at hip
      · exact ⟨_, _, rfl⟩
      · cases hip
    obtain ⟨ha, hb⟩ := hxx a b rfl
    have hlen : (rc.map (prD C)).length = rc.length := List.length_map ..
    have e2 : Ev K S S [some (rcD C rc), some (.tup [a, b])] (tCall (p_is_whole_from K) [] E0 (tCons (tOp (rIx K) (tVar 1) (tC (.int 0))) (tCons (tC (.int 0)) (tCons (tOp rSubI (tCB (rLen K) (tCons (tVar 0) tNil)) (tC (.int 1))) tNil)))) (Eq (.bl (isWF a 0 ((rc.length : Int) - 1)))) :=
      ev_callF (f := f_wf) (ea_cons (ev_ixT (ev_var rfl) ev_int (atI_nat (j := 0) rfl)) (ea_cons ev_int (ea_cons (ev_op ((ev_lenT (ev_var rfl)).to (by rw [hlen])) ev_int rv_sub) ea_nil))) rfl ⟨a, 0, _, rfl, ha⟩
    refine so_if (Φb := Eq (!isWF a 0 ((rc.length : Int) - 1))) (et_orF (et_notT ((et_B e1).to hip)) (et_not (et_B e2))) (fun e => so_ret1D ev_bl (Sta.Le.refl S) ?_) fun e => so_skip ?_
    · have e' : isWF a 0 ((rc.length : Int) - 1) = false := by simpa using e
      show Dt.bl (isSnd rc (.tup [a, b])) = .bl false
      congr 1
      cases a with
      | int i =>
        show (decide (0 ≤ i ∧ i ≤ (rc.length : Int) - 1) && _) = false
        have : ¬ (0 ≤ i ∧ i ≤ (rc.length : Int) - 1) := fun z => by
          simp [isWF, z.1, z.2] at e'
        rw [decide_eq_false this, Bool.false_and]
      | _ => rfl
    · have e' : isWF a 0 ((rc.length : Int) - 1) = true := by simpa using e
      cases a with
      | int i =>
        have hi : 0 ≤ i ∧ i ≤ (rc.length : Int) - 1 := by simpa [isWF] using e'
        have hlt : i.toNat < rc.length := by omega
        have hii : ((i.toNat : Nat) : Int) = i := Int.toNat_of_nonneg hi.1
        obtain ⟨p, hp⟩ : ∃ p, rc[i.toNat]? = some p := ⟨_, List.getElem?_eq_getElem hlt⟩
        have hat : atI (rc.map (prD C)) i = some (prD C p) := by
          have := atI_nat (xs := rc.map (prD C)) (j := i.toNat) (v := prD C p) (by rw [List.getElem?_map, hp]; rfl)
          rwa [hii] at this
        have hpo := hrc.2.2 p (List.mem_of_getElem? hp)
        refine so_retD (ev_is_word (ev_ixT (d := p.1.d) (ev_ixT (xs := rc.map (prD C)) (d := prD C p) (ev_var rfl) (ev_ixT (ev_var rfl) ev_int (atI_nat (j := 0) rfl)) hat) ev_int (atI_nat (j := 0) rfl)) hpo.1 (ev_ixT (ev_var rfl) ev_int (atI_nat (j := 1) rfl)) hb) (Sta.Le.refl S) ?_
        show Dt.bl (decide (0 ≤ i ∧ i ≤ (rc.length : Int) - 1) && (match rc[i.toNat]? with | some p => isWd p.1.b b | none => false)) = .bl (isWd p.1.b b)
        rw [hp, decide_eq_true hi, Bool.true_and]
      | _ => simp [isWF] at e'
theorem rcvO_shape {o : Dt} (h : rcvO CR d = .ok o) : ∃ xs, d = .tup xs := by
  unfold rcvO at h
  split at h
  · exact ⟨_, rfl⟩
  · cases h
theorem rcvO_er {C' : Addr} {f : Str} {x : Dt} (h : rcvO CR d = .er C' f x) : C' = CR ∧ f = "place" := by
  unfold rcvO at h
  split at h
  · split at h
    · split at h
      · cases h
      · cases h; exact ⟨rfl, rfl⟩
    · cases h; exact ⟨rfl, rfl⟩
  · cases h; exact ⟨rfl, rfl⟩
theorem so__law_saidR (hmu : S.Mu) (hte : PySem.W.exmOne K (.ref CR) (.ref CR) = some true) (hp : r_sd C CR ds d) : So K S S [] (t__law_saidR K C CR) (startD 3 ds) (Pu d) := by
  obtain ⟨x, rfl, hv, rfl⟩ := hp
  refine so_setD (d := .lst [.str "begun"]) (ev_lst (ea_cons ev_str ea_nil) (by show 1 ≤ sizeLine; decide)) ?_
  cases ho : rcvO CR x with
  | ok o =>
    obtain ⟨xs, rfl⟩ := rcvO_shape ho
    refine so_seqG (S1 := S) (M := fun ρ' => ρ' = [some (.tup xs), some (.lst []), none]) (Sta.Le.refl _) (so_tryOk fun W => so_set0D (ev_ifT ((et_test (ev_eqI (R := r_nr C CR) (o := o) rfl ⟨hv, ho.symm⟩)).to rfl) (ev_lst ea_nil (by decide))) (Sta.Le.refl _) rfl) fun ρ' hM => ?_
    subst hM
    exact so_retD (ev_var rfl) (Sta.Le.refl _) rfl
  | er C' f y =>
    obtain ⟨rfl, rfl⟩ := rcvO_er ho
    refine so_seqG (S1 := S) (M := fun ρ' => ρ' = [some x, some (.lst [y]), none]) (Sta.Le.refl _) (so_tryEr (S1 := S) (C := C') (f := "place") (d := y) (i := 2) (c := .ref C') (Wout := fun _ _ _ _ => False) (tw := fun W => tAsg (tIf (tTest (tOp (rEqW K) (tCallS (p_need_receiver K C C') (WE W) (tCons (tVar 0) tNil)) (tVar 0))) (tLst tNil) (tLst (tCons (tC (.str "another")) tNil))) (gName 1)) (ts := fun a cls d => tAsg (tLst (tCons (tFld C' "place" a cls d (tVar 2)) tNil)) (gName 1)) hte (fun W D σ H i s hW => ?_) (fun e a v => ?_)) fun ρ' hM => ?_
    · exact pr_asg (pr_if (pr_test (pr_op1 (pr_callI (R := r_nr C C') i s (ev_var rfl) ⟨hv, ho.symm⟩ hW))))
    · exact so_set0D (ev_lst (ea_cons (ev_fld (K := K) (S := S) (i := 2) rfl) ea_nil) (by show 1 ≤ sizeLine; decide)) (fun _ h => h.1) rfl
    · subst hM
      exact so_retD (ev_var rfl) (Sta.Le.refl _) rfl
end
end Bf
namespace Bf
open PySem PySem.Spec PyProof.Rows L2
/-! ## The law of tables: what is said, what is due -/
/-- tabPart is none or a text -/
theorem tabPart_str (d : Dt) : tabPart d = .non ∨ ∃ p : Str, tabPart d = .str p := by
  have hP : ∀ xs, wrongP xs = .non ∨ ∃ p : Str, wrongP xs = .str p := fun xs => by
    unfold wrongP
    split
    · repeat' split
      all_goals first | exact .inl rfl | exact .inr ⟨_, rfl⟩
    · exact .inl rfl
  have hH : ∀ xs, wrongH xs = .non ∨ ∃ p : Str, wrongH xs = .str p := fun xs => by
    unfold wrongH
    split
    · repeat' split
      all_goals first | exact .inl rfl | exact .inr ⟨_, rfl⟩
    · exact .inl rfl
  unfold tabPart
  split
  · cases d with
    | tup xs => exact hP xs
    | _ => exact .inl rfl
  · split
    · cases d with
      | tup xs => exact hH xs
      | _ => exact .inl rfl
    · exact .inr ⟨_, rfl⟩
section
variable {K : PySem.W.Frag} {S : Sta} {ds : List Dt} {d : Dt} {C : Addr}
def r_said (ds : List Dt) (a : Dt) : Prop := ∃ d, ds = [d] ∧ plD d ∧ (tabPart d = .non → shwOk d) ∧ a = tabPart d
abbrev p__law_said (K : PySem.W.Frag) : Sp := spR K 1 r_said
abbrev t__law_saidX (K : PySem.W.Frag) (C : Addr) : TS := (tSeq (tAsg (tC (.str "begun")) (gName 1))
    (tSeq (fun D σ H => (fun W => (tAsg (tIf (tTest (tOp rEq (tCB (rRepr K) (tCons (tCallS (p_need_tableX K C) (WE W) (tCons (tVar 0) tNil)) tNil)) (tCB (rRepr K) (tCons (tVar 0) tNil)))) (tC .non) (tC (.str "another"))) (gName 1))) (wAs K (.ref C) 2 (fun a cls d => (tAsg (tFld C "part" a cls d (tVar 2)) (gName 1))) (fun _ _ _ _ => False) D) D σ H)
    (tRet (tVar 1))))
theorem so__law_said (hmu : S.Mu) (hte : PySem.W.exmOne K (.ref C) (.ref C) = some true) (hp : r_said ds d) : So K S S [] (t__law_saidX K C) (startD 3 ds) (Pu d) := by
  obtain ⟨x, rfl, hpl, hsh, rfl⟩ := hp
  refine so_setD ev_str ?_
  rcases tabPart_str x with h | ⟨p, h⟩
  · have ho : ntO C x = .ok x := by rw [ntO, h]; rfl
    have hs := hsh h
    refine so_seqG (S1 := S) (M := fun ρ' => ρ' = [some x, some .non, none]) (Sta.Le.refl _) (so_tryOk fun W => so_set0D (ev_ifT ((et_test (ev_op (ev_cb (ea_cons (ev_callXS (R := r_nt C) (d := x) (ea_cons (ev_var rfl) ea_nil) rfl ⟨x, rfl, hpl, ho.symm⟩) ea_nil) (rc_repr hs)) (ev_cb (ea_cons (ev_var rfl) ea_nil) (rc_repr hs)) rv_eqS)).to (by simp)) ev_non) (Sta.Le.refl _) rfl) fun ρ' hM => ?_
    subst hM
    exact so_retD (ev_var rfl) (Sta.Le.refl _) h
  · have ho : ntO C x = .er C "part" (.str p) := by rw [ntO, h]; rfl
    refine so_seqG (S1 := S) (M := fun ρ' => ρ' = [some x, some (.str p), none]) (Sta.Le.refl _) (so_tryEr (S1 := S) (C := C) (f := "part") (d := .str p) (i := 2) (c := .ref C) (Wout := fun _ _ _ _ => False) (tw := fun W => tAsg (tIf (tTest (tOp rEq (tCB (rRepr K) (tCons (tCallS (p_need_tableX K C) (WE W) (tCons (tVar 0) tNil)) tNil)) (tCB (rRepr K) (tCons (tVar 0) tNil)))) (tC .non) (tC (.str "another"))) (gName 1)) (ts := fun a cls d => tAsg (tFld C "part" a cls d (tVar 2)) (gName 1)) hte (fun W D σ H i s hW => ?_) (fun e a v => ?_)) fun ρ' hM => ?_
    · exact pr_asg (pr_if (pr_test (pr_op (pr_cb (pr_args (pr_callS (R := r_nt C) i s (ea_cons (ev_var rfl) ea_nil) rfl ⟨x, rfl, hpl, ho.symm⟩ hW))))))
    · exact so_set0D (ev_fld (K := K) (S := S) (i := 2) rfl) (fun _ h => h.1) rfl
    · subst hM
      exact so_retD (ev_var rfl) (Sta.Le.refl _) h
end
end Bf
namespace Bf
open PySem PySem.Spec PyProof.Rows L2
section
variable {K : PySem.W.Frag} {S : Sta} {ds : List Dt} {d : Dt}
/-! ### the law's own looks -/
def r_liw (ds : List Dt) (a : Dt) : Prop := ∃ (d : Dt) (lo hi : Int), ds = [d, .int lo, .int hi] ∧ okN d = true ∧ a = .bl (isWF d lo hi)
abbrev p__law_is_whole (K : PySem.W.Frag) : Sp := spR K 3 r_liw
abbrev t__law_is_whole (K : PySem.W.Frag) : TS := (tRet (tAndV (tCB (rIsi K) (tCons (tVar 0) (tCons (tC (.ty "int")) tNil))) (tAndV (tNotV (tCB (rIsi K) (tCons (tVar 0) (tCons (tC (.ty "bool")) tNil)))) (tChain rLeI rLeI (tVar 1) (tVar 0) (tVar 2)))))
theorem so__law_is_whole (hp : r_liw ds d) : So K S S [] (t__law_is_whole K) (startD 3 ds) (Pu d) := by
  obtain ⟨x, lo, hi, rfl, hx, rfl⟩ := hp
  cases x with
  | int i => exact so_retD (ev_andT ((ev_isInt (ev_var rfl) hx).to rfl) (ev_andT (ev_not ((ev_isBl (ev_var rfl) hx).to rfl)) (ev_lele (ev_var rfl) (ev_var rfl) (ev_var rfl)))) (Sta.Le.refl S) rfl
  | bl b => exact so_retD (ev_andT ((ev_isInt (ev_var rfl) hx).to rfl) (ev_andF (ev_not ((ev_isBl (ev_var rfl) hx).to rfl)))) (Sta.Le.refl S) rfl
  | _ => exact so_retD (ev_andF (ev_isInt (ev_var rfl) hx)) (Sta.Le.refl S) rfl
theorem ev__law_is_whole {S1 : Sta} {ρ : List (Option Dt)} {ta : TE} {x : Dt} {lo hi : Int} (h : Ev K S S1 ρ ta (Eq x)) (hx : okN x = true) : Ev K S S1 ρ (tCall (p__law_is_whole K) [] E0 (tCons ta (tCons (tC (.int lo)) (tCons (tC (.int hi)) tNil)))) (Eq (.bl (isWF x lo hi))) :=
  ev_callR (ea_cons h (ea_cons ev_int (ea_cons ev_int ea_nil))) rfl ⟨x, lo, hi, rfl, hx, rfl⟩
/-- no list, no tuple, no dict: may be compared -/
def scal : Dt → Bool
  | .non => true
  | .bl _ => true
  | .int _ => true
  | .str x => x.cps.all (· < 0x110000)
  | _ => false
theorem scal_cmp {xs : List Dt} (h : ∀ x ∈ xs, scal x = true) : cmpOk (.lst xs) = true ∧ nolA xs = true := by
  have : purA xs = true ∧ PyData.canLayAll0 (pyA xs) = true ∧ PyData.depthAll (pyA xs) = 0 ∧ nolA xs = true := by
    induction xs with
    | nil => exact ⟨rfl, rfl, rfl, rfl⟩
    | cons x xs ih =>
      obtain ⟨h1, h2, h3, h4⟩ := ih fun y hy => h y (List.mem_cons_of_mem _ hy)
      have hx := h x List.mem_cons_self
      cases x <;> simp [scal] at hx <;> simp [purA, pur, pyA, py, PyData.canLayAll0, PyData.canLay0, PyData.depthAll, PyData.depth, nolA, nol, h1, h2, h3, h4]
      simpa [PyData.strOk] using hx
  obtain ⟨h1, h2, h3, h4⟩ := this
  refine ⟨?_, h4⟩
  simp [cmpOk, pur, py, SeqAt.shaped, PyData.canLay0, PyData.depth, h1, h2, h3]
def sizesD (d : Dt) (ns : List Int) : Bool := match d with
  | .tup xs => decide ((xs.length : Int) ∈ ns) && xs.all fun x => isWF x 1 99999
  | _ => false
theorem eqv_nilL (xs : List Dt) : PyData.eqv (py (.lst xs)) (py (.lst [])) = decide (xs = []) := by
  cases xs with
  | nil => rfl
  | cons n ns => simp [py, pyA, PyData.eqv, PyData.eqvAll]
def r_las (ds : List Dt) (a : Dt) : Prop := ∃ (d : Dt) (ns : List Int), ds = [d, tI ns] ∧ okN d = true ∧ (∀ xs, d = .tup xs → xs.length ≤ 1000 ∧ ∀ x ∈ xs, scal x = true) ∧ a = .bl (sizesD d ns)
abbrev p__law_are_sizes (K : PySem.W.Frag) : Sp := spR K 2 r_las
abbrev t__law_are_sizes (K : PySem.W.Frag) : TS := (tSeq (tIfS (tOr (tNot (tB (tCB (rIsi K) (tCons (tVar 0) (tCons (tC (.ty "tuple")) tNil))))) (tTest (tOp (rIn K true) (tCB (rLen K) (tCons (tVar 0) tNil)) (tVar 1)))) (tRet (tC (.bl false))) tNext)
    (tRet (tOp (rEqD K) (tLc (iTup K (tVar 0)) (gName 2) (tNot (tB (tCall (p__law_is_whole K) [] E0 (tCons (tVar 2) (tCons (tC (.int 1)) (tCons (tC (.int 99999)) tNil)))))) (tVar 2) [2]) (tLst tNil))))
theorem scal_okN {x : Dt} (h : scal x = true) : okN x = true := by cases x <;> simp [scal] at h <;> rfl
theorem rv_notInT {i : Int} {ns : List Int} : Rv2 K S (rIn K true) (.int i) (.tup (ns.map Dt.int)) (Eq (.bl (!decide (i ∈ ns)))) := rv_at fun H v u _ r1 r2 Q q => by
  obtain rfl := r1.intI
  obtain ⟨a, vs, rfl, ht, ra⟩ := r2.tupI
  refine ⟨a, vs, rfl, .inr ht, rfl, ?_, ?_⟩
  · rw [ra.ints, List.all_eq_true]
    intro y hy
    obtain ⟨n, _, rfl⟩ := List.mem_map.mp hy
    rfl
  · rw [if_pos rfl, ra.ints, any_ints (H := H)]
    exact q _ (.bl _)
theorem so__law_are_sizes (hmu : S.Mu) (hp : r_las ds d) : So K S S [] (t__law_are_sizes K) (startD 3 ds) (Pu d) := by
  obtain ⟨x, ns, rfl, hx, hs, rfl⟩ := hp
  cases x with
  | tup xs =>
    obtain ⟨hl, hsc⟩ := hs xs rfl
    refine so_if (Φb := Eq (!decide ((xs.length : Int) ∈ ns))) (et_orF (et_notT ((et_B (ev_isTup (ev_var rfl) hx)).to rfl)) (et_test (ev_op (ev_lenT (ev_var rfl)) (ev_var rfl) rv_notInT))) (fun e => ?_) fun e => so_skip ?_
    · have e' : ¬ ((xs.length : Int) ∈ ns) := by simpa using e
      refine so_ret1D ev_bl (Sta.Le.refl S) ?_
      show Dt.bl (sizesD (.tup xs) ns) = _
      simp [sizesD, e']
    · have e' : (xs.length : Int) ∈ ns := by simpa using e
      have hsub : ∀ y ∈ (xs.filter fun x => !isWF x 1 99999).map fun d => d, scal y = true := fun y hy => by
        rw [List.map_id'] at hy
        exact hsc y (List.mem_filter.mp hy).1
      refine so_retD (ev_op (ev_lcT (xs := xs) (f := fun d => d) (p := fun x => !isWF x 1 99999) hmu (ev_var rfl) (by decide) (by omega) (fun y hy => et_not (et_B (ev__law_is_whole (ev_var rfl) (scal_okN (hsc y hy))))) (fun y hy _ => ev_var rfl) (fun y hy _ => (scal_cmp (xs := [y]) fun z hz => by rw [List.mem_singleton.mp hz]; exact hsc y hy).2 |> fun h => by simpa [nolA] using h)) (ev_lst ea_nil (by decide)) (rv_eqD (scal_cmp hsub).1 rfl)) (Sta.Le.refl S) ?_
      show Dt.bl (sizesD (.tup xs) ns) = _
      rw [eqv_nilL]
      simp only [sizesD, e', decide_true, Bool.true_and, List.map_id']
      congr 1
      rw [Bool.eq_iff_iff]
      simp [List.filter_eq_nil_iff]
  | _ => exact so_ifT (et_orT (et_notF ((et_B (ev_isTup (ev_var rfl) hx)).to rfl))) (so_ret1D ev_bl (Sta.Le.refl S) rfl)
end
end Bf
namespace Bf
open PySem PySem.Spec PyProof.Rows L2
/-! ## in, not in over data -/
def rInD (K : PySem.W.Frag) (neg : Bool) : R2 := fun x y H Q => ∃ d es, Dp K H x d ∧ (Dp K H y (.list es) ∨ Dp K H y (.tuple es)) ∧ SeqAt.shaped d = true ∧ PyData.canLayAll0 es = true ∧ PyData.depthAll es ≤ 60 ∧ Q (.bl (if neg = true then !es.any (fun z => PyData.eqv z d) else es.any fun z => PyData.eqv z d)) H
theorem op_inD {X : Cx} (hu : X.A.units + 64 < cLine) : OpR X (compareOp .In) (rInD X.K false) := by
  intro pins s σ H x y v u Q I rx ry h
  obtain ⟨d, es, hd, hy, sd, hc, hz, q⟩ := h
  obtain ⟨as, r1⟩ := Dp.reads I d x v hd rx
  have room : X.A.units + 1 + min (PyData.depthAll es) d.depth < cLine := by
    have : min (PyData.depthAll es) d.depth ≤ 60 := Nat.le_trans (Nat.min_le_left _ _) hz
    omega
  rcases hy with hy | hy
  · obtain ⟨bs, r2⟩ := Dp.reads I _ y u hy ry
    exact SeqAt.in_list_reads r2 r1 hc (SeqAt.canLay_of_shaped sd) room ⟨.bl _, H, I, rfl, q⟩
  · obtain ⟨bs, r2⟩ := Dp.reads I _ y u hy ry
    exact SeqAt.in_tuple_reads r2 r1 hc (SeqAt.canLay_of_shaped sd) room ⟨.bl _, H, I, rfl, q⟩
theorem op_notInD {X : Cx} (hu : X.A.units + 64 < cLine) : OpR X (compareOp .NotIn) (rInD X.K true) := by
  intro pins s σ H x y v u Q I rx ry h
  obtain ⟨d, es, hd, hy, sd, hc, hz, q⟩ := h
  obtain ⟨as, r1⟩ := Dp.reads I d x v hd rx
  have room : X.A.units + 1 + min (PyData.depthAll es) d.depth < cLine := by
    have : min (PyData.depthAll es) d.depth ≤ 60 := Nat.le_trans (Nat.min_le_left _ _) hz
    omega
  rcases hy with hy | hy
  · obtain ⟨bs, r2⟩ := Dp.reads I _ y u hy ry
    exact SeqAt.notIn_list_reads r2 r1 hc (SeqAt.canLay_of_shaped sd) room ⟨.bl _, H, I, rfl, q⟩
  · obtain ⟨bs, r2⟩ := Dp.reads I _ y u hy ry
    exact SeqAt.notIn_tuple_reads r2 r1 hc (SeqAt.canLay_of_shaped sd) room ⟨.bl _, H, I, rfl, q⟩
section
variable {K : PySem.W.Frag} {S : Sta} {ds : List Dt} {d : Dt}
theorem rv_inD {x : Dt} {ys : List Dt} {neg : Bool} (hx : cmpOk x = true) (hy : purA ys = true) (hc : PyData.canLayAll0 (pyA ys) = true) (hz : PyData.depthAll (pyA ys) ≤ 60) : Rv2 K S (rInD K neg) x (.lst ys) (Eq (.bl (if neg = true then !(pyA ys).any (fun z => PyData.eqv z (py x)) else (pyA ys).any fun z => PyData.eqv z (py x)))) := rv_at fun H v u _ r1 r2 Q q => by
  simp only [cmpOk, Bool.and_eq_true] at hx
  exact ⟨_, _, r1.dp hx.1, .inl (by have := r2.dp (d := .lst ys) (by unfold pur; exact hy); unfold py at this; exact this), hx.2, hc, hz, q _ (.bl _)⟩
/-! ### what is due -/
def dueD (d : Dt) : Dt := tabPart d
/-- parts as they are drawn: scalars, or tuples and lists of scalars -/
def parT (d : Dt) : Prop := okN d = true ∧ ∀ xs, d = .tup xs → xs.length ≤ 1000 ∧ ∀ x ∈ xs, scal x = true
abbrev t__law_due (K : PySem.W.Frag) : TS := (tSeq (tIfS (tOr (tNot (tB (tCB (rIsi K) (tCons (tVar 0) (tCons (tC (.ty "tuple")) tNil))))) (tOr (tTest (tOp (rIn K true) (tCB (rLen K) (tCons (tVar 0) tNil)) (tTup (tCons (tC (.int 3)) (tCons (tC (.int 6)) tNil))))) (tNot (tB (tCB (rIsi K) (tCons (tOp (rIx K) (tVar 0) (tC (.int 0))) (tCons (tC (.ty "str")) tNil))))))) (tRet (tC (.str "form"))) tNext)
    (tSeq (tIfS (tTest (tOp (rInD K true) (tLst (tCons (tOp (rIx K) (tVar 0) (tC (.int 0))) (tCons (tCB (rLen K) (tCons (tVar 0) tNil)) tNil))) (tLst (tCons (tLst (tCons (tC (.str "pairs")) (tCons (tC (.int 6)) tNil))) (tCons (tLst (tCons (tC (.str "halves")) (tCons (tC (.int 3)) tNil))) tNil))))) (tRet (tC (.str "form"))) tNext)
    (tSeq (tIfS (tTest (tOp rEq (tOp (rIx K) (tVar 0) (tC (.int 0))) (tC (.str "halves")))) (tSeq (tIfS (tNot (tB (tCall (p__law_is_whole K) [] E0 (tCons (tOp (rIx K) (tVar 0) (tC (.int 1))) (tCons (tC (.int 1)) (tCons (tC (.int 99999)) tNil)))))) (tRet (tC (.str "unit"))) tNext)
    (tRet (tIf (tB (tCall (p__law_is_whole K) [] E0 (tCons (tOp (rIx K) (tVar 0) (tC (.int 2))) (tCons (tC (.int 1)) (tCons (tC (.int 8)) tNil))))) (tC .non) (tC (.str "bits"))))) tNext)
    (tSeq (tIfS (tNot (tB (tCall (p__law_are_sizes K) [] E0 (tCons (tOp (rIx K) (tVar 0) (tC (.int 1))) (tCons (tTup (tCons (tC (.int 0)) (tCons (tC (.int 2)) (tCons (tC (.int 4)) tNil)))) tNil))))) (tRet (tC (.str "header"))) tNext)
    (tSeq (tIfS (tNot (tB (tCall (p__law_are_sizes K) [] E0 (tCons (tOp (rIx K) (tVar 0) (tC (.int 2))) (tCons (tTup (tCons (tC (.int 2)) tNil)) tNil))))) (tRet (tC (.str "zero"))) tNext)
    (tSeq (tIfS (tOr (tNot (tB (tCall (p__law_are_sizes K) [] E0 (tCons (tOp (rIx K) (tVar 0) (tC (.int 3))) (tCons (tTup (tCons (tC (.int 2)) tNil)) tNil))))) (tTest (tOp (rEqD K) (tOp (rIx K) (tVar 0) (tC (.int 3))) (tOp (rIx K) (tVar 0) (tC (.int 2)))))) (tRet (tC (.str "one"))) tNext)
    (tSeq (tIfS (tNot (tB (tCall (p__law_is_whole K) [] E0 (tCons (tOp (rIx K) (tVar 0) (tC (.int 4))) (tCons (tC (.int 1)) (tCons (tC (.int 99999)) tNil)))))) (tRet (tC (.str "stop"))) tNext)
    (tRet (tIf (tB (tCall (p__law_is_whole K) [] E0 (tCons (tOp (rIx K) (tVar 0) (tC (.int 5))) (tCons (tC (.int 1)) (tCons (tC (.int 8)) tNil))))) (tC .non) (tC (.str "bits")))))))))))
theorem ev__law_are_sizes {S1 : Sta} {ρ : List (Option Dt)} {ta tb : TE} {x : Dt} {ns : List Int} (h : Ev K S S ρ ta (Eq x)) (hx : parT x) (h2 : Ev K S S1 ρ tb (Eq (tI ns))) : Ev K S S1 ρ (tCall (p__law_are_sizes K) [] E0 (tCons ta (tCons tb tNil))) (Eq (.bl (sizesD x ns))) :=
  ev_callR (ea_cons h (ea_cons h2 ea_nil)) rfl ⟨x, ns, rfl, hx.1, hx.2, rfl⟩
end
end Bf
namespace Bf
open PySem PySem.Spec PyProof.Rows L2
/-- values as they are drawn -/
def valT (d : Dt) : Prop := okN d = true ∧ ∀ xs, d = .tup xs → xs.length ≤ 1000 ∧ ∀ x ∈ xs, parT x ∧ ∀ s : Str, x = .str s → scal x = true
theorem sizes_header {h : Dt} : (areD h && len024 h) = sizesD h [0, 2, 4] := by
  cases h with
  | tup xs => simp only [areD, len024, sizesD, Bool.and_comm]
  | _ => rfl
theorem sizes_pair {h : Dt} : isPG h = sizesD h [2] := by
  cases h with
  | tup xs =>
    simp only [isPG, areD, sizesD, List.mem_singleton]
    rw [Bool.and_comm]
  | _ => rfl
theorem sizes_ints {d : Dt} {ns : List Int} (h : sizesD d ns = true) : ∃ xs, d = .tup xs ∧ ∀ x ∈ xs, scal x = true := by
  cases d with
  | tup xs =>
    refine ⟨xs, rfl, fun x hx => ?_⟩
    simp only [sizesD, Bool.and_eq_true, List.all_eq_true] at h
    have := h.2 x hx
    cases x <;> simp [isWF] at this <;> rfl
  | _ => simp [sizesD] at h
theorem scalT_cmp {xs : List Dt} (h : ∀ x ∈ xs, scal x = true) : cmpOk (.tup xs) = true := by
  have := (scal_cmp h).1
  simpa [cmpOk, pur, py, SeqAt.shaped, PyData.canLay0, PyData.depth] using this
theorem isStr_of {d : Dt} (h : isStrD d = true) : ∃ s, d = .str s := by
  cases d <;> simp [isStrD] at h
  exact ⟨_, rfl⟩
def r_due (ds : List Dt) (a : Dt) : Prop := ∃ d, ds = [d] ∧ valT d ∧ a = tabPart d
abbrev p__law_due (K : PySem.W.Frag) : Sp := spR K 1 r_due
theorem forms (s : Str) (n : Int) : ((pyA [.lst [.str "pairs", .int 6], .lst [.str "halves", .int 3]]).any fun z => PyData.eqv z (py (.lst [.str s, .int n]))) = (decide (s = "pairs" ∧ n = 6) || decide (s = "halves" ∧ n = 3)) := by
  simp only [pyA, py, List.any_cons, List.any_nil, Bool.or_false, PyData.eqv, PyData.eqvAll, Bool.and_true]
  rw [Bool.eq_iff_iff]
  simp only [Bool.or_eq_true, Bool.and_eq_true, decide_eq_true_eq, beq_iff_eq]
  constructor
  · rintro (⟨h1, h2⟩ | ⟨h1, h2⟩)
    · exact .inl ⟨h1.symm, h2.symm⟩
    · exact .inr ⟨h1.symm, h2.symm⟩
  · rintro (⟨h1, h2⟩ | ⟨h1, h2⟩)
    · exact .inl ⟨h1.symm, h2.symm⟩
    · exact .inr ⟨h1.symm, h2.symm⟩
section
variable {K : PySem.W.Frag} {S : Sta} {ds : List Dt} {d : Dt}
theorem so__law_due (hp : r_due ds d) : So K S S [] (t__law_due K) (startD 1 ds) (Pu d) := by
  obtain ⟨x, rfl, ⟨hx, hv⟩, rfl⟩ := hp
  -- no tuple
  by_cases ht : ∃ xs, x = .tup xs
  · obtain ⟨xs, rfl⟩ := ht
    obtain ⟨hl, hps⟩ := hv xs rfl
    by_cases hlen : (xs.length : Int) = 3 ∨ (xs.length : Int) = 6
    · have hfst : ∃ x0 rs, xs = x0 :: rs := by
        cases xs with
        | nil => simp at hlen
        | cons x rs => exact ⟨x, rs, rfl⟩
      obtain ⟨x0, rs, rfl⟩ := hfst
      have hp0 := hps x0 List.mem_cons_self
      have hin : ((x0 :: rs).length : Int) ∈ ([3, 6] : List Int) := by simpa using hlen
      have c1 : EvT K S S [some (.tup (x0 :: rs))] (tOr (tNot (tB (tCB (rIsi K) (tCons (tVar 0) (tCons (tC (.ty "tuple")) tNil))))) (tOr (tTest (tOp (rIn K true) (tCB (rLen K) (tCons (tVar 0) tNil)) (tTup (tCons (tC (.int 3)) (tCons (tC (.int 6)) tNil))))) (tNot (tB (tCB (rIsi K) (tCons (tOp (rIx K) (tVar 0) (tC (.int 0))) (tCons (tC (.ty "str")) tNil))))))) (Eq (!isStrD x0)) :=
        et_orF (et_notT ((et_B (ev_isTup (ev_var rfl) hx)).to rfl)) (et_orF ((et_test (ev_op (ev_lenT (ev_var rfl)) (ev_tup (ds := [Dt.int 3, .int 6]) (ea_cons ev_int (ea_cons ev_int ea_nil)) (by show 2 ≤ sizeLine; decide)) (rv_notInT (ns := [3, 6])))).to (by rw [decide_eq_true hin]; rfl)) (et_not (et_B (ev_isStr (ev_ixT (ev_var rfl) ev_int (atI_nat (j := 0) rfl)) hp0.1.1))))
      by_cases hs : isStrD x0 = true
      · obtain ⟨s, rfl⟩ := isStr_of hs
        refine so_ifF (c1.to rfl) (so_skip ?_)
        have hsc := hp0.2 s rfl
        have hl0 : ∀ y ∈ [Dt.str s, .int ((Dt.str s :: rs).length : Nat)], scal y = true := fun y hy => by
          simp only [List.mem_cons, List.not_mem_nil, or_false] at hy
          rcases hy with rfl | rfl
          · exact hsc
          · rfl
        have c2 : EvT K S S [some (.tup (.str s :: rs))] (tTest (tOp (rInD K true) (tLst (tCons (tOp (rIx K) (tVar 0) (tC (.int 0))) (tCons (tCB (rLen K) (tCons (tVar 0) tNil)) tNil))) (tLst (tCons (tLst (tCons (tC (.str "pairs")) (tCons (tC (.int 6)) tNil))) (tCons (tLst (tCons (tC (.str "halves")) (tCons (tC (.int 3)) tNil))) tNil))))) _ := et_test (ev_op (ev_lst (ea_cons (ev_ixT (ev_var rfl) ev_int (atI_nat (j := 0) rfl)) (ea_cons (ev_lenT (ev_var rfl)) ea_nil)) (by show 2 ≤ sizeLine; decide)) (ev_lst (ds := [.lst [.str "pairs", .int 6], .lst [.str "halves", .int 3]]) (ea_cons (ev_lst (ea_cons ev_str (ea_cons ev_int ea_nil)) (by show 2 ≤ sizeLine; decide)) (ea_cons (ev_lst (ea_cons ev_str (ea_cons ev_int ea_nil)) (by show 2 ≤ sizeLine; decide)) ea_nil)) (by show 2 ≤ sizeLine; decide)) (rv_inD (neg := true) (scal_cmp hl0).1 rfl (by decide +kernel) (by decide +kernel)))
        have c2' := c2.to (show _ = !(decide (s = "pairs" ∧ ((Dt.str s :: rs).length : Int) = 6) || decide (s = "halves" ∧ ((Dt.str s :: rs).length : Int) = 3)) by rw [if_pos rfl, forms])
        by_cases k6 : s = "pairs" ∧ ((Dt.str s :: rs).length : Int) = 6
        · obtain ⟨rfl, k6⟩ := k6
          obtain ⟨h, z, o, st, b, rfl⟩ : ∃ h z o st b, rs = [h, z, o, st, b] := by
            match rs, k6 with
            | [h, z, o, st, b], _ => exact ⟨h, z, o, st, b, rfl⟩
            | [], k6 => simp at k6
            | [_], k6 => simp at k6
            | [_, _], k6 => simp at k6
            | [_, _, _], k6 => simp at k6
            | [_, _, _, _], k6 => simp at k6
            | _ :: _ :: _ :: _ :: _ :: _ :: l, k6 => simp at k6; omega
          have ph : parT h := (hps h (by simp)).1
          have pz : parT z := (hps z (by simp)).1
          have po : parT o := (hps o (by simp)).1
          have pst : parT st := (hps st (by simp)).1
          have pb : parT b := (hps b (by simp)).1
          have hW : tabPart (.tup [.str "pairs", h, z, o, st, b]) = wrongP [.str "pairs", h, z, o, st, b] := if_pos (by simp [bwD])
          rw [hW]
          refine so_ifF (c2'.to (by simp)) (so_skip ?_)
          refine so_ifF ((et_test (ev_op (ev_ixT (ev_var rfl) ev_int (atI_nat (j := 0) rfl)) ev_str rv_eqS)).to (by decide +kernel)) (so_skip ?_)
          refine so_ifD (et_not (et_B (ev__law_are_sizes (ev_ixT (d := h) (ev_var rfl) ev_int (atI_nat (j := 1) rfl)) ph (ns := [0, 2, 4]) (ev_tup (ds := [Dt.int 0, .int 2, .int 4]) (ea_cons ev_int (ea_cons ev_int (ea_cons ev_int ea_nil))) (by show 3 ≤ sizeLine; decide))))) (fun e1 => so_ret1D ev_str (Sta.Le.refl S) (if_pos (by rw [sizes_header]; exact e1))) fun e1 => so_skip ?_
          have n1 : ¬ ((!(areD h && len024 h)) = true) := by rw [sizes_header, e1]; decide
          refine so_ifD (et_not (et_B (ev__law_are_sizes (ev_ixT (d := z) (ev_var rfl) ev_int (atI_nat (j := 2) rfl)) pz (ns := [2]) (ev_tup (ds := [Dt.int 2]) (ea_cons ev_int ea_nil) (by show 1 ≤ sizeLine; decide))))) (fun e2 => so_ret1D ev_str (Sta.Le.refl S) ((if_neg n1).trans (if_pos (by rw [sizes_pair]; exact e2)))) fun e2 => so_skip ?_
          have n2 : ¬ ((!isPG z) = true) := by rw [sizes_pair, e2]; decide
          have e2' : sizesD z [2] = true := by simpa using e2
          refine so_ifD (k := !isPG o || PyData.eqv (py o) (py z)) ((et_or (et_not (et_B (ev__law_are_sizes (ev_ixT (d := o) (ev_var rfl) ev_int (atI_nat (j := 3) rfl)) po (ns := [2]) (ev_tup (ds := [Dt.int 2]) (ea_cons ev_int ea_nil) (by show 1 ≤ sizeLine; decide))))) fun e => et_test (ev_op (ev_ixT (d := o) (ev_var rfl) ev_int (atI_nat (j := 3) rfl)) (ev_ixT (d := z) (ev_var rfl) ev_int (atI_nat (j := 2) rfl)) (rv_eqD ?_ ?_))).to (by rw [sizes_pair])) (fun e3 => so_ret1D ev_str (Sta.Le.refl S) ((if_neg n1).trans ((if_neg n2).trans (if_pos e3)))) fun e3 => so_skip ?_
          · have e' : sizesD o [2] = true := by simpa using e
            obtain ⟨ys, rfl, hys⟩ := sizes_ints e'
            exact scalT_cmp hys
          · obtain ⟨ys, rfl, hys⟩ := sizes_ints e2'
            exact scalT_cmp hys
          have n3 : ¬ ((!isPG o || PyData.eqv (py o) (py z)) = true) := by rw [e3]; decide
          refine so_ifD (et_not (et_B (ev__law_is_whole (ev_ixT (d := st) (ev_var rfl) ev_int (atI_nat (j := 4) rfl)) pst.1))) (fun e4 => so_ret1D ev_str (Sta.Le.refl S) ((if_neg n1).trans ((if_neg n2).trans ((if_neg n3).trans (if_pos e4))))) fun e4 => so_skip ?_
          have n4 : ¬ ((!isWF st 1 99999) = true) := by rw [e4]; decide
          refine so_retD (d := wrongP [.str "pairs", h, z, o, st, b]) (ev_if (et_B (ev__law_is_whole (ev_ixT (d := b) (ev_var rfl) ev_int (atI_nat (j := 5) rfl)) pb.1)) (fun e5 => ev_non.to ?_) fun e5 => ev_str.to ?_) (Sta.Le.refl S) rfl
          · exact ((if_neg n1).trans ((if_neg n2).trans ((if_neg n3).trans ((if_neg n4).trans (if_neg (by rw [e5]; decide)))))).symm
          · exact ((if_neg n1).trans ((if_neg n2).trans ((if_neg n3).trans ((if_neg n4).trans (if_pos (by rw [e5]; rfl)))))).symm
        · by_cases k3 : s = "halves" ∧ ((Dt.str s :: rs).length : Int) = 3
          · obtain ⟨rfl, k3⟩ := k3
            obtain ⟨u, b, rfl⟩ : ∃ u b, rs = [u, b] := by
              match rs, k3 with
              | [u, b], _ => exact ⟨u, b, rfl⟩
              | [], k3 => simp at k3
              | [_], k3 => simp at k3
              | _ :: _ :: _ :: l, k3 => simp at k3; omega
            have pu : parT u := (hps u (by simp)).1
            have pb : parT b := (hps b (by simp)).1
            have hW : tabPart (.tup [.str "halves", u, b]) = wrongH [.str "halves", u, b] := (if_neg (by simp [bwD])).trans (if_pos (by simp [bwD]))
            rw [hW]
            refine so_ifF (c2'.to (by simp)) (so_skip ?_)
            refine so_ifT ((et_test (ev_op (ev_ixT (ev_var rfl) ev_int (atI_nat (j := 0) rfl)) ev_str rv_eqS)).to (by decide +kernel)) ?_
            refine so_assoc (so_ifD (et_not (et_B (ev__law_is_whole (ev_ixT (d := u) (ev_var rfl) ev_int (atI_nat (j := 1) rfl)) pu.1))) (fun e4 => so_ret1D ev_str (Sta.Le.refl S) (if_pos e4)) fun e4 => so_skip ?_)
            have n4 : ¬ ((!isWF u 1 99999) = true) := by rw [e4]; decide
            refine so_ret1D (d := wrongH [.str "halves", u, b]) (ev_if (et_B (ev__law_is_whole (ev_ixT (d := b) (ev_var rfl) ev_int (atI_nat (j := 2) rfl)) pb.1)) (fun e5 => ev_non.to ?_) fun e5 => ev_str.to ?_) (Sta.Le.refl S) rfl
            · exact ((if_neg n4).trans (if_neg (by rw [e5]; decide))).symm
            · exact ((if_neg n4).trans (if_pos (by rw [e5]; rfl))).symm
          · have hform : tabPart (.tup (.str s :: rs)) = .str "form" := by
              rw [tabPart, if_neg (fun z => k6 ?_), if_neg (fun z => k3 ?_)]
              · simp only [bwD, Bool.and_eq_true, decide_eq_true_eq] at z
                exact ⟨z.2, by simpa using z.1⟩
              · simp only [bwD, Bool.and_eq_true, decide_eq_true_eq] at z
                exact ⟨z.2, by simpa using z.1⟩
            exact so_ifT (c2'.to (by rw [decide_eq_false k6, decide_eq_false k3]; rfl)) (so_ret1D ev_str (Sta.Le.refl S) hform)
      · have hs' : isStrD x0 = false := by simpa using hs
        have hform : tabPart (.tup (x0 :: rs)) = .str "form" := by
          cases x0 with
          | str => simp [isStrD] at hs'
          | _ => rfl
        exact so_ifT (c1.to (by rw [hs']; rfl)) (so_ret1D ev_str (Sta.Le.refl S) hform)
    · have hform : tabPart (.tup xs) = .str "form" := by
        have h1 : bwD (.tup xs) "pairs" 6 = false := by
          cases e : bwD (.tup xs) "pairs" 6 with
          | false => rfl
          | true =>
            obtain ⟨ys, e1, e2⟩ := bwD_shape e
            cases e1
            exact absurd (.inr e2) hlen
        have h2 : bwD (.tup xs) "halves" 3 = false := by
          cases e : bwD (.tup xs) "halves" 3 with
          | false => rfl
          | true =>
            obtain ⟨ys, e1, e2⟩ := bwD_shape e
            cases e1
            exact absurd (.inl e2) hlen
        rw [tabPart, if_neg (by rw [h1]; decide), if_neg (by rw [h2]; decide)]
      refine so_ifT (et_orF (et_notT ((et_B (ev_isTup (ev_var rfl) hx)).to rfl)) (et_orT ((et_test (ev_op (ev_lenT (ev_var rfl)) (ev_tup (ds := [Dt.int 3, .int 6]) (ea_cons ev_int (ea_cons ev_int ea_nil)) (by show 2 ≤ sizeLine; decide)) (rv_notInT (ns := [3, 6])))).to ?_))) (so_ret1D ev_str (Sta.Le.refl S) hform)
      simpa using hlen
  · have hform : tabPart x = .str "form" := by
      cases x with
      | tup xs => exact absurd ⟨xs, rfl⟩ ht
      | _ => rfl
    have hT : isTupD x = false := by
      cases x with
      | tup xs => exact absurd ⟨xs, rfl⟩ ht
      | _ => rfl
    exact so_ifT (et_orT (et_notF ((et_B (ev_isTup (ev_var rfl) hx)).to hT))) (so_ret1D ev_str (Sta.Le.refl S) hform)
end
end Bf
namespace Bf
open PySem PySem.Spec PyProof.Rows L2
/-! ## a tuple backwards; a tuple many times -/
theorem adjust_rev (n : Nat) : Builtin.Slice.sliceAdjust none none (-1) (n : Int) = ((n : Int) - 1, -1) := by
  unfold Builtin.Slice.sliceAdjust
  simp
theorem places_rev (n : Nat) : Builtin.Slice.slicePlaces ((n : Int) - 1) (-1) (-1) = n := by
  unfold Builtin.Slice.slicePlaces
  have h1 : ¬ ((-1 : Int) > 0) := by omega
  have h2 : (- -1 : Int) = 1 := rfl
  simp only [h1, if_false, h2, Int.ediv_one]
  split <;> omega
theorem fm_map {α β : Type} {f : α → Option β} {g : α → β} : ∀ {l : List α}, (∀ m ∈ l, f m = some (g m)) → l.filterMap f = l.map g
  | [], _ => rfl
  | m :: l, h => by rw [List.filterMap_cons, h m List.mem_cons_self, List.map_cons, fm_map fun x hx => h x (List.mem_cons_of_mem _ hx)]
theorem pick_rev (xs : Array Value) : ((List.range xs.size).filterMap fun (m : Nat) => xs[(((xs.size : Int) - 1) + (m : Int) * (-1)).toNat]?).toArray = xs.toList.reverse.toArray := by
  congr 1
  rw [fm_map (g := fun m => xs.toList.reverse.getD m .none) fun m hm => ?_]
  · apply List.ext_getElem?
    intro i
    by_cases hi : i < xs.size
    · rw [List.getElem?_map, List.getElem?_range hi, List.getElem?_eq_getElem (by simpa using hi)]
      simp [hi]
    · rw [List.getElem?_eq_none (by simpa using hi), List.getElem?_eq_none (by simpa using hi)]
  · have hm' := List.mem_range.mp hm
    have e2 : (((xs.size : Int) - 1) + (m : Int) * (-1)).toNat = xs.size - 1 - m := by omega
    show xs[(((xs.size : Int) - 1) + (m : Int) * (-1)).toNat]? = _
    rw [e2, Array.getElem?_eq_getElem (by omega)]
    simp [hm']
section
variable {prog : Program} {w : World} {A : Around} {E : Value → Shared → Prop} {s : Shared}
theorem sliceApplied_rev {sl : Addr} {vs : Value} {n : Nat} {Q : Int × Int × Nat → Shared → Prop} (hs : s.heap.IsSliceOf sl .none .none vs) (ps : IsPart vs (some (-1)))
    (h : Q ((n : Int) - 1, -1, n) s) : wpAny (model prog w) A (Builtin.Slice.sliceApplied (.ref sl) (pure (n : Int))) Q E s := by
  obtain ⟨os, hos, hcs, hds⟩ := id hs
  unfold Builtin.Slice.sliceApplied Builtin.Slice.sliceFields
  refine wpAny_bind (wpAny_bind (wpAny_field hos hds (x := .none) rfl (wpAny_bind (wpAny_field hos hds (x := .none) rfl (wpAny_bind (wpAny_field hos hds (x := vs) rfl (wpAny_pure ?_)))))))
  refine wpAny_bind (HT.slicePart_ ps ?_)
  show wpAny _ _ (if ((-1 : Int) == 0) = true then _ else _) _ _ s
  rw [if_neg (by decide)]
  refine wpAny_bind (HT.slicePart_ .none (wpAny_bind (HT.slicePart_ .none (wpAny_bind (wpAny_pure ?_)))))
  show wpAny _ _ (match Builtin.Slice.sliceAdjust none none (-1) (n : Int) with | (lo, hi) => pure (lo, (-1 : Int), Builtin.Slice.slicePlaces lo hi (-1))) _ _ s
  rw [adjust_rev n]
  show wpAny _ _ (pure ((n : Int) - 1, (-1 : Int), Builtin.Slice.slicePlaces ((n : Int) - 1) (-1) (-1))) _ _ s
  rw [places_rev]
  exact wpAny_pure h
theorem getItem_tuple_rev {t sl : Addr} {items : Array Value} {vs : Value} {Q : Value → Shared → Prop} (ht : IsTup s.heap t items) (hs : s.heap.IsSliceOf sl .none .none vs) (ps : IsPart vs (some (-1)))
    (h : Q (.ref s.heap.objs.size) { s with heap := s.heap.push { cls := .type "tuple", data := .seq items.toList.reverse.toArray } })
    (hsz : items.size ≤ sizeLine) : wpAny (model prog w) A (getItem (.ref t) (.ref sl)) Q E s := by
  have htake : sizeOk (.seq items.toList.reverse.toArray) := by
    show items.toList.reverse.toArray.size ≤ sizeLine
    rw [List.size_toArray, List.length_reverse, Array.length_toList]
    exact hsz
  obtain ⟨os, hos, hcs, hds⟩ := id hs
  have hTs : s.TypeIs (.ref sl) "slice" := ⟨os, hos, hcs⟩
  unfold getItem
  try with_reducible refine wpAny_holding ?_
  first | refine wpAny_bind (wpAny_pure ?_) | skip
  refine wpAny_bind (wpAny_sequenceKey ht.typeIs (by decide) ?_)
  refine wpAny_bind (wpAny_callSpecial?_slot (name := Str.ofString "__getitem__") ht.typeIs PyProof.Rows.slot_tuple_getitem
    (wpAny_call_entry PyProof.Rows.slot_tuple_getitem ht.typeIs entry_tuple_getitem ?_ (args_tuple_getitem _ _)))
  show wpAny _ _ (Builtin.Tuple.tupleItemsOf (.ref t) >>= _) _ _ s
  refine wpAny_bind (tupleItemsOf_ ht ?_)
  refine wpAny_bind (wpAny_typeOf hTs ?_)
  rw [if_pos (by decide)]
  refine wpAny_bind (sliceApplied_rev hs ps ?_)
  have hno : ¬ (((((items.size : Nat) : Int) - 1) == 0 && (-1 : Int) == 1 && items.size == items.size) = true) := by
    simp
  show wpAny _ _ (if ((((items.size : Nat) : Int) - 1) == 0 && (-1 : Int) == 1 && items.size == items.size) = true then _ else _) _ _ s
  rw [if_neg hno, pick_rev]
  first
    | exact wpAny_bind (m := Builtin.Tuple.tupleExact _) (wpAny_newObj_type (wpAny_pure ⟨_, rfl, wpAny_pure h⟩) htake)
    | exact wpAny_bind (m := Builtin.Tuple.tupleExact _) (wpAny_newObj_type (wpAny_bind (wpAny_pure (wpAny_pure ⟨_, rfl, wpAny_pure h⟩))) htake)
    | exact wpAny_bind (wpAny_bind (m := Builtin.Tuple.tupleExact _) (wpAny_newObj_type (wpAny_pure (wpAny_pure ⟨_, rfl, wpAny_pure h⟩)) htake))
    | exact wpAny_bind (wpAny_bind (m := Builtin.Tuple.tupleExact _) (wpAny_newObj_type (wpAny_pure ⟨_, rfl, wpAny_pure h⟩) htake))
end
/-- t[::-1], t a tuple -/
def tRevT (K : PySem.W.Frag) (te : TE) : TE := fun σ H Q => te σ H fun x H1 => ∃ a xs, x = .ref a ∧ SqT K H1 a xs ∧ ∀ p, H1 p = none → Q (.ref p) (upd H1 p (.tup xs.reverse))
theorem pe_revT {X : Cx} {e : Expr} {te : TE} {k : Nat} {p1 p2 p3 pos : Pos} (he : PE X e te) : PE X (.Subscript e (.Slice none none (some (.UnaryOp .USub (.Constant (.int 1) k p1) p2)) p3) pos) (tRevT X.K te) := by
  refine ⟨fun pins s σ H Q I h => ?_⟩
  refine Subscript_ (thn (he.run pins s σ H _ I h) fun v s1 ⟨x, H1, I1, r1, q1⟩ => ?_)
  obtain ⟨a, xs, ex, hx, q⟩ := q1
  subst ex
  cases r1
  have hst : L2.PO X (some (.UnaryOp .USub (.Constant (.int 1) k p1) p2)) (tPart (tUn (rU fun i => .int (-i)) (tC (.int 1)))) := po_some (pe_un un_neg pe_int)
  refine wpAny_Slice (thn (po_none.run pins s1 σ H1 (fun o H2 => o = none ∧ H2 = H1) I1 ⟨rfl, rfl⟩) fun vl s2 ⟨l, H2, I2, pl, el, e2⟩ => ?_)
  subst el e2
  refine thn (po_none.run pins s2 σ H2 (fun o H3 => o = none ∧ H3 = H2) I2 ⟨rfl, rfl⟩) fun vu s3 ⟨u, H3, I3, pu, eu, e3⟩ => ?_
  subst eu e3
  refine thn (hst.run pins s3 σ H3 (fun o H4 => o = some (-1) ∧ H4 = H3) I3 ⟨1, rfl, -1, rfl, rfl, rfl⟩) fun vs s4 ⟨o, H4, I4, ps, eo, e4⟩ => ?_
  subst eo e4
  cases pl
  cases pu
  have I5 : Inv X pins σ H4 { s4 with heap := s4.heap.push { cls := .type "slice", data := .fields #[.none, .none, vs] } } := I4.kept (t' := s4.toks) fun b ob q => Heap.get?_push_of_some _ q
  obtain ⟨its, r, ht, hz⟩ := I5.tuple hx
  have hlen := r.length
  show wpAny (model X.prog X.w) X.A (subscriptTail e (.Slice none none (some (.UnaryOp .USub (.Constant (.int 1) k p1) p2)) p3) (.ref a) (.ref s4.heap.objs.size)) (EP X pins σ Q) X.xe { s4 with heap := s4.heap.push { cls := .type "slice", data := .fields #[.none, .none, vs] } }
  refine tail_any (ops := [.ref a, .ref s4.heap.objs.size]) ht.typeIs (PyProof.Rows.slot_tuple_getitem.lookup) ?_ (by with_unfolding_all rfl)
  refine getItem_tuple_rev ht (Heap.IsSliceOf.new _ .none .none vs) ps ?_ (by rw [List.size_toArray]; omega)
  refine ⟨.ref _, _, I5.laid (t' := s4.toks) (o := .tup xs.reverse) (fun b ob q => Heap.get?_push_of_some _ q) (Nat.le_refl _) ?_, rfl, q _ (I5.hok.fresh (Nat.le_refl _))⟩
  exact ⟨by rw [List.length_reverse]; exact hz, _, r.reverse, IsTup.new _ _⟩
theorem RepA.rev {K : PySem.W.Frag} {H : Hp} : ∀ {vs : List V} {ds : List Dt}, RepA K H vs ds → RepA K H vs.reverse ds.reverse
  | _, _, .nil => .nil
  | _, _, .cons h r => by
    rw [List.reverse_cons, List.reverse_cons]
    exact r.rev.app (.cons h .nil)
theorem RepA.rep {K : PySem.W.Frag} {H : Hp} {vs : List V} {ds : List Dt} (r : RepA K H vs ds) : ∀ n : Nat, RepA K H (List.replicate n vs).flatten (List.replicate n ds).flatten
  | 0 => .nil
  | n + 1 => by
    rw [List.replicate_succ, List.replicate_succ, List.flatten_cons, List.flatten_cons]
    exact r.app (r.rep n)
section
variable {K : PySem.W.Frag} {S S1 : Sta} {ρ : List (Option Dt)} {te : TE} {xs : List Dt}
theorem ev_revT (h : Ev K S S1 ρ te (Eq (.tup xs))) : Ev K S S1 ρ (tRevT K te) (Eq (.tup xs.reverse)) := fun σ H i s Q q =>
  h σ H i s _ fun v d H1 g1 i1 r1 e => by
    subst e
    obtain ⟨a, us, rfl, ht, ra⟩ := r1.tupI
    exact ⟨a, us, rfl, ht, fun p hp => q _ _ _ (g1.trans (same_new hp).gr) (S1.st i1 (same_new hp)) (.tup (SqT.of upd_same) (ra.rev.mono (same_new hp).gr)) rfl⟩
theorem rv_repT {k : Nat} (hx : xs ≠ []) (h2 : 2 ≤ k) (h3 : k ≤ 1000) (h4 : xs.length ≤ 1000) : Rv2 K S (rRepT K) (.tup xs) (.int k) (Eq (.tup (List.replicate k xs).flatten)) := fun H v u i r1 r2 Q q => by
  obtain ⟨a, vs, rfl, ht, ra⟩ := r1.tupI
  obtain rfl := r2.intI
  refine ⟨a, _, vs, rfl, rfl, ht, fun e => ?_, by omega, by omega, by rw [ra.len]; exact h4, fun p hp => ?_⟩
  · rw [e] at ra
    cases ra
    exact hx rfl
  · rw [Int.toNat_natCast]
    exact q _ _ _ (same_new hp).gr (S.st i (same_new hp)) (.tup (SqT.of upd_same) ((ra.rep k).mono (same_new hp).gr)) rfl
end
end Bf
namespace Bf
open PySem PySem.Spec PyProof.Rows L2
/-! ## tables with a part otherwise -/
/-- a part as it is drawn -/
def ptD (n : Nat) (d : Dt) : Prop := scal d = true ∨ ∃ xs, (d = .tup xs ∨ d = .lst xs) ∧ xs.length ≤ n ∧ ∀ x ∈ xs, scal x = true
/-- a value as it is drawn -/
def vlD (n : Nat) (d : Dt) : Prop := scal d = true ∨ d = .dic ∨ ∃ xs, (d = .tup xs ∨ d = .lst xs) ∧ xs.length ≤ 7 ∧ ∀ x ∈ xs, ptD n x
theorem ptD.mono {n m : Nat} {d : Dt} (h : ptD n d) (l : n ≤ m) : ptD m d := by
  rcases h with h | ⟨xs, e, hl, hs⟩
  · exact .inl h
  · exact .inr ⟨xs, e, by omega, hs⟩
theorem scal_pl {d : Dt} (h : scal d = true) : pl d = true := by cases d <;> simp [scal] at h <;> rfl
theorem ptD.okN {n : Nat} {d : Dt} (h : ptD n d) : okN d = true := by
  rcases h with h | ⟨xs, rfl | rfl, _, _⟩
  · exact scal_okN h
  · rfl
  · rfl
theorem ptD.pl {n : Nat} {d : Dt} (h : ptD n d) : pl d = true := by
  rcases h with h | ⟨xs, rfl | rfl, _, hs⟩
  · exact scal_pl h
  · unfold Bf.pl; exact plA_all.mpr fun x hx => scal_pl (hs x hx)
  · unfold Bf.pl; exact plA_all.mpr fun x hx => scal_pl (hs x hx)
theorem ptD.plS {n : Nat} {d : Dt} (h : ptD n d) (hn : n ≤ 100000) : plS d = true := by
  have hp := h.pl
  rcases h with h | ⟨xs, rfl | rfl, hl, hs⟩
  · cases d <;> simp [scal] at h <;> simp [Bf.plS, hp]
  · simp only [Bf.plS, hp, Bool.true_and, decide_eq_true_eq]; omega
  · simp [Bf.plS, hp]
theorem ptD.parT {n : Nat} {d : Dt} (h : ptD n d) (hn : n ≤ 1000) : parT d := ⟨h.okN, fun xs e => by
  subst e
  rcases h with h | ⟨ys, e | e, hl, hs⟩
  · simp [scal] at h
  · cases e; exact ⟨by omega, hs⟩
  · cases e⟩
theorem vlD.pl {n : Nat} {d : Dt} (h : vlD n d) : pl d = true := by
  rcases h with h | rfl | ⟨xs, rfl | rfl, _, hs⟩
  · exact scal_pl h
  · rfl
  · unfold Bf.pl; exact plA_all.mpr fun x hx => (hs x hx).pl
  · unfold Bf.pl; exact plA_all.mpr fun x hx => (hs x hx).pl
theorem vlD.plD {n : Nat} {d : Dt} (h : vlD n d) (hn : n ≤ 1000) : plD d := ⟨h.pl, fun xs e => by
  subst e
  rcases h with h | h | ⟨ys, e | e, hl, hs⟩
  · simp [scal] at h
  · cases h
  · cases e
    exact List.all_eq_true.mpr fun x hx => (hs x hx).plS (by omega)
  · cases e⟩
theorem vlD.valT {n : Nat} {d : Dt} (h : vlD n d) (hn : n ≤ 1000) : valT d := ⟨pl_okN h.pl, fun xs e => by
  subst e
  rcases h with h | h | ⟨ys, e | e, hl, hs⟩
  · simp [scal] at h
  · cases h
  · cases e
    refine ⟨by omega, fun x hx => ⟨(hs x hx).parT hn, fun s e => ?_⟩⟩
    subst e
    rcases hs _ hx with h | ⟨zs, e | e, _⟩
    · exact h
    · cases e
    · cases e
  · cases e⟩
theorem vl_tab {T : Tab} (h : T.ok) : vlD 6 T.d := by
  have pI : ∀ ns : List Int, ns.length ≤ 6 → ptD 6 (tI ns) := fun ns hl => .inr ⟨_, .inl rfl, by rw [List.length_map]; exact hl, fun x hx => by
    obtain ⟨y, _, rfl⟩ := List.mem_map.mp hx
    rfl⟩
  have sS : ∀ s : Str, (s = "pairs" ∨ s = "halves") → ptD 6 (.str s) := fun s hs => .inl (by rcases hs with rfl | rfl <;> decide +kernel)
  cases T with
  | ha u b => exact .inr (.inr ⟨_, .inl rfl, by show 3 ≤ 7; decide, fun x hx => by
      simp only [List.mem_cons, List.not_mem_nil, or_false] at hx
      rcases hx with rfl | rfl | rfl
      · exact sS _ (.inr rfl)
      · exact .inl rfl
      · exact .inl rfl⟩)
  | pa hd z1 z2 o1 o2 s b => exact .inr (.inr ⟨_, .inl rfl, by show 6 ≤ 7; decide, fun x hx => by
      simp only [List.mem_cons, List.not_mem_nil, or_false] at hx
      rcases hx with rfl | rfl | rfl | rfl | rfl | rfl
      · exact sS _ (.inl rfl)
      · exact pI hd (by have := h.1; omega)
      · exact pI _ (by show 2 ≤ 6; decide)
      · exact pI _ (by show 2 ≤ 6; decide)
      · exact .inl rfl
      · exact .inl rfl⟩)
/-! ### a value of which nothing is wrong is a right table -/
theorem wfs_of : ∀ {xs : List Dt}, (xs.all fun x => isWF x 1 99999) = true → ∃ ns : List Int, xs = ns.map Dt.int ∧ ∀ x ∈ ns, dur x
  | [], _ => ⟨[], rfl, fun _ h => nomatch h⟩
  | x :: xs, h => by
    simp only [List.all_cons, Bool.and_eq_true] at h
    obtain ⟨ns, rfl, hn⟩ := wfs_of h.2
    cases x with
    | int i =>
      have : 1 ≤ i ∧ i ≤ 99999 := by simpa [isWF] using h.1
      exact ⟨i :: ns, rfl, fun y hy => by
        rcases List.mem_cons.mp hy with rfl | hy
        · exact this
        · exact hn y hy⟩
    | _ => simp [isWF] at h
theorem int_of {d : Dt} {lo hi : Int} (h : isWF d lo hi = true) : ∃ i, d = .int i ∧ lo ≤ i ∧ i ≤ hi := by
  cases d <;> simp [isWF] at h
  exact ⟨_, rfl, h⟩
theorem pair_of {d : Dt} (h : isPG d = true) : ∃ a b, d = tI [a, b] ∧ dur a ∧ dur b := by
  rw [sizes_pair] at h
  cases d with
  | tup xs =>
    simp only [sizesD, Bool.and_eq_true] at h
    obtain ⟨ns, rfl, hn⟩ := wfs_of h.2
    have hl : ns.length = 2 := by
      have := h.1
      simp only [List.mem_singleton, List.length_map, decide_eq_true_eq] at this
      omega
    match ns, hl with
    | [a, b], _ => exact ⟨a, b, rfl, hn a (by simp), hn b (by simp)⟩
  | _ => simp [sizesD] at h
theorem ne_non {p : Str} : Dt.str p ≠ .non := fun e => by cases e
theorem tab_of {d : Dt} (h : tabPart d = .non) : ∃ T : Tab, T.ok ∧ d = T.d := by
  unfold tabPart at h
  by_cases h6 : bwD d "pairs" 6 = true
  · rw [if_pos h6] at h
    cases d with
    | tup xs =>
      cases xs with
      | nil => simp [bwD] at h6
      | cons x rs =>
        cases x with
        | str s =>
          simp only [bwD, Bool.and_eq_true, decide_eq_true_eq] at h6
          obtain ⟨hl, rfl⟩ := h6
          have hl' : rs.length = 5 := by omega
          match rs, hl', h with
          | [hh, z, o, st, b], _, h =>
            have h : (if (!(areD hh && len024 hh)) = true then Dt.str "header" else if (!isPG z) = true then .str "zero" else if (!isPG o || PyData.eqv (py o) (py z)) = true then .str "one" else if (!isWF st 1 99999) = true then .str "stop" else if (!isWF b 1 8) = true then .str "bits" else .non) = .non := h
            by_cases e1 : (!(areD hh && len024 hh)) = true
            · rw [if_pos e1] at h; exact absurd h ne_non
            rw [if_neg e1] at h
            by_cases e2 : (!isPG z) = true
            · rw [if_pos e2] at h; exact absurd h ne_non
            rw [if_neg e2] at h
            by_cases e3 : (!isPG o || PyData.eqv (py o) (py z)) = true
            · rw [if_pos e3] at h; exact absurd h ne_non
            rw [if_neg e3] at h
            by_cases e4 : (!isWF st 1 99999) = true
            · rw [if_pos e4] at h; exact absurd h ne_non
            rw [if_neg e4] at h
            by_cases e5 : (!isWF b 1 8) = true
            · rw [if_pos e5] at h; exact absurd h ne_non
            obtain ⟨z1, z2, rfl, hz1, hz2⟩ := pair_of (by simpa using e2)
            have e3' : isPG o = true ∧ PyData.eqv (py o) (py (tI [z1, z2])) = false := by simpa using e3
            obtain ⟨o1, o2, rfl, ho1, ho2⟩ := pair_of e3'.1
            obtain ⟨s, rfl, s1, s2⟩ := int_of (d := st) (by simpa using e4)
            obtain ⟨b', rfl, b1, b2⟩ := int_of (d := b) (by simpa using e5)
            rw [sizes_header] at e1
            cases hh with
            | tup hs =>
              simp only [sizesD, Bool.not_eq_true', Bool.not_eq_false, Bool.and_eq_true] at e1
              obtain ⟨ns, rfl, hn⟩ := wfs_of e1.2
              refine ⟨.pa ns z1 z2 o1 o2 s b', ⟨?_, hn, hz1, hz2, ho1, ho2, ?_, ⟨s1, s2⟩, b1, b2⟩, rfl⟩
              · have := e1.1
                simp only [List.length_map, decide_eq_true_eq, List.mem_cons, List.not_mem_nil, or_false] at this
                omega
              · rintro ⟨rfl, rfl⟩
                have := e3'.2
                rw [eqv2] at this
                simp at this
            | _ => simp [sizesD] at e1
        | _ => simp [bwD] at h6
    | _ => simp [bwD] at h6
  · rw [if_neg h6] at h
    by_cases h3 : bwD d "halves" 3 = true
    · rw [if_pos h3] at h
      cases d with
      | tup xs =>
        cases xs with
        | nil => simp [bwD] at h3
        | cons x rs =>
          cases x with
          | str s =>
            simp only [bwD, Bool.and_eq_true, decide_eq_true_eq] at h3
            obtain ⟨hl, rfl⟩ := h3
            have hl' : rs.length = 2 := by omega
            match rs, hl', h with
            | [u, b], _, h =>
              have h : (if (!isWF u 1 99999) = true then Dt.str "unit" else if (!isWF b 1 8) = true then .str "bits" else .non) = .non := h
              by_cases e4 : (!isWF u 1 99999) = true
              · rw [if_pos e4] at h; exact absurd h ne_non
              rw [if_neg e4] at h
              by_cases e5 : (!isWF b 1 8) = true
              · rw [if_pos e5] at h; exact absurd h ne_non
              obtain ⟨s, rfl, s1, s2⟩ := int_of (d := u) (by simpa using e4)
              obtain ⟨b', rfl, b1, b2⟩ := int_of (d := b) (by simpa using e5)
              exact ⟨.ha s b', ⟨⟨s1, s2⟩, b1, b2⟩, rfl⟩
          | _ => simp [bwD] at h3
      | _ => simp [bwD] at h3
    · rw [if_neg h3] at h
      exact absurd h ne_non
theorem gdI {n : Nat} {ns : List Int} (h : ∀ x ∈ ns, dur x) (hl : ns.length ≤ 8) : gd (n + 1) (tI ns) = true := by
  unfold tI gd
  refine Bool.and_eq_true_iff.mpr ⟨gdA_all.mpr fun x hx => ?_, decide_eq_true (by rw [List.length_map]; omega)⟩
  obtain ⟨y, hy, rfl⟩ := List.mem_map.mp hx
  obtain ⟨h1, h2⟩ := h y hy
  unfold gd
  exact decide_eq_true (by omega)
theorem gd1 {n : Nat} {x : Int} (h : dur x) : gd n (.int x) = true := by
  obtain ⟨h1, h2⟩ := h
  unfold gd
  exact decide_eq_true (by omega)
theorem gd_tab {T : Tab} (h : T.ok) : gd 4 T.d = true := by
  have hb := Tab.b1 h
  cases T with
  | ha u b =>
    unfold Tab.d gd
    simp only [gdA, gd1 (n := 3) h.1, gd1 (n := 3) (show dur b from ⟨hb.1, by have : b ≤ 8 := hb.2; omega⟩), Bool.and_true]
    exact Bool.and_eq_true_iff.mpr ⟨by decide +kernel, decide_eq_true (by show 3 ≤ 10; decide)⟩
  | pa hd z1 z2 o1 o2 s b =>
    obtain ⟨h0, h1, h2, h3, h4, h5, h6, h7, h8⟩ := h
    have p2 : ∀ a b : Int, dur a → dur b → gd 3 (tI [a, b]) = true := fun a b ha hb => gdI (n := 2) (fun x hx => by
      simp only [List.mem_cons, List.not_mem_nil, or_false] at hx
      rcases hx with rfl | rfl <;> assumption) (by show 2 ≤ 8; decide)
    unfold Tab.d gd
    simp only [gdA, gdI (n := 2) h1 (by omega), p2 z1 z2 h2 h3, p2 o1 o2 h4 h5, gd1 (n := 3) h7, gd1 (n := 3) (show dur b from ⟨hb.1, by have : b ≤ 8 := hb.2; omega⟩), Bool.and_true, Bool.true_and]
    exact Bool.and_eq_true_iff.mpr ⟨by decide +kernel, decide_eq_true (by show 6 ≤ 10; decide)⟩
theorem shw_tab {d : Dt} (h : tabPart d = .non) : shwOk d := by
  obtain ⟨T, hT, rfl⟩ := tab_of h
  exact gd_shw (gd_tab hT)
theorem shw_part (d : Dt) : shwOk (tabPart d) := by
  have g : gd 4 (tabPart d) = true := by
    have hP : ∀ xs, gd 4 (wrongP xs) = true := fun xs => by
      unfold wrongP
      split
      · repeat' split
        all_goals decide +kernel
      · rfl
    have hH : ∀ xs, gd 4 (wrongH xs) = true := fun xs => by
      unfold wrongH
      split
      · repeat' split
        all_goals decide +kernel
      · rfl
    unfold tabPart
    split
    · cases d with
      | tup xs => exact hP xs
      | _ => rfl
    · split
      · cases d with
        | tup xs => exact hH xs
        | _ => rfl
      · decide +kernel
  exact gd_shw g
end Bf
namespace Bf
open PySem PySem.Spec PyProof.Rows L2
/-! ## _law_spoiled -/
section
variable {K : PySem.W.Frag} {S S1 S2 : Sta} {ρ : List (Option Dt)} {t u : TT}
/-- and, where the second may turn what holds -/
theorem et_andS {a : Bool} {Φ : Bool → Prop} (ha : EvT K S S1 ρ t (Eq a)) (l : S1.Le S2) (hf : a = false → Φ false) (hb : a = true → EvT K S1 S2 ρ u Φ) : EvT K S S2 ρ (tAnd t u) Φ := fun σ H i s Q q => ha σ H i s _ fun c H1 g1 i1 p1 => by
  subst p1
  cases a with
  | true => rw [if_pos rfl]; exact hb rfl σ H1 i1 (s.mono g1) Q fun v H2 g2 => q v H2 (g1.trans g2)
  | false => rw [if_neg Bool.false_ne_true]; exact q _ H1 g1 (l _ i1) (hf rfl)
theorem ev_le {te : TE} {Φ : Dt → Prop} (h : Ev K S S1 ρ te Φ) (l : S1.Le S2) : Ev K S S2 ρ te Φ := fun σ H i s Q q => h σ H i s Q fun v d H' g i' => q v d H' g (l _ i')
theorem ev_slLE {te : TE} {tl th : TO} {xs : List Dt} {lo hi : Option Int} (ha : Ev K S S1 ρ te (Eq (.lst xs))) (hl : EvO K S1 S2 ρ tl (Eq lo)) (hh : EvO K S2 S2 ρ th (Eq hi)) : Ev K S S2 ρ (tSl (rSlL K) te tl th) (Eq (.lst (cutD xs lo hi))) := (en_slL ha hl hh).ev
end
/-- what may be put in -/
def some17 : List Dt := [.non, .bl true, .str "1", .int 0, .int (-1), .int 1, .int 8, .int 9, .int 99999, .int 100000, .tup [], .tup [.int 1], .tup [.int 1, .int 1], .lst [.int 1, .int 1], .tup [.int 1, .int 1, .int 1], .tup [.int 1, .int 0], .tup [.int 1, .int 100000]]
def some8 : List Dt := [.tup [.bl true, .int 1], .tup [.str "1", .int 1], .tup [.int 1, .int 1, .int 1, .int 1], .tup [.int 1, .int 1, .int 1, .int 1, .int 1, .int 1], .tup [.int 2, .int 2, .int 2, .int 2, .int 2], .str "halves", .str "pairs", .int (10 ^ 30)]
theorem sc1 : scal (.str "1") = true := by decide +kernel
theorem sc2 : scal (.str "halves") = true := by decide +kernel
theorem sc3 : scal (.str "pairs") = true := by decide +kernel
def ptB (d : Dt) : Bool := scal d || match d with
  | .tup xs => decide (xs.length ≤ 6) && xs.all scal
  | .lst xs => decide (xs.length ≤ 6) && xs.all scal
  | _ => false
theorem ptB_D {d : Dt} (h : ptB d = true) : ptD 6 d := by
  unfold ptB at h
  rw [Bool.or_eq_true] at h
  rcases h with h | h
  · exact .inl h
  · cases d with
    | tup xs =>
      simp only [Bool.and_eq_true, decide_eq_true_eq, List.all_eq_true] at h
      exact .inr ⟨xs, .inl rfl, h.1, h.2⟩
    | lst xs =>
      simp only [Bool.and_eq_true, decide_eq_true_eq, List.all_eq_true] at h
      exact .inr ⟨xs, .inr rfl, h.1, h.2⟩
    | _ => cases h
theorem all17 : (some17 ++ some8).all ptB = true := by decide +kernel
theorem pt_some {d : Dt} (h : d ∈ some17 ++ some8) : ptD 6 d := ptB_D (List.all_eq_true.mp all17 d h)
theorem cut10 : cutD (some17 ++ some8) none (some 10) = [.non, .bl true, .str "1", .int 0, .int (-1), .int 1, .int 8, .int 9, .int 99999, .int 100000] := by rfl
theorem cut10_sc {d : Dt} (h : d ∈ cutD (some17 ++ some8) none (some 10)) : scal d = true := by
  rw [cut10] at h
  have : ([.non, .bl true, .str "1", .int 0, .int (-1), .int 1, .int 8, .int 9, .int 99999, .int 100000] : List Dt).all scal = true := by decide +kernel
  exact List.all_eq_true.mp this d h
def neE : Dt → Bool
  | .tup [] => false
  | _ => true
theorem neE_ne {d : Dt} (h : neE d = true) : d ≠ .tup [] := fun e => by rw [e] at h; cases h
/-- of a tuple's things -/
def preS (ds : List Dt) : Prop := ∃ xs, ds = [.tup xs] ∧ (xs.length = 3 ∨ xs.length = 6) ∧ ∀ x ∈ xs, ptD 50 x
def spoR (ds : List Dt) (d : Dt) : Prop := ∃ xs, ds = [.tup xs] ∧ ∀ n, 6 ≤ n → n ≤ 50 → (∀ x ∈ xs, ptD n x) → vlD (n + 1) d
/-- may stand in the part's place -/
def gpt (xs : List Dt) (x : Dt) : Prop := ∀ n, 6 ≤ n → n ≤ 50 → (∀ y ∈ xs, ptD n y) → ptD (n + 1) x
abbrev p__law_spoiled (K : PySem.W.Frag) : Sp := spD K 1 preS spoR 5
abbrev t__law_spoiled (K : PySem.W.Frag) : TS := (tSeq (tAsg (tCall (p__law_next K) [] E0 (tCons (tVar 0) (tCons (tOp rAddI (tCB (rLen K) (tCons (tVar 1) tNil)) (tC (.int 1))) tNil))) (gName 2))
    (tSeq (tIfS (tTest (tOp rEq (tVar 2) (tCB (rLen K) (tCons (tVar 1) tNil)))) (tSeq (tAsg (tLst (tCons (tCB (rLstO K) (tCons (tVar 1) tNil)) (tCons (tSl (rSlA K) (tVar 1) tNoPart (tPart (tUn rNegI (tC (.int 1))))) (tCons (tOp (rCatA K) (tVar 1) (tTup (tCons (tC (.int 1)) tNil))) (tCons (tC .non) (tCons (tC (.str "pairs")) (tCons (tTup tNil) (tCons (tC (.int 5)) (tCons tDNewK (tCons (tTup (tCons (tC (.str "pairs")) tNil)) (tCons (tTup (tCons (tC (.str "halves")) (tCons (tC (.int 1)) tNil))) tNil))))))))))) (gName 3))
    (tRet (tCall (p__law_pick K) [] E0 (tCons (tVar 0) (tCons (tVar 3) tNil))))) tNext)
    (tSeq (tAsg (tOp (rIx K) (tVar 1) (tVar 2)) (gName 4))
    (tSeq (tAsg (tLst (tCons (tC .non) (tCons (tC (.bl true)) (tCons (tC (.str "1")) (tCons (tC (.int 0)) (tCons (tUn rNegI (tC (.int 1))) (tCons (tC (.int 1)) (tCons (tC (.int 8)) (tCons (tC (.int 9)) (tCons (tC (.int 99999)) (tCons (tC (.int 100000)) (tCons (tTup tNil) (tCons (tTup (tCons (tC (.int 1)) tNil)) (tCons (tTup (tCons (tC (.int 1)) (tCons (tC (.int 1)) tNil))) (tCons (tLst (tCons (tC (.int 1)) (tCons (tC (.int 1)) tNil))) (tCons (tTup (tCons (tC (.int 1)) (tCons (tC (.int 1)) (tCons (tC (.int 1)) tNil)))) (tCons (tTup (tCons (tC (.int 1)) (tCons (tC (.int 0)) tNil))) (tCons (tTup (tCons (tC (.int 1)) (tCons (tC (.int 100000)) tNil))) tNil)))))))))))))))))) (gName 3))
    (tSeq (tAsg (tOp (rCatS K) (tVar 3) (tLst (tCons (tTup (tCons (tC (.bl true)) (tCons (tC (.int 1)) tNil))) (tCons (tTup (tCons (tC (.str "1")) (tCons (tC (.int 1)) tNil))) (tCons (tTup (tCons (tC (.int 1)) (tCons (tC (.int 1)) (tCons (tC (.int 1)) (tCons (tC (.int 1)) tNil))))) (tCons (tOp (rRepT K) (tTup (tCons (tC (.int 1)) tNil)) (tC (.int 6))) (tCons (tTup (tCons (tC (.int 2)) (tCons (tC (.int 2)) (tCons (tC (.int 2)) (tCons (tC (.int 2)) (tCons (tC (.int 2)) tNil)))))) (tCons (tC (.str "halves")) (tCons (tC (.str "pairs")) (tCons (tOp rPowI (tC (.int 10)) (tC (.int 30))) tNil)))))))))) (gName 3))
    (tSeq (tIfS (tAnd (tB (tCB (rIsi K) (tCons (tVar 4) (tCons (tC (.ty "tuple")) tNil)))) (tAnd (tTest (tOp (rNeD K) (tVar 4) (tTup tNil))) (tTest (tOp rEq (tCall (p__law_next K) [] E0 (tCons (tVar 0) (tCons (tC (.int 2)) tNil))) (tC (.int 0)))))) (tSeq (tAsg (tCall (p__law_next K) [] E0 (tCons (tVar 0) (tCons (tCB (rLen K) (tCons (tVar 4) tNil)) tNil))) (gName 5))
    (tSeq (tAsg (tOp (rCatA K) (tOp (rCatA K) (tSl (rSlA K) (tVar 4) tNoPart (tPart (tVar 5))) (tTup (tCons (tCall (p__law_pick K) [] E0 (tCons (tVar 0) (tCons (tSl (rSlL K) (tVar 3) tNoPart (tPart (tC (.int 10)))) tNil))) tNil))) (tSl (rSlA K) (tVar 4) (tPart (tOp rAddI (tVar 5) (tC (.int 1)))) tNoPart)) (gName 6))
    (tAsg (tLst (tCons (tVar 6) (tCons (tCB (rLstO K) (tCons (tVar 4) tNil)) (tCons (tSl (rSlA K) (tVar 4) (tPart (tC (.int 1))) tNoPart) (tCons (tOp (rCatA K) (tVar 4) (tSl (rSlA K) (tVar 4) tNoPart (tPart (tC (.int 1))))) (tCons (tRevT K (tVar 4)) (tCons (tOp (rIx K) (tVar 1) (tC (.int 2))) tNil))))))) (gName 3)))) tNext)
    (tRet (tOp (rCatA K) (tOp (rCatA K) (tSl (rSlA K) (tVar 1) tNoPart (tPart (tVar 2))) (tTup (tCons (tCall (p__law_pick K) [] E0 (tCons (tVar 0) (tCons (tVar 3) tNil))) tNil))) (tSl (rSlA K) (tVar 1) (tPart (tOp rAddI (tVar 2) (tC (.int 1)))) tNoPart)))))))))
/-- a + (e,) + c, e drawn -/
theorem ev_mid {K : PySem.W.Frag} {S S1 S2 S3 : Sta} {ρ : List (Option Dt)} {ta tm tc : TE} {xs zs : List Dt} {Φ : Dt → Prop} (ha : Ev K S S1 ρ ta (Eq (.tup xs))) (hm : Ev K S1 S2 ρ tm Φ) (hc : Ev K S2 S3 ρ tc (Eq (.tup zs))) (hz : xs.length + zs.length ≤ 1000) :
    Ev K S S3 ρ (tOp (rCatA K) (tOp (rCatA K) ta (tTup (tCons tm tNil))) tc) (fun d => ∃ y, d = .tup (xs ++ [y] ++ zs) ∧ Φ y) := by
  have h1 : Ev K S S2 ρ (tOp (rCatA K) ta (tTup (tCons tm tNil))) (fun d => ∃ y, d = .tup (xs ++ [y]) ∧ Φ y) :=
    ev_opP ha (ev_tupP (ea_consP hm ea_nil) fun ds ⟨d, l, e, _, e2⟩ => by rw [e, ← e2]; show 1 ≤ sizeLine; decide) fun x y ex hy => by
      obtain ⟨l, rfl, d, l', rfl, hd, rfl⟩ := hy
      subst ex
      exact fun H v u i r1 r2 Q q => rv_catT (by simp only [List.length_cons, List.length_nil]; exact Nat.le_trans (show xs.length + 1 ≤ 1001 by omega) (by decide)) H v u i r1 r2 Q fun v' d' H' g i' r e => q v' d' H' g i' r ⟨d, e.symm, hd⟩
  refine ev_opP h1 hc fun x y hx ey => ?_
  obtain ⟨d, rfl, hd⟩ := hx
  subst ey
  exact fun H v u i r1 r2 Q q => rv_catT (by simp only [List.length_append, List.length_cons, List.length_nil]; exact Nat.le_trans (show xs.length + 1 + zs.length ≤ 1001 by omega) (by decide)) H v u i r1 r2 Q fun v' d' H' g i' r e => q v' d' H' g i' r ⟨d, e.symm, hd⟩
theorem mid_len {xs : List Dt} {r : Int} (h0 : 0 ≤ r) (h1 : r < (xs.length : Nat)) : (cutD xs none (some r)).length + (cutD xs (some (r + 1)) none).length + 1 = xs.length := by
  unfold cutD
  have e1 : HT.sIx xs.length xs.length (some r) = r.toNat := by
    have e := HT.sIx_nat xs.length xs.length r.toNat
    rw [Int.toNat_of_nonneg h0] at e
    rw [e]
    omega
  have e2 : HT.sIx xs.length 0 (some (r + 1)) = r.toNat + 1 := by
    have e := HT.sIx_nat xs.length 0 (r.toNat + 1)
    rw [show ((r.toNat + 1 : Nat) : Int) = r + 1 by omega] at e
    rw [e]
    omega
  rw [e1, e2, HT.sIx_none, HT.sIx_none]
  simp only [List.length_take, List.length_drop]
  omega
section
variable {K : PySem.W.Frag} {a c : Addr} {cs : List Int} {n : Nat} {ds : List Dt}
theorem so__law_spoiled (hc : cs ≠ []) (hn : n + 5 ≤ 1000000) (hp : preS ds) :
    So K (DW K a c cs n) (DW K a c cs (n + 5)) [] (t__law_spoiled K) (startD 7 (.raw (.ref a) :: ds)) { nx := fun _ => spoR ds .non, rt := spoR ds } := by
  obtain ⟨xs, rfl, hl, hx⟩ := hp
  have hl3 : 3 ≤ xs.length ∧ xs.length ≤ 6 := by omega
  refine so_set (ev__law_next (n := n) (m := (xs.length : Nat) + 1) (ea_cons (ev_var rfl) (ea_cons (ev_op (ev_lenT (ev_var rfl)) ev_int rv_add) ea_nil)) hc (by omega) (by omega) (Nat.lt_of_le_of_lt (show _ ≤ 100 by omega) (by decide))) fun d hd => ?_
  obtain ⟨r, rfl, r0, r1⟩ := hd
  refine so_ifD (et_test (ev_op (ev_var rfl) (ev_lenT (ev_var rfl)) rv_eqI)) (fun e => ?_) fun e => so_skip ?_
  · -- another thing altogether
    refine so_assoc (so_setD (d := .lst [.lst xs, .tup (cutD xs none (some (-1))), .tup (xs ++ [.int 1]), .non, .str "pairs", .tup [], .int 5, .dic, .tup [.str "pairs"], .tup [.str "halves", .int 1]])
      (ev_lst (ea_cons (ev_cb (ea_cons (ev_var rfl) ea_nil) rc_lstT) (ea_cons (ev_slT (ev_var rfl) eo_none (eo_some (ev_neg ev_int))) (ea_cons (ev_op (ev_var rfl) (ev_tup (ea_cons ev_int ea_nil) (by show 1 ≤ sizeLine; decide)) (rv_catT (by simp only [List.length_cons, List.length_nil]; exact Nat.le_trans (show xs.length + 1 ≤ 7 by omega) (by decide)))) (ea_cons ev_non (ea_cons ev_str (ea_cons (ev_tup ea_nil (by decide)) (ea_cons ev_int (ea_cons ev_dic (ea_cons (ev_tup (ea_cons ev_str ea_nil) (by show 1 ≤ sizeLine; decide)) (ea_cons (ev_tup (ea_cons ev_str (ea_cons ev_int ea_nil)) (by show 2 ≤ sizeLine; decide)) ea_nil)))))))))) (by show 10 ≤ sizeLine; decide)) ?_)
    refine so_ret1 (ev__law_pick (n := n + 1) (ea_cons (ev_var rfl) (ea_cons (ev_var rfl) ea_nil)) hc (by omega) (by simp) (by show 10 ≤ 100000; decide)) (dw_le (by omega)) fun d hd => ?_
    refine ⟨xs, rfl, fun m m6 m50 hm => ?_⟩
    have hm1 : ∀ x ∈ xs, ptD (m + 1) x := fun x hx' => (hm x hx').mono (by omega)
    have vT : ∀ ys : List Dt, ys.length ≤ 7 → (∀ y ∈ ys, ptD (m + 1) y) → vlD (m + 1) (.tup ys) := fun ys h1 h2 => .inr (.inr ⟨ys, .inl rfl, h1, h2⟩)
    simp only [List.mem_cons, List.not_mem_nil, or_false] at hd
    rcases hd with rfl | rfl | rfl | rfl | rfl | rfl | rfl | rfl | rfl | rfl
    · exact .inr (.inr ⟨xs, .inr rfl, by omega, hm1⟩)
    · exact vT _ (Nat.le_trans (cutD_le _ _ _) (by omega)) fun y hy => hm1 y (cutD_sub hy)
    · refine vT _ (by simp only [List.length_append, List.length_cons, List.length_nil]; omega) fun y hy => ?_
      rcases List.mem_append.mp hy with hy | hy
      · exact hm1 y hy
      · rw [List.mem_singleton.mp hy]; exact .inl rfl
    · exact .inl rfl
    · exact .inl sc3
    · exact vT [] (by decide) fun _ h => nomatch h
    · exact .inl rfl
    · exact .inr (.inl rfl)
    · exact vT _ (by show 1 ≤ 7; decide) fun y hy => by rw [List.mem_singleton.mp hy]; exact .inl sc3
    · refine vT _ (by show 2 ≤ 7; decide) fun y hy => ?_
      simp only [List.mem_cons, List.not_mem_nil, or_false] at hy
      rcases hy with rfl | rfl
      · exact .inl sc2
      · exact .inl rfl
  · -- one part otherwise
    have hr : r < (xs.length : Nat) := by
      have : ¬ (r = (xs.length : Nat)) := of_decide_eq_false e
      omega
    obtain ⟨p, hpt, hmem⟩ := at_in r0 hr
    have hpp := hx p hmem
    refine so_setD (ev_ixT (ev_var rfl) (ev_var rfl) hpt) ?_
    refine so_setD (d := .lst some17) (ev_lst (ea_cons ev_non (ea_cons ev_bl (ea_cons ev_str (ea_cons ev_int (ea_cons (ev_neg ev_int) (ea_cons ev_int (ea_cons ev_int (ea_cons ev_int (ea_cons ev_int (ea_cons ev_int (ea_cons (ev_tup ea_nil (by decide)) (ea_cons (ev_tup (ea_cons ev_int ea_nil) (by show 1 ≤ sizeLine; decide)) (ea_cons (ev_tup (ea_cons ev_int (ea_cons ev_int ea_nil)) (by show 2 ≤ sizeLine; decide)) (ea_cons (ev_lst (ea_cons ev_int (ea_cons ev_int ea_nil)) (by show 2 ≤ sizeLine; decide)) (ea_cons (ev_tup (ea_cons ev_int (ea_cons ev_int (ea_cons ev_int ea_nil))) (by show 3 ≤ sizeLine; decide)) (ea_cons (ev_tup (ea_cons ev_int (ea_cons ev_int ea_nil)) (by show 2 ≤ sizeLine; decide)) (ea_cons (ev_tup (ea_cons ev_int (ea_cons ev_int ea_nil)) (by show 2 ≤ sizeLine; decide)) ea_nil))))))))))))))))) (by show 17 ≤ sizeLine; decide)) ?_
    refine so_setD (d := .lst (some17 ++ some8)) (ev_op (ev_var rfl) (ev_lst (ds := some8) (ea_cons (ev_tup (ea_cons ev_bl (ea_cons ev_int ea_nil)) (by show 2 ≤ sizeLine; decide)) (ea_cons (ev_tup (ea_cons ev_str (ea_cons ev_int ea_nil)) (by show 2 ≤ sizeLine; decide)) (ea_cons (ev_tup (ea_cons ev_int (ea_cons ev_int (ea_cons ev_int (ea_cons ev_int ea_nil)))) (by show 4 ≤ sizeLine; decide)) (ea_cons (ev_op (ev_tup (ea_cons ev_int ea_nil) (by show 1 ≤ sizeLine; decide)) ev_int (rv_repT (k := 6) (xs := [.int 1]) (by simp) (by decide) (by decide) (by show 1 ≤ 1000; decide))) (ea_cons (ev_tup (ea_cons ev_int (ea_cons ev_int (ea_cons ev_int (ea_cons ev_int (ea_cons ev_int ea_nil))))) (by show 5 ≤ sizeLine; decide)) (ea_cons ev_str (ea_cons ev_str (ea_cons (ev_op ev_int ev_int (rv_pow ⟨by decide, by decide, by decide⟩)) ea_nil)))))))) (by show 8 ≤ sizeLine; decide)) (rv_catL (by show 25 ≤ sizeLine; decide))) ?_
    have len25 : (some17 ++ some8).length = 25 := rfl
    refine so_seqG (M := fun ρ' => ∃ (L : List Dt) (y5 y6 : Option Dt), L ≠ [] ∧ L.length ≤ 25 ∧ (∀ x ∈ L, gpt xs x) ∧ ρ' = [some (.raw (.ref a)), some (.tup xs), some (.int r), some (.lst L), some p, y5, y6]) (S1 := DW K a c cs (n + 4)) (dw_le (by omega)) ?_ fun ρ' hM => ?_
    · refine so_if0 (S1 := DW K a c cs (n + 2)) (Φb := fun b => b = true → isTupD p = true ∧ p ≠ .tup []) (et_andS (S1 := DW K a c cs (n + 1)) (et_B (ev_isTup (ev_var rfl) hpp.okN)) (dw_le (by omega)) (fun _ z => nomatch z) fun e1 => ?_) (fun e1 => ?_) fun _ => so_next (dw_le (by omega)) ⟨some17 ++ some8, _, _, by simp [some17], Nat.le_of_eq len25, fun x hx' m m6 _ _ => (pt_some hx').mono (by omega), rfl⟩
      · have hcm : cmpOk p = true := by
          rcases hpp with h | ⟨ys, rfl | rfl, _, hs⟩
          · cases p <;> simp [isTupD] at e1; simp [scal] at h
          · exact scalT_cmp hs
          · simp [isTupD] at e1
        refine et_andS (S1 := DW K a c cs (n + 1)) (a := neE p) ((et_test (ev_op (ev_var rfl) (ev_tup ea_nil (by decide)) (rv_neD hcm rfl))).to ?_) (dw_le (by omega)) (fun _ z => nomatch z) fun e2 => ?_
        · cases p with
          | tup ys =>
            cases ys with
            | nil => rfl
            | cons y ys => simp [py, pyA, PyData.eqv, PyData.eqvAll, neE]
          | _ => simp [isTupD] at e1
        · exact (et_testP (Φb := fun _ => True) ((ev_opP (ev__law_next (n := n + 1) (ea_cons (ev_var rfl) (ea_cons ev_int ea_nil)) hc (by omega) (by decide) (by decide)) ev_int fun x y hx' ey => by
            obtain ⟨k, rfl, _⟩ := hx'
            subst ey
            exact fun H v u i r1 r2 Q q => rv_eqI H v u i r1 r2 Q fun v' d' H' g i' r e => q v' d' H' g i' r ⟨_, e.symm, trivial⟩))).weak fun b _ _ => ⟨e1, neE_ne e2⟩
      · obtain ⟨e1, e2⟩ := e1 rfl
        cases p with
        | tup ps =>
          have hps : ps.length ≤ 50 ∧ ∀ y ∈ ps, scal y = true := by
            rcases hpp with h | ⟨zs, h | h, hz, hs⟩
            · simp [scal] at h
            · cases h; exact ⟨hz, hs⟩
            · cases h
          have hp0 : 0 < ps.length := List.length_pos_iff.mpr fun z => e2 (by rw [z])
          -- for any bound of the parts
          have hpm : ∀ m, (∀ y ∈ xs, ptD m y) → ps.length ≤ m := fun m hm => by
            rcases hm _ hmem with h | ⟨zs, h | h, hz, _⟩
            · simp [scal] at h
            · cases h; exact hz
            · cases h
          refine so_set (ev__law_next (n := n + 2) (m := (ps.length : Nat)) (ea_cons (ev_var rfl) (ea_cons (ev_lenT (ev_var rfl)) ea_nil)) hc (by omega) (by omega) (Nat.lt_of_le_of_lt (show _ ≤ 100 by omega) (by decide))) fun d hd => ?_
          obtain ⟨k, rfl, k0, k1⟩ := hd
          have hml := mid_len k0 k1
          refine so_set (ev_mid (ev_slT (ev_var rfl) eo_none (eo_some (ev_var rfl))) (ev__law_pick (n := n + 2 + 1) (xs := cutD (some17 ++ some8) none (some 10)) (ea_cons (ev_var rfl) (ea_cons (ev_slLE (ev_var rfl) eo_none (eo_some ev_int)) ea_nil)) hc (by omega) (by rw [cut10]; simp) (by rw [cut10]; show 10 ≤ 100000; decide)) (ev_slT (ev_var rfl) (eo_some (ev_op (ev_var rfl) ev_int rv_add)) eo_none) (by omega)) fun d hd => ?_
          obtain ⟨y, rfl, hy⟩ := hd
          have hy := cut10_sc hy
          obtain ⟨q, hq⟩ : ∃ q, xs[2]? = some q := ⟨_, List.getElem?_eq_getElem (by omega)⟩
          have c1 := cutD_le ps none (some 1)
          refine so_set0D (d := .lst [.tup (cutD ps none (some k) ++ [y] ++ cutD ps (some (k + 1)) none), .lst ps, .tup (cutD ps (some 1) none), .tup (ps ++ cutD ps none (some 1)), .tup ps.reverse, q])
            (ev_lst (ea_cons (ev_var rfl) (ea_cons (ev_cb (ea_cons (ev_var rfl) ea_nil) rc_lstT) (ea_cons (ev_slT (ev_var rfl) (eo_some ev_int) eo_none) (ea_cons (ev_op (ev_var rfl) (ev_slT (ev_var rfl) eo_none (eo_some ev_int)) (rv_catT (Nat.le_trans (show _ ≤ 100 by omega) (by decide)))) (ea_cons (ev_revT (ev_var rfl)) (ea_cons (ev_ixT (ev_var rfl) ev_int (atI_nat (j := 2) hq)) ea_nil)))))) (by show 6 ≤ sizeLine; decide)) (dw_le (by omega)) ⟨_, _, _, by simp, by show 6 ≤ 25; decide, fun x hx' => ?_, rfl⟩
          intro m m6 m50 hm
          have hpl := hpm m hm
          have tT : ∀ zs : List Dt, zs.length ≤ m + 1 → (∀ z ∈ zs, scal z = true) → ptD (m + 1) (.tup zs) := fun zs h1 h2 => .inr ⟨zs, .inl rfl, h1, h2⟩
          have cl : (cutD ps none (some 1)).length ≤ 1 := by
            unfold cutD
            rw [List.length_take]
            have e := HT.sIx_nat ps.length ps.length 1
            rw [show ((1 : Nat) : Int) = 1 from rfl] at e
            rw [e]
            omega
          simp only [List.mem_cons, List.not_mem_nil, or_false] at hx'
          rcases hx' with rfl | rfl | rfl | rfl | rfl | rfl
          · refine tT _ (by simp only [List.length_append, List.length_cons, List.length_nil]; omega) fun z hz => ?_
            rcases List.mem_append.mp hz with hz | hz
            · rcases List.mem_append.mp hz with hz | hz
              · exact hps.2 z (cutD_sub hz)
              · rw [List.mem_singleton.mp hz]; exact hy
            · exact hps.2 z (cutD_sub hz)
          · exact .inr ⟨ps, .inr rfl, by omega, hps.2⟩
          · exact tT _ (Nat.le_trans (cutD_le _ _ _) (by omega)) fun z hz => hps.2 z (cutD_sub hz)
          · refine tT _ (by rw [List.length_append]; omega) fun z hz => ?_
            rcases List.mem_append.mp hz with hz | hz
            · exact hps.2 z hz
            · exact hps.2 z (cutD_sub hz)
          · exact tT _ (by rw [List.length_reverse]; omega) fun z hz => hps.2 z (List.mem_reverse.mp hz)
          · exact (hm _ (List.mem_of_getElem? hq)).mono (by omega)
        | _ => simp [isTupD] at e1
    · obtain ⟨L, y5, y6, hL, hLl, hLg, rfl⟩ := hM
      have hml := mid_len r0 hr
      refine so_ret (ev_mid (ev_slT (ev_var rfl) eo_none (eo_some (ev_var rfl))) (ev__law_pick (n := n + 4) (xs := L) (ea_cons (ev_var rfl) (ea_cons (ev_var rfl) ea_nil)) hc (by omega) hL (by omega)) (ev_slT (ev_var rfl) (eo_some (ev_op (ev_var rfl) ev_int rv_add)) eo_none) (by omega)) (dw_le (by omega)) fun d hd => ?_
      obtain ⟨y, rfl, hy⟩ := hd
      refine ⟨xs, rfl, fun m m6 m50 hm => .inr (.inr ⟨_, .inl rfl, by simp only [List.length_append, List.length_cons, List.length_nil]; omega, fun z hz => ?_⟩)⟩
      rcases List.mem_append.mp hz with hz | hz
      · rcases List.mem_append.mp hz with hz | hz
        · exact (hm z (cutD_sub hz)).mono (by omega)
        · rw [List.mem_singleton.mp hz]; exact hLg y hy m m6 m50 hm
      · exact (hm z (cutD_sub hz)).mono (by omega)
end
end Bf
namespace Bf
open PySem PySem.Spec PyProof.Rows L2
/-! ## tables like others, receivers -/
def likeR (ds : List Dt) (d : Dt) : Prop := ∃ T : Tab, T.ok ∧ d = T.d
abbrev p__law_like (K : PySem.W.Frag) : Sp := spD K 1 (fun ds => ∃ T : Tab, T.ok ∧ ds = [T.d]) likeR 1
abbrev t__law_like (K : PySem.W.Frag) : TS := (tSeq (tAsg (tCall (p__law_next K) [] E0 (tCons (tVar 0) (tCons (tC (.int 6)) tNil))) (gName 2))
    (tSeq (tIfS (tTest (tOp rEq (tOp (rIx K) (tVar 1) (tC (.int 0))) (tC (.str "halves")))) (tSeq (tAsg (tIf (tTest (tOp rEq (tVar 2) (tC (.int 0)))) (tOp rAddI (tOp rModI (tOp (rIx K) (tVar 1) (tC (.int 1))) (tC (.int 9))) (tC (.int 1))) (tOp (rIx K) (tVar 1) (tC (.int 1)))) (gName 3))
    (tRet (tTup (tCons (tOp (rIx K) (tVar 1) (tC (.int 0))) (tCons (tVar 3) (tCons (tIf (tTest (tOp rLtI (tVar 2) (tC (.int 3)))) (tOp (rIx K) (tVar 1) (tC (.int 2))) (tOp rAddI (tC (.int 1)) (tOp rModI (tOp (rIx K) (tVar 1) (tC (.int 2))) (tC (.int 3))))) tNil)))))) tNext)
    (tSeq (tAsg (tVar 1) (gTup K 6 (gCons (gName 4) (gCons (gName 5) (gCons (gName 6) (gCons (gName 7) (gCons (gName 8) (gCons (gName 9) gNil))))))))
    (tSeq (tIfS (tTest (tOp rEq (tVar 2) (tC (.int 0)))) (tRet (tTup (tCons (tVar 4) (tCons (tVar 5) (tCons (tVar 7) (tCons (tVar 6) (tCons (tVar 8) (tCons (tVar 9) tNil)))))))) tNext)
    (tSeq (tIfS (tTest (tOp rEq (tVar 2) (tC (.int 1)))) (tRet (tTup (tCons (tVar 4) (tCons (tSl (rSlA K) (tVar 5) tNoPart (tPart (tUn rNegI (tC (.int 2))))) (tCons (tVar 6) (tCons (tVar 7) (tCons (tVar 8) (tCons (tVar 9) tNil)))))))) tNext)
    (tSeq (tIfS (tAnd (tTest (tOp rEq (tVar 2) (tC (.int 2)))) (tTest (tOp (rNeD K) (tVar 6) (tTup (tCons (tOp (rIx K) (tVar 7) (tC (.int 0))) (tCons (tOp rAddI (tOp rModI (tOp (rIx K) (tVar 7) (tC (.int 1))) (tC (.int 9))) (tC (.int 1))) tNil)))))) (tRet (tTup (tCons (tVar 4) (tCons (tVar 5) (tCons (tVar 6) (tCons (tTup (tCons (tOp (rIx K) (tVar 7) (tC (.int 0))) (tCons (tOp rAddI (tOp rModI (tOp (rIx K) (tVar 7) (tC (.int 1))) (tC (.int 9))) (tC (.int 1))) tNil))) (tCons (tVar 8) (tCons (tVar 9) tNil)))))))) tNext)
    (tSeq (tAsg (tIf (tTest (tOp rEq (tVar 2) (tC (.int 3)))) (tOp rAddI (tOp rModI (tVar 8) (tC (.int 9))) (tC (.int 1))) (tVar 8)) (gName 8))
    (tRet (tTup (tCons (tVar 4) (tCons (tVar 5) (tCons (tVar 6) (tCons (tVar 7) (tCons (tVar 8) (tCons (tIf (tTest (tOp rLtI (tVar 2) (tC (.int 5)))) (tVar 9) (tOp rAddI (tC (.int 1)) (tOp rModI (tVar 9) (tC (.int 3))))) tNil)))))))))))))))
theorem dur9 (i : Int) : dur (i % 9 + 1) := by
  have h0 := Int.emod_nonneg i (show (9 : Int) ≠ 0 by decide)
  have h1 := Int.emod_lt_of_pos i (show (0 : Int) < 9 by decide)
  exact ⟨by omega, by omega⟩
theorem cut_m2 (hs : List Int) : cutD (hs.map Dt.int) none (some (-2)) = (hs.take (hs.length - 2)).map Dt.int := by
  unfold cutD
  have e : HT.sIx (hs.map Dt.int).length (hs.map Dt.int).length (some (-2)) = hs.length - 2 := by
    show (if (-2 : Int) < 0 then ((-2 : Int) + ((hs.map Dt.int).length : Int)).toNat else min (-2 : Int).toNat (hs.map Dt.int).length) = _
    rw [if_pos (by decide), List.length_map]
    omega
  rw [e, HT.sIx_none, List.drop_zero, Nat.sub_zero, List.map_take]
theorem ev_if2 {K : PySem.W.Frag} {S : Sta} {ρ : List (Option Dt)} {c : TT} {ta tb : TE} {k : Bool} {x y : Int} (hc : EvT K S S ρ c (Eq k)) (ha : Ev K S S ρ ta (Eq (.int x))) (hb : Ev K S S ρ tb (Eq (.int y))) : Ev K S S ρ (tIf c ta tb) (Eq (.int (if k = true then x else y))) :=
  ev_if hc (fun e => ha.to (by rw [if_pos e])) (fun e => hb.to (by rw [if_neg (by rw [e]; decide)]))
section
variable {K : PySem.W.Frag} {a c : Addr} {cs : List Int} {n : Nat} {ds : List Dt}
theorem so__law_like (hc : cs ≠ []) (hn : n + 1 ≤ 1000000) (hp : ∃ T : Tab, T.ok ∧ ds = [T.d]) :
    So K (DW K a c cs n) (DW K a c cs (n + 1)) [] (t__law_like K) (startD 10 (.raw (.ref a) :: ds)) { nx := fun _ => likeR ds .non, rt := likeR ds } := by
  obtain ⟨T, hT, rfl⟩ := hp
  refine so_set (ev__law_next (ea_cons (ev_var rfl) (ea_cons ev_int ea_nil)) hc (by omega) (by decide) (by decide)) fun d hd => ?_
  obtain ⟨w, rfl, w0, w1⟩ := hd
  cases T with
  | ha u b =>
    obtain ⟨hu, b1, b8⟩ := hT
    have m0 := Int.emod_nonneg b (show (3 : Int) ≠ 0 by decide)
    have m1 := Int.emod_lt_of_pos b (show (0 : Int) < 3 by decide)
    refine so_ifT ((et_test (ev_op (ev_ixT (d := .str "halves") (xs := [.str "halves", .int u, .int b]) (ev_var rfl) ev_int (atI_nat (j := 0) rfl)) ev_str rv_eqS)).to (by decide +kernel)) ?_
    refine so_assoc (so_setD (ev_if2 (et_test (ev_op (ev_var rfl) ev_int rv_eqI)) (ev_op (ev_op (ev_ixT (d := .int u) (xs := [.str "halves", .int u, .int b]) (ev_var rfl) ev_int (atI_nat (j := 1) rfl)) ev_int (rv_mod (by decide))) ev_int rv_add) (ev_ixT (d := .int u) (xs := [.str "halves", .int u, .int b]) (ev_var rfl) ev_int (atI_nat (j := 1) rfl))) ?_)
    refine so_ret1D (ev_tup (ea_cons (ev_ixT (d := .str "halves") (xs := [.str "halves", .int u, .int b]) (ev_var rfl) ev_int (atI_nat (j := 0) rfl)) (ea_cons (ev_var rfl) (ea_cons (ev_if2 (et_test (ev_op (ev_var rfl) ev_int rv_lt)) (ev_ixT (d := .int b) (xs := [.str "halves", .int u, .int b]) (ev_var rfl) ev_int (atI_nat (j := 2) rfl)) (ev_op ev_int (ev_op (ev_ixT (d := .int b) (xs := [.str "halves", .int u, .int b]) (ev_var rfl) ev_int (atI_nat (j := 2) rfl)) ev_int (rv_mod (by decide))) rv_add)) ea_nil))) (by show 3 ≤ sizeLine; decide)) (Sta.Le.refl _) ⟨.ha _ _, ⟨?_, ?_, ?_⟩, rfl⟩
    · split
      · exact dur9 u
      · exact hu
    · split <;> omega
    · split <;> omega
  | pa h z1 z2 o1 o2 s b =>
    have hTT := hT
    obtain ⟨hl, hh, hz1, hz2, ho1, ho2, hne, hs, b1, b8⟩ := hT
    have m0 := Int.emod_nonneg b (show (3 : Int) ≠ 0 by decide)
    have m1 := Int.emod_lt_of_pos b (show (0 : Int) < 3 by decide)
    refine so_ifF ((et_test (ev_op (ev_ixT (d := .str "pairs") (xs := [.str "pairs", tI h, tI [z1, z2], tI [o1, o2], .int s, .int b]) (ev_var rfl) ev_int (atI_nat (j := 0) rfl)) ev_str rv_eqS)).to (by decide +kernel)) (so_skip ?_)
    refine so_unp (is := [4, 5, 6, 7, 8, 9]) (xs := [.str "pairs", tI h, tI [z1, z2], tI [o1, o2], .int s, .int b]) (ev_var rfl) rfl rfl rfl ?_
    refine so_ifD (et_test (ev_op (ev_var rfl) ev_int rv_eqI)) (fun _ => so_ret1D (ev_tup (ea_cons (ev_var rfl) (ea_cons (ev_var rfl) (ea_cons (ev_var rfl) (ea_cons (ev_var rfl) (ea_cons (ev_var rfl) (ea_cons (ev_var rfl) ea_nil)))))) (by show 6 ≤ sizeLine; decide)) (Sta.Le.refl _) ⟨.pa h o1 o2 z1 z2 s b, ⟨hl, hh, ho1, ho2, hz1, hz2, fun z => hne ⟨z.1.symm, z.2.symm⟩, hs, b1, b8⟩, rfl⟩) fun _ => so_skip ?_
    refine so_ifD (et_test (ev_op (ev_var rfl) ev_int rv_eqI)) (fun _ => so_ret1D (ev_tup (ea_cons (ev_var rfl) (ea_cons (ev_slT (ev_var rfl) eo_none (eo_some (ev_neg ev_int))) (ea_cons (ev_var rfl) (ea_cons (ev_var rfl) (ea_cons (ev_var rfl) (ea_cons (ev_var rfl) ea_nil)))))) (by show 6 ≤ sizeLine; decide)) (Sta.Le.refl _) ⟨.pa (h.take (h.length - 2)) z1 z2 o1 o2 s b, ⟨by rw [List.length_take]; omega, fun x hx => hh x (List.mem_of_mem_take hx), hz1, hz2, ho1, ho2, hne, hs, b1, b8⟩, ?_⟩) fun _ => so_skip ?_
    · rw [cut_m2]; rfl
    have eo : Ev K (DW K a c cs (n + 1)) (DW K a c cs (n + 1)) [some (.raw (.ref a)), some (.tup [.str "pairs", tI h, tI [z1, z2], tI [o1, o2], .int s, .int b]), some (.int w), none, some (.str "pairs"), some (tI h), some (tI [z1, z2]), some (tI [o1, o2]), some (.int s), some (.int b)] (tTup (tCons (tOp (rIx K) (tVar 7) (tC (.int 0))) (tCons (tOp rAddI (tOp rModI (tOp (rIx K) (tVar 7) (tC (.int 1))) (tC (.int 9))) (tC (.int 1))) tNil))) (Eq (tI [o1, o2 % 9 + 1])) :=
      ev_tup (ea_cons (ev_ixT (xs := [.int o1, .int o2]) (ev_var rfl) ev_int (atI_nat (j := 0) rfl)) (ea_cons (ev_op (ev_op (ev_ixT (xs := [.int o1, .int o2]) (ev_var rfl) ev_int (atI_nat (j := 1) rfl)) ev_int (rv_mod (by decide))) ev_int rv_add) ea_nil)) (by show 2 ≤ sizeLine; decide)
    refine so_ifD (et_and (et_test (ev_op (ev_var rfl) ev_int rv_eqI)) fun _ => et_test (ev_op (ev_var rfl) eo (rv_neD (cmp2 _ _) (cmp2 _ _)))) (fun e => ?_) fun _ => so_skip ?_
    · have e2 := (Bool.and_eq_true_iff.mp e).2
      have e3 : (decide (z1 = o1) && decide (z2 = o2 % 9 + 1)) = false := by
        rw [← eqv2]
        simpa using e2
      refine so_ret1D (ev_tup (ea_cons (ev_var rfl) (ea_cons (ev_var rfl) (ea_cons (ev_var rfl) (ea_cons eo (ea_cons (ev_var rfl) (ea_cons (ev_var rfl) ea_nil)))))) (by show 6 ≤ sizeLine; decide)) (Sta.Le.refl _) ⟨.pa h z1 z2 o1 (o2 % 9 + 1) s b, ⟨hl, hh, hz1, hz2, ho1, dur9 o2, fun z => ?_, hs, b1, b8⟩, rfl⟩
      rw [z.1, z.2] at e3
      simp at e3
    · refine so_setD (ev_if2 (et_test (ev_op (ev_var rfl) ev_int rv_eqI)) (ev_op (ev_op (ev_var rfl) ev_int (rv_mod (by decide))) ev_int rv_add) (ev_var rfl)) ?_
      refine so_retD (ev_tup (ea_cons (ev_var rfl) (ea_cons (ev_var rfl) (ea_cons (ev_var rfl) (ea_cons (ev_var rfl) (ea_cons (ev_var rfl) (ea_cons (ev_if2 (et_test (ev_op (ev_var rfl) ev_int rv_lt)) (ev_var rfl) (ev_op ev_int (ev_op (ev_var rfl) ev_int (rv_mod (by decide))) rv_add)) ea_nil)))))) (by show 6 ≤ sizeLine; decide)) (Sta.Le.refl _) ⟨.pa h z1 z2 o1 o2 _ _, ⟨hl, hh, hz1, hz2, ho1, ho2, hne, ?_, ?_, ?_⟩, rfl⟩
      · split
        · exact dur9 s
        · exact hs
      · split <;> omega
      · split <;> omega
end
end Bf
namespace Bf
open PySem PySem.Spec PyProof.Rows L2
/-! ## drawn receivers -/
section
variable {K : PySem.W.Frag} {S S1 : Sta} {ρ : List (Option Dt)} {tl : TA} {C : Addr} {E : XK} {Φ : Int → Int → Prop}
theorem ev_mkratP (h : EvA K S S1 ρ tl (fun l => ∃ x y, l = [.int x, .int y] ∧ Φ x y)) (hΦ : ∀ x y, Φ x y → 0 ≤ x ∧ 1 ≤ y ∧ y.natAbs < 2 ^ 8000) : Ev K S S1 ρ (tMake C (spRI C) [] E tl) (fun d => ∃ x y, Φ x y ∧ d = ratL C x y) := fun σ H i s Q q =>
  h σ H i s _ fun vs ds H1 g1 i1 r1 e => by
    obtain ⟨n, m, e, p⟩ := e
    obtain ⟨h0, h1, hb⟩ := hΦ n m p
    subst e
    obtain ⟨v, u, rfl, ra, rb⟩ := r1.twoI
    obtain rfl := ra.intI
    obtain rfl := rb.intI
    intro x dx hx hdx ne
    refine ⟨x, dx, n, m, rfl, upd_same, h0, h1, hb, fun H' _ k e => ⟨rfl, ?_⟩⟩
    have sm : Same H1 H' := fun b o eb => by
      have hbx : b ≠ x := ne_of_none eb hx
      have hbd : b ≠ dx := ne_of_none eb hdx
      refine k b o hbx ?_
      rw [upd_ne hbx, upd_ne hbd]
      exact eb
    exact q _ _ H' (g1.trans sm.gr) (S1.st i1 sm) (rep_rat e) ⟨n, m, p, rfl⟩
end
theorem prOk_mk {T : Tab} {n m : Int} (hT : T.ok) (h0 : 0 ≤ n) (h1 : n < m) : prOk (T, n / (Nat.gcd n.natAbs m.natAbs : Nat), m / (Nat.gcd n.natAbs m.natAbs : Nat)) := by
  have gp : (0 : Int) < (Nat.gcd n.natAbs m.natAbs : Nat) := by
    have : 0 < Nat.gcd n.natAbs m.natAbs := Nat.gcd_pos_of_pos_right _ (by omega)
    omega
  have gd : ((Nat.gcd n.natAbs m.natAbs : Nat) : Int) ∣ m := by
    have := Nat.gcd_dvd_right n.natAbs m.natAbs
    exact Int.dvd_natAbs.mp (Int.natCast_dvd_natCast.mpr this)
  refine ⟨hT, Int.ediv_nonneg h0 (by omega), ?_⟩
  refine Int.ediv_lt_of_lt_mul gp ?_
  rw [Int.ediv_mul_cancel gd]
  exact h1
theorem prD_mk {C : Addr} {T : Tab} {n m : Int} : prD C (T, n / (Nat.gcd n.natAbs m.natAbs : Nat), m / (Nat.gcd n.natAbs m.natAbs : Nat)) = .tup [T.d, ratL C n m] := rfl
def recR (C : Addr) (ds : List Dt) (d : Dt) : Prop := ∃ rc, rcOk rc ∧ d = rcD C rc
abbrev p__law_receiver (K : PySem.W.Frag) (C : Addr) : Sp := spD K 2 (fun ds => ds = [.int 4, .int 5]) (recR C) 180
abbrev t__law_receiver (K : PySem.W.Frag) (C : Addr) : TS := (tSeq (tAsg (tTup tNil) (gName 3))
    (tSeq (tFor (iRng1 (tCons (tOp rAddI (tC (.int 1)) (tCall (p__law_next K) [] E0 (tCons (tVar 0) (tCons (tVar 1) tNil)))) tNil)) (gName 4) (tSeq (tAsg (tCall (p__law_table K) [] E0 (tCons (tVar 0) (tCons (tVar 2) tNil))) (gName 5))
    (tSeq (tIfS (tAnd (tTest (tOp (rNeW K) (tVar 3) (tTup tNil))) (tTest (tOp rGtI (tCall (p__law_next K) [] E0 (tCons (tVar 0) (tCons (tC (.int 3)) tNil))) (tC (.int 0))))) (tAsg (tCall (p__law_like K) [] E0 (tCons (tVar 0) (tCons (tOp (rIx K) (tOp (rIx K) (tVar 3) (tUn rNegI (tC (.int 1)))) (tC (.int 0))) tNil))) (gName 5)) tNext)
    (tSeq (tAsg (tCall (p__law_next K) [] E0 (tCons (tVar 0) (tCons (tC (.int 12)) tNil))) (gName 6))
    (tAsg (tOp (rCatA K) (tVar 3) (tTup (tCons (tTup (tCons (tVar 5) (tCons (tMake C (spRI C) [] E0 (tCons (tVar 6) (tCons (tOp rAddI (tOp rAddI (tVar 6) (tC (.int 1))) (tCall (p__law_next K) [] E0 (tCons (tVar 0) (tCons (tC (.int 20)) tNil)))) tNil))) tNil))) tNil))) (gName 3))))))
    (tRet (tVar 3))))
theorem so_forRE {K : PySem.W.Frag} {S S1 SB SF : Sta} {L : List Addr} {ρ : List (Option Dt)} {P : Po} {j : Nat} {ta : TA} {t : TS} {Ψ : Nat → Prop} (h : EvA K S S1 ρ ta (fun l => ∃ k : Nat, l = [.int k] ∧ Ψ k)) (q : ∀ k, Ψ k → Sg K S1 SB SF L (tFor (iRng1 (tCons (tC (.int k)) tNil)) (gName j) t) ρ P) : Sg K S SB SF L (tFor (iRng1 ta) (gName j) t) ρ P := fun D σ B H b i s f =>
  h σ H i s _ fun vs ds H1 g1 i1 r1 p1 => by
    obtain ⟨k, e, hk⟩ := p1
    subst e
    obtain ⟨v, rfl, rv⟩ := r1.oneI
    obtain rfl := rv.intI
    exact q k hk D σ B H1 (b.up g1) i1 (s.mono g1) f
theorem rv_neT0 {K : PySem.W.Frag} {S : Sta} {xs : List Dt} : Rv2 K S (rNeW K) (.tup xs) (.tup []) (Eq (.bl (!xs.isEmpty))) := rv_at fun H v u _ r1 r2 Q q => by
  obtain ⟨a, vs, rfl, ht, ra⟩ := r1.tupI
  obtain ⟨b, us, rfl, hb, rb⟩ := r2.tupI
  cases rb
  refine .inr ⟨a, b, vs, rfl, rfl, ht, hb, ?_⟩
  have e : vs.isEmpty = xs.isEmpty := by
    cases ra <;> rfl
  rw [e]
  exact q _ (.bl _)
section
variable {K : PySem.W.Frag} {a c : Addr} {cs : List Int} {n : Nat} {ds : List Dt} {C : Addr}
theorem so__law_receiver (hc : cs ≠ []) (hn : n + 180 ≤ 1000000) (hp : ds = [.int 4, .int 5]) :
    So K (DW K a c cs n) (DW K a c cs (n + 180)) [] (t__law_receiver K C) (startD 7 (.raw (.ref a) :: ds)) { nx := fun _ => recR C ds .non, rt := recR C ds } := by
  subst hp
  refine so_setD (ev_tup ea_nil (by decide)) ?_
  refine so_seq (M := fun ρ' => ∃ rc y4 y5 y6, ρ' = [some (.raw (.ref a)), some (.int 4), some (.int 5), some (rcD C rc), y4, y5, y6] ∧ rcOk rc) ?_ fun ρ' hM => ?_
  · refine so_forRE (S1 := DW K a c cs (n + 1)) (Ψ := fun k => 1 ≤ k ∧ k ≤ 4) ?_ fun k ⟨k1, k4⟩ => ?_
    · intro σ H i s Q q
      exact ea_consP (ev_addP (Θ := fun d => ∃ k : Nat, d = .int k ∧ 1 ≤ k ∧ k ≤ 4) ev_int (ev__law_next (ea_cons (ev_var rfl) (ea_cons (ev_var rfl) ea_nil)) hc (by omega) (by decide) (by decide)) fun y ⟨r, e, r0, r1⟩ => ⟨r, e, (1 + r).toNat, by rw [Int.toNat_of_nonneg (by omega)], by omega, by omega⟩) ea_nil σ H i s Q fun vs ds H' g i' r ⟨x, xs, e, ⟨k, ek, k1, k4⟩, e2⟩ => q vs ds H' g i' r ⟨k, by rw [e, ek, ← e2], k1, k4⟩
    -- from here on the count is known
    refine so_forR (n := k) (Z := fun i => DW K a c cs (n + 1 + 44 * i)) (ea_cons ev_int ea_nil) (by omega) (fun i hi => dw_le (by omega)) (fun i hi => dw_le (by omega))
      (fun i ρ' => ∃ rc y4 y5 y6, ρ' = [some (.raw (.ref a)), some (.int 4), some (.int 5), some (rcD C rc), y4, y5, y6] ∧ rc.length = i ∧ ∀ p ∈ rc, prOk p) ⟨[], none, none, none, rfl, rfl, fun _ h => nomatch h⟩ (fun t ρ' ht hJ => ?_) fun ρ' hJ => ?_
    · obtain ⟨rc, y4, y5, y6, rfl, hlen, hrc⟩ := hJ
      refine so_set (ev__law_table (n := n + 1 + 44 * t) (ea_cons (ev_var rfl) (ea_cons (ev_var rfl) ea_nil)) hc (by omega) (by decide) (by decide)) fun d hd => ?_
      obtain ⟨T, hT, rfl, _⟩ := hd
      refine so_seqG (S1 := DW K a c cs (n + 1 + 44 * t + 42)) (M := fun ρ' => ∃ T' : Tab, T'.ok ∧ ρ' = [some (.raw (.ref a)), some (.int 4), some (.int 5), some (rcD C rc), some (.int t), some T'.d, y6]) (dw_le (by omega)) ?_ fun ρ' hM => ?_
      · refine so_if0 (S1 := DW K a c cs (n + 1 + 44 * t + 41)) (Φb := fun b => b = true → rc ≠ []) (et_andS (S1 := DW K a c cs (n + 1 + 44 * t + 40)) (a := !(rc.map (prD C)).isEmpty) (et_test (ev_op (ev_var rfl) (ev_tup ea_nil (by decide)) rv_neT0)) (dw_le (by omega)) (fun _ z => nomatch z) fun e => ?_) (fun e => ?_) fun _ => so_next (dw_le (by omega)) ⟨T, hT, rfl⟩
        · refine (et_testP (Φb := fun _ => True) (ev_opP (ev__law_next (n := n + 1 + 44 * t + 40) (ea_cons (ev_var rfl) (ea_cons ev_int ea_nil)) hc (by omega) (by decide) (by decide)) ev_int fun x y hx' ey => by
            obtain ⟨k, rfl, _⟩ := hx'
            subst ey
            exact fun H v u i r1 r2 Q q => rv_gt H v u i r1 r2 Q fun v' d' H' g i' r e => q v' d' H' g i' r ⟨_, e.symm, trivial⟩)).weak fun b _ _ z => ?_
          rw [z] at e
          cases e
        · obtain ⟨init, p, rfl⟩ : ∃ init p, rc = init ++ [p] := ⟨_, _, (List.dropLast_concat_getLast (e rfl)).symm⟩
          have hp := hrc p (by simp)
          have hl : Ev K (DW K a c cs (n + 1 + 44 * t + 41)) (DW K a c cs (n + 1 + 44 * t + 41)) [some (.raw (.ref a)), some (.int 4), some (.int 5), some (rcD C (init ++ [p])), some (.int t), some T.d, y6] (tOp (rIx K) (tOp (rIx K) (tVar 3) (tUn rNegI (tC (.int 1)))) (tC (.int 0))) (Eq p.1.d) :=
            ev_ixT (xs := [p.1.d, rat C p.2.1 p.2.2]) (ev_ixT (xs := (init ++ [p]).map (prD C)) (d := prD C p) (ev_var rfl) (ev_neg ev_int) (by rw [List.map_append]; exact atI_last _ _)) ev_int (atI_nat (j := 0) rfl)
          refine so_set0 ((ev_callD (ds := [p.1.d]) (n := n + 1 + 44 * t + 41) (ea_cons (ev_var rfl) (ea_cons hl ea_nil)) rfl ⟨p.1, hp.1, rfl⟩ hc (by omega)).weak fun d h => h) (dw_le (by omega)) fun d hd => ?_
          obtain ⟨T', hT', rfl⟩ := hd
          exact ⟨T', hT', rfl⟩
      · obtain ⟨T', hT', rfl⟩ := hM
        refine so_set (ev__law_next (n := n + 1 + 44 * t + 42) (ea_cons (ev_var rfl) (ea_cons ev_int ea_nil)) hc (by omega) (by decide) (by decide)) fun d hd => ?_
        obtain ⟨ab, rfl, ab0, ab1⟩ := hd
        refine so_set0 (S1 := DW K a c cs (n + 1 + 44 * t + 44)) (ev_opP (Θ := fun d => ∃ p, prOk p ∧ d = rcD C (rc ++ [p])) (ev_var (d := rcD C rc) rfl)
          (ev_tupP (ea_consP (ev_tupP (ea_consP (ev_var (d := T'.d) rfl) (ea_consP (ev_mkratP (Φ := fun x y => 0 ≤ x ∧ x < y ∧ y.natAbs < 2 ^ 8000) (S1 := DW K a c cs (n + 1 + 44 * t + 44)) (fun σ H i s Q q => ea_consP (ev_var (d := .int ab) rfl) (ea_consP (ev_addP (Θ := fun d => ∃ y, d = .int y ∧ ab < y ∧ y ≤ 100) (ev_op (ev_var rfl) ev_int rv_add) (ev__law_next (n := n + 1 + 44 * t + 43) (ea_cons (ev_var rfl) (ea_cons ev_int ea_nil)) hc (by omega) (by decide) (by decide)) fun y ⟨r, e, r0, r1⟩ => ⟨r, e, _, rfl, by omega, by omega⟩) ea_nil) σ H i s Q fun vs ds H' g i' r ⟨x, xs, e, ex, y, ys, e2, ⟨z, ez, z0, z1⟩, e3⟩ => q vs ds H' g i' r ⟨ab, z, by rw [e, e2, ← ex, ez, ← e3], ab0, z0, Nat.lt_of_le_of_lt (show z.natAbs ≤ 100 by omega) (by decide)⟩) fun x y ⟨h0, h1, h2⟩ => ⟨h0, by omega, h2⟩) ea_nil)) fun l ⟨x, xs, e, _, y, ys, e2, _, e3⟩ => by rw [e, e2, ← e3]; show 2 ≤ sizeLine; decide) ea_nil) fun l ⟨x, xs, e, _, e2⟩ => by rw [e, ← e2]; show 1 ≤ sizeLine; decide) fun x y ex hy => ?_) (dw_le (by omega)) fun d hd => ?_
        · obtain ⟨l, rfl, d1, l1, rfl, ⟨l2, rfl, x1, l3, rfl, rfl, y1, l4, rfl, ⟨nx, mx, ⟨h0, h1, h2⟩, rfl⟩, rfl⟩, rfl⟩ := hy
          subst ex
          refine fun H v u i r1 r2 Q q => rv_catT (by simp only [List.length_map, List.length_cons, List.length_nil]; exact Nat.le_trans (show rc.length + 1 ≤ 6 by omega) (by decide)) H v u i r1 r2 Q fun v' d' H' g i' r e => q v' d' H' g i' r ⟨_, prOk_mk hT' h0 h1, ?_⟩
          rw [← e]
          show _ = Dt.tup ((rc ++ [_]).map (prD C))
          rw [List.map_append]
          rfl
        · obtain ⟨p, hp, rfl⟩ := hd
          refine ⟨rc ++ [p], _, _, _, rfl, by rw [List.length_append, hlen]; rfl, fun q hq => ?_⟩
          rcases List.mem_append.mp hq with hq | hq
          · exact hrc q hq
          · rw [List.mem_singleton.mp hq]; exact hp
    · obtain ⟨rc, y4, y5, y6, rfl, hlen, hrc⟩ := hJ
      exact ⟨rc, y4, y5, y6, rfl, by omega, by omega, hrc⟩
  · obtain ⟨rc, y4, y5, y6, rfl, hrc⟩ := hM
    exact so_retD (ev_var rfl) (Sta.Le.refl _) ⟨rc, hrc, rfl⟩
end
end Bf
namespace Bf
open PySem PySem.Spec PyProof.Rows L2
/-! ## an object that is no pair of a table and a tolerance -/
def Tab.xs : Tab → List Dt
  | .ha u b => [.str "halves", .int u, .int b]
  | .pa h z1 z2 o1 o2 s b => [.str "pairs", tI h, tI [z1, z2], tI [o1, o2], .int s, .int b]
theorem Tab.d_xs (T : Tab) : T.d = .tup T.xs := by cases T <;> rfl
theorem Tab.len (T : Tab) : T.xs.length = 3 ∨ T.xs.length = 6 := by
  cases T
  · exact .inl rfl
  · exact .inr rfl
/-- a right table with 9 in the place of its last thing is none -/
theorem Tab.nine {T : Tab} (h : T.ok) : (tabPart (.tup (cutD T.xs none (some (-1)) ++ [.int 9]))).isNon = false := by
  cases e : (tabPart (.tup (cutD T.xs none (some (-1)) ++ [.int 9]))).isNon with
  | false => rfl
  | true =>
    exfalso
    have e' : tabPart (.tup (cutD T.xs none (some (-1)) ++ [.int 9])) = .non := by
      rcases tabPart_str (.tup (cutD T.xs none (some (-1)) ++ [.int 9])) with h | ⟨p, h⟩
      · exact h
      · rw [h] at e
        cases e
    obtain ⟨T', hT', e2⟩ := tab_of e'
    have hl : ∀ ys : List Dt, .tup (ys ++ [.int 9]) = T'.d → False := fun ys e3 => by
      have hb := (Tab.b1 hT').2
      cases T' with
      | ha u b =>
        have e3 : Dt.tup (ys ++ [.int 9]) = .tup [.str "halves", .int u, .int b] := e3
        injection e3 with e3
        have := congrArg List.getLast? e3
        simp at this
        have hb' : b ≤ 8 := hb
        omega
      | pa h z1 z2 o1 o2 s b =>
        have e3 : Dt.tup (ys ++ [.int 9]) = .tup [.str "pairs", tI h, tI [z1, z2], tI [o1, o2], .int s, .int b] := e3
        injection e3 with e3
        have := congrArg List.getLast? e3
        simp at this
        have hb' : b ≤ 8 := hb
        omega
    exact hl _ e2
def odds (C : Addr) (xs : List Dt) (sh : Dt) : List Dt :=
  ([.non, .tup xs, .tup [.tup xs], .lst [.tup xs, sh], .tup [.tup xs, sh, sh], .tup [sh, .tup xs], .tup [.tup xs, .int 0], .tup [.tup xs, .str "1/4"]] ++ [.tup [.tup xs, rat C 1 1], .tup [.tup xs, ratL C 9 8], .tup [.tup xs, .non], .tup [.lst xs, sh], .tup [.tup (cutD xs none (some (-1))), sh]]) ++ [.tup [.tup [], sh], .tup [.tup (cutD xs none (some (-1)) ++ [.int 9]), sh], .tup [.non, sh], .dic, .tup [.tup xs, .bl true], .int 5, .tup []]
theorem cut_m1 (xs : List Dt) : cutD xs none (some (-1)) = xs.take (xs.length - 1) := by
  unfold cutD
  have e : HT.sIx xs.length xs.length (some (-1)) = xs.length - 1 := by
    show (if (-1 : Int) < 0 then ((-1 : Int) + (xs.length : Int)).toNat else min (-1 : Int).toNat xs.length) = _
    rw [if_pos (by decide)]
    omega
  rw [e, HT.sIx_none, List.drop_zero, Nat.sub_zero]
theorem odds_ok {C : Addr} {T : Tab} (hT : T.ok) {n m : Int} {d : Dt} (h : d ∈ odds C T.xs (rat C n m)) : elR C d ∧ pairB d = false := by
  have hl := T.len
  have hp : plD (.tup T.xs) := by rw [← T.d_xs]; exact ⟨pl_tab T, plSA_tab hT⟩
  have hsh : okRt C (rat C n m) := .inr ⟨_, _, rfl⟩
  have hsub : ∀ ys : List Dt, (∀ y ∈ ys, y ∈ T.xs ∨ y = .int 9) → plD (.tup ys) := fun ys hy => by
    have hpx := pl_tup hp.1
    have hsx : ∀ x ∈ T.xs, plS x = true := List.all_eq_true.mp (hp.2 T.xs rfl)
    refine ⟨?_, fun xs e => ?_⟩
    · unfold pl
      refine plA_all.mpr fun y hy' => ?_
      rcases hy y hy' with h | rfl
      · exact hpx y h
      · rfl
    · cases e
      refine List.all_eq_true.mpr fun y hy' => ?_
      rcases hy y hy' with h | rfl
      · exact hsx y h
      · rfl
  have hcut : ∀ y ∈ cutD T.xs none (some (-1)), y ∈ T.xs := fun y hy => cutD_sub hy
  -- no pair
  have np : ∀ xs : List Dt, xs.length ≠ 2 → elR C (.tup xs) ∧ pairB (.tup xs) = false := fun xs h2 => by
    refine ⟨⟨.inl rfl, fun a b e => by cases e; exact absurd rfl h2⟩, ?_⟩
    match xs, h2 with
    | [], _ => rfl
    | [_], _ => rfl
    | [_, _], h2 => exact absurd rfl h2
    | _ :: _ :: _ :: _, _ => rfl
  have pr : ∀ x y : Dt, plRt C x → okRt C y → ((tabPart x).isNon = false ∨ blw y = false) → elR C (.tup [x, y]) ∧ pairB (.tup [x, y]) = false := fun x y hx hy hb => by
    refine ⟨⟨.inl rfl, fun a b e => by cases e; exact ⟨hx, hy⟩⟩, ?_⟩
    show ((tabPart x).isNon && blw y) = false
    rcases hb with h | h
    · rw [h, Bool.false_and]
    · rw [h, Bool.and_false]
  simp only [odds, List.mem_append, List.mem_cons, List.not_mem_nil, or_false] at h
  rcases h with ((rfl | rfl | rfl | rfl | rfl | rfl | rfl | rfl) | (rfl | rfl | rfl | rfl | rfl)) | (rfl | rfl | rfl | rfl | rfl | rfl | rfl)
  · exact ⟨⟨.inl rfl, fun a b e => by cases e⟩, rfl⟩
  · exact np _ (by omega)
  · exact np _ (by show 1 ≠ 2; decide)
  · exact ⟨⟨.inl rfl, fun a b e => by cases e⟩, rfl⟩
  · exact np _ (by show 3 ≠ 2; decide)
  · exact pr _ _ (.inr ⟨_, _, rfl⟩) (.inl rfl) (.inl rfl)
  · exact pr _ _ (.inl hp) (.inl rfl) (.inr rfl)
  · exact pr _ _ (.inl hp) (.inl rfl) (.inr rfl)
  · exact pr _ _ (.inl hp) (.inr ⟨_, _, rfl⟩) (.inr rfl)
  · exact pr _ _ (.inl hp) (.inr ⟨_, _, rfl⟩) (.inr (by show decide ((9 : Int) / (Nat.gcd (9 : Int).natAbs (8 : Int).natAbs : Nat) < (8 : Int) / (Nat.gcd (9 : Int).natAbs (8 : Int).natAbs : Nat)) = false; decide +kernel))
  · exact pr _ _ (.inl hp) (.inl rfl) (.inr rfl)
  · refine pr _ _ (.inl ⟨?_, fun xs e => by cases e⟩) hsh (.inl rfl)
    have := hp.1
    unfold pl at this ⊢
    exact this
  · refine pr _ _ (.inl (hsub _ fun y hy => .inl (hcut y hy))) hsh (.inl ?_)
    have hlen : (cutD T.xs none (some (-1))).length = T.xs.length - 1 := by rw [cut_m1, List.length_take]; omega
    have h1 : bwD (.tup (cutD T.xs none (some (-1)))) "pairs" 6 = false := by
      cases e : bwD (.tup (cutD T.xs none (some (-1)))) "pairs" 6 with
      | false => rfl
      | true =>
        obtain ⟨ys, e1, e2⟩ := bwD_shape e
        cases e1
        omega
    have h2 : bwD (.tup (cutD T.xs none (some (-1)))) "halves" 3 = false := by
      cases e : bwD (.tup (cutD T.xs none (some (-1)))) "halves" 3 with
      | false => rfl
      | true =>
        obtain ⟨ys, e1, e2⟩ := bwD_shape e
        cases e1
        omega
    rw [tabPart, if_neg (by rw [h1]; decide), if_neg (by rw [h2]; decide)]
    rfl
  · exact pr _ _ (.inl ⟨rfl, fun xs e => by cases e; rfl⟩) hsh (.inl rfl)
  · refine pr _ _ (.inl (hsub _ fun y hy => ?_)) hsh (.inl (Tab.nine hT))
    rcases List.mem_append.mp hy with hy | hy
    · exact .inl (hcut y hy)
    · exact .inr (List.mem_singleton.mp hy)
  · exact pr _ _ (.inl ⟨rfl, fun xs e => by cases e⟩) hsh (.inl rfl)
  · exact ⟨⟨.inl rfl, fun a b e => by cases e⟩, rfl⟩
  · exact pr _ _ (.inl hp) (.inl rfl) (.inr rfl)
  · exact ⟨⟨.inl rfl, fun a b e => by cases e⟩, rfl⟩
  · exact np _ (by decide)
def oddR (C : Addr) (ds : List Dt) (d : Dt) : Prop := elR C d ∧ pairB d = false
abbrev p__law_odd_pair (K : PySem.W.Frag) (C : Addr) : Sp := spD K 1 (fun ds => ∃ p, prOk p ∧ ds = [prD C p]) (oddR C) 1
abbrev t__law_odd_pair (K : PySem.W.Frag) (C : Addr) : TS := (tSeq (tAsg (tVar 1) (gTup K 2 (gCons (gName 2) (gCons (gName 3) gNil))))
    (tSeq (tAsg (tLst (tCons (tC .non) (tCons (tVar 2) (tCons (tTup (tCons (tVar 2) tNil)) (tCons (tLst (tCons (tVar 2) (tCons (tVar 3) tNil))) (tCons (tTup (tCons (tVar 2) (tCons (tVar 3) (tCons (tVar 3) tNil)))) (tCons (tTup (tCons (tVar 3) (tCons (tVar 2) tNil))) (tCons (tTup (tCons (tVar 2) (tCons (tC (.int 0)) tNil))) (tCons (tTup (tCons (tVar 2) (tCons (tC (.str "1/4")) tNil))) tNil))))))))) (gName 4))
    (tSeq (tAsg (tOp (rCatS K) (tVar 4) (tLst (tCons (tTup (tCons (tVar 2) (tCons (tMake C (spRI C) [.int 1] E0 (tCons (tC (.int 1)) tNil)) tNil))) (tCons (tTup (tCons (tVar 2) (tCons (tMake C (spRI C) [] E0 (tCons (tC (.int 9)) (tCons (tC (.int 8)) tNil))) tNil))) (tCons (tTup (tCons (tVar 2) (tCons (tC .non) tNil))) (tCons (tTup (tCons (tCB (rLstO K) (tCons (tVar 2) tNil)) (tCons (tVar 3) tNil))) (tCons (tTup (tCons (tSl (rSlA K) (tVar 2) tNoPart (tPart (tUn rNegI (tC (.int 1))))) (tCons (tVar 3) tNil))) tNil))))))) (gName 4))
    (tRet (tCall (p__law_pick K) [] E0 (tCons (tVar 0) (tCons (tOp (rCatS K) (tVar 4) (tLst (tCons (tTup (tCons (tTup tNil) (tCons (tVar 3) tNil))) (tCons (tTup (tCons (tOp (rCatA K) (tSl (rSlA K) (tVar 2) tNoPart (tPart (tUn rNegI (tC (.int 1))))) (tTup (tCons (tC (.int 9)) tNil))) (tCons (tVar 3) tNil))) (tCons (tTup (tCons (tC .non) (tCons (tVar 3) tNil))) (tCons tDNewK (tCons (tTup (tCons (tVar 2) (tCons (tC (.bl true)) tNil))) (tCons (tC (.int 5)) (tCons (tTup tNil) tNil))))))))) tNil)))))))
section
variable {K : PySem.W.Frag} {a c : Addr} {cs : List Int} {n : Nat} {ds : List Dt} {C : Addr}
theorem ev_tup2 {S S1 S2 : Sta} {ρ : List (Option Dt)} {ta tb : TE} {x y : Dt} (ha : Ev K S S1 ρ ta (Eq x)) (hb : Ev K S1 S2 ρ tb (Eq y)) : Ev K S S2 ρ (tTup (tCons ta (tCons tb tNil))) (Eq (.tup [x, y])) := ev_tup (ea_cons ha (ea_cons hb ea_nil)) (by show 2 ≤ sizeLine; decide)
theorem so__law_odd_pair (hc : cs ≠ []) (hn : n + 1 ≤ 1000000) (hp : ∃ p, prOk p ∧ ds = [prD C p]) :
    So K (DW K a c cs n) (DW K a c cs (n + 1)) [] (t__law_odd_pair K C) (startD 5 (.raw (.ref a) :: ds)) { nx := fun _ => oddR C ds .non, rt := oddR C ds } := by
  obtain ⟨⟨T, rn, rm⟩, ⟨hT, _, _⟩, rfl⟩ := hp
  have hl := T.len
  have hT' : T.ok := hT
  refine so_unp (is := [2, 3]) (xs := [.tup T.xs, rat C rn rm]) ((ev_var (d := prD C (T, rn, rm)) rfl).to (by show Dt.tup [T.d, rat C rn rm] = _; rw [T.d_xs])) rfl rfl rfl ?_
  refine so_setD (ev_lst (ea_cons ev_non (ea_cons (ev_var rfl) (ea_cons (ev_tup (ea_cons (ev_var rfl) ea_nil) (by show 1 ≤ sizeLine; decide)) (ea_cons (ev_lst (ea_cons (ev_var rfl) (ea_cons (ev_var rfl) ea_nil)) (by show 2 ≤ sizeLine; decide)) (ea_cons (ev_tup (ea_cons (ev_var rfl) (ea_cons (ev_var rfl) (ea_cons (ev_var rfl) ea_nil))) (by show 3 ≤ sizeLine; decide)) (ea_cons (ev_tup2 (ev_var rfl) (ev_var rfl)) (ea_cons (ev_tup2 (ev_var rfl) ev_int) (ea_cons (ev_tup2 (ev_var rfl) ev_str) ea_nil)))))))) (by show 8 ≤ sizeLine; decide)) ?_
  refine so_setD (ev_op (ev_var rfl) (ev_lst (ea_cons (ev_tup2 (ev_var rfl) (ev_mkrat1 (C := C) (ea_cons ev_int ea_nil) (by decide))) (ea_cons (ev_tup2 (ev_var rfl) (ev_mkrat (C := C) (ea_cons ev_int (ea_cons ev_int ea_nil)) (by decide) (by decide) (by decide))) (ea_cons (ev_tup2 (ev_var rfl) ev_non) (ea_cons (ev_tup2 (ev_cb (ea_cons (ev_var rfl) ea_nil) rc_lstT) (ev_var rfl)) (ea_cons (ev_tup2 (ev_slT (ev_var rfl) eo_none (eo_some (ev_neg ev_int))) (ev_var rfl)) ea_nil))))) (by show 5 ≤ sizeLine; decide)) (rv_catL (by show 13 ≤ sizeLine; decide))) ?_
  refine so_ret (ev__law_pick (n := n) (xs := odds C T.xs (rat C rn rm)) (ea_cons (ev_var rfl) (ea_cons (ev_op (ev_var rfl) (ev_lst (ea_cons (ev_tup2 (ev_tup ea_nil (by decide)) (ev_var rfl)) (ea_cons (ev_tup2 (ev_op (ev_slT (ev_var rfl) eo_none (eo_some (ev_neg ev_int))) (ev_tup (ea_cons ev_int ea_nil) (by show 1 ≤ sizeLine; decide)) (rv_catT (Nat.le_trans (show (cutD T.xs none (some (-1))).length + 1 ≤ 7 by have := cutD_le T.xs none (some (-1)); omega) (by decide)))) (ev_var rfl)) (ea_cons (ev_tup2 ev_non (ev_var rfl)) (ea_cons ev_dic (ea_cons (ev_tup2 (ev_var rfl) ev_bl) (ea_cons ev_int (ea_cons (ev_tup ea_nil (by decide)) ea_nil))))))) (by show 7 ≤ sizeLine; decide)) (rv_catL (by show 20 ≤ sizeLine; decide))) ea_nil)) hc (by omega) (by simp [odds]) (by show 20 ≤ 100000; decide)) (dw_le (by omega)) fun d hd => odds_ok hT' hd
end
end Bf
namespace Bf
open PySem PySem.Spec PyProof.Rows L2
/-! ## _law_sendings_right -/
def wI (w : List Int) : List Dt := w.map Dt.int
def sds (rc : List (Tab × Int × Int)) (r : Int) (w : List Int) : List Dt :=
  ([.tup [.int rc.length, tI w], .tup [.int (-1), tI w], .tup [.non, tI w], .tup [.bl true, tI w], .tup [.int r, .tup (wI w ++ [.int 0])], .tup [.int r, .lst (wI w)], .tup [.int r]]
    ++ [.tup [.int r, .tup (cutD (wI w) none (some (-1)))], .tup [.int r, .tup (cutD (wI w) none (some (-1)) ++ [.int 2])], .tup [.int r, tI w, .int 0], .lst [.int r, tI w], tI w, .non, .int r, .tup [tI w, .int r]])
    ++ [.tup [.int r, .tup (cutD (wI w) none (some (-1)) ++ [.bl true])], .tup [.int r, .non], .tup [.str "0", tI w], .dic]
theorem isWd_bad2 {b : Int} {xs : List Dt} {x : Dt} (h : isWF x 0 1 = false) : isWd b (.tup (xs ++ [x])) = false := by
  have := isWd_bad (b := b) (xs := xs) (ys := []) h
  simpa using this
section
variable {rc : List (Tab × Int × Int)} {r : Int} {w : List Int} {p : Tab × Int × Int}
theorem snd_at {x : Dt} (r0 : 0 ≤ r) (hp : rc[r.toNat]? = some p) : isSnd rc (.tup [.int r, x]) = isWd p.1.b x := by
  have hlt := (List.getElem?_eq_some_iff.mp hp).1
  show (decide (0 ≤ r ∧ r ≤ (rc.length : Int) - 1) && (match rc[r.toNat]? with | some p => isWd p.1.b x | none => false)) = _
  rw [hp, decide_eq_true (by omega), Bool.true_and]
theorem snd_out {i : Int} {x : Dt} (h : ¬ (0 ≤ i ∧ i ≤ (rc.length : Int) - 1)) : isSnd rc (.tup [.int i, x]) = false := by
  show (decide (0 ≤ i ∧ i ≤ (rc.length : Int) - 1) && (match rc[i.toNat]? with | some p => isWd p.1.b x | none => false)) = _
  rw [decide_eq_false h, Bool.false_and]
theorem sds_ok (hrc : rcOk rc) (r0 : 0 ≤ r) (hp : rc[r.toNat]? = some p) (hw : isBits p.1.b.toNat w) {d : Dt} (h : d ∈ sds rc r w) : sndP d ∧ isSnd rc d = false := by
  have hpo := hrc.2.2 p (List.mem_of_getElem? hp)
  have hb := Tab.b1 hpo.1
  have hwl : (w.length : Int) = p.1.b := by rw [hw.1]; exact Int.toNat_of_nonneg (by omega)
  have plw : ∀ x ∈ wI w, pl x = true := fun x hx => by
    obtain ⟨y, _, rfl⟩ := List.mem_map.mp hx
    rfl
  have lw : (wI w).length = w.length := List.length_map ..
  have pS : ∀ ys : List Dt, (∀ y ∈ ys, pl y = true) → ys.length ≤ 100 → plS (.tup ys) = true := fun ys h1 h2 => plS_tup h1 (by omega)
  have pw : plS (tI w) = true := pS _ plw (by rw [List.length_map]; omega)
  have hcl : (cutD (wI w) none (some (-1))).length = w.length - 1 := by rw [cut_m1, List.length_take, lw]; omega
  have pcut : ∀ x ∈ cutD (wI w) none (some (-1)), pl x = true := fun x hx => plw x (cutD_sub hx)
  have papp : ∀ (ys : List Dt) (x : Dt), (∀ y ∈ ys, pl y = true) → pl x = true → ys.length ≤ 50 → plS (.tup (ys ++ [x])) = true := fun ys x h1 h2 h3 => pS _ (fun y hy => by
    rcases List.mem_append.mp hy with hy | hy
    · exact h1 y hy
    · rw [List.mem_singleton.mp hy]; exact h2) (by rw [List.length_append]; show ys.length + 1 ≤ 100; omega)
  have pr : ∀ x y : Dt, okN x = true → plS y = true → isSnd rc (.tup [x, y]) = false → sndP (.tup [x, y]) ∧ isSnd rc (.tup [x, y]) = false := fun x y hx hy hb => ⟨⟨rfl, fun a b e => by cases e; exact ⟨hx, hy⟩⟩, hb⟩
  simp only [sds, List.mem_append, List.mem_cons, List.not_mem_nil, or_false] at h
  rcases h with ((rfl | rfl | rfl | rfl | rfl | rfl | rfl) | (rfl | rfl | rfl | rfl | rfl | rfl | rfl | rfl)) | (rfl | rfl | rfl | rfl)
  · refine pr _ _ rfl pw ?_
    exact snd_out (by omega)
  · exact pr _ _ rfl pw (snd_out (by omega))
  · exact pr _ _ rfl pw rfl
  · exact pr _ _ rfl pw rfl
  · refine pr _ _ rfl (papp _ _ plw rfl (by omega)) ?_
    rw [snd_at r0 hp]
    exact isWd_len (by rw [List.length_append, lw]; show ((w.length + 1 : Nat) : Int) ≠ p.1.b; omega)
  · refine pr _ _ rfl ?_ ?_
    · simp only [plS, pl, Bool.and_true]
      exact plA_all.mpr plw
    · rw [snd_at r0 hp]; rfl
  · exact ⟨⟨rfl, fun a b e => by cases e⟩, rfl⟩
  · refine pr _ _ rfl (pS _ pcut (by omega)) ?_
    rw [snd_at r0 hp]
    exact isWd_len (by rw [hcl]; omega)
  · refine pr _ _ rfl (papp _ _ pcut rfl (by omega)) ?_
    rw [snd_at r0 hp]
    exact isWd_bad2 rfl
  · exact ⟨⟨rfl, fun a b e => by cases e⟩, rfl⟩
  · exact ⟨⟨rfl, fun a b e => by cases e⟩, rfl⟩
  · refine ⟨⟨rfl, fun a b e => ?_⟩, ?_⟩
    · have e' : wI w = [a, b] := by injection e
      have ha : pl a = true := plw a (by rw [e']; simp)
      have hbm : b ∈ wI w := by rw [e']; simp
      obtain ⟨y, _, rfl⟩ := List.mem_map.mp hbm
      exact ⟨pl_okN ha, rfl⟩
    · show isSnd rc (.tup (wI w)) = false
      match w with
      | [] => rfl
      | [_] => rfl
      | [x, y] =>
        show (decide _ && (match rc[x.toNat]? with | some p => isWd p.1.b (.int y) | none => false)) = false
        cases rc[x.toNat]? <;> simp [isWd]
      | _ :: _ :: _ :: _ => rfl
  · exact ⟨⟨rfl, fun a b e => by cases e⟩, rfl⟩
  · exact ⟨⟨rfl, fun a b e => by cases e⟩, rfl⟩
  · exact pr _ _ rfl rfl rfl
  · refine pr _ _ rfl (papp _ _ pcut rfl (by omega)) ?_
    rw [snd_at r0 hp]
    exact isWd_bad2 rfl
  · refine pr _ _ rfl rfl ?_
    rw [snd_at r0 hp]
    rfl
  · exact pr _ _ rfl pw rfl
  · exact ⟨⟨rfl, fun a b e => by cases e⟩, rfl⟩
end
def srR (ds : List Dt) (d : Dt) : Prop := d = .bl true
abbrev p__law_sendings_right (K : PySem.W.Frag) (C : Addr) : Sp := spD K 1 (fun ds => ∃ rc, rcOk rc ∧ ds = [rcD C rc]) srR 2
abbrev t__law_sendings_right (K : PySem.W.Frag) (C : Addr) : TS := (tSeq (tAsg (tCall (p__law_next K) [] E0 (tCons (tVar 0) (tCons (tCB (rLen K) (tCons (tVar 1) tNil)) tNil))) (gName 2))
    (tSeq (tAsg (tCall (p__law_pick K) [] E0 (tCons (tVar 0) (tCons (tCall (p__law_words K) [] E0 (tCons (tOp (rIx K) (tOp (rIx K) (tOp (rIx K) (tVar 1) (tVar 2)) (tC (.int 0))) (tUn rNegI (tC (.int 1)))) tNil)) tNil))) (gName 3))
    (tSeq (tIfS (tOr (tTest (tOp rNotB (tCall (p_is_sending K C) [] E0 (tCons (tVar 1) (tCons (tTup (tCons (tVar 2) (tCons (tVar 3) tNil))) tNil))) (tC (.bl true)))) (tTest (tOp rNotB (tCallW (p_is_sending K C) 2 swpV E0 (tCons (tTup (tCons (tVar 2) (tCons (tVar 3) tNil))) (tCons (tVar 1) tNil))) (tC (.bl true))))) (tRet (tC (.bl false))) tNext)
    (tSeq (tAsg (tLst (tCons (tTup (tCons (tCB (rLen K) (tCons (tVar 1) tNil)) (tCons (tVar 3) tNil))) (tCons (tTup (tCons (tUn rNegI (tC (.int 1))) (tCons (tVar 3) tNil))) (tCons (tTup (tCons (tC .non) (tCons (tVar 3) tNil))) (tCons (tTup (tCons (tC (.bl true)) (tCons (tVar 3) tNil))) (tCons (tTup (tCons (tVar 2) (tCons (tOp (rCatA K) (tVar 3) (tTup (tCons (tC (.int 0)) tNil))) tNil))) (tCons (tTup (tCons (tVar 2) (tCons (tCB (rLstO K) (tCons (tVar 3) tNil)) tNil))) (tCons (tTup (tCons (tVar 2) tNil)) tNil)))))))) (gName 4))
    (tSeq (tAsg (tOp (rCatS K) (tVar 4) (tLst (tCons (tTup (tCons (tVar 2) (tCons (tSl (rSlA K) (tVar 3) tNoPart (tPart (tUn rNegI (tC (.int 1))))) tNil))) (tCons (tTup (tCons (tVar 2) (tCons (tOp (rCatA K) (tSl (rSlA K) (tVar 3) tNoPart (tPart (tUn rNegI (tC (.int 1))))) (tTup (tCons (tC (.int 2)) tNil))) tNil))) (tCons (tTup (tCons (tVar 2) (tCons (tVar 3) (tCons (tC (.int 0)) tNil)))) (tCons (tLst (tCons (tVar 2) (tCons (tVar 3) tNil))) (tCons (tVar 3) (tCons (tC .non) (tCons (tVar 2) (tCons (tTup (tCons (tVar 3) (tCons (tVar 2) tNil))) tNil)))))))))) (gName 4))
    (tSeq (tAsg (tOp (rCatS K) (tVar 4) (tLst (tCons (tTup (tCons (tVar 2) (tCons (tOp (rCatA K) (tSl (rSlA K) (tVar 3) tNoPart (tPart (tUn rNegI (tC (.int 1))))) (tTup (tCons (tC (.bl true)) tNil))) tNil))) (tCons (tTup (tCons (tVar 2) (tCons (tC .non) tNil))) (tCons (tTup (tCons (tC (.str "0")) (tCons (tVar 3) tNil))) (tCons tDNewK tNil)))))) (gName 5))
    (tRet (tOp (rEqD K) (tLc (iList K (tVar 5)) (gName 6) (tTest (tOp rNotB (tCall (p_is_sending K C) [] E0 (tCons (tVar 1) (tCons (tVar 6) tNil))) (tC (.bl false)))) (tVar 6) [6]) (tLst tNil)))))))))
section
variable {K : PySem.W.Frag} {a c : Addr} {cs : List Int} {n : Nat} {ds : List Dt} {C : Addr}
theorem ev_lastT {S : Sta} {T : Tab} {ρ : List (Option Dt)} {ta : TE} (h : Ev K S S ρ ta (Eq T.d)) : Ev K S S ρ (tOp (rIx K) ta (tUn rNegI (tC (.int 1)))) (Eq (.int T.b)) := by
  cases T with
  | ha u b => exact ev_ixT h (ev_neg ev_int) rfl
  | pa h z1 z2 o1 o2 s b => exact ev_ixT h (ev_neg ev_int) rfl
theorem so__law_sendings_right (hc : cs ≠ []) (hn : n + 2 ≤ 1000000) (hp : ∃ rc, rcOk rc ∧ ds = [rcD C rc]) :
    So K (DW K a c cs n) (DW K a c cs (n + 2)) [] (t__law_sendings_right K C) (startD 7 (.raw (.ref a) :: ds)) { nx := fun _ => srR ds .non, rt := srR ds } := by
  obtain ⟨rc, hrc, rfl⟩ := hp
  have hl : (rc.map (prD C)).length = rc.length := List.length_map ..
  refine so_set (ev__law_next (n := n) (m := (rc.length : Nat)) (ea_cons (ev_var rfl) (ea_cons ((ev_lenT (xs := rc.map (prD C)) (ev_var rfl)).to (by rw [hl])) ea_nil)) hc (by omega) (by have := hrc.1; omega) (Nat.lt_of_le_of_lt (show _ ≤ 100 by have := hrc.2.1; omega) (by decide))) fun d hd => ?_
  obtain ⟨r, rfl, r0, r1⟩ := hd
  have hlt : r.toNat < rc.length := by omega
  have hii : ((r.toNat : Nat) : Int) = r := Int.toNat_of_nonneg r0
  obtain ⟨p, hp⟩ : ∃ p, rc[r.toNat]? = some p := ⟨_, List.getElem?_eq_getElem hlt⟩
  have hat : atI (rc.map (prD C)) r = some (prD C p) := by
    have := atI_nat (xs := rc.map (prD C)) (j := r.toNat) (v := prD C p) (by rw [List.getElem?_map, hp]; rfl)
    rwa [hii] at this
  have hpo := hrc.2.2 p (List.mem_of_getElem? hp)
  have hb := Tab.b1 hpo.1
  have b0 : 0 ≤ p.1.b := by omega
  have hlen : (wordsD p.1.b).length ≤ 256 := by
    rw [wordsD, List.length_map, wordsL_len]
    exact Nat.pow_le_pow_right (n := 2) (by decide) (show p.1.b.toNat ≤ 8 by omega)
  have hne : wordsD p.1.b ≠ [] := by
    intro e
    have := congrArg List.length e
    rw [wordsD, List.length_map, wordsL_len] at this
    exact absurd this (Nat.ne_of_gt (Nat.two_pow_pos _))
  refine so_set (ev__law_pick (n := n + 1) (xs := wordsD p.1.b) (ea_cons (ev_var rfl) (ea_cons (ev__law_words (ev_lastT (ev_ixT (xs := [p.1.d, rat C p.2.1 p.2.2]) (d := p.1.d) (ev_ixT (xs := rc.map (prD C)) (d := prD C p) (ev_var rfl) (ev_var rfl) hat) ev_int (atI_nat (j := 0) rfl))) b0 hb.2) ea_nil)) hc (by omega) hne (by omega)) fun d hd => ?_
  obtain ⟨w, hw, rfl⟩ := List.mem_map.mp hd
  have hbits := wordsL_bits _ w hw
  have hwl : (w.length : Int) = p.1.b := by rw [hbits.1]; exact Int.toNat_of_nonneg b0
  have hsnd : isSnd rc (.tup [.int r, tI w]) = true := by rw [snd_at r0 hp]; exact isWd_word b0 hbits
  have hsp : sndP (.tup [.int r, tI w]) := ⟨rfl, fun a b e => by cases e; exact ⟨rfl, plS_tI (by omega)⟩⟩
  refine so_ifF (et_orF ((et_test (ev_op (ev_callR (R := r_is C) (ea_cons (ev_var rfl) (ea_cons (ev_tup2 (ev_var rfl) (ev_var rfl)) ea_nil)) rfl ⟨rc, _, hrc, rfl, hsp, rfl⟩) ev_bl rv_notB)).to (by rw [hsnd]; rfl)) ((et_test (ev_op (ev_callRW (R := r_is C) (ea_cons (ev_tup2 (ev_var rfl) (ev_var rfl)) (ea_cons (ev_var rfl) ea_nil)) rfl (fun _ _ r => swpV_rep r) rfl ⟨rc, _, hrc, rfl, hsp, rfl⟩) ev_bl rv_notB)).to (by rw [hsnd]; rfl))) (so_skip ?_)
  have lw : (wI w).length = w.length := List.length_map ..
  have hcl : (cutD (wI w) none (some (-1))).length ≤ w.length := by have := cutD_le (wI w) none (some (-1)); omega
  have ecut : ∀ {y4 y5 y6 : Option Dt}, Ev K (DW K a c cs (n + 2)) (DW K a c cs (n + 2)) [some (.raw (.ref a)), some (rcD C rc), some (.int r), some (tI w), y4, y5, y6] (tSl (rSlA K) (tVar 3) tNoPart (tPart (tUn rNegI (tC (.int 1))))) (Eq (.tup (cutD (wI w) none (some (-1))))) := fun {_ _ _} => ev_slT (xs := wI w) (ev_var rfl) eo_none (eo_some (ev_neg ev_int))
  have eapp : ∀ {y4 y5 y6 : Option Dt} {tx : TE} {x : Dt}, Ev K (DW K a c cs (n + 2)) (DW K a c cs (n + 2)) [some (.raw (.ref a)), some (rcD C rc), some (.int r), some (tI w), y4, y5, y6] tx (Eq x) → Ev K (DW K a c cs (n + 2)) (DW K a c cs (n + 2)) [some (.raw (.ref a)), some (rcD C rc), some (.int r), some (tI w), y4, y5, y6] (tOp (rCatA K) (tSl (rSlA K) (tVar 3) tNoPart (tPart (tUn rNegI (tC (.int 1))))) (tTup (tCons tx tNil))) (Eq (.tup (cutD (wI w) none (some (-1)) ++ [x]))) := fun {_ _ _ _ _} h =>
    ev_op ecut (ev_tup (ea_cons h ea_nil) (by show 1 ≤ sizeLine; decide)) (rv_catT (Nat.le_trans (show (cutD (wI w) none (some (-1))).length + 1 ≤ 10 by omega) (by decide)))
  refine so_setD (ev_lst (ea_cons (ev_tup2 ((ev_lenT (xs := rc.map (prD C)) (ev_var rfl)).to (by rw [hl])) (ev_var rfl)) (ea_cons (ev_tup2 (ev_neg ev_int) (ev_var rfl)) (ea_cons (ev_tup2 ev_non (ev_var rfl)) (ea_cons (ev_tup2 ev_bl (ev_var rfl)) (ea_cons (ev_tup2 (ev_var rfl) (ev_op (ev_var (d := .tup (wI w)) rfl) (ev_tup (ea_cons ev_int ea_nil) (by show 1 ≤ sizeLine; decide)) (rv_catT (Nat.le_trans (show (wI w).length + 1 ≤ 10 by omega) (by decide))))) (ea_cons (ev_tup2 (ev_var rfl) (ev_cb (ea_cons (ev_var (d := .tup (wI w)) rfl) ea_nil) rc_lstT)) (ea_cons (ev_tup (ea_cons (ev_var rfl) ea_nil) (by show 1 ≤ sizeLine; decide)) ea_nil))))))) (by show 7 ≤ sizeLine; decide)) ?_
  refine so_setD (ev_op (ev_var rfl) (ev_lst (ea_cons (ev_tup2 (ev_var rfl) ecut) (ea_cons (ev_tup2 (ev_var rfl) (eapp ev_int)) (ea_cons (ev_tup (ea_cons (ev_var rfl) (ea_cons (ev_var rfl) (ea_cons ev_int ea_nil))) (by show 3 ≤ sizeLine; decide)) (ea_cons (ev_lst (ea_cons (ev_var rfl) (ea_cons (ev_var rfl) ea_nil)) (by show 2 ≤ sizeLine; decide)) (ea_cons (ev_var rfl) (ea_cons ev_non (ea_cons (ev_var rfl) (ea_cons (ev_tup2 (ev_var rfl) (ev_var rfl)) ea_nil)))))))) (by show 8 ≤ sizeLine; decide)) (rv_catL (by show 15 ≤ sizeLine; decide))) ?_
  refine so_setD (d := .lst (sds rc r w)) (ev_op (ev_var rfl) (ev_lst (ea_cons (ev_tup2 (ev_var rfl) (eapp ev_bl)) (ea_cons (ev_tup2 (ev_var rfl) ev_non) (ea_cons (ev_tup2 ev_str (ev_var rfl)) (ea_cons ev_dic ea_nil)))) (by show 4 ≤ sizeLine; decide)) (rv_catL (by show 19 ≤ sizeLine; decide))) ?_
  have hok := fun d hd => sds_ok hrc r0 hp hbits (d := d) hd
  have hfil : ((sds rc r w).filter (isSnd rc)).map (fun d => d) = [] := by
    rw [List.map_id', List.filter_eq_nil_iff]
    intro d hd
    rw [(hok d hd).2]
    decide
  refine so_retD ((ev_op (x := .lst (((sds rc r w).filter (isSnd rc)).map (fun d => d))) (ev_lcL (xs := sds rc r w) (f := fun d => d) (p := isSnd rc) dw_mu (ev_var rfl) (by decide) (by show 19 ≤ 100000; decide) (fun x hx => (et_test (ev_op (ev_callR (R := r_is C) (ea_cons (ev_var rfl) (ea_cons (ev_var rfl) ea_nil)) rfl ⟨rc, x, hrc, rfl, (hok x hx).1, rfl⟩) ev_bl rv_notB)).to (by cases isSnd rc x <;> rfl)) (fun x hx _ => ev_var rfl) (fun x hx hxp => by rw [(hok x hx).2] at hxp; cases hxp)) (ev_lst ea_nil (by decide)) (rv_eqD (by rw [hfil]; rfl) rfl)).to (by rw [hfil]; rfl)) (Sta.Le.refl _) rfl
end
end Bf
namespace Bf
open PySem PySem.Spec PyProof.Rows L2
/-! ## The law of receivers -/
/-- the receiver is known by itself, and its first pair -/
def staH (K : PySem.W.Frag) (S : Sta) (a : Addr) (v0 : V) (vs : List V) (d d0 : Dt) : Sta :=
  ⟨fun H => S.I H ∧ Rep K H (.ref a) d ∧ Rep K H v0 d0 ∧ SqT K H a (v0 :: vs), fun i s => ⟨S.st i.1 s, i.2.1.mono s.gr, i.2.2.1.mono s.gr, s.gr.sqT i.2.2.2⟩⟩
section
variable {K : PySem.W.Frag} {S SB : Sta} {L : List Addr} {ρ : List (Option Dt)} {C CR : Addr}
theorem slots_as {H : Hp} {σ : L2.St} {j : Nat} {v : V} {d : Dt} (s : Slots K H σ ρ) (hv : σ[j]? = some (some v)) (r : Rep K H v d) : Slots K H σ (ρ.set j (some d)) := by
  have e : σ.set j (some v) = σ := by
    refine List.ext_getElem? fun i => ?_
    by_cases h : j = i
    · subst h
      rw [List.getElem?_set]
      have hl : j < σ.length := (List.getElem?_eq_some_iff.mp hv).1
      rw [if_pos rfl, if_pos hl, hv]
    · rw [List.getElem?_set, if_neg h]
  have := s.set r j
  rwa [e] at this
theorem so_rawH {j : Nat} {x : Dt} {xs : List Dt} {t : TS} {P : Po} {M : List (Option Dt) → Prop} (hj : ρ[j]? = some (some (.tup (x :: xs))))
    (h : ∀ (a : Addr) (v0 : V) (vs : List V), So K (staH K S a v0 vs (.tup (x :: xs)) x) (staH K S a v0 vs (.tup (x :: xs)) x) [] t (ρ.set j (some (.raw (.ref a)))) { rt := P.rt, nx := fun ρ' => ρ'[j]? = some (some (.raw (.ref a))) ∧ M (ρ'.set j (some (.tup (x :: xs)))) })
    (hn : ∀ ρ', M ρ' → P.nx ρ') : Sg K S SB S L t ρ P := fun D σ B H b i s f => by
  obtain ⟨v, hv, rv⟩ := s.val j _ hj
  obtain ⟨a, vs', rfl, ht, ra⟩ := id rv.tupI
  cases ra with
  | cons r0 rr =>
    rename_i v0 vs
    refine h a v0 vs D σ H H ⟨Gr.refl H, ⟨i, rv, r0, ht⟩, fun _ z => nomatch z⟩ ⟨i, rv, r0, ht⟩ (slots_as s hv (.raw _)) ⟨fun σ' ρ' H' g i' s' q => ?_, fun u d H' g i' r q => f.rt u d H' (b.gr.trans g) i'.1 r q, fun σ' ρ' H' g i' s' q => q.elim, fun σ' ρ' H' g i' s' q => q.elim⟩
    obtain ⟨w, hw, rw'⟩ := s'.val j _ q.1
    obtain rfl := rw'.rawI
    exact f.nx σ' _ H' (b.gr.trans g) i'.1 (slots_as s' hw i'.2.1) (hn _ q.2)
end
def ods9 (xs : List Dt) (x : Dt) (v0 : V) : List Dt := [.tup [], .non, .lst xs, .raw v0, .tup [x, x, x, x, x], .dic, .str "receiver", .int 5, .tup [.non, .non, .non, .non, .non]]
abbrev t_body9 (K : PySem.W.Frag) (C CR : Addr) : TS := (tSeq (tAsg (tIf (tTest (tOp (rEqW K) (tVar 6) (tOp (rIx K) (tVar 3) (tC (.int 0))))) (tLst (tCons (tC (.int 0)) tNil)) (tLst (tCons (tC .non) tNil))) (gName 8))
    (tIfS (tTest (tOp (rNeD K) (tCall (p__law_saidR K C CR) [] E0 (tCons (tVar 6) tNil)) (tVar 8))) (tRet (tC (.bl false))) tNext))
abbrev t_odd9 (K : PySem.W.Frag) (C CR : Addr) : TS := (tFor (iTup K (tTup (tCons (tTup tNil) (tCons (tC .non) (tCons (tCB (rLstO K) (tCons (tVar 3) tNil)) (tCons (tOp (rIx K) (tVar 3) (tC (.int 0))) (tCons (tOp (rRepT K) (tSl (rSlA K) (tVar 3) tNoPart (tPart (tC (.int 1)))) (tC (.int 5))) (tCons tDNewK (tCons (tC (.str "receiver")) (tCons (tC (.int 5)) (tCons (tOp (rRepT K) (tTup (tCons (tC .non) tNil)) (tC (.int 5))) tNil))))))))))) (gName 6) (tSeq (tAsg (tIf (tTest (tOp (rEqW K) (tVar 6) (tOp (rIx K) (tVar 3) (tC (.int 0))))) (tLst (tCons (tC (.int 0)) tNil)) (tLst (tCons (tC .non) tNil))) (gName 8))
    (tIfS (tTest (tOp (rNeD K) (tCall (p__law_saidR K C CR) [] E0 (tCons (tVar 6) tNil)) (tVar 8))) (tRet (tC (.bl false))) tNext)))
abbrev p_law9 (K : PySem.W.Frag) : Sp := spLaw K
abbrev r_law9 (K : PySem.W.Frag) (C CR : Addr) : TS := (tSeq (tFor (iRng1 (tCons (tC (.int 5)) tNil)) (gName 2) (tSeq (tAsg (tCall (p__law_receiver K C) [] E0 (tCons (tVar 1) (tCons (tC (.int 4)) (tCons (tC (.int 5)) tNil)))) (gName 3))
    (tSeq (tIfS (tOr (tTest (tOp (rNeD K) (tCall (p__law_saidR K C CR) [] E0 (tCons (tVar 3) tNil)) (tLst tNil))) (tTest (tOp (rNeW K) (tCallW (p_need_receiver K C CR) 1 idV E0 (tCons (tVar 3) tNil)) (tVar 3)))) (tRet (tC (.bl false))) tNext)
    (tSeq (tPar 4 5 (tCons (tCall (p__law_next K) [] E0 (tCons (tVar 1) (tCons (tCB (rLen K) (tCons (tVar 3) tNil)) tNil))) (tCons (tCall (p__law_next K) [] E0 (tCons (tVar 1) (tCons (tCB (rLen K) (tCons (tVar 3) tNil)) tNil))) tNil)))
    (tSeq (tAsg (tCall (p__law_odd_pair K C) [] E0 (tCons (tVar 1) (tCons (tOp (rIx K) (tVar 3) (tVar 4)) tNil))) (gName 6))
    (tSeq (tAsg (tOp (rCatA K) (tOp (rCatA K) (tSl (rSlA K) (tVar 3) tNoPart (tPart (tVar 4))) (tTup (tCons (tVar 6) tNil))) (tSl (rSlA K) (tVar 3) (tPart (tOp rAddI (tVar 4) (tC (.int 1)))) tNoPart)) (gName 7))
    (tSeq (tIfS (tTest (tOp (rNeD K) (tCall (p__law_saidR K C CR) [] E0 (tCons (tVar 7) tNil)) (tLst (tCons (tVar 4) tNil)))) (tRet (tC (.bl false))) tNext)
    (tSeq (tAsg (tOp (rCatA K) (tOp (rCatA K) (tSl (rSlA K) (tVar 7) tNoPart (tPart (tVar 5))) (tTup (tCons (tC .non) tNil))) (tSl (rSlA K) (tVar 7) (tPart (tOp rAddI (tVar 5) (tC (.int 1)))) tNoPart)) (gName 7))
    (tSeq (tIfS (tTest (tOp (rNeD K) (tCall (p__law_saidR K C CR) [] E0 (tCons (tVar 7) tNil)) (tLst (tCons (tIf (tTest (tOp rLtI (tVar 5) (tVar 4))) (tVar 5) (tVar 4)) tNil)))) (tRet (tC (.bl false))) tNext)
    (tSeq (t_odd9 K C CR)
    (tIfS (tNot (tB (tCall (p__law_sendings_right K C) [] E0 (tCons (tVar 1) (tCons (tVar 3) tNil))))) (tRet (tC (.bl false))) tNext)))))))))))
    (tRet (tC (.bl true))))
abbrev t_law9 (K : PySem.W.Frag) (C CR : Addr) : TS := (tSeq (tAsg (tCall (p__law_begin K) [] E0 (tCons (tVar 0) tNil)) (gName 1)) (r_law9 K C CR))
section
variable {K : PySem.W.Frag} {S SB : Sta} {L : List Addr} {ρ : List (Option Dt)} {C CR : Addr} {p : Tab × Int × Int} {rc : List (Tab × Int × Int)} {a : Addr} {v0 : V} {vs : List V}
theorem tab_hd {H : Hp} {T : Tab} {v : V} (r : Rep K H v T.d) : ∃ a x vs, v = .ref a ∧ SqT K H a (.str x :: vs) := by
  rw [T.d_xs] at r
  obtain ⟨a, us, rfl, ht, ra⟩ := r.tupI
  cases T with
  | ha u b =>
    cases ra with
    | cons r1 rr =>
      cases r1.strI
      exact ⟨a, _, _, rfl, ht⟩
  | pa h z1 z2 o1 o2 s b =>
    cases ra with
    | cons r1 rr =>
      cases r1.strI
      exact ⟨a, _, _, rfl, ht⟩
theorem pr_hd {H : Hp} {v : V} (r : Rep K H v (prD C p)) : ∃ a b x vs w, v = .ref a ∧ SqT K H a [.ref b, w] ∧ SqT K H b (.str x :: vs) := by
  obtain ⟨a, us, rfl, ht, ra⟩ := Rep.tupI r
  obtain ⟨v1, v2, rfl, r1, r2⟩ := ra.twoI
  obtain ⟨b, x, vs, rfl, hb⟩ := tab_hd r1
  exact ⟨a, b, x, vs, v2, rfl, ht, hb⟩
theorem ev_eq0 {x : Dt} {b : Bool} {d d0 : Dt} (h6 : ρ[6]? = some (some x)) (h3 : ρ[3]? = some (some (.raw (.ref a)))) (he : ∀ H v, Rep K H v0 d0 → Rep K H v x → EqW K H 60 v v0 b) :
    Ev K (staH K S a v0 vs d d0) (staH K S a v0 vs d d0) ρ (tOp (rEqW K) (tVar 6) (tOp (rIx K) (tVar 3) (tC (.int 0)))) (Eq (.bl b)) := fun σ H i s Q q => by
  obtain ⟨v, hv, rv⟩ := s.val 6 _ h6
  obtain ⟨u, hu, ru⟩ := s.val 3 _ h3
  obtain rfl := ru.rawI
  exact ⟨v, hv, .ref a, hu, .inr (.inl ⟨a, v0 :: vs, 0, v0, rfl, rfl, i.2.2.2, atI_nat (xs := v0 :: vs) (j := 0) rfl, b, he H v i.2.2.1 rv, q _ _ H (Gr.refl H) i (.bl b) rfl⟩)⟩
theorem ev_ix0 {d d0 : Dt} (h3 : ρ[3]? = some (some (.raw (.ref a)))) :
    Ev K (staH K S a v0 vs d d0) (staH K S a v0 vs d d0) ρ (tOp (rIx K) (tVar 3) (tC (.int 0))) (Eq (.raw v0)) := fun σ H i s Q q => by
  obtain ⟨u, hu, ru⟩ := s.val 3 _ h3
  obtain rfl := ru.rawI
  exact ⟨.ref a, hu, .inr (.inl ⟨a, v0 :: vs, 0, v0, rfl, rfl, i.2.2.2, atI_nat (xs := v0 :: vs) (j := 0) rfl, q _ _ H (Gr.refl H) i (.raw v0) rfl⟩)⟩
theorem ev_saidR {S1 : Sta} {te : TE} {d : Dt} (h : Ev K S S1 ρ te (Eq d)) (hv : vR C d) : Ev K S S1 ρ (tCall (p__law_saidR K C CR) [] E0 (tCons te tNil)) (Eq (sdD (rcvO CR d))) :=
  ev_callR (R := r_sd C CR) (ea_cons h ea_nil) rfl ⟨d, rfl, hv, rfl⟩
/-- one thing that is asked -/
theorem so_body9 {x d d0 d3 : Dt} {b : Bool} {P : Po} {s0 s1 s2 s4 s5 s7 s8 : Option Dt} (he : ∀ H v, Rep K H v0 d0 → Rep K H v x → EqW K H 60 v v0 b)
    (hd : Ev K (staH K S a v0 vs d3 d0) (staH K S a v0 vs d3 d0) [s0, s1, s2, some (.raw (.ref a)), s4, s5, some x, s7, some (.lst [if b then .int 0 else .non])] (tVar 6) (Eq d)) (hv : vR C d)
    (ho : sdD (rcvO CR d) = .lst [if b then .int 0 else .non]) (hn : P.nx [s0, s1, s2, some (.raw (.ref a)), s4, s5, some x, s7, some (.lst [if b then .int 0 else .non])]) :
    So K (staH K S a v0 vs d3 d0) (staH K S a v0 vs d3 d0) [] (t_body9 K C CR) [s0, s1, s2, some (.raw (.ref a)), s4, s5, some x, s7, s8] P := by
  refine so_setD (S1 := staH K S a v0 vs d3 d0) (d := .lst [if b then .int 0 else .non]) ?_ ?_
  · have t0 := et_test (ev_eq0 (S := S) (vs := vs) (d := d3) (d0 := d0) (ρ := [s0, s1, s2, some (.raw (.ref a)), s4, s5, some x, s7, s8]) (x := x) (b := b) rfl rfl he)
    cases b with
    | true => exact ev_ifT (t0.to rfl) (ev_lst (ea_cons ev_int ea_nil) (by show 1 ≤ sizeLine; decide))
    | false => exact ev_ifF (t0.to rfl) (ev_lst (ea_cons ev_non ea_nil) (by show 1 ≤ sizeLine; decide))
  · have hcm : cmpOk (.lst [if b then .int 0 else .non]) = true := by cases b <;> rfl
    refine so_if0F ((et_test (ev_op ((ev_saidR hd hv).to ho) (ev_var rfl) (rv_neD hcm hcm))).to ?_) (so_next (Sta.Le.refl _) hn)
    cases b <;> rfl
theorem vR_flat {d : Dt} (h : okN d = true) (h2 : ∀ xs, d ≠ .tup xs) : vR C d := ⟨.inl h, fun xs e => absurd e (h2 xs)⟩
theorem elR_sml {d : Dt} (h : okRt C d) (h2 : ∀ a b, d ≠ .tup [a, b]) : elR C d := ⟨h, fun a b e => absurd e (h2 a b)⟩
theorem elR_tab {T : Tab} : elR C T.d := elR_sml (.inl (by cases T <;> rfl)) fun a b e => by cases T <;> cases e
theorem vR_pr (h : prOk p) : vR C (prD C p) := ⟨.inl rfl, fun xs e x hx => by
  have e' : Dt.tup [p.1.d, rat C p.2.1 p.2.2] = .tup xs := e
  cases e'
  simp only [List.mem_cons, List.not_mem_nil, or_false] at hx
  rcases hx with rfl | rfl
  · exact elR_tab
  · exact elR_sml (.inr ⟨_, _, rfl⟩) fun a b e => by cases e⟩
theorem rcvO_pr : rcvO CR (prD C p) = .er CR "place" (.int 0) := by
  have h : pairB p.1.d = false := by cases p.1 <;> rfl
  have h1 : (if 1 ≤ [p.1.d, rat C p.2.1 p.2.2].length ∧ [p.1.d, rat C p.2.1 p.2.2].length ≤ 4 then (match [p.1.d, rat C p.2.1 p.2.2].findIdx? (fun x => !pairB x) with | none => Out.ok (prD C p) | some i => .er CR "place" (.int i)) else .er CR "place" .non) = .er CR "place" (.int 0) := by
    rw [if_pos (by show 1 ≤ 2 ∧ 2 ≤ 4; decide), List.findIdx?_cons, h]
    rfl
  exact h1
theorem cut_1 {x : Dt} {xs : List Dt} : Dt.tup (cutD (x :: xs) none (some 1)) = .tup [x] := by
  have e := HT.sIx_nat (x :: xs).length (x :: xs).length 1
  unfold cutD
  rw [show (some (1 : Int)) = some (((1 : Nat)) : Int) from rfl, e, HT.sIx_none]
  simp
theorem so_odd9 {P : Po} {s0 s1 s2 s4 s5 s6 s7 s8 : Option Dt} (hrc : rcOk (p :: rc)) (hn : ∀ y6 y8, P.nx [s0, s1, s2, some (rcD C (p :: rc)), s4, s5, y6, s7, y8]) :
    Sg K S SB S L (t_odd9 K C CR) [s0, s1, s2, some (rcD C (p :: rc)), s4, s5, s6, s7, s8] P := by
  have hp : prOk p := hrc.2.2 p (by simp)
  refine so_rawH (j := 3) (x := prD C p) (xs := rc.map (prD C)) (M := fun ρ' => ∃ y6 y8, ρ' = [s0, s1, s2, some (rcD C (p :: rc)), s4, s5, y6, s7, y8]) rfl (fun a v0 vs => ?_) fun ρ' ⟨y6, y8, e⟩ => e ▸ hn y6 y8
  have e3 : ∀ {y6 y8 : Option Dt}, Ev K (staH K S a v0 vs (rcD C (p :: rc)) (prD C p)) (staH K S a v0 vs (rcD C (p :: rc)) (prD C p)) [s0, s1, s2, some (.raw (.ref a)), s4, s5, y6, s7, y8] (tVar 3) (Eq (rcD C (p :: rc))) := fun {_ _} => ev_rawD rfl fun H i => i.2.1
  refine so_forT (xs := ods9 ((p :: rc).map (prD C)) (prD C p) v0) (ev_tup (ea_cons (ev_tup ea_nil (by decide)) (ea_cons ev_non (ea_cons (ev_cb (ea_cons e3 ea_nil) rc_lstT) (ea_cons (ev_ix0 rfl) (ea_cons ((ev_op ((ev_slT e3 eo_none (eo_some ev_int)).to cut_1) ev_int (rv_repT (k := 5) (xs := [prD C p]) (by simp) (by decide) (by decide) (by show 1 ≤ 1000; decide))).to rfl) (ea_cons ev_dic (ea_cons ev_str (ea_cons ev_int (ea_cons ((ev_op (ev_tup (ea_cons ev_non ea_nil) (by show 1 ≤ sizeLine; decide)) ev_int (rv_repT (k := 5) (by simp) (by decide) (by decide) (by decide))).to rfl) ea_nil))))))))) (by show 9 ≤ sizeLine; decide))
    (fun i ρ' => ∃ y6 y8, ρ' = [s0, s1, s2, some (.raw (.ref a)), s4, s5, y6, s7, y8]) ⟨_, _, rfl⟩ (fun i x ρ' hx hJ => ?_) fun ρ' hJ => ?_
  · obtain ⟨y6, y8, rfl⟩ := hJ
    have hm := List.mem_of_getElem? hx
    simp only [ods9, List.mem_cons, List.not_mem_nil, or_false] at hm
    have nx : ∀ (x y : Dt), ∃ y6 y8, [s0, s1, s2, some (Dt.raw (.ref a)), s4, s5, some x, s7, some y] = [s0, s1, s2, some (.raw (.ref a)), s4, s5, y6, s7, y8] := fun x y => ⟨_, _, rfl⟩
    rcases hm with rfl | rfl | rfl | rfl | rfl | rfl | rfl | rfl | rfl
    · refine so_body9 (b := false) (fun H v r0 r => ?_) (ev_var rfl) ⟨.inl rfl, fun xs e x hx => by cases e; cases hx⟩ rfl (nx _ _)
      obtain ⟨a1, us, rfl, ht, ra⟩ := r.tupI
      cases ra
      obtain ⟨a0, b0, x0, vs0, w0, rfl, h0, _⟩ := pr_hd r0
      exact .nilT ht h0
    · refine so_body9 (b := false) (fun H v r0 r => ?_) (ev_var rfl) (vR_flat rfl fun _ e => nomatch e) rfl (nx _ _)
      cases r
      obtain ⟨a0, b0, x0, vs0, w0, rfl, h0, _⟩ := pr_hd r0
      exact .nonT h0
    · refine so_body9 (b := false) (fun H v r0 r => ?_) (ev_var rfl) (vR_flat rfl fun _ e => nomatch e) rfl (nx _ _)
      obtain ⟨a1, us, rfl, ht, ra⟩ := r.lstI
      obtain ⟨a0, b0, x0, vs0, w0, rfl, h0, _⟩ := pr_hd r0
      exact .lstT ht h0
    · refine so_body9 (b := true) (d := prD C p) (fun H v r0 r => ?_) (ev_rawD rfl fun H i => i.2.2.1) (vR_pr hp) (by rw [rcvO_pr]; rfl) (nx _ _)
      obtain rfl := r.rawI
      obtain ⟨a0, b0, x0, vs0, w0, rfl, h0, _⟩ := pr_hd r0
      exact .same h0
    · refine so_body9 (b := false) (fun H v r0 r => ?_) (ev_var rfl) ⟨.inl rfl, fun xs e x hx => by cases e; simp at hx; rw [hx]; exact elR_pr hp⟩ rfl (nx _ _)
      obtain ⟨a1, us, rfl, ht, ra⟩ := r.tupI
      cases ra with
      | cons r1 rr =>
        have hl := rr.len
        obtain ⟨a0, b0, x0, vs0, w0, rfl, h0, h00⟩ := pr_hd r0
        obtain ⟨a2, b2, x2, vs2, w2, rfl, h2, h22⟩ := pr_hd r1
        refine .fst ht h0 (fun e => ?_) (.fst h2 h00 (fun e => ?_) (.tStr h22))
        · have := congrArg List.length e
          simp at this hl
          omega
        · injection e with e _
          cases e
    · refine so_body9 (b := false) (fun H v r0 r => ?_) (ev_var rfl) (vR_flat rfl fun _ e => nomatch e) rfl (nx _ _)
      cases r with
      | dic hd =>
        obtain ⟨a0, b0, x0, vs0, w0, rfl, h0, _⟩ := pr_hd r0
        exact .dicT hd h0
    · refine so_body9 (b := false) (fun H v r0 r => ?_) (ev_var rfl) (vR_flat rfl fun _ e => nomatch e) rfl (nx _ _)
      cases r
      obtain ⟨a0, b0, x0, vs0, w0, rfl, h0, _⟩ := pr_hd r0
      exact .strT h0
    · refine so_body9 (b := false) (fun H v r0 r => ?_) (ev_var rfl) (vR_flat rfl fun _ e => nomatch e) rfl (nx _ _)
      cases r
      obtain ⟨a0, b0, x0, vs0, w0, rfl, h0, _⟩ := pr_hd r0
      exact .intT h0
    · refine so_body9 (b := false) (fun H v r0 r => ?_) (ev_var rfl) ⟨.inl rfl, fun xs e x hx => by cases e; simp at hx; rw [hx]; exact elR_sml (.inl rfl) fun _ _ e => nomatch e⟩ rfl (nx _ _)
      obtain ⟨a1, us, rfl, ht, ra⟩ := r.tupI
      cases ra with
      | cons r1 rr =>
        have hl := rr.len
        cases r1
        obtain ⟨a0, b0, x0, vs0, w0, rfl, h0, h00⟩ := pr_hd r0
        refine .fst ht h0 (fun e => ?_) (.nonT h00)
        have := congrArg List.length e
        simp at this hl
        omega
  · obtain ⟨y6, y8, rfl⟩ := hJ
    exact ⟨rfl, _, _, rfl⟩
end
/-! one pair, two, that are none -/
section
variable {CR : Addr}
theorem mid_set {xs : List Dt} {y : Dt} {k : Nat} (hk : k < xs.length) : cutD xs none (some (k : Int)) ++ [y] ++ cutD xs (some ((k : Int) + 1)) none = xs.set k y := by
  have e1 := HT.sIx_nat xs.length xs.length k
  have e2 := HT.sIx_nat xs.length 0 (k + 1)
  have e3 : HT.sIx xs.length xs.length none = xs.length := HT.sIx_none ..
  unfold cutD
  rw [show ((k : Int) + 1) = ((k + 1 : Nat) : Int) from by omega, e1, e2, HT.sIx_none, HT.sIx_none, List.drop_zero, Nat.sub_zero, List.set_eq_take_append_cons_drop, if_pos hk, Nat.min_eq_left (by omega), Nat.min_eq_left (by omega), List.append_assoc, List.singleton_append, List.take_of_length_le (l := xs.drop (k + 1)) (by rw [List.length_drop]; omega)]
theorem find_bad {l : List Dt} {i : Nat} (h : i < l.length) (hb : pairB l[i] = false) (hg : ∀ j (hj : j < i), pairB l[j] = true) : l.findIdx? (fun x => !pairB x) = some i := by
  rw [List.findIdx?_eq_some_iff_getElem]
  exact ⟨h, by rw [hb]; rfl, fun j hj => by rw [hg j hj]; decide⟩
theorem rcvO_bad {l : List Dt} {i : Nat} (h1 : l.length ≤ 4) (h : i < l.length) (hb : pairB l[i] = false) (hg : ∀ j (hj : j < i), pairB l[j] = true) : rcvO CR (.tup l) = .er CR "place" (.int i) := by
  have h2 : (if 1 ≤ l.length ∧ l.length ≤ 4 then (match l.findIdx? (fun x => !pairB x) with | none => Out.ok (.tup l) | some i => .er CR "place" (.int i)) else .er CR "place" .non) = .er CR "place" (.int i) := by
    rw [if_pos ⟨by omega, h1⟩, find_bad h hb hg]
  exact h2
end
section
variable {K : PySem.W.Frag} {a c : Addr} {cs : List Int} {C CR : Addr}
theorem ev_midN {S S1 S2 S3 : Sta} {ρ : List (Option Dt)} {ta tm tc : TE} {xs : List Dt} {k : Nat} {Φ : Dt → Prop} (ha : Ev K S S1 ρ ta (Eq (.tup (cutD xs none (some (k : Int)))))) (hm : Ev K S1 S2 ρ tm Φ) (hc : Ev K S2 S3 ρ tc (Eq (.tup (cutD xs (some ((k : Int) + 1)) none)))) (hk : k < xs.length) (hl : xs.length ≤ 4) :
    Ev K S S3 ρ (tOp (rCatA K) (tOp (rCatA K) ta (tTup (tCons tm tNil))) tc) (fun d => ∃ y, d = .tup (xs.set k y) ∧ Φ y) := (ev_mid ha hm hc (by have := cutD_le xs none (some (k : Int)); have := cutD_le xs (some ((k : Int) + 1)) none; omega)).weak fun d ⟨y, e, h⟩ => ⟨y, by rw [e, mid_set hk], h⟩
theorem ev__law_receiver {S : Sta} {ρ : List (Option Dt)} {t : TA} {n : Nat} (h : EvA K S (DW K a c cs n) ρ t (Eq [.raw (.ref a), .int 4, .int 5])) (hc : cs ≠ []) (hn : n + 180 ≤ 1000000) :
    Ev K S (DW K a c cs (n + 180)) ρ (tCall (p__law_receiver K C) [] E0 t) (fun d => ∃ rc, rcOk rc ∧ d = rcD C rc) := ev_callD (ds := [.int 4, .int 5]) h rfl rfl hc hn
theorem ev__law_odd_pair {S : Sta} {ρ : List (Option Dt)} {t : TA} {n : Nat} {p : Tab × Int × Int} (h : EvA K S (DW K a c cs n) ρ t (Eq [.raw (.ref a), prD C p])) (hp : prOk p) (hc : cs ≠ []) (hn : n + 1 ≤ 1000000) :
    Ev K S (DW K a c cs (n + 1)) ρ (tCall (p__law_odd_pair K C) [] E0 t) (fun d => elR C d ∧ pairB d = false) := ev_callD (ds := [prD C p]) h rfl ⟨p, hp, rfl⟩ hc hn
theorem ev__law_sendings_right {S : Sta} {ρ : List (Option Dt)} {t : TA} {n : Nat} {rc : List (Tab × Int × Int)} (h : EvA K S (DW K a c cs n) ρ t (Eq [.raw (.ref a), rcD C rc])) (hp : rcOk rc) (hc : cs ≠ []) (hn : n + 2 ≤ 1000000) :
    Ev K S (DW K a c cs (n + 2)) ρ (tCall (p__law_sendings_right K C) [] E0 t) (Eq (.bl true)) := (ev_callD (ds := [rcD C rc]) (Φ := srR) h rfl ⟨rc, hp, rfl⟩ hc hn).weak fun d h => h.symm
theorem so_law9 {x0 : Option Dt} (hc : cs ≠ []) : So K (DW K a c cs 0) (DW K a c cs 925) [] (r_law9 K C CR) [x0, some (.raw (.ref a)), none, none, none, none, none, none, none] { rt := Eq (.bl true) } := by
  refine so_seq (M := fun ρ' => ∃ y2 y3 y4 y5 y6 y7 y8, ρ' = [x0, some (.raw (.ref a)), y2, y3, y4, y5, y6, y7, y8]) (so_forR (n := 5) (Z := fun i => DW K a c cs (185 * i)) (ea_cons ev_int ea_nil) (by decide) (fun i hi => dw_le (by omega)) (fun i hi => dw_le (by omega)) (fun i ρ' => ∃ y2 y3 y4 y5 y6 y7 y8, ρ' = [x0, some (.raw (.ref a)), y2, y3, y4, y5, y6, y7, y8]) ⟨_, _, _, _, _, _, _, rfl⟩ (fun ti ρ' hi hJ => ?_) fun _ h => h) fun ρ' hM => ?_
  · obtain ⟨y2, y3, y4, y5, y6, y7, y8, rfl⟩ := hJ
    refine so_set (ev__law_receiver (n := 185 * ti) (ea_cons (ev_var rfl) (ea_cons ev_int (ea_cons ev_int ea_nil))) hc (by omega)) fun d hd => ?_
    obtain ⟨rc, hrc, rfl⟩ := hd
    have hl : (rc.map (prD C)).length = rc.length := List.length_map ..
    have hv := vR_rc (C := C) hrc.2.2
    have ho : rcvO CR (rcD C rc) = .ok (rcD C rc) := rcvO_ok hrc
    refine so_ifF (et_orF ((et_test (ev_op ((ev_saidR (CR := CR) (ev_var rfl) hv).to (by rw [ho]; rfl)) (ev_lst ea_nil (by decide)) (rv_neD (x := .lst []) rfl rfl))).to rfl) ((et_test (ev_neI (R := r_nr C CR) (xs := rc.map (prD C)) rfl ⟨hv, ho.symm⟩)).to rfl)) (so_skip ?_)
    have lenP : (rc.length : Int).natAbs < 2 ^ 8000 := Nat.lt_of_le_of_lt (show _ ≤ 100 by have := hrc.2.1; omega) (by decide)
    refine so_par (Φl := fun l => ∃ r q, l = [.int r, .int q] ∧ 0 ≤ r ∧ r < (rc.length : Nat) ∧ 0 ≤ q ∧ q < (rc.length : Nat)) (S1 := DW K a c cs (185 * ti + 180 + 1 + 1)) ?_ (fun l ⟨_, _, e, _⟩ => by rw [e]; rfl) fun v w hvw => ?_
    · intro σ H i s Q q
      refine ea_consP (ev__law_next (n := 185 * ti + 180) (m := (rc.length : Nat)) (ea_cons (ev_var rfl) (ea_cons ((ev_lenT (xs := rc.map (prD C)) (ev_var rfl)).to (by rw [hl])) ea_nil)) hc (by omega) (by have := hrc.1; omega) lenP)
        (ea_consP (ev__law_next (n := 185 * ti + 180 + 1) (m := (rc.length : Nat)) (ea_cons (ev_var rfl) (ea_cons ((ev_lenT (xs := rc.map (prD C)) (ev_var rfl)).to (by rw [hl])) ea_nil)) hc (by omega) (by have := hrc.1; omega) lenP) ea_nil) σ H i s Q fun vs ds H' g i' r e => ?_
      obtain ⟨x, xs, rfl, ⟨r1, rfl, r10, r11⟩, y, ys, rfl, ⟨q1, rfl, q10, q11⟩, rfl⟩ := e
      exact q vs _ H' g i' r ⟨r1, q1, rfl, r10, r11, q10, q11⟩
    obtain ⟨r, q, e, r0, r1, q0, q1⟩ := hvw
    cases e
    obtain ⟨r, rfl⟩ := Int.eq_ofNat_of_zero_le r0
    obtain ⟨q, rfl⟩ := Int.eq_ofNat_of_zero_le q0
    have hr : r < rc.length := by omega
    have hq : q < rc.length := by omega
    obtain ⟨p, hp⟩ : ∃ p, rc[r]? = some p := ⟨_, List.getElem?_eq_getElem hr⟩
    have hat : atI (rc.map (prD C)) (r : Nat) = some (prD C p) := atI_nat (by rw [List.getElem?_map, hp]; rfl)
    have hpo := hrc.2.2 p (List.mem_of_getElem? hp)
    refine so_set (ev__law_odd_pair (n := 185 * ti + 180 + 1 + 1) (ea_cons (ev_var rfl) (ea_cons (ev_ixT (xs := rc.map (prD C)) (ev_var rfl) (ev_var rfl) hat) ea_nil)) hpo hc (by omega)) fun odd hodd => ?_
    obtain ⟨hel, hnp⟩ := hodd
    have hrl : r < (rc.map (prD C)).length := by omega
    have hln : (rc.map (prD C)).length ≤ 4 := by have := hrc.2.1; omega
    have good : ∀ x ∈ rc.map (prD C), elR C x ∧ pairB x = true := fun x hx => by
      obtain ⟨p', hp', rfl⟩ := List.mem_map.mp hx
      exact ⟨elR_pr (hrc.2.2 p' hp'), pairB_pr (hrc.2.2 p' hp')⟩
    refine so_set (ev_midN (xs := rc.map (prD C)) (k := r) (ev_slT (ev_var rfl) eo_none (eo_some (ev_var rfl))) (ev_var rfl) (ev_slT (ev_var rfl) (eo_some (ev_op (ev_var rfl) ev_int rv_add)) eo_none) hrl hln) fun d hd => ?_
    obtain ⟨y, rfl, rfl⟩ := hd
    have hv1 : vR C (.tup ((rc.map (prD C)).set r odd)) := ⟨.inl rfl, fun xs e x hx => by
      cases e
      rcases List.mem_or_eq_of_mem_set hx with h | rfl
      · exact (good x h).1
      · exact hel⟩
    have ho1 : rcvO CR (.tup ((rc.map (prD C)).set r odd)) = .er CR "place" (.int r) := by
      refine rcvO_bad (by rw [List.length_set]; exact hln) (by rw [List.length_set]; exact hrl) ?_ fun j hj => ?_
      · rw [List.getElem_set_self]; exact hnp
      · rw [List.getElem_set_ne (by omega)]; exact (good _ (List.getElem_mem _)).2
    refine so_ifF ((et_test (ev_op ((ev_saidR (CR := CR) (ev_var rfl) hv1).to (by rw [ho1]; rfl)) (ev_lst (ea_cons (ev_var rfl) ea_nil) (by show 1 ≤ sizeLine; decide)) (rv_neD (x := .lst [.int r]) (y := .lst [.int r]) rfl rfl))).to ?_) (so_skip ?_)
    · simp [py, pyA, PyData.eqv, PyData.eqvAll]
    refine so_set (ev_midN (xs := (rc.map (prD C)).set r odd) (k := q) (ev_slT (ev_var rfl) eo_none (eo_some (ev_var rfl))) ev_non (ev_slT (ev_var rfl) (eo_some (ev_op (ev_var rfl) ev_int rv_add)) eo_none) (by rw [List.length_set]; omega) (by rw [List.length_set]; exact hln)) fun d hd => ?_
    obtain ⟨y, rfl, rfl⟩ := hd
    have hv2 : vR C (.tup (((rc.map (prD C)).set r odd).set q .non)) := ⟨.inl rfl, fun xs e x hx => by
      cases e
      rcases List.mem_or_eq_of_mem_set hx with h | rfl
      · rcases List.mem_or_eq_of_mem_set h with h | rfl
        · exact (good x h).1
        · exact hel
      · exact elR_sml (.inl rfl) fun _ _ e => nomatch e⟩
    have ho2 : rcvO CR (.tup (((rc.map (prD C)).set r odd).set q .non)) = .er CR "place" (.int (if q < r then q else r : Nat)) := by
      refine rcvO_bad (by rw [List.length_set, List.length_set]; exact hln) (by rw [List.length_set, List.length_set]; split <;> omega) ?_ fun j hj => ?_
      · by_cases h : q < r
        · simp only [if_pos h, List.getElem_set_self]; rfl
        · simp only [if_neg h]
          by_cases h2 : q = r
          · subst h2
            rw [List.getElem_set_self]; rfl
          · rw [List.getElem_set_ne (by omega), List.getElem_set_self]; exact hnp
      · have hjr : j < q ∧ j < r := by
          by_cases h : q < r
          · rw [if_pos h] at hj; omega
          · rw [if_neg h] at hj; omega
        rw [List.getElem_set_ne (by omega), List.getElem_set_ne (by omega)]
        exact (good _ (List.getElem_mem _)).2
    have hmin : Ev K (DW K a c cs (185 * ti + 183)) (DW K a c cs (185 * ti + 183)) [x0, some (.raw (.ref a)), some (.int ti), some (rcD C rc), some (.int r), some (.int q), some odd, some (.tup (((rc.map (prD C)).set r odd).set q .non)), y8] (tIf (tTest (tOp rLtI (tVar 5) (tVar 4))) (tVar 5) (tVar 4)) (Eq (.int (if q < r then q else r : Nat))) :=
      (ev_if2 (et_test (ev_op (ev_var rfl) (ev_var rfl) rv_lt)) (ev_var rfl) (ev_var rfl)).to (by
        by_cases h : q < r
        · rw [if_pos h, decide_eq_true (by omega)]; rfl
        · rw [if_neg h, decide_eq_false (by omega)]; rfl)
    refine so_ifF ((et_test (ev_op ((ev_saidR (CR := CR) (ev_var rfl) hv2).to (by rw [ho2]; rfl)) (ev_lst (ea_cons hmin ea_nil) (by show 1 ≤ sizeLine; decide)) (rv_neD (x := .lst [.int (if q < r then q else r : Nat)]) (y := .lst [.int (if q < r then q else r : Nat)]) rfl rfl))).to ?_) (so_skip ?_)
    · simp [py, pyA, PyData.eqv, PyData.eqvAll]
    obtain ⟨p0, rc', rfl⟩ : ∃ p0 rc', rc = p0 :: rc' := by
      cases rc with
      | nil => exact absurd hr (by simp)
      | cons p0 rc' => exact ⟨_, _, rfl⟩
    refine so_seqG (S1 := DW K a c cs (185 * ti + 183)) (M := fun ρ' => ∃ y6 y8, ρ' = [x0, some (.raw (.ref a)), some (.int ti), some (rcD C (p0 :: rc')), some (.int r), some (.int q), y6, some (.tup ((((p0 :: rc').map (prD C)).set r odd).set q .non)), y8]) (dw_le (by omega)) ?_ fun ρ' hM => ?_
    · refine so_odd9 (p := p0) (rc := rc') hrc ?_
      exact fun y6 y8 => ⟨_, _, rfl⟩
    obtain ⟨y6, y8, rfl⟩ := hM
    refine so_if0F (S1 := DW K a c cs (185 * ti + 183 + 2)) (et_notT ((et_B (ev__law_sendings_right (n := 185 * ti + 183) (ea_cons (ev_var rfl) (ea_cons (ev_var rfl) ea_nil)) hrc hc (by omega))).to rfl)) (so_next (dw_le (by omega)) ⟨_, _, _, _, _, _, _, rfl⟩)
  · obtain ⟨y2, y3, y4, y5, y6, y7, y8, rfl⟩ := hM
    exact so_retD ev_bl (Sta.Le.refl _) rfl
end
end Bf
namespace Bf
open PySem PySem.Spec PyProof.Rows L2
/-! ### the text -/
def topS (i : Nat) : Stmt := PySem.Challenge.pw_beamframes_k09_receivers.main.body.getD i (.Pass ⟨0, 0, 0, 0⟩)
abbrev s_is_whole : Stmt := topS 9
abbrev s_is_whole_from : Stmt := topS 10
abbrev s_need_table : Stmt := topS 16
abbrev s_is_word : Stmt := topS 17
abbrev s_bits_of : Stmt := topS 18
abbrev s_begins_with : Stmt := topS 19
abbrev s_wrong_part_of_pairs : Stmt := topS 20
abbrev s_wrong_part_of_halves : Stmt := topS 21
abbrev s_is_duration : Stmt := topS 22
abbrev s_are_durations : Stmt := topS 23
abbrev s_is_pulse_and_gap : Stmt := topS 24
abbrev s_is_bit_count : Stmt := topS 25
abbrev s_is_below_one : Stmt := topS 29
abbrev s_need_receiver : Stmt := topS 32
abbrev s_is_sending : Stmt := topS 33
abbrev s_is_pair : Stmt := topS 34
abbrev s_is_table_with_tolerance : Stmt := topS 35
abbrev s_is_table : Stmt := topS 36
abbrev s__law_begin : Stmt := topS 38
abbrev s__law_next : Stmt := topS 39
abbrev s__law_pick : Stmt := topS 40
abbrev s__law_size : Stmt := topS 41
abbrev s__law_table : Stmt := topS 42
abbrev s__law_like : Stmt := topS 43
abbrev s__law_receiver : Stmt := topS 44
abbrev s__law_words : Stmt := topS 45
abbrev s__law_said : Stmt := topS 47
abbrev s__law_odd_pair : Stmt := topS 48
abbrev s__law_sendings_right : Stmt := topS 49
abbrev s_law : Stmt := topS 50
theorem sc_is_whole : FnScope ["thing"] ["thing"] (defScope s_is_whole) := ⟨rfl, rfl, rfl, by decide +kernel, rfl, by decide +kernel, by decide +kernel⟩
theorem sc_is_whole_from : FnScope ["thing", "low", "high"] ["thing", "low", "high"] (defScope s_is_whole_from) := ⟨rfl, rfl, rfl, by decide +kernel, rfl, by decide +kernel, by decide +kernel⟩
theorem sc_need_table : FnScope ["thing", "wrong"] ["thing"] (defScope s_need_table) := ⟨rfl, rfl, rfl, by decide +kernel, rfl, by decide +kernel, by decide +kernel⟩
theorem sc_is_word : FnScope ["table", "thing", "bit"] ["table", "thing"] (defScope s_is_word) := ⟨rfl, rfl, rfl, by decide +kernel, rfl, by decide +kernel, by decide +kernel⟩
theorem sc_bits_of : FnScope ["table"] ["table"] (defScope s_bits_of) := ⟨rfl, rfl, rfl, by decide +kernel, rfl, by decide +kernel, by decide +kernel⟩
theorem sc_begins_with : FnScope ["thing", "name", "size"] ["thing", "name", "size"] (defScope s_begins_with) := ⟨rfl, rfl, rfl, by decide +kernel, rfl, by decide +kernel, by decide +kernel⟩
theorem sc_wrong_part_of_pairs : FnScope ["thing", "header", "zero", "one", "stop", "bits"] ["thing"] (defScope s_wrong_part_of_pairs) := ⟨rfl, rfl, rfl, by decide +kernel, rfl, by decide +kernel, by decide +kernel⟩
theorem sc_wrong_part_of_halves : FnScope ["thing"] ["thing"] (defScope s_wrong_part_of_halves) := ⟨rfl, rfl, rfl, by decide +kernel, rfl, by decide +kernel, by decide +kernel⟩
theorem sc_is_duration : FnScope ["thing"] ["thing"] (defScope s_is_duration) := ⟨rfl, rfl, rfl, by decide +kernel, rfl, by decide +kernel, by decide +kernel⟩
theorem sc_are_durations : FnScope ["thing", "part"] ["thing"] (defScope s_are_durations) := ⟨rfl, rfl, rfl, by decide +kernel, rfl, by decide +kernel, by decide +kernel⟩
theorem sc_is_pulse_and_gap : FnScope ["thing"] ["thing"] (defScope s_is_pulse_and_gap) := ⟨rfl, rfl, rfl, by decide +kernel, rfl, by decide +kernel, by decide +kernel⟩
theorem sc_is_bit_count : FnScope ["thing"] ["thing"] (defScope s_is_bit_count) := ⟨rfl, rfl, rfl, by decide +kernel, rfl, by decide +kernel, by decide +kernel⟩
theorem sc_is_below_one : FnScope ["thing"] ["thing"] (defScope s_is_below_one) := ⟨rfl, rfl, rfl, by decide +kernel, rfl, by decide +kernel, by decide +kernel⟩
theorem sc_need_receiver : FnScope ["thing", "index", "pair"] ["thing"] (defScope s_need_receiver) := ⟨rfl, rfl, rfl, by decide +kernel, rfl, by decide +kernel, by decide +kernel⟩
theorem sc_is_sending : FnScope ["receiver", "thing"] ["receiver", "thing"] (defScope s_is_sending) := ⟨rfl, rfl, rfl, by decide +kernel, rfl, by decide +kernel, by decide +kernel⟩
theorem sc_is_pair : FnScope ["thing"] ["thing"] (defScope s_is_pair) := ⟨rfl, rfl, rfl, by decide +kernel, rfl, by decide +kernel, by decide +kernel⟩
theorem sc_is_table_with_tolerance : FnScope ["thing"] ["thing"] (defScope s_is_table_with_tolerance) := ⟨rfl, rfl, rfl, by decide +kernel, rfl, by decide +kernel, by decide +kernel⟩
theorem sc_is_table : FnScope ["thing"] ["thing"] (defScope s_is_table) := ⟨rfl, rfl, rfl, by decide +kernel, rfl, by decide +kernel, by decide +kernel⟩
theorem sc__law_begin : FnScope ["script"] ["script"] (defScope s__law_begin) := ⟨rfl, rfl, rfl, by decide +kernel, rfl, by decide +kernel, by decide +kernel⟩
theorem sc__law_next : FnScope ["draw", "many", "cell", "cells", "number", "k"] ["draw", "many"] (defScope s__law_next) := ⟨rfl, rfl, rfl, by decide +kernel, rfl, by decide +kernel, by decide +kernel⟩
theorem sc__law_pick : FnScope ["draw", "some"] ["draw", "some"] (defScope s__law_pick) := ⟨rfl, rfl, rfl, by decide +kernel, rfl, by decide +kernel, by decide +kernel⟩
theorem sc__law_size : FnScope ["draw", "low", "high"] ["draw"] (defScope s__law_size) := ⟨rfl, rfl, rfl, by decide +kernel, rfl, by decide +kernel, by decide +kernel⟩
theorem sc__law_table : FnScope ["draw", "most", "bits", "header", "k", "zero", "one"] ["draw", "most"] (defScope s__law_table) := ⟨rfl, rfl, rfl, by decide +kernel, rfl, by decide +kernel, by decide +kernel⟩
theorem sc__law_like : FnScope ["draw", "table", "way", "unit", "name", "header", "zero", "one", "stop", "bits"] ["draw", "table"] (defScope s__law_like) := ⟨rfl, rfl, rfl, by decide +kernel, rfl, by decide +kernel, by decide +kernel⟩
theorem sc__law_receiver : FnScope ["draw", "many", "most", "found", "k", "table", "above"] ["draw", "many", "most"] (defScope s__law_receiver) := ⟨rfl, rfl, rfl, by decide +kernel, rfl, by decide +kernel, by decide +kernel⟩
theorem sc__law_words : FnScope ["many", "found", "k", "word"] ["many"] (defScope s__law_words) := ⟨rfl, rfl, rfl, by decide +kernel, rfl, by decide +kernel, by decide +kernel⟩
theorem sc__law_said : FnScope ["value", "found", "e"] ["value"] (defScope s__law_said) := ⟨rfl, rfl, rfl, by decide +kernel, rfl, by decide +kernel, by decide +kernel⟩
theorem sc__law_odd_pair : FnScope ["draw", "pair", "table", "share", "some"] ["draw", "pair"] (defScope s__law_odd_pair) := ⟨rfl, rfl, rfl, by decide +kernel, rfl, by decide +kernel, by decide +kernel⟩
theorem sc__law_sendings_right : FnScope ["draw", "hearers", "at", "word", "some", "odd", "one"] ["draw", "hearers"] (defScope s__law_sendings_right) := ⟨rfl, rfl, rfl, by decide +kernel, rfl, by decide +kernel, by decide +kernel⟩
theorem sc_law : FnScope ["script", "draw", "turn", "hearers", "at", "other", "odd", "spoiled", "due"] ["script"] (defScope s_law) := ⟨rfl, rfl, rfl, by decide +kernel, rfl, by decide +kernel, by decide +kernel⟩
abbrev s_rI : Stmt := clsSt (topS 28) 0
abbrev s_rN : Stmt := clsSt (topS 28) 2
abbrev s_rD : Stmt := clsSt (topS 28) 3
theorem sc_rI : FnScope ["self", "num", "den", "shared"] ["self", "num", "den"] (defScope s_rI) := ⟨rfl, rfl, rfl, by decide +kernel, rfl, by decide +kernel, by decide +kernel⟩
theorem sc_rN : FnScope ["self"] ["self"] (defScope s_rN) := ⟨rfl, rfl, rfl, by decide +kernel, rfl, by decide +kernel, by decide +kernel⟩
theorem sc_rD : FnScope ["self"] ["self"] (defScope s_rD) := ⟨rfl, rfl, rfl, by decide +kernel, rfl, by decide +kernel, by decide +kernel⟩
structure Adr where
  a_is_whole : Addr
  d_is_whole : FuncData
  a_is_whole_from : Addr
  d_is_whole_from : FuncData
  a_need_table : Addr
  d_need_table : FuncData
  a_is_word : Addr
  d_is_word : FuncData
  a_bits_of : Addr
  d_bits_of : FuncData
  a_begins_with : Addr
  d_begins_with : FuncData
  a_wrong_part_of_pairs : Addr
  d_wrong_part_of_pairs : FuncData
  a_wrong_part_of_halves : Addr
  d_wrong_part_of_halves : FuncData
  a_is_duration : Addr
  d_is_duration : FuncData
  a_are_durations : Addr
  d_are_durations : FuncData
  a_is_pulse_and_gap : Addr
  d_is_pulse_and_gap : FuncData
  a_is_bit_count : Addr
  d_is_bit_count : FuncData
  a_is_below_one : Addr
  d_is_below_one : FuncData
  a_need_receiver : Addr
  d_need_receiver : FuncData
  a_is_sending : Addr
  d_is_sending : FuncData
  a_is_pair : Addr
  d_is_pair : FuncData
  a_is_table_with_tolerance : Addr
  d_is_table_with_tolerance : FuncData
  a_is_table : Addr
  d_is_table : FuncData
  a__law_begin : Addr
  d__law_begin : FuncData
  a__law_next : Addr
  d__law_next : FuncData
  a__law_pick : Addr
  d__law_pick : FuncData
  a__law_size : Addr
  d__law_size : FuncData
  a__law_table : Addr
  d__law_table : FuncData
  a__law_like : Addr
  d__law_like : FuncData
  a__law_receiver : Addr
  d__law_receiver : FuncData
  a__law_words : Addr
  d__law_words : FuncData
  a__law_said : Addr
  d__law_said : FuncData
  a__law_odd_pair : Addr
  d__law_odd_pair : FuncData
  a__law_sendings_right : Addr
  d__law_sendings_right : FuncData
  a_law : Addr
  d_law : FuncData
  c_BadTable : Addr
  i_BadTable : Addr
  c_BadReceiver : Addr
  i_BadReceiver : Addr
  c_Ratio : Addr
  i_Ratio : Addr
  e_Ratio : FuncData
  pn_Ratio : Addr
  gn_Ratio : Addr
  hn_Ratio : FuncData
  pd_Ratio : Addr
  gd_Ratio : Addr
  hd_Ratio : FuncData
structure Txt (K : PySem.W.Frag) (mg : Str → Option Value) (A : Adr) : Prop where
  b_BadTable : BadCls PySem.Challenge.pw_beamframes_k09_receivers K mg "BadTable" "part" A.c_BadTable A.i_BadTable
  b_BadReceiver : BadCls PySem.Challenge.pw_beamframes_k09_receivers K mg "BadReceiver" "place" A.c_BadReceiver A.i_BadReceiver
  r_Ratio : RatT K mg A.c_Ratio A.i_Ratio A.pn_Ratio A.gn_Ratio A.pd_Ratio A.gd_Ratio
  g_Ratio : RatG K A.c_Ratio A.gn_Ratio A.hn_Ratio A.gd_Ratio A.hd_Ratio
  g_fi : L2.FunD K "__init__" "Ratio.__init__" (defArgs s_rI) (defBody s_rI) (defScope s_rI) [.int 1] [] A.i_Ratio A.e_Ratio
  m_gcd : mg "gcd" = some (.builtin "math.gcd")
  f_is_whole : Cal K mg "is_whole" s_is_whole ["thing"] A.a_is_whole A.d_is_whole
  f_is_whole_from : Cal K mg "is_whole_from" s_is_whole_from ["thing", "low", "high"] A.a_is_whole_from A.d_is_whole_from
  f_need_table : Cal K mg "need_table" s_need_table ["thing"] A.a_need_table A.d_need_table
  f_is_word : Cal K mg "is_word" s_is_word ["table", "thing"] A.a_is_word A.d_is_word
  f_bits_of : Cal K mg "bits_of" s_bits_of ["table"] A.a_bits_of A.d_bits_of
  f_begins_with : Cal K mg "begins_with" s_begins_with ["thing", "name", "size"] A.a_begins_with A.d_begins_with
  f_wrong_part_of_pairs : Cal K mg "wrong_part_of_pairs" s_wrong_part_of_pairs ["thing"] A.a_wrong_part_of_pairs A.d_wrong_part_of_pairs
  f_wrong_part_of_halves : Cal K mg "wrong_part_of_halves" s_wrong_part_of_halves ["thing"] A.a_wrong_part_of_halves A.d_wrong_part_of_halves
  f_is_duration : Cal K mg "is_duration" s_is_duration ["thing"] A.a_is_duration A.d_is_duration
  f_are_durations : Cal K mg "are_durations" s_are_durations ["thing"] A.a_are_durations A.d_are_durations
  f_is_pulse_and_gap : Cal K mg "is_pulse_and_gap" s_is_pulse_and_gap ["thing"] A.a_is_pulse_and_gap A.d_is_pulse_and_gap
  f_is_bit_count : Cal K mg "is_bit_count" s_is_bit_count ["thing"] A.a_is_bit_count A.d_is_bit_count
  f_is_below_one : Cal K mg "is_below_one" s_is_below_one ["thing"] A.a_is_below_one A.d_is_below_one
  f_need_receiver : Cal K mg "need_receiver" s_need_receiver ["thing"] A.a_need_receiver A.d_need_receiver
  f_is_sending : Cal K mg "is_sending" s_is_sending ["receiver", "thing"] A.a_is_sending A.d_is_sending
  f_is_pair : Cal K mg "is_pair" s_is_pair ["thing"] A.a_is_pair A.d_is_pair
  f_is_table_with_tolerance : Cal K mg "is_table_with_tolerance" s_is_table_with_tolerance ["thing"] A.a_is_table_with_tolerance A.d_is_table_with_tolerance
  f_is_table : Cal K mg "is_table" s_is_table ["thing"] A.a_is_table A.d_is_table
  f__law_begin : Cal K mg "_law_begin" s__law_begin ["script"] A.a__law_begin A.d__law_begin
  f__law_next : Cal K mg "_law_next" s__law_next ["draw", "many"] A.a__law_next A.d__law_next
  f__law_pick : Cal K mg "_law_pick" s__law_pick ["draw", "some"] A.a__law_pick A.d__law_pick
  f__law_size : Cal K mg "_law_size" s__law_size ["draw"] A.a__law_size A.d__law_size
  f__law_table : Cal K mg "_law_table" s__law_table ["draw", "most"] A.a__law_table A.d__law_table
  f__law_like : Cal K mg "_law_like" s__law_like ["draw", "table"] A.a__law_like A.d__law_like
  f__law_receiver : Cal K mg "_law_receiver" s__law_receiver ["draw", "many", "most"] A.a__law_receiver A.d__law_receiver
  f__law_words : Cal K mg "_law_words" s__law_words ["many"] A.a__law_words A.d__law_words
  f__law_said : Cal K mg "_law_said" s__law_said ["value"] A.a__law_said A.d__law_said
  f__law_odd_pair : Cal K mg "_law_odd_pair" s__law_odd_pair ["draw", "pair"] A.a__law_odd_pair A.d__law_odd_pair
  f__law_sendings_right : Cal K mg "_law_sendings_right" s__law_sendings_right ["draw", "hearers"] A.a__law_sendings_right A.d__law_sendings_right
  f_law : Cal K mg "law" s_law ["script"] A.a_law A.d_law
  k_is_sending_thing_receiver : BKw A.d_is_sending ["receiver", "thing"] ["thing", "receiver"] swpL
  k_need_receiver_thing : BKw A.d_need_receiver ["thing"] ["thing"] idL
  m_all : mg "all" = none
  m_bool : mg "bool" = none
  m_enumerate : mg "enumerate" = none
  m_int : mg "int" = none
  m_isinstance : mg "isinstance" = none
  m_len : mg "len" = none
  m_list : mg "list" = none
  m_range : mg "range" = none
  m_str : mg "str" = none
  m_tuple : mg "tuple" = none
  c_MOST_BITS : ∃ u, mg "MOST_BITS" = some u ∧ RelV (.int 8) u
  c_MOST_DURATION : ∃ u, mg "MOST_DURATION" = some u ∧ RelV (.int 99999) u
  c_MOST_PAIRS : ∃ u, mg "MOST_PAIRS" = some u ∧ RelV (.int 4) u
abbrev PG : Program := PySem.Challenge.pw_beamframes_k09_receivers
section
variable {P : Program} {w : World} {K : PySem.W.Frag} {mg : Str → Option Value} {base : Heap} {A : Adr}
theorem ok_is_whole (T : Txt K mg A) : GOk PG w K mg base 1 A.a_is_whole A.d_is_whole ["thing"] (p_is_whole K) := by
  refine okF T.f_is_whole.fn sc_is_whole (fun cdv AA out s H E hr hg => ⟨t_is_whole K, ?_, fun S hmu ds hl hp => so_is_whole hmu hp⟩)
  exact (pss_one (ps_ret (pe_and (pe_callB call_isi (by rfl) T.m_isinstance (by first | exact PySem.boot_isinstance | exact PyProof.Rows.boot_isinstance | decide +kernel) (pa_cons (pv 0) (pa_cons (pe_bltn (v := .ty "int") (by rfl) T.m_int (by first | exact PySem.boot_int | decide +kernel) rfl) pa_nil))) (pe_one (pe_not (pe_callB call_isi (by rfl) T.m_isinstance (by first | exact PySem.boot_isinstance | exact PyProof.Rows.boot_isinstance | decide +kernel) (pa_cons (pv 0) (pa_cons (pe_bltn (v := .ty "bool") (by rfl) T.m_bool (by first | exact PySem.boot_bool | decide +kernel) rfl) pa_nil))))))))
theorem ratI (T : Txt K mg A) : RatI PG K mg A.i_Ratio A.e_Ratio A.c_Ratio := by
  refine ⟨fun w base => ?_, ?_, ?_⟩
  · refine okGD T.g_fi sc_rI (fun vs H Q E h => ?_) fun cdv AA out s H vs Q E hr hg h => ⟨t_rat_init K, PSs.nox ?_, rd_rat_init T.r_Ratio h⟩
    · obtain ⟨x, dx, n, m, rfl, _⟩ := h
      rfl
    · exact (pss_cons (ps_if (pt_not (PW.pt (pw_and (pt_val (pe_g (G := (ok_is_whole T)) (hb := T.f_is_whole.bp) (hm := T.f_is_whole.gl) (hk := T.f_is_whole.fn.kp) (hr := hr.mono (by decide)) (hgd := hg) (hx := passL) (ha := (pa_cons (pv 1) pa_nil)))) (pw_and (pt_val (pe_g (G := (ok_is_whole T)) (hb := T.f_is_whole.bp) (hm := T.f_is_whole.gl) (hk := T.f_is_whole.fn.kp) (hr := hr.mono (by decide)) (hgd := hg) (hx := passL) (ha := (pa_cons (pv 2) pa_nil)))) (pw_and (pt_cmpR op_ge (pv 1) pe_int (nomark _)) (pw_and1 (pt_cmpR op_ge (pv 2) pe_int (nomark _)))))))) (pss_one ps_never) pss_nil) (pss_cons (ps_set (i := 3) sc_rI.nd rfl (Or.inl rfl) (pe_callBfun cr_gcd rfl T.m_gcd (pa_cons (pv 1) (pa_cons (pv 2) pa_nil)))) (pss_cons (ps_fld (pv 0) (pe_op op_fdivW (pv 1) (pv 3)) rfl) (pss_one (ps_fld (pv 0) (pe_op op_fdivW (pv 2) (pv 3)) rfl)))))
  · obtain ⟨ds, r, b⟩ := T.g_fi.binds1 (ps := ["self", "num", "den"]) 3 1 (by simp) rfl (fun T kV doc pm an cdv ct us its hu hi => match us, hu, its, hi with | [_, _, _], _, [_], _ => ⟨_, rfl, rfl⟩)
    cases r
    exact b
  · exact T.g_fi.binds1 (ps := ["self", "num", "den"]) 2 0 (by simp) rfl (fun T kV doc pm an cdv ct us its hu hi => match us, hu, its, hi with | [_, _], _, [_], _ => ⟨_, rfl, rfl⟩)
theorem ok_bits_of (T : Txt K mg A) : GOk PG w K mg base 1 A.a_bits_of A.d_bits_of ["table"] (p_bits_of K) := by
  refine okF T.f_bits_of.fn sc_bits_of (fun cdv AA out s H E hr hg => ⟨t_bits_of K, ?_, fun S hmu ds hl hp => so_bits_of hmu hp⟩)
  exact (pss_one (ps_ret (pe_ix ix_seq (pv 0) (pe_un un_neg pe_int) (fun _ _ => rfl))))
theorem ok_begins_with (T : Txt K mg A) : GOk PG w K mg base 1 A.a_begins_with A.d_begins_with ["thing", "name", "size"] (p_begins_withR K A.c_Ratio) := by
  refine okR T.f_begins_with.fn sc_begins_with (fun cdv AA out s H E hr hg => ⟨t_begins_with K, ?_, fun S hmu ds d hl hp => so_begins_withR T.r_Ratio hmu hp⟩)
  exact (pss_cons (ps_if (PW.pt (pw_or (pt_not (pt_val (pe_callB call_isi (by rfl) T.m_isinstance (by first | exact PySem.boot_isinstance | exact PyProof.Rows.boot_isinstance | decide +kernel) (pa_cons (pv 0) (pa_cons (pe_bltn (v := .ty "tuple") (by rfl) T.m_tuple (by first | exact PySem.boot_tuple | decide +kernel) rfl) pa_nil))))) (pw_or1 (pt_cmpR op_ne (pe_callB call_len_seq (by rfl) T.m_len (by first | exact PySem.boot_len | exact PyProof.Rows.boot_len | decide +kernel) (pa_cons (pv 0) pa_nil)) (pv 2) (nomark _))))) (pss_one (ps_ret pe_bl)) pss_nil)
      (pss_one (ps_ret (pe_and (pe_callB call_isi (by rfl) T.m_isinstance (by first | exact PySem.boot_isinstance | exact PyProof.Rows.boot_isinstance | decide +kernel) (pa_cons (pe_ix ix_seq (pv 0) pe_int (fun _ _ => rfl)) (pa_cons (pe_bltn (v := .ty "str") (by rfl) T.m_str (by first | exact PySem.boot_str | decide +kernel) rfl) pa_nil))) (pe_one (pe_cmpR op_eq (pe_ix ix_seq (pv 0) pe_int (fun _ _ => rfl)) (pv 1) (nomark _)))))))
theorem ok_is_pair (T : Txt K mg A) : GOk PG w K mg base 1 A.a_is_pair A.d_is_pair ["thing"] (p_is_pair K A.c_Ratio) := by
  refine okR T.f_is_pair.fn sc_is_pair (fun cdv AA out s H E hr hg => ⟨t_is_pair K, ?_, fun S hmu ds d hl hp => so_is_pair T.r_Ratio hp⟩)
  exact (pss_one (ps_ret (pe_and (pe_callB call_isi (by rfl) T.m_isinstance (by first | exact PySem.boot_isinstance | exact PyProof.Rows.boot_isinstance | decide +kernel) (pa_cons (pv 0) (pa_cons (pe_bltn (v := .ty "tuple") (by rfl) T.m_tuple (by first | exact PySem.boot_tuple | decide +kernel) rfl) pa_nil))) (pe_one (pe_cmpR op_eq (pe_callB call_len_seq (by rfl) T.m_len (by first | exact PySem.boot_len | exact PyProof.Rows.boot_len | decide +kernel) (pa_cons (pv 0) pa_nil)) pe_int (nomark _))))))
theorem ok__law_begin (T : Txt K mg A) : GOk PG w K mg base 1 A.a__law_begin A.d__law_begin ["script"] (p__law_begin K) := by
  refine okG T.f__law_begin.fn sc__law_begin (fun vs H Q E h => ?_) fun cdv AA out s H vs Q E hr hg h => ⟨t__law_begin K, ?_, ?_⟩
  · obtain ⟨s, ns, rfl, _⟩ := h
    rfl
  · exact (pss_one (ps_ret (pe_disp (pps_cons pe_str (pe_op op_catS (pv 0) (pe_lst (pa_cons pe_int pa_nil))) (pps_cons pe_str pe_int (pps_cons pe_str pe_int (pps_cons pe_str pe_int pps_nil)))) (by rfl) (by rfl) (fun z => by cases z) (by decide))))
  · obtain ⟨s, ns, rfl, hs, hl, q⟩ := h
    exact rd__law_begin rfl hs hl q
theorem ok__law_next (T : Txt K mg A) : GOk PG w K mg base 1 A.a__law_next A.d__law_next ["draw", "many"] (p__law_next K) := by
  refine okD T.f__law_next.fn sc__law_next rfl (fun cdv AA out s H E hr hg => ⟨t__law_next K, ?_, fun a c cs n ds hc hn hl hp => so__law_next hc hn hp⟩)
  exact (pss_cons (ps_if (pt_cmpR op_gt (pe_dget (hu_of hr) (pv 0) pe_str (fun _ _ => rfl)) pe_int (nomark _)) (pss_cons (ps_asg (pe_tup (pa_cons (pe_dget (hu_of hr) (pv 0) pe_str (fun _ _ => rfl)) (pa_cons (pe_op op_fdivW (pe_dget (hu_of hr) (pv 0) pe_str (fun _ _ => rfl)) (pv 1)) pa_nil))) (pg_tup rfl (pgs_cons (pg_name (i := 2) sc__law_next.nd rfl (Or.inl rfl)) (pgs_cons (pg_sub (pv 0) pe_str (set_dict (hu_of hr))) pgs_nil))))
      (pss_one (ps_ret (pe_op op_mod (pv 2) (pv 1))))) pss_nil)
      (pss_cons (ps_set (i := 3) sc__law_next.nd rfl (Or.inl rfl) (pe_dget (hu_of hr) (pv 0) pe_str (fun _ _ => rfl)))
      (pss_cons (ps_set (i := 2) sc__law_next.nd rfl (Or.inl rfl) (pe_ix ix_seq (pv 3) (pe_op op_mod (pe_dget (hu_of hr) (pv 0) pe_str (fun _ _ => rfl)) (pe_callB call_len_seq (by rfl) T.m_len (by first | exact PySem.boot_len | exact PyProof.Rows.boot_len | decide +kernel) (pa_cons (pv 3) pa_nil))) (fun _ _ => rfl)))
      (pss_cons (ps_asg (pe_op op_add (pe_dget (hu_of hr) (pv 0) pe_str (fun _ _ => rfl)) pe_int) (pg_sub (pv 0) pe_str (set_dict (hu_of hr))))
      (pss_cons (ps_if (PW.pt (pw_and (pt_cmpR op_ge (pv 2) (pe_op op_pow pe_int pe_int) (nomark _)) (pw_and1 (pt_cmpR op_le (pe_dget (hu_of hr) (pv 0) pe_str (fun _ _ => rfl)) (pe_callB call_len_seq (by rfl) T.m_len (by first | exact PySem.boot_len | exact PyProof.Rows.boot_len | decide +kernel) (pa_cons (pv 3) pa_nil)) (nomark _))))) (pss_cons (ps_asg (pe_op op_fdivW (pv 2) (pv 1)) (pg_sub (pv 0) pe_str (set_dict (hu_of hr))))
      (pss_one (ps_ret (pe_op op_mod (pv 2) (pv 1))))) pss_nil)
      (pss_cons (ps_asg (pe_op op_add (pe_dget (hu_of hr) (pv 0) pe_str (fun _ _ => rfl)) pe_int) (pg_sub (pv 0) pe_str (set_dict (hu_of hr))))
      (pss_cons (ps_set (i := 4) sc__law_next.nd rfl (Or.inl rfl) (pe_op op_add (pe_op op_mod (pv 2) pe_int) (pe_op op_mulW (pe_op op_mulW pe_int (pe_dget (hu_of hr) (pv 0) pe_str (fun _ _ => rfl))) (pe_dget (hu_of hr) (pv 0) pe_str (fun _ _ => rfl)))))
      (pss_cons (ps_for PassesOwn.never rfl (pi_tup (pe_tup (pa_cons (pe_dget (hu_of hr) (pv 0) pe_str (fun _ _ => rfl)) (pa_cons (pe_dget (hu_of hr) (pv 0) pe_str (fun _ _ => rfl)) pa_nil)))) (pg_name (i := 5) sc__law_next.nd rfl (Or.inl rfl)) (pss_cons (ps_set (i := 4) sc__law_next.nd rfl (Or.inl rfl) (pe_op op_mod (pe_op op_mulW (pe_op op_add (pe_op op_add (pv 4) (pe_op op_mulW pe_int (pv 5))) pe_int) pe_int) pe_int))
      (pss_one (ps_set (i := 4) sc__law_next.nd rfl (Or.inl rfl) (pe_op op_mod (pe_op op_mulW (pv 4) (pe_op op_add pe_int (pe_op op_mulW pe_int (pe_op op_mod (pv 5) pe_int)))) pe_int)))))
      (pss_one (ps_ret (pe_op op_mod (pe_op op_fdivW (pv 4) pe_int) (pv 1))))))))))))
theorem ok__law_words (T : Txt K mg A) : GOk PG w K mg base 1 A.a__law_words A.d__law_words ["many"] (p__law_words K) := by
  refine okF T.f__law_words.fn sc__law_words (fun cdv AA out s H E hr hg => ⟨t__law_words K, ?_, fun S hmu ds hl hp => so__law_words hmu hp⟩)
  exact (pss_cons (ps_set (i := 1) sc__law_words.nd rfl (Or.inl rfl) (pe_lst (pa_cons (pe_tup pa_nil) pa_nil)))
      (pss_cons (ps_for PassesOwn.never rfl (pi_range1 rfl T.m_range (pa_cons (pv 0) pa_nil)) (pg_name (i := 2) sc__law_words.nd rfl (Or.inl rfl)) (pss_one (ps_set (i := 1) sc__law_words.nd rfl (Or.inl rfl) (pe_op op_catS (pe_lc (own := [("word", 3)]) (g := (gName 3)) (tt := tYes) (te := (tOp (rCatA K) (tTup (tCons (tC (.int 0)) tNil)) (tVar 3))) rfl sc__law_words.nd (pi_list (pv 1)) (blkOk_by (own := [("word", 3)]) (N := ["many", "found", "k", "word"]) (sc := defScope s__law_words) (by decide +kernel))  (fun _ _ _ _ _ => (pg_name (i := 3) sc__law_words.nd rfl (Or.inl rfl))) (fun _ _ _ _ _ => pts_nil)  (fun _ _ _ _ _ => (pe_op op_catA (pe_tup (pa_cons pe_int pa_nil)) (pv 3)))) (pe_lc (own := [("word", 3)]) (g := (gName 3)) (tt := tYes) (te := (tOp (rCatA K) (tTup (tCons (tC (.int 1)) tNil)) (tVar 3))) rfl sc__law_words.nd (pi_list (pv 1)) (blkOk_by (own := [("word", 3)]) (N := ["many", "found", "k", "word"]) (sc := defScope s__law_words) (by decide +kernel))  (fun _ _ _ _ _ => (pg_name (i := 3) sc__law_words.nd rfl (Or.inl rfl))) (fun _ _ _ _ _ => pts_nil)  (fun _ _ _ _ _ => (pe_op op_catA (pe_tup (pa_cons pe_int pa_nil)) (pv 3))))))))
      (pss_one (ps_ret (pv 1)))))
theorem ok_is_whole_from (T : Txt K mg A) : GOk PG w K mg base 2 A.a_is_whole_from A.d_is_whole_from ["thing", "low", "high"] (p_is_whole_from K) := by
  refine okF T.f_is_whole_from.fn sc_is_whole_from (fun cdv AA out s H E hr hg => ⟨t_is_whole_from K, ?_, fun S hmu ds hl hp => so_is_whole_from hmu hp⟩)
  exact (pss_one (ps_ret (pe_and (pe_g (G := (ok_is_whole T)) (hb := T.f_is_whole.bp) (hm := T.f_is_whole.gl) (hk := T.f_is_whole.fn.kp) (hr := hr.mono (by decide)) (hgd := hg) (hx := passL) (ha := (pa_cons (pv 0) pa_nil))) (pe_one (pe_chain op_le op_le (pv 1) (pv 0) (pv 2))))))
theorem ok__law_pick (T : Txt K mg A) : GOk PG w K mg base 2 A.a__law_pick A.d__law_pick ["draw", "some"] (p__law_pick K) := by
  refine okD T.f__law_pick.fn sc__law_pick rfl (fun cdv AA out s H E hr hg => ⟨t__law_pick K, ?_, fun a c cs n ds hc hn hl hp => so__law_pick hc hn hp⟩)
  exact (pss_one (ps_ret (pe_ix ix_seq (pv 1) (pe_g (G := (ok__law_next T)) (hb := T.f__law_next.bp) (hm := T.f__law_next.gl) (hk := T.f__law_next.fn.kp) (hr := hr.mono (by decide)) (hgd := hg) (hx := passL) (ha := (pa_cons (pv 0) (pa_cons (pe_callB call_len_seq (by rfl) T.m_len (by first | exact PySem.boot_len | exact PyProof.Rows.boot_len | decide +kernel) (pa_cons (pv 1) pa_nil)) pa_nil)))) (fun _ _ => rfl))))
theorem ok__law_like (T : Txt K mg A) : GOk PG w K mg base 2 A.a__law_like A.d__law_like ["draw", "table"] (p__law_like K) := by
  refine okD T.f__law_like.fn sc__law_like rfl (fun cdv AA out s H E hr hg => ⟨t__law_like K, ?_, fun a c cs n ds hc hn hl hp => so__law_like hc hn hp⟩)
  exact (pss_cons (ps_set (i := 2) sc__law_like.nd rfl (Or.inl rfl) (pe_g (G := (ok__law_next T)) (hb := T.f__law_next.bp) (hm := T.f__law_next.gl) (hk := T.f__law_next.fn.kp) (hr := hr.mono (by decide)) (hgd := hg) (hx := passL) (ha := (pa_cons (pv 0) (pa_cons pe_int pa_nil)))))
      (pss_cons (ps_if (pt_cmpR op_eq (pe_ix ix_seq (pv 1) pe_int (fun _ _ => rfl)) pe_str (nomark _)) (pss_cons (ps_set (i := 3) sc__law_like.nd rfl (Or.inl rfl) (pe_ifExp (pt_cmpR op_eq (pv 2) pe_int (nomark _)) (pe_op op_add (pe_op op_mod (pe_ix ix_seq (pv 1) pe_int (fun _ _ => rfl)) pe_int) pe_int) (pe_ix ix_seq (pv 1) pe_int (fun _ _ => rfl))))
      (pss_one (ps_ret (pe_tup (pa_cons (pe_ix ix_seq (pv 1) pe_int (fun _ _ => rfl)) (pa_cons (pv 3) (pa_cons (pe_ifExp (pt_cmpR op_lt (pv 2) pe_int (nomark _)) (pe_ix ix_seq (pv 1) pe_int (fun _ _ => rfl)) (pe_op op_add pe_int (pe_op op_mod (pe_ix ix_seq (pv 1) pe_int (fun _ _ => rfl)) pe_int))) pa_nil))))))) pss_nil)
      (pss_cons (ps_asg (pv 1) (pg_tup rfl (pgs_cons (pg_name (i := 4) sc__law_like.nd rfl (Or.inl rfl)) (pgs_cons (pg_name (i := 5) sc__law_like.nd rfl (Or.inl rfl)) (pgs_cons (pg_name (i := 6) sc__law_like.nd rfl (Or.inl rfl)) (pgs_cons (pg_name (i := 7) sc__law_like.nd rfl (Or.inl rfl)) (pgs_cons (pg_name (i := 8) sc__law_like.nd rfl (Or.inl rfl)) (pgs_cons (pg_name (i := 9) sc__law_like.nd rfl (Or.inl rfl)) pgs_nil))))))))
      (pss_cons (ps_if (pt_cmpR op_eq (pv 2) pe_int (nomark _)) (pss_one (ps_ret (pe_tup (pa_cons (pv 4) (pa_cons (pv 5) (pa_cons (pv 7) (pa_cons (pv 6) (pa_cons (pv 8) (pa_cons (pv 9) pa_nil))))))))) pss_nil)
      (pss_cons (ps_if (pt_cmpR op_eq (pv 2) pe_int (nomark _)) (pss_one (ps_ret (pe_tup (pa_cons (pv 4) (pa_cons (pe_slice sl_tupA (pv 5) po_none (po_some (pe_un un_neg pe_int))) (pa_cons (pv 6) (pa_cons (pv 7) (pa_cons (pv 8) (pa_cons (pv 9) pa_nil))))))))) pss_nil)
      (pss_cons (ps_if (PW.pt (pw_and (pt_cmpR op_eq (pv 2) pe_int (nomark _)) (pw_and1 (pt_cmpR (op_neD hr.units) (pv 6) (pe_tup (pa_cons (pe_ix ix_seq (pv 7) pe_int (fun _ _ => rfl)) (pa_cons (pe_op op_add (pe_op op_mod (pe_ix ix_seq (pv 7) pe_int (fun _ _ => rfl)) pe_int) pe_int) pa_nil))) (nomark _))))) (pss_one (ps_ret (pe_tup (pa_cons (pv 4) (pa_cons (pv 5) (pa_cons (pv 6) (pa_cons (pe_tup (pa_cons (pe_ix ix_seq (pv 7) pe_int (fun _ _ => rfl)) (pa_cons (pe_op op_add (pe_op op_mod (pe_ix ix_seq (pv 7) pe_int (fun _ _ => rfl)) pe_int) pe_int) pa_nil))) (pa_cons (pv 8) (pa_cons (pv 9) pa_nil))))))))) pss_nil)
      (pss_cons (ps_set (i := 8) sc__law_like.nd rfl (Or.inl rfl) (pe_ifExp (pt_cmpR op_eq (pv 2) pe_int (nomark _)) (pe_op op_add (pe_op op_mod (pv 8) pe_int) pe_int) (pv 8)))
      (pss_one (ps_ret (pe_tup (pa_cons (pv 4) (pa_cons (pv 5) (pa_cons (pv 6) (pa_cons (pv 7) (pa_cons (pv 8) (pa_cons (pe_ifExp (pt_cmpR op_lt (pv 2) pe_int (nomark _)) (pv 9) (pe_op op_add pe_int (pe_op op_mod (pv 9) pe_int))) pa_nil))))))))))))))))
theorem ok_is_duration (T : Txt K mg A) : GOk PG w K mg base 3 A.a_is_duration A.d_is_duration ["thing"] (p_is_duration K) := by
  refine okF T.f_is_duration.fn sc_is_duration (fun cdv AA out s H E hr hg => ⟨t_is_duration K, ?_, fun S hmu ds hl hp => so_is_duration hmu hp⟩)
  exact (pss_one (ps_ret (pe_g (G := (ok_is_whole_from T)) (hb := T.f_is_whole_from.bp) (hm := T.f_is_whole_from.gl) (hk := T.f_is_whole_from.fn.kp) (hr := hr.mono (by decide)) (hgd := hg) (hx := passL) (ha := (pa_cons (pv 0) (pa_cons pe_int (pa_cons (pe_gc rfl T.c_MOST_DURATION) pa_nil)))))))
theorem ok_is_bit_count (T : Txt K mg A) : GOk PG w K mg base 3 A.a_is_bit_count A.d_is_bit_count ["thing"] (p_is_bit_count K) := by
  refine okF T.f_is_bit_count.fn sc_is_bit_count (fun cdv AA out s H E hr hg => ⟨t_is_bit_count K, ?_, fun S hmu ds hl hp => so_is_bit_count hmu hp⟩)
  exact (pss_one (ps_ret (pe_g (G := (ok_is_whole_from T)) (hb := T.f_is_whole_from.bp) (hm := T.f_is_whole_from.gl) (hk := T.f_is_whole_from.fn.kp) (hr := hr.mono (by decide)) (hgd := hg) (hx := passL) (ha := (pa_cons (pv 0) (pa_cons pe_int (pa_cons (pe_gc rfl T.c_MOST_BITS) pa_nil)))))))
theorem ok_is_below_one (T : Txt K mg A) : GOk PG w K mg base 3 A.a_is_below_one A.d_is_below_one ["thing"] (p_is_below_one K A.c_Ratio) := by
  refine okR T.f_is_below_one.fn sc_is_below_one (fun cdv AA out s H E hr hg => ⟨t_is_below_one K A.c_Ratio, ?_, fun S hmu ds d hl hp => so_is_below_one T.r_Ratio hp⟩)
  exact (pss_one (ps_ret (pe_and (pe_callB call_isi (by rfl) T.m_isinstance (by first | exact PySem.boot_isinstance | exact PyProof.Rows.boot_isinstance | decide +kernel) (pa_cons (pv 0) (pa_cons (pe_gc rfl ⟨_, T.r_Ratio.gC, rfl⟩) pa_nil))) (pe_one (pe_cmpR op_lt (pe_num T.r_Ratio T.g_Ratio (hr.mono (by decide)) (pv 0)) (pe_den T.r_Ratio T.g_Ratio (hr.mono (by decide)) (pv 0)) (nomark _))))))
theorem ok__law_size (T : Txt K mg A) : GOk PG w K mg base 3 A.a__law_size A.d__law_size ["draw"] (p__law_size K) := by
  refine okD T.f__law_size.fn sc__law_size rfl (fun cdv AA out s H E hr hg => ⟨t__law_size K, ?_, fun a c cs n ds hc hn hl hp => so__law_size hc hn hp⟩)
  exact (pss_cons (ps_par (i := 1) (j := 2) (by rfl) sc__law_size.nd rfl rfl (by decide) rfl rfl (pa_cons (pe_op op_add pe_int (pe_g (G := (ok__law_next T)) (hb := T.f__law_next.bp) (hm := T.f__law_next.gl) (hk := T.f__law_next.fn.kp) (hr := hr.mono (by decide)) (hgd := hg) (hx := passL) (ha := (pa_cons (pv 0) (pa_cons pe_int pa_nil))))) (pa_cons (pe_op op_add pe_int (pe_g (G := (ok__law_next T)) (hb := T.f__law_next.bp) (hm := T.f__law_next.gl) (hk := T.f__law_next.fn.kp) (hr := hr.mono (by decide)) (hgd := hg) (hx := passL) (ha := (pa_cons (pv 0) (pa_cons pe_int pa_nil))))) pa_nil)) (by rfl))
      (pss_one (ps_ret (pe_g (G := (ok__law_pick T)) (hb := T.f__law_pick.bp) (hm := T.f__law_pick.gl) (hk := T.f__law_pick.fn.kp) (hr := hr.mono (by decide)) (hgd := hg) (hx := passL) (ha := (pa_cons (pv 0) (pa_cons (pe_lst (pa_cons (pv 1) (pa_cons (pv 1) (pa_cons (pe_op op_add (pv 1) pe_int) (pa_cons (pv 2) (pa_cons pe_int (pa_cons pe_int pa_nil))))))) pa_nil)))))))
theorem ok_wrong_part_of_halves (T : Txt K mg A) : GOk PG w K mg base 4 A.a_wrong_part_of_halves A.d_wrong_part_of_halves ["thing"] (p_wrong_part_of_halves K) := by
  refine okF T.f_wrong_part_of_halves.fn sc_wrong_part_of_halves (fun cdv AA out s H E hr hg => ⟨t_wrong_part_of_halves K, ?_, fun S hmu ds hl hp => so_wrong_part_of_halves hmu hp⟩)
  exact (pss_cons (ps_if (pt_not (pt_val (pe_g (G := (ok_is_duration T)) (hb := T.f_is_duration.bp) (hm := T.f_is_duration.gl) (hk := T.f_is_duration.fn.kp) (hr := hr.mono (by decide)) (hgd := hg) (hx := passL) (ha := (pa_cons (pe_ix ix_seq (pv 0) pe_int (fun _ _ => rfl)) pa_nil))))) (pss_one (ps_ret pe_str)) pss_nil)
      (pss_cons (ps_if (pt_not (pt_val (pe_g (G := (ok_is_bit_count T)) (hb := T.f_is_bit_count.bp) (hm := T.f_is_bit_count.gl) (hk := T.f_is_bit_count.fn.kp) (hr := hr.mono (by decide)) (hgd := hg) (hx := passL) (ha := (pa_cons (pe_ix ix_seq (pv 0) pe_int (fun _ _ => rfl)) pa_nil))))) (pss_one (ps_ret pe_str)) pss_nil)
      (pss_one (ps_ret pe_non))))
theorem ok_are_durations (T : Txt K mg A) : GOk PG w K mg base 4 A.a_are_durations A.d_are_durations ["thing"] (p_are_durations K) := by
  refine okF T.f_are_durations.fn sc_are_durations (fun cdv AA out s H E hr hg => ⟨t_are_durations K, ?_, fun S hmu ds hl hp => so_are_durations hmu hp⟩)
  exact (pss_one (ps_ret (pe_and (pe_callB call_isi (by rfl) T.m_isinstance (by first | exact PySem.boot_isinstance | exact PyProof.Rows.boot_isinstance | decide +kernel) (pa_cons (pv 0) (pa_cons (pe_bltn (v := .ty "tuple") (by rfl) T.m_tuple (by first | exact PySem.boot_tuple | decide +kernel) rfl) pa_nil))) (pe_one (pe_callB (cr_all rfl) (by rfl) T.m_all (by first | exact PySem.boot_all | exact PyProof.Rows.boot_all | decide +kernel) (pa_cons (pe_lc (own := [("part", 1)]) (g := (gName 1)) (tt := tYes) (te := (tCall (p_is_duration K) [] E0 (tCons (tVar 1) tNil))) rfl sc_are_durations.nd (pi_tup (pv 0)) (blkOk_by (own := [("part", 1)]) (N := ["thing", "part"]) (sc := defScope s_are_durations) (by decide +kernel))  (fun _ _ _ _ _ => (pg_name (i := 1) sc_are_durations.nd rfl (Or.inl rfl))) (fun _ _ _ _ _ => pts_nil)  (fun _ _ _ _ _ => (pe_g (G := (ok_is_duration T)) (hb := T.f_is_duration.bp) (hm := T.f_is_duration.gl) (hk := T.f_is_duration.fn.kp) (hr := hr.mono (by decide)) (hgd := hg) (hx := passL) (ha := (pa_cons (pv 1) pa_nil))))) pa_nil))))))
theorem ok__law_table (T : Txt K mg A) : GOk PG w K mg base 4 A.a__law_table A.d__law_table ["draw", "most"] (p__law_table K) := by
  refine okD T.f__law_table.fn sc__law_table rfl (fun cdv AA out s H E hr hg => ⟨t__law_table K, ?_, fun a c cs n ds hc hn hl hp => so__law_table hc hn hp⟩)
  exact (pss_cons (ps_set (i := 2) sc__law_table.nd rfl (Or.inl rfl) (pe_op op_add pe_int (pe_g (G := (ok__law_next T)) (hb := T.f__law_next.bp) (hm := T.f__law_next.gl) (hk := T.f__law_next.fn.kp) (hr := hr.mono (by decide)) (hgd := hg) (hx := passL) (ha := (pa_cons (pv 0) (pa_cons (pv 1) pa_nil))))))
      (pss_cons (ps_if (pt_cmpR op_eq (pe_g (G := (ok__law_next T)) (hb := T.f__law_next.bp) (hm := T.f__law_next.gl) (hk := T.f__law_next.fn.kp) (hr := hr.mono (by decide)) (hgd := hg) (hx := passL) (ha := (pa_cons (pv 0) (pa_cons pe_int pa_nil)))) pe_int (nomark _)) (pss_one (ps_ret (pe_tup (pa_cons pe_str (pa_cons (pe_g (G := (ok__law_size T)) (hb := T.f__law_size.bp) (hm := T.f__law_size.gl) (hk := T.f__law_size.fn.kp) (hr := hr.mono (by decide)) (hgd := hg) (hx := passL) (ha := (pa_cons (pv 0) pa_nil))) (pa_cons (pv 2) pa_nil)))))) pss_nil)
      (pss_cons (ps_set (i := 3) sc__law_table.nd rfl (Or.inl rfl) (pe_callTy call_tuple_of (by rfl) T.m_tuple (by first | exact PySem.boot_tuple | exact PyProof.Rows.boot_tuple | decide +kernel) (pa_cons (pe_lc (own := [("k", 4)]) (g := (gName 4)) (tt := tYes) (te := (tCall (p__law_size K) [] E0 (tCons (tVar 0) tNil))) rfl sc__law_table.nd (pi_range1 rfl T.m_range (pa_cons (pe_ix ix_list (pe_lst (pa_cons pe_int (pa_cons pe_int (pa_cons pe_int (pa_cons pe_int pa_nil))))) (pe_g (G := (ok__law_next T)) (hb := T.f__law_next.bp) (hm := T.f__law_next.gl) (hk := T.f__law_next.fn.kp) (hr := hr.mono (by decide)) (hgd := hg) (hx := passL) (ha := (pa_cons (pv 0) (pa_cons pe_int pa_nil)))) (fun _ _ => rfl)) pa_nil)) (blkOk_by (own := [("k", 4)]) (N := ["draw", "most", "bits", "header", "k", "zero", "one"]) (sc := defScope s__law_table) (by decide +kernel))  (fun _ _ _ _ _ => (pg_name (i := 4) sc__law_table.nd rfl (Or.inl rfl))) (fun _ _ _ _ _ => pts_nil)  (fun _ _ _ _ _ => (pe_g (G := (ok__law_size T)) (hb := T.f__law_size.bp) (hm := T.f__law_size.gl) (hk := T.f__law_size.fn.kp) (hr := hr.mono (by decide)) (hgd := hg) (hx := passL) (ha := (pa_cons (pv 0) pa_nil))))) pa_nil)))
      (pss_cons (ps_par (i := 5) (j := 6) (by rfl) sc__law_table.nd rfl rfl (by decide) rfl rfl (pa_cons (pe_tup (pa_cons (pe_g (G := (ok__law_size T)) (hb := T.f__law_size.bp) (hm := T.f__law_size.gl) (hk := T.f__law_size.fn.kp) (hr := hr.mono (by decide)) (hgd := hg) (hx := passL) (ha := (pa_cons (pv 0) pa_nil))) (pa_cons (pe_g (G := (ok__law_size T)) (hb := T.f__law_size.bp) (hm := T.f__law_size.gl) (hk := T.f__law_size.fn.kp) (hr := hr.mono (by decide)) (hgd := hg) (hx := passL) (ha := (pa_cons (pv 0) pa_nil))) pa_nil))) (pa_cons (pe_tup (pa_cons (pe_g (G := (ok__law_size T)) (hb := T.f__law_size.bp) (hm := T.f__law_size.gl) (hk := T.f__law_size.fn.kp) (hr := hr.mono (by decide)) (hgd := hg) (hx := passL) (ha := (pa_cons (pv 0) pa_nil))) (pa_cons (pe_g (G := (ok__law_size T)) (hb := T.f__law_size.bp) (hm := T.f__law_size.gl) (hk := T.f__law_size.fn.kp) (hr := hr.mono (by decide)) (hgd := hg) (hx := passL) (ha := (pa_cons (pv 0) pa_nil))) pa_nil))) pa_nil)) (by rfl))
      (pss_cons (ps_if (pt_cmpR (op_eqD hr.units) (pv 6) (pv 5) (nomark _)) (pss_one (ps_set (i := 6) sc__law_table.nd rfl (Or.inl rfl) (pe_tup (pa_cons (pe_ix ix_seq (pv 5) pe_int (fun _ _ => rfl)) (pa_cons (pe_op op_add (pe_op op_add (pe_op op_mod (pe_ix ix_seq (pv 5) pe_int (fun _ _ => rfl)) pe_int) pe_int) (pe_callTy call_int1 (by rfl) T.m_int (by first | exact PySem.boot_int | exact PyProof.Rows.boot_int | decide +kernel) (pa_cons (pe_cmpR op_gt (pe_ix ix_seq (pv 5) pe_int (fun _ _ => rfl)) pe_int (nomark _)) pa_nil))) pa_nil))))) pss_nil)
      (pss_one (ps_ret (pe_tup (pa_cons pe_str (pa_cons (pv 3) (pa_cons (pv 5) (pa_cons (pv 6) (pa_cons (pe_g (G := (ok__law_size T)) (hb := T.f__law_size.bp) (hm := T.f__law_size.gl) (hk := T.f__law_size.fn.kp) (hr := hr.mono (by decide)) (hgd := hg) (hx := passL) (ha := (pa_cons (pv 0) pa_nil))) (pa_cons (pv 2) pa_nil))))))))))))))
theorem ok__law_odd_pair (T : Txt K mg A) : GOk PG w K mg base 4 A.a__law_odd_pair A.d__law_odd_pair ["draw", "pair"] (p__law_odd_pair K A.c_Ratio) := by
  refine okD T.f__law_odd_pair.fn sc__law_odd_pair rfl (fun cdv AA out s H E hr hg => ⟨t__law_odd_pair K A.c_Ratio, ?_, fun a c cs n ds hc hn hl hp => so__law_odd_pair hc hn hp⟩)
  exact (pss_cons (ps_asg (pv 1) (pg_tup rfl (pgs_cons (pg_name (i := 2) sc__law_odd_pair.nd rfl (Or.inl rfl)) (pgs_cons (pg_name (i := 3) sc__law_odd_pair.nd rfl (Or.inl rfl)) pgs_nil))))
      (pss_cons (ps_set (i := 4) sc__law_odd_pair.nd rfl (Or.inl rfl) (pe_lst (pa_cons pe_non (pa_cons (pv 2) (pa_cons (pe_tup (pa_cons (pv 2) pa_nil)) (pa_cons (pe_lst (pa_cons (pv 2) (pa_cons (pv 3) pa_nil))) (pa_cons (pe_tup (pa_cons (pv 2) (pa_cons (pv 3) (pa_cons (pv 3) pa_nil)))) (pa_cons (pe_tup (pa_cons (pv 3) (pa_cons (pv 2) pa_nil))) (pa_cons (pe_tup (pa_cons (pv 2) (pa_cons pe_int pa_nil))) (pa_cons (pe_tup (pa_cons (pv 2) (pa_cons pe_str pa_nil))) pa_nil))))))))))
      (pss_cons (ps_set (i := 4) sc__law_odd_pair.nd rfl (Or.inl rfl) (pe_op op_catS (pv 4) (pe_lst (pa_cons (pe_tup (pa_cons (pv 2) (pa_cons (pe_mk1 T.r_Ratio (ratI T) (hr.mono (by decide)) hg (pa_cons pe_int pa_nil)) pa_nil))) (pa_cons (pe_tup (pa_cons (pv 2) (pa_cons (pe_mk2 T.r_Ratio (ratI T) (hr.mono (by decide)) hg (pa_cons pe_int (pa_cons pe_int pa_nil))) pa_nil))) (pa_cons (pe_tup (pa_cons (pv 2) (pa_cons pe_non pa_nil))) (pa_cons (pe_tup (pa_cons (pe_callTy call_list_of (by rfl) T.m_list (by first | exact PySem.boot_list | exact PyProof.Rows.boot_list | decide +kernel) (pa_cons (pv 2) pa_nil)) (pa_cons (pv 3) pa_nil))) (pa_cons (pe_tup (pa_cons (pe_slice sl_tupA (pv 2) po_none (po_some (pe_un un_neg pe_int))) (pa_cons (pv 3) pa_nil))) pa_nil))))))))
      (pss_one (ps_ret (pe_g (G := (ok__law_pick T)) (hb := T.f__law_pick.bp) (hm := T.f__law_pick.gl) (hk := T.f__law_pick.fn.kp) (hr := hr.mono (by decide)) (hgd := hg) (hx := passL) (ha := (pa_cons (pv 0) (pa_cons (pe_op op_catS (pv 4) (pe_lst (pa_cons (pe_tup (pa_cons (pe_tup pa_nil) (pa_cons (pv 3) pa_nil))) (pa_cons (pe_tup (pa_cons (pe_op op_catA (pe_slice sl_tupA (pv 2) po_none (po_some (pe_un un_neg pe_int))) (pe_tup (pa_cons pe_int pa_nil))) (pa_cons (pv 3) pa_nil))) (pa_cons (pe_tup (pa_cons pe_non (pa_cons (pv 3) pa_nil))) (pa_cons pe_dnewK (pa_cons (pe_tup (pa_cons (pv 2) (pa_cons pe_bl pa_nil))) (pa_cons pe_int (pa_cons (pe_tup pa_nil) pa_nil))))))))) pa_nil)))))))))
theorem ok_is_pulse_and_gap (T : Txt K mg A) : GOk PG w K mg base 5 A.a_is_pulse_and_gap A.d_is_pulse_and_gap ["thing"] (p_is_pulse_and_gap K) := by
  refine okF T.f_is_pulse_and_gap.fn sc_is_pulse_and_gap (fun cdv AA out s H E hr hg => ⟨t_is_pulse_and_gap K, ?_, fun S hmu ds hl hp => so_is_pulse_and_gap hmu hp⟩)
  exact (pss_one (ps_ret (pe_and (pe_g (G := (ok_are_durations T)) (hb := T.f_are_durations.bp) (hm := T.f_are_durations.gl) (hk := T.f_are_durations.fn.kp) (hr := hr.mono (by decide)) (hgd := hg) (hx := passL) (ha := (pa_cons (pv 0) pa_nil))) (pe_one (pe_cmpR op_eq (pe_callB call_len_seq (by rfl) T.m_len (by first | exact PySem.boot_len | exact PyProof.Rows.boot_len | decide +kernel) (pa_cons (pv 0) pa_nil)) pe_int (nomark _))))))
theorem ok__law_receiver (T : Txt K mg A) : GOk PG w K mg base 5 A.a__law_receiver A.d__law_receiver ["draw", "many", "most"] (p__law_receiver K A.c_Ratio) := by
  refine okD T.f__law_receiver.fn sc__law_receiver rfl (fun cdv AA out s H E hr hg => ⟨t__law_receiver K A.c_Ratio, ?_, fun a c cs n ds hc hn hl hp => so__law_receiver hc hn hp⟩)
  exact (pss_cons (ps_set (i := 3) sc__law_receiver.nd rfl (Or.inl rfl) (pe_tup pa_nil))
      (pss_cons (ps_for PassesOwn.never rfl (pi_range1 rfl T.m_range (pa_cons (pe_op op_add pe_int (pe_g (G := (ok__law_next T)) (hb := T.f__law_next.bp) (hm := T.f__law_next.gl) (hk := T.f__law_next.fn.kp) (hr := hr.mono (by decide)) (hgd := hg) (hx := passL) (ha := (pa_cons (pv 0) (pa_cons (pv 1) pa_nil))))) pa_nil)) (pg_name (i := 4) sc__law_receiver.nd rfl (Or.inl rfl)) (pss_cons (ps_set (i := 5) sc__law_receiver.nd rfl (Or.inl rfl) (pe_g (G := (ok__law_table T)) (hb := T.f__law_table.bp) (hm := T.f__law_table.gl) (hk := T.f__law_table.fn.kp) (hr := hr.mono (by decide)) (hgd := hg) (hx := passL) (ha := (pa_cons (pv 0) (pa_cons (pv 2) pa_nil)))))
      (pss_cons (ps_if (PW.pt (pw_and (pt_cmpR (op_neW hr.units) (pv 3) (pe_tup pa_nil) (nomark _)) (pw_and1 (pt_cmpR op_gt (pe_g (G := (ok__law_next T)) (hb := T.f__law_next.bp) (hm := T.f__law_next.gl) (hk := T.f__law_next.fn.kp) (hr := hr.mono (by decide)) (hgd := hg) (hx := passL) (ha := (pa_cons (pv 0) (pa_cons pe_int pa_nil)))) pe_int (nomark _))))) (pss_one (ps_set (i := 5) sc__law_receiver.nd rfl (Or.inl rfl) (pe_g (G := (ok__law_like T)) (hb := T.f__law_like.bp) (hm := T.f__law_like.gl) (hk := T.f__law_like.fn.kp) (hr := hr.mono (by decide)) (hgd := hg) (hx := passL) (ha := (pa_cons (pv 0) (pa_cons (pe_ix ix_seq (pe_ix ix_seq (pv 3) (pe_un un_neg pe_int) (fun _ _ => rfl)) pe_int (fun _ _ => rfl)) pa_nil)))))) pss_nil)
      (pss_cons (ps_set (i := 6) sc__law_receiver.nd rfl (Or.inl rfl) (pe_g (G := (ok__law_next T)) (hb := T.f__law_next.bp) (hm := T.f__law_next.gl) (hk := T.f__law_next.fn.kp) (hr := hr.mono (by decide)) (hgd := hg) (hx := passL) (ha := (pa_cons (pv 0) (pa_cons pe_int pa_nil)))))
      (pss_one (ps_set (i := 3) sc__law_receiver.nd rfl (Or.inl rfl) (pe_op op_catA (pv 3) (pe_tup (pa_cons (pe_tup (pa_cons (pv 5) (pa_cons (pe_mk2 T.r_Ratio (ratI T) (hr.mono (by decide)) hg (pa_cons (pv 6) (pa_cons (pe_op op_add (pe_op op_add (pv 6) pe_int) (pe_g (G := (ok__law_next T)) (hb := T.f__law_next.bp) (hm := T.f__law_next.gl) (hk := T.f__law_next.fn.kp) (hr := hr.mono (by decide)) (hgd := hg) (hx := passL) (ha := (pa_cons (pv 0) (pa_cons pe_int pa_nil))))) pa_nil))) pa_nil))) pa_nil)))))))))
      (pss_one (ps_ret (pv 3)))))
theorem ok_wrong_part_of_pairs (T : Txt K mg A) : GOk PG w K mg base 6 A.a_wrong_part_of_pairs A.d_wrong_part_of_pairs ["thing"] (p_wrong_part_of_pairs K) := by
  refine okF T.f_wrong_part_of_pairs.fn sc_wrong_part_of_pairs (fun cdv AA out s H E hr hg => ⟨t_wrong_part_of_pairs K, ?_, fun S hmu ds hl hp => so_wrong_part_of_pairs hmu hp⟩)
  exact (pss_cons (ps_asg (pe_slice sl_tupA (pv 0) (po_some pe_int) po_none) (pg_tup rfl (pgs_cons (pg_name (i := 1) sc_wrong_part_of_pairs.nd rfl (Or.inl rfl)) (pgs_cons (pg_name (i := 2) sc_wrong_part_of_pairs.nd rfl (Or.inl rfl)) (pgs_cons (pg_name (i := 3) sc_wrong_part_of_pairs.nd rfl (Or.inl rfl)) (pgs_cons (pg_name (i := 4) sc_wrong_part_of_pairs.nd rfl (Or.inl rfl)) (pgs_cons (pg_name (i := 5) sc_wrong_part_of_pairs.nd rfl (Or.inl rfl)) pgs_nil)))))))
      (pss_cons (ps_if (pt_not (PW.pt (pw_and (pt_val (pe_g (G := (ok_are_durations T)) (hb := T.f_are_durations.bp) (hm := T.f_are_durations.gl) (hk := T.f_are_durations.fn.kp) (hr := hr.mono (by decide)) (hgd := hg) (hx := passL) (ha := (pa_cons (pv 1) pa_nil)))) (pw_and1 (pt_cmpR op_in_seq (pe_callB call_len_seq (by rfl) T.m_len (by first | exact PySem.boot_len | exact PyProof.Rows.boot_len | decide +kernel) (pa_cons (pv 1) pa_nil)) (pe_tup (pa_cons pe_int (pa_cons pe_int (pa_cons pe_int pa_nil)))) (by rfl)))))) (pss_one (ps_ret pe_str)) pss_nil)
      (pss_cons (ps_if (pt_not (pt_val (pe_g (G := (ok_is_pulse_and_gap T)) (hb := T.f_is_pulse_and_gap.bp) (hm := T.f_is_pulse_and_gap.gl) (hk := T.f_is_pulse_and_gap.fn.kp) (hr := hr.mono (by decide)) (hgd := hg) (hx := passL) (ha := (pa_cons (pv 2) pa_nil))))) (pss_one (ps_ret pe_str)) pss_nil)
      (pss_cons (ps_if (PW.pt (pw_or (pt_not (pt_val (pe_g (G := (ok_is_pulse_and_gap T)) (hb := T.f_is_pulse_and_gap.bp) (hm := T.f_is_pulse_and_gap.gl) (hk := T.f_is_pulse_and_gap.fn.kp) (hr := hr.mono (by decide)) (hgd := hg) (hx := passL) (ha := (pa_cons (pv 3) pa_nil))))) (pw_or1 (pt_cmpR (op_eqD hr.units) (pv 3) (pv 2) (nomark _))))) (pss_one (ps_ret pe_str)) pss_nil)
      (pss_cons (ps_if (pt_not (pt_val (pe_g (G := (ok_is_duration T)) (hb := T.f_is_duration.bp) (hm := T.f_is_duration.gl) (hk := T.f_is_duration.fn.kp) (hr := hr.mono (by decide)) (hgd := hg) (hx := passL) (ha := (pa_cons (pv 4) pa_nil))))) (pss_one (ps_ret pe_str)) pss_nil)
      (pss_cons (ps_if (pt_not (pt_val (pe_g (G := (ok_is_bit_count T)) (hb := T.f_is_bit_count.bp) (hm := T.f_is_bit_count.gl) (hk := T.f_is_bit_count.fn.kp) (hr := hr.mono (by decide)) (hgd := hg) (hx := passL) (ha := (pa_cons (pv 5) pa_nil))))) (pss_one (ps_ret pe_str)) pss_nil)
      (pss_one (ps_ret pe_non))))))))
theorem ok_need_table (T : Txt K mg A) : GOk PG w K mg base 7 A.a_need_table A.d_need_table ["thing"] (p_need_tableR K A.c_BadTable A.c_Ratio) := by
  refine okX T.f_need_table.fn sc_need_table (fun cdv AA out s H E hr hg => ⟨t_need_tableR K A.c_BadTable A.c_Ratio E, ?_, fun S hmu ds o hl hp hw => so_need_tableR hmu hp hw⟩)
  exact (pss_cons (ps_if (pt_val (pe_g (G := (ok_begins_with T)) (hb := T.f_begins_with.bp) (hm := T.f_begins_with.gl) (hk := T.f_begins_with.fn.kp) (hr := hr.mono (by decide)) (hgd := hg) (hx := passL) (ha := (pa_cons (pv 0) (pa_cons pe_str (pa_cons pe_int pa_nil)))))) (pss_one (ps_set (i := 1) sc_need_table.nd rfl (Or.inl rfl) (pe_g (G := (ok_wrong_part_of_pairs T)) (hb := T.f_wrong_part_of_pairs.bp) (hm := T.f_wrong_part_of_pairs.gl) (hk := T.f_wrong_part_of_pairs.fn.kp) (hr := hr.mono (by decide)) (hgd := hg) (hx := passL) (ha := (pa_cons (pv 0) pa_nil))))) (pss_one (ps_if (pt_val (pe_g (G := (ok_begins_with T)) (hb := T.f_begins_with.bp) (hm := T.f_begins_with.gl) (hk := T.f_begins_with.fn.kp) (hr := hr.mono (by decide)) (hgd := hg) (hx := passL) (ha := (pa_cons (pv 0) (pa_cons pe_str (pa_cons pe_int pa_nil)))))) (pss_one (ps_set (i := 1) sc_need_table.nd rfl (Or.inl rfl) (pe_g (G := (ok_wrong_part_of_halves T)) (hb := T.f_wrong_part_of_halves.bp) (hm := T.f_wrong_part_of_halves.gl) (hk := T.f_wrong_part_of_halves.fn.kp) (hr := hr.mono (by decide)) (hgd := hg) (hx := passL) (ha := (pa_cons (pv 0) pa_nil))))) (pss_one (ps_set (i := 1) sc_need_table.nd rfl (Or.inl rfl) pe_str)))))
      (pss_cons (ps_if (pt_cmpR op_notN (pv 1) pe_non (nomark _)) (pss_one (ps_raiseB rfl T.b_BadTable hr (takes_of rfl rfl rfl rfl) (pa_cons (pv 1) pa_nil))) pss_nil)
      (pss_one (ps_ret (pv 0)))))
theorem ok_is_word (T : Txt K mg A) : GOk PG w K mg base 8 A.a_is_word A.d_is_word ["table", "thing"] (p_is_word K) := by
  refine okF T.f_is_word.fn sc_is_word (fun cdv AA out s H E hr hg => ⟨t_is_wordR K A.c_BadTable A.c_Ratio, ?_, fun S hmu ds hl hp => so_is_wordR hmu hp⟩)
  exact (pss_cons (ps_expr (pe_g (G := (ok_need_table T)) (hb := T.f_need_table.bp) (hm := T.f_need_table.gl) (hk := T.f_need_table.fn.kp) (hr := hr.mono (by decide)) (hgd := hg) (hx := passL) (ha := (pa_cons (pv 0) pa_nil))))
      (pss_cons (ps_if (PW.pt (pw_or (pt_not (pt_val (pe_callB call_isi (by rfl) T.m_isinstance (by first | exact PySem.boot_isinstance | exact PyProof.Rows.boot_isinstance | decide +kernel) (pa_cons (pv 1) (pa_cons (pe_bltn (v := .ty "tuple") (by rfl) T.m_tuple (by first | exact PySem.boot_tuple | decide +kernel) rfl) pa_nil))))) (pw_or1 (pt_cmpR op_ne (pe_callB call_len_seq (by rfl) T.m_len (by first | exact PySem.boot_len | exact PyProof.Rows.boot_len | decide +kernel) (pa_cons (pv 1) pa_nil)) (pe_g (G := (ok_bits_of T)) (hb := T.f_bits_of.bp) (hm := T.f_bits_of.gl) (hk := T.f_bits_of.fn.kp) (hr := hr.mono (by decide)) (hgd := hg) (hx := passL) (ha := (pa_cons (pv 0) pa_nil))) (nomark _))))) (pss_one (ps_ret pe_bl)) pss_nil)
      (pss_one (ps_ret (pe_callB (cr_all rfl) (by rfl) T.m_all (by first | exact PySem.boot_all | exact PyProof.Rows.boot_all | decide +kernel) (pa_cons (pe_lc (own := [("bit", 2)]) (g := (gName 2)) (tt := tYes) (te := (tCall (p_is_whole_from K) [] E0 (tCons (tVar 2) (tCons (tC (.int 0)) (tCons (tC (.int 1)) tNil))))) rfl sc_is_word.nd (pi_tup (pv 1)) (blkOk_by (own := [("bit", 2)]) (N := ["table", "thing", "bit"]) (sc := defScope s_is_word) (by decide +kernel))  (fun _ _ _ _ _ => (pg_name (i := 2) sc_is_word.nd rfl (Or.inl rfl))) (fun _ _ _ _ _ => pts_nil)  (fun _ _ _ _ _ => (pe_g (G := (ok_is_whole_from T)) (hb := T.f_is_whole_from.bp) (hm := T.f_is_whole_from.gl) (hk := T.f_is_whole_from.fn.kp) (hr := hr.mono (by decide)) (hgd := hg) (hx := passL) (ha := (pa_cons (pv 2) (pa_cons pe_int (pa_cons pe_int pa_nil))))))) pa_nil))))))
theorem ok_is_table (T : Txt K mg A) : GOk PG w K mg base 8 A.a_is_table A.d_is_table ["thing"] (p_is_table K A.c_Ratio) := by
  refine okR T.f_is_table.fn sc_is_table (fun cdv AA out s H E hr hg => ⟨t_is_table K A.c_BadTable A.c_Ratio, ?_, fun S hmu ds d hl hp => so_is_table T.b_BadTable.te hp⟩)
  exact (pss_cons (ps_try_only (by rfl) (by rfl) ⟨by rfl, by decide, .inl T.b_BadTable.gC⟩ takes0 (fun W pn xe tk _ => (pss_one (ps_expr (pe_gS (G := (ok_need_table T)) (hb := T.f_need_table.bp) (hm := T.f_need_table.gl) (hk := T.f_need_table.fn.kp) (hr := hr.mono (by decide)) (hgd := hg) (hx := (fun σ => passAt tk σ)) (ha := (pa_cons (pv 0) pa_nil)))))) (fun a oe cls d pn hz hf => (pss_one (ps_ret pe_bl))))
      (pss_one (ps_ret pe_bl)))
theorem ok_is_table_with_tolerance (T : Txt K mg A) : GOk PG w K mg base 9 A.a_is_table_with_tolerance A.d_is_table_with_tolerance ["thing"] (p_is_table_with_tolerance K A.c_Ratio) := by
  refine okR T.f_is_table_with_tolerance.fn sc_is_table_with_tolerance (fun cdv AA out s H E hr hg => ⟨t_is_table_with_tolerance K A.c_Ratio, ?_, fun S hmu ds d hl hp => so_is_table_with_tolerance hp⟩)
  exact (pss_one (ps_ret (pe_and (pe_g (G := (ok_is_pair T)) (hb := T.f_is_pair.bp) (hm := T.f_is_pair.gl) (hk := T.f_is_pair.fn.kp) (hr := hr.mono (by decide)) (hgd := hg) (hx := passL) (ha := (pa_cons (pv 0) pa_nil))) (pe_and (pe_g (G := (ok_is_table T)) (hb := T.f_is_table.bp) (hm := T.f_is_table.gl) (hk := T.f_is_table.fn.kp) (hr := hr.mono (by decide)) (hgd := hg) (hx := passL) (ha := (pa_cons (pe_ix ix_seq (pv 0) pe_int (fun _ _ => rfl)) pa_nil))) (pe_one (pe_g (G := (ok_is_below_one T)) (hb := T.f_is_below_one.bp) (hm := T.f_is_below_one.gl) (hk := T.f_is_below_one.fn.kp) (hr := hr.mono (by decide)) (hgd := hg) (hx := passL) (ha := (pa_cons (pe_ix ix_seq (pv 0) pe_int (fun _ _ => rfl)) pa_nil))))))))
theorem ok_need_receiver (T : Txt K mg A) : GOk PG w K mg base 10 A.a_need_receiver A.d_need_receiver ["thing"] (p_need_receiver K A.c_Ratio A.c_BadReceiver) := by
  refine okI T.f_need_receiver.fn sc_need_receiver (fun cdv AA out s H E hr hg => ⟨t_need_receiver K A.c_Ratio A.c_BadReceiver E, ?_, fun S hmu v d o hv hp hw => so_need_receiver T.r_Ratio hv hp hw⟩)
  exact (pss_cons (ps_if (PW.pt (pw_or (pt_not (pt_val (pe_callB call_isi (by rfl) T.m_isinstance (by first | exact PySem.boot_isinstance | exact PyProof.Rows.boot_isinstance | decide +kernel) (pa_cons (pv 0) (pa_cons (pe_bltn (v := .ty "tuple") (by rfl) T.m_tuple (by first | exact PySem.boot_tuple | decide +kernel) rfl) pa_nil))))) (pw_or1 (pt_not (pt_chain op_le op_le pe_int (pe_callB call_len_seq (by rfl) T.m_len (by first | exact PySem.boot_len | exact PyProof.Rows.boot_len | decide +kernel) (pa_cons (pv 0) pa_nil)) (pe_gc rfl T.c_MOST_PAIRS)))))) (pss_one (ps_raiseB rfl T.b_BadReceiver hr (takes_of rfl rfl rfl rfl) (pa_cons pe_non pa_nil))) pss_nil)
      (pss_cons (ps_for (passes_of rfl) rfl (pi_enumT rfl T.m_enumerate (pa_cons (pv 0) pa_nil)) (pg_tup rfl (pgs_cons (pg_name (i := 1) sc_need_receiver.nd rfl (Or.inl rfl)) (pgs_cons (pg_name (i := 2) sc_need_receiver.nd rfl (Or.inl rfl)) pgs_nil))) (pss_one (ps_if (pt_not (pt_val (pe_g (G := (ok_is_table_with_tolerance T)) (hb := T.f_is_table_with_tolerance.bp) (hm := T.f_is_table_with_tolerance.gl) (hk := T.f_is_table_with_tolerance.fn.kp) (hr := hr.mono (by decide)) (hgd := hg) (hx := passL) (ha := (pa_cons (pv 2) pa_nil))))) (pss_one (ps_raiseB rfl T.b_BadReceiver hr (takes_of rfl rfl rfl rfl) (pa_cons (pv 1) pa_nil))) pss_nil)))
      (pss_one (ps_ret (pv 0)))))
theorem ok_is_sending (T : Txt K mg A) : GOk PG w K mg base 11 A.a_is_sending A.d_is_sending ["receiver", "thing"] (p_is_sending K A.c_Ratio) := by
  refine okR T.f_is_sending.fn sc_is_sending (fun cdv AA out s H E hr hg => ⟨t_is_sending K A.c_Ratio A.c_BadReceiver, ?_, fun S hmu ds d hl hp => so_is_sending T.r_Ratio hmu hp⟩)
  exact (pss_cons (ps_expr (pe_g (G := (ok_need_receiver T)) (hb := T.f_need_receiver.bp) (hm := T.f_need_receiver.gl) (hk := T.f_need_receiver.fn.kp) (hr := hr.mono (by decide)) (hgd := hg) (hx := passL) (ha := (pa_cons (pv 0) pa_nil))))
      (pss_cons (ps_if (PW.pt (pw_or (pt_not (pt_val (pe_g (G := (ok_is_pair T)) (hb := T.f_is_pair.bp) (hm := T.f_is_pair.gl) (hk := T.f_is_pair.fn.kp) (hr := hr.mono (by decide)) (hgd := hg) (hx := passL) (ha := (pa_cons (pv 1) pa_nil))))) (pw_or1 (pt_not (pt_val (pe_g (G := (ok_is_whole_from T)) (hb := T.f_is_whole_from.bp) (hm := T.f_is_whole_from.gl) (hk := T.f_is_whole_from.fn.kp) (hr := hr.mono (by decide)) (hgd := hg) (hx := passL) (ha := (pa_cons (pe_ix ix_seq (pv 1) pe_int (fun _ _ => rfl)) (pa_cons pe_int (pa_cons (pe_op op_sub (pe_callB call_len_seq (by rfl) T.m_len (by first | exact PySem.boot_len | exact PyProof.Rows.boot_len | decide +kernel) (pa_cons (pv 0) pa_nil)) pe_int) pa_nil)))))))))) (pss_one (ps_ret pe_bl)) pss_nil)
      (pss_one (ps_ret (pe_g (G := (ok_is_word T)) (hb := T.f_is_word.bp) (hm := T.f_is_word.gl) (hk := T.f_is_word.fn.kp) (hr := hr.mono (by decide)) (hgd := hg) (hx := passL) (ha := (pa_cons (pe_ix ix_seq (pe_ix ix_seq (pv 0) (pe_ix ix_seq (pv 1) pe_int (fun _ _ => rfl)) (fun _ _ => rfl)) pe_int (fun _ _ => rfl)) (pa_cons (pe_ix ix_seq (pv 1) pe_int (fun _ _ => rfl)) pa_nil))))))))
theorem ok__law_said (T : Txt K mg A) : GOk PG w K mg base 11 A.a__law_said A.d__law_said ["value"] (p__law_saidR K A.c_Ratio A.c_BadReceiver) := by
  refine okR T.f__law_said.fn sc__law_said (fun cdv AA out s H E hr hg => ⟨t__law_saidR K A.c_Ratio A.c_BadReceiver, ?_, fun S hmu ds d hl hp => so__law_saidR hmu T.b_BadReceiver.te hp⟩)
  exact (pss_cons (ps_set (i := 1) sc__law_said.nd rfl (Or.inl rfl) (pe_lst (pa_cons pe_str pa_nil)))
      (pss_cons (ps_try_as (i := 2) (by rfl) (by rfl) sc__law_said.nd (by rfl) (by rfl) ⟨by rfl, by decide, .inl T.b_BadReceiver.gC⟩ takes0 (fun W pn xe tk _ => (pss_one (ps_set (i := 1) sc__law_said.nd rfl (Or.inl rfl) (pe_ifExp (pt_cmpR (op_eqW hr.units) (pe_gS (G := (ok_need_receiver T)) (hb := T.f_need_receiver.bp) (hm := T.f_need_receiver.gl) (hk := T.f_need_receiver.fn.kp) (hr := hr.mono (by decide)) (hgd := hg) (hx := (fun σ => passAt tk σ)) (ha := (pa_cons (pv 0) pa_nil))) (pv 0) (nomark _)) (pe_lst pa_nil) (pe_lst (pa_cons pe_str pa_nil)))))) (fun a oe cls d pn hz hf => (pss_one (ps_set (i := 1) sc__law_said.nd rfl (Or.inl rfl) (pe_lst (pa_cons (pe_fld T.b_BadReceiver hz hf (pv 2)) pa_nil))))))
      (pss_one (ps_ret (pv 1)))))
theorem ok__law_sendings_right (T : Txt K mg A) : GOk PG w K mg base 12 A.a__law_sendings_right A.d__law_sendings_right ["draw", "hearers"] (p__law_sendings_right K A.c_Ratio) := by
  refine okD T.f__law_sendings_right.fn sc__law_sendings_right rfl (fun cdv AA out s H E hr hg => ⟨t__law_sendings_right K A.c_Ratio, ?_, fun a c cs n ds hc hn hl hp => so__law_sendings_right hc hn hp⟩)
  exact (pss_cons (ps_set (i := 2) sc__law_sendings_right.nd rfl (Or.inl rfl) (pe_g (G := (ok__law_next T)) (hb := T.f__law_next.bp) (hm := T.f__law_next.gl) (hk := T.f__law_next.fn.kp) (hr := hr.mono (by decide)) (hgd := hg) (hx := passL) (ha := (pa_cons (pv 0) (pa_cons (pe_callB call_len_seq (by rfl) T.m_len (by first | exact PySem.boot_len | exact PyProof.Rows.boot_len | decide +kernel) (pa_cons (pv 1) pa_nil)) pa_nil)))))
      (pss_cons (ps_set (i := 3) sc__law_sendings_right.nd rfl (Or.inl rfl) (pe_g (G := (ok__law_pick T)) (hb := T.f__law_pick.bp) (hm := T.f__law_pick.gl) (hk := T.f__law_pick.fn.kp) (hr := hr.mono (by decide)) (hgd := hg) (hx := passL) (ha := (pa_cons (pv 0) (pa_cons (pe_g (G := (ok__law_words T)) (hb := T.f__law_words.bp) (hm := T.f__law_words.gl) (hk := T.f__law_words.fn.kp) (hr := hr.mono (by decide)) (hgd := hg) (hx := passL) (ha := (pa_cons (pe_ix ix_seq (pe_ix ix_seq (pe_ix ix_seq (pv 1) (pv 2) (fun _ _ => rfl)) pe_int (fun _ _ => rfl)) (pe_un un_neg pe_int) (fun _ _ => rfl)) pa_nil))) pa_nil)))))
      (pss_cons (ps_if (PW.pt (pw_or (pt_cmpR op_notBl (pe_g (G := (ok_is_sending T)) (hb := T.f_is_sending.bp) (hm := T.f_is_sending.gl) (hk := T.f_is_sending.fn.kp) (hr := hr.mono (by decide)) (hgd := hg) (hx := passL) (ha := (pa_cons (pv 1) (pa_cons (pe_tup (pa_cons (pv 2) (pa_cons (pv 3) pa_nil))) pa_nil)))) pe_bl (nomark _)) (pw_or1 (pt_cmpR op_notBl (pe_gw (G := (ok_is_sending T)) (hb := T.k_is_sending_thing_receiver) (hgv := kws) (hm := T.f_is_sending.gl) (hk := T.f_is_sending.fn.kp) (hr := hr.mono (by decide)) (hgd := hg) (hx := passL) (hkw := (pk_cons (pe_tup (pa_cons (pv 2) (pa_cons (pv 3) pa_nil))) (pk_cons (pv 1) pk_nil)))) pe_bl (nomark _))))) (pss_one (ps_ret pe_bl)) pss_nil)
      (pss_cons (ps_set (i := 4) sc__law_sendings_right.nd rfl (Or.inl rfl) (pe_lst (pa_cons (pe_tup (pa_cons (pe_callB call_len_seq (by rfl) T.m_len (by first | exact PySem.boot_len | exact PyProof.Rows.boot_len | decide +kernel) (pa_cons (pv 1) pa_nil)) (pa_cons (pv 3) pa_nil))) (pa_cons (pe_tup (pa_cons (pe_un un_neg pe_int) (pa_cons (pv 3) pa_nil))) (pa_cons (pe_tup (pa_cons pe_non (pa_cons (pv 3) pa_nil))) (pa_cons (pe_tup (pa_cons pe_bl (pa_cons (pv 3) pa_nil))) (pa_cons (pe_tup (pa_cons (pv 2) (pa_cons (pe_op op_catA (pv 3) (pe_tup (pa_cons pe_int pa_nil))) pa_nil))) (pa_cons (pe_tup (pa_cons (pv 2) (pa_cons (pe_callTy call_list_of (by rfl) T.m_list (by first | exact PySem.boot_list | exact PyProof.Rows.boot_list | decide +kernel) (pa_cons (pv 3) pa_nil)) pa_nil))) (pa_cons (pe_tup (pa_cons (pv 2) pa_nil)) pa_nil)))))))))
      (pss_cons (ps_set (i := 4) sc__law_sendings_right.nd rfl (Or.inl rfl) (pe_op op_catS (pv 4) (pe_lst (pa_cons (pe_tup (pa_cons (pv 2) (pa_cons (pe_slice sl_tupA (pv 3) po_none (po_some (pe_un un_neg pe_int))) pa_nil))) (pa_cons (pe_tup (pa_cons (pv 2) (pa_cons (pe_op op_catA (pe_slice sl_tupA (pv 3) po_none (po_some (pe_un un_neg pe_int))) (pe_tup (pa_cons pe_int pa_nil))) pa_nil))) (pa_cons (pe_tup (pa_cons (pv 2) (pa_cons (pv 3) (pa_cons pe_int pa_nil)))) (pa_cons (pe_lst (pa_cons (pv 2) (pa_cons (pv 3) pa_nil))) (pa_cons (pv 3) (pa_cons pe_non (pa_cons (pv 2) (pa_cons (pe_tup (pa_cons (pv 3) (pa_cons (pv 2) pa_nil))) pa_nil)))))))))))
      (pss_cons (ps_set (i := 5) sc__law_sendings_right.nd rfl (Or.inl rfl) (pe_op op_catS (pv 4) (pe_lst (pa_cons (pe_tup (pa_cons (pv 2) (pa_cons (pe_op op_catA (pe_slice sl_tupA (pv 3) po_none (po_some (pe_un un_neg pe_int))) (pe_tup (pa_cons pe_bl pa_nil))) pa_nil))) (pa_cons (pe_tup (pa_cons (pv 2) (pa_cons pe_non pa_nil))) (pa_cons (pe_tup (pa_cons pe_str (pa_cons (pv 3) pa_nil))) (pa_cons pe_dnewK pa_nil)))))))
      (pss_one (ps_ret (pe_cmpR (op_eqD hr.units) (pe_lc (own := [("one", 6)]) (g := (gName 6)) (tt := (tTest (tOp rNotB (tCall (p_is_sending K A.c_Ratio) [] E0 (tCons (tVar 1) (tCons (tVar 6) tNil))) (tC (.bl false))))) (te := (tVar 6)) rfl sc__law_sendings_right.nd (pi_list (pv 5)) (blkOk_by (own := [("one", 6)]) (N := ["draw", "hearers", "at", "word", "some", "odd", "one"]) (sc := defScope s__law_sendings_right) (by decide +kernel))  (fun _ _ _ _ _ => (pg_name (i := 6) sc__law_sendings_right.nd rfl (Or.inl rfl))) (fun _ _ _ _ _ => (pts_one (pt_cmpR op_notBl (pe_g (G := (ok_is_sending T)) (hb := T.f_is_sending.bp) (hm := T.f_is_sending.gl) (hk := T.f_is_sending.fn.kp) (hr := hr.mono (by decide)) (hgd := hg) (hx := passL) (ha := (pa_cons (pv 1) (pa_cons (pv 6) pa_nil)))) pe_bl (nomark _))))  (fun _ _ _ _ _ => (pv 6))) (pe_lst pa_nil) (nomark _))))))))))
theorem ok_law (T : Txt K mg A) : GOk PG w K mg base 13 A.a_law A.d_law ["script"] (p_law9 K) := by
  refine okG T.f_law.fn sc_law (fun vs H Q E h => ?_) fun cdv AA out s H vs Q E hr hg h => ⟨t_law9 K A.c_Ratio A.c_BadReceiver, ?_, ?_⟩
  · obtain ⟨s, ns, rfl, _⟩ := h
    rfl
  · exact PSs.nox (pss_cons (ps_set (i := 1) sc_law.nd rfl (Or.inl rfl) (pe_g (G := (ok__law_begin T)) (hb := T.f__law_begin.bp) (hm := T.f__law_begin.gl) (hk := T.f__law_begin.fn.kp) (hr := hr.mono (by decide)) (hgd := hg) (hx := passL) (ha := (pa_cons (pv 0) pa_nil))))
      (pss_cons (ps_for PassesOwn.never rfl (pi_range1 rfl T.m_range (pa_cons pe_int pa_nil)) (pg_name (i := 2) sc_law.nd rfl (Or.inl rfl)) (pss_cons (ps_set (i := 3) sc_law.nd rfl (Or.inl rfl) (pe_g (G := (ok__law_receiver T)) (hb := T.f__law_receiver.bp) (hm := T.f__law_receiver.gl) (hk := T.f__law_receiver.fn.kp) (hr := hr.mono (by decide)) (hgd := hg) (hx := passL) (ha := (pa_cons (pv 1) (pa_cons pe_int (pa_cons pe_int pa_nil))))))
      (pss_cons (ps_if (PW.pt (pw_or (pt_cmpR (op_neD hr.units) (pe_g (G := (ok__law_said T)) (hb := T.f__law_said.bp) (hm := T.f__law_said.gl) (hk := T.f__law_said.fn.kp) (hr := hr.mono (by decide)) (hgd := hg) (hx := passL) (ha := (pa_cons (pv 3) pa_nil))) (pe_lst pa_nil) (nomark _)) (pw_or1 (pt_cmpR (op_neW hr.units) (pe_gw (G := (ok_need_receiver T)) (hb := T.k_need_receiver_thing) (hgv := kwv) (hm := T.f_need_receiver.gl) (hk := T.f_need_receiver.fn.kp) (hr := hr.mono (by decide)) (hgd := hg) (hx := passL) (hkw := (pk_cons (pv 3) pk_nil))) (pv 3) (nomark _))))) (pss_one (ps_ret pe_bl)) pss_nil)
      (pss_cons (ps_par (i := 4) (j := 5) (by rfl) sc_law.nd rfl rfl (by decide) rfl rfl (pa_cons (pe_g (G := (ok__law_next T)) (hb := T.f__law_next.bp) (hm := T.f__law_next.gl) (hk := T.f__law_next.fn.kp) (hr := hr.mono (by decide)) (hgd := hg) (hx := passL) (ha := (pa_cons (pv 1) (pa_cons (pe_callB call_len_seq (by rfl) T.m_len (by first | exact PySem.boot_len | exact PyProof.Rows.boot_len | decide +kernel) (pa_cons (pv 3) pa_nil)) pa_nil)))) (pa_cons (pe_g (G := (ok__law_next T)) (hb := T.f__law_next.bp) (hm := T.f__law_next.gl) (hk := T.f__law_next.fn.kp) (hr := hr.mono (by decide)) (hgd := hg) (hx := passL) (ha := (pa_cons (pv 1) (pa_cons (pe_callB call_len_seq (by rfl) T.m_len (by first | exact PySem.boot_len | exact PyProof.Rows.boot_len | decide +kernel) (pa_cons (pv 3) pa_nil)) pa_nil)))) pa_nil)) (by rfl))
      (pss_cons (ps_set (i := 6) sc_law.nd rfl (Or.inl rfl) (pe_g (G := (ok__law_odd_pair T)) (hb := T.f__law_odd_pair.bp) (hm := T.f__law_odd_pair.gl) (hk := T.f__law_odd_pair.fn.kp) (hr := hr.mono (by decide)) (hgd := hg) (hx := passL) (ha := (pa_cons (pv 1) (pa_cons (pe_ix ix_seq (pv 3) (pv 4) (fun _ _ => rfl)) pa_nil)))))
      (pss_cons (ps_set (i := 7) sc_law.nd rfl (Or.inl rfl) (pe_op op_catA (pe_op op_catA (pe_slice sl_tupA (pv 3) po_none (po_some (pv 4))) (pe_tup (pa_cons (pv 6) pa_nil))) (pe_slice sl_tupA (pv 3) (po_some (pe_op op_add (pv 4) pe_int)) po_none)))
      (pss_cons (ps_if (pt_cmpR (op_neD hr.units) (pe_g (G := (ok__law_said T)) (hb := T.f__law_said.bp) (hm := T.f__law_said.gl) (hk := T.f__law_said.fn.kp) (hr := hr.mono (by decide)) (hgd := hg) (hx := passL) (ha := (pa_cons (pv 7) pa_nil))) (pe_lst (pa_cons (pv 4) pa_nil)) (nomark _)) (pss_one (ps_ret pe_bl)) pss_nil)
      (pss_cons (ps_set (i := 7) sc_law.nd rfl (Or.inl rfl) (pe_op op_catA (pe_op op_catA (pe_slice sl_tupA (pv 7) po_none (po_some (pv 5))) (pe_tup (pa_cons pe_non pa_nil))) (pe_slice sl_tupA (pv 7) (po_some (pe_op op_add (pv 5) pe_int)) po_none)))
      (pss_cons (ps_if (pt_cmpR (op_neD hr.units) (pe_g (G := (ok__law_said T)) (hb := T.f__law_said.bp) (hm := T.f__law_said.gl) (hk := T.f__law_said.fn.kp) (hr := hr.mono (by decide)) (hgd := hg) (hx := passL) (ha := (pa_cons (pv 7) pa_nil))) (pe_lst (pa_cons (pe_ifExp (pt_cmpR op_lt (pv 5) (pv 4) (nomark _)) (pv 5) (pv 4)) pa_nil)) (nomark _)) (pss_one (ps_ret pe_bl)) pss_nil)
      (pss_cons (ps_for PassesOwn.never rfl (pi_tup (pe_tup (pa_cons (pe_tup pa_nil) (pa_cons pe_non (pa_cons (pe_callTy call_list_of (by rfl) T.m_list (by first | exact PySem.boot_list | exact PyProof.Rows.boot_list | decide +kernel) (pa_cons (pv 3) pa_nil)) (pa_cons (pe_ix ix_seq (pv 3) pe_int (fun _ _ => rfl)) (pa_cons (pe_op op_repT (pe_slice sl_tupA (pv 3) po_none (po_some pe_int)) pe_int) (pa_cons pe_dnewK (pa_cons pe_str (pa_cons pe_int (pa_cons (pe_op op_repT (pe_tup (pa_cons pe_non pa_nil)) pe_int) pa_nil))))))))))) (pg_name (i := 6) sc_law.nd rfl (Or.inl rfl)) (pss_cons (ps_set (i := 8) sc_law.nd rfl (Or.inl rfl) (pe_ifExp (pt_cmpR (op_eqW hr.units) (pv 6) (pe_ix ix_seq (pv 3) pe_int (fun _ _ => rfl)) (nomark _)) (pe_lst (pa_cons pe_int pa_nil)) (pe_lst (pa_cons pe_non pa_nil))))
      (pss_one (ps_if (pt_cmpR (op_neD hr.units) (pe_g (G := (ok__law_said T)) (hb := T.f__law_said.bp) (hm := T.f__law_said.gl) (hk := T.f__law_said.fn.kp) (hr := hr.mono (by decide)) (hgd := hg) (hx := passL) (ha := (pa_cons (pv 6) pa_nil))) (pv 8) (nomark _)) (pss_one (ps_ret pe_bl)) pss_nil))))
      (pss_one (ps_if (pt_not (pt_val (pe_g (G := (ok__law_sendings_right T)) (hb := T.f__law_sendings_right.bp) (hm := T.f__law_sendings_right.gl) (hk := T.f__law_sendings_right.fn.kp) (hr := hr.mono (by decide)) (hgd := hg) (hx := passL) (ha := (pa_cons (pv 1) (pa_cons (pv 3) pa_nil)))))) (pss_one (ps_ret pe_bl)) pss_nil))))))))))))
      (pss_one (ps_ret pe_bl))))
  · obtain ⟨s, ns, rfl, hs, hl, q⟩ := h
    refine ⟨.ref s, rfl, s, ns, rfl, hs, hl, fun p c H' g i => ?_⟩
    have i0 := dw_of (n := 0) (Int.le_refl 0) (Int.le_refl 0) (Int.le_refl 0) (Int.le_refl 0) (Int.le_refl 0) H' i
    refine so_law9 (x0 := some (.raw (.ref s))) (by simp) _ _ H' H' ⟨Gr.refl H', dw_le (by decide) H' i0, fun _ z => nomatch z⟩ i0 ((slots_start (N := ["script", "draw", "turn", "hearers", "at", "other", "odd", "spoiled", "due"]) (.cons (.raw (.ref s)) .nil)).set (v := .ref p) (.raw (.ref p)) 1) ⟨fun _ _ _ _ _ _ z => z.elim, fun v d H2 g2 i2 r e => ?_, fun _ _ _ _ _ _ z => z.elim, fun _ _ _ _ _ _ z => z.elim⟩
    cases e
    obtain rfl := r.blI
    exact q H2
end
end Bf
namespace Bf
open PySem PySem.Spec PyProof.Rows L2
/-- an error of the class at S is what «except S» names -/
theorem exm_self {K : PySem.W.Frag} {S : Addr} (h1 : PySem.W.subIn K (.ref S) (.type "BaseException") = some true) (h2 : PySem.W.isClsIn K S = true) (h3 : PySem.W.typeIn K (.ref S) = some (.type "type")) (h4 : PySem.W.subIn K (.ref S) (.ref S) = some true) : PySem.W.exmOne K (.ref S) (.ref S) = some true := by
  have h2' : (PySem.W.clsIn K S).isSome = true := h2
  have e1 : (PySem.W.subIn K (.ref S) (.type "BaseException") == some true) = true := by rw [h1] <;> rfl
  have e2 : ((PySem.W.clsIn K S).isSome && PySem.W.typeIn K (.ref S) == some (.type "type")) = true := by
    rw [h2', h3] <;> rfl
  show (if (PySem.W.subIn K (.ref S) (.type "BaseException") == some true) = true then (if ((PySem.W.clsIn K S).isSome && PySem.W.typeIn K (.ref S) == some (.type "type")) = true then PySem.W.subIn K (.ref S) (.ref S) else none) else none) = some true
  rw [if_pos e1, if_pos e2]
  exact h4
open PySem.W PySem.Calls PySem.HandSPX in
theorem all_mk {l : PySem.W.OpenLaw} {w : World} {K : PySem.W.Frag} {h : Heap} {mg : Str → Option Value} {fa : Addr} (X : K.In h) (G : h.Ns mainGlobals mg) (hfa : mg "law" = some (.ref fa)) (hl : l.prog = PySem.Challenge.pw_beamframes_k09_receivers)
    {f1 f2 f3 f4 f5 f6 f7 f8 f9 f10 f11 f12 f13 f14 f15 f16 f17 f18 f19 f20 f21 f22 f23 f24 f25 f26 f27 f28 f29 f30 : Addr}
    {od1 an1 : Option Addr} {sl1 : Array (Option Value)} {oc1 kV1 dc1 pm1 cd1 ct1 : Value}
    (a1 : PySem.W.nsIn K mainGlobals "is_whole" = some (some (.ref f1))) (l1 : K.lookup f1 = some ⟨oc1, od1, .func (PySem.W.fnOf "is_whole" "is_whole" (defArgs s_is_whole) (defBody s_is_whole) (defScope s_is_whole) .none kV1 dc1 pm1 an1 cd1 ct1), sl1⟩) (c1 : PySem.W.codeIn K cd1 "is_whole" = true) (k1 : PySem.W.keepIn K (.ref f1) = true)
    {od2 an2 : Option Addr} {sl2 : Array (Option Value)} {oc2 kV2 dc2 pm2 cd2 ct2 : Value}
    (a2 : PySem.W.nsIn K mainGlobals "is_whole_from" = some (some (.ref f2))) (l2 : K.lookup f2 = some ⟨oc2, od2, .func (PySem.W.fnOf "is_whole_from" "is_whole_from" (defArgs s_is_whole_from) (defBody s_is_whole_from) (defScope s_is_whole_from) .none kV2 dc2 pm2 an2 cd2 ct2), sl2⟩) (c2 : PySem.W.codeIn K cd2 "is_whole_from" = true) (k2 : PySem.W.keepIn K (.ref f2) = true)
    {od3 an3 : Option Addr} {sl3 : Array (Option Value)} {oc3 kV3 dc3 pm3 cd3 ct3 : Value}
    (a3 : PySem.W.nsIn K mainGlobals "need_table" = some (some (.ref f3))) (l3 : K.lookup f3 = some ⟨oc3, od3, .func (PySem.W.fnOf "need_table" "need_table" (defArgs s_need_table) (defBody s_need_table) (defScope s_need_table) .none kV3 dc3 pm3 an3 cd3 ct3), sl3⟩) (c3 : PySem.W.codeIn K cd3 "need_table" = true) (k3 : PySem.W.keepIn K (.ref f3) = true)
    {od4 an4 : Option Addr} {sl4 : Array (Option Value)} {oc4 kV4 dc4 pm4 cd4 ct4 : Value}
    (a4 : PySem.W.nsIn K mainGlobals "is_word" = some (some (.ref f4))) (l4 : K.lookup f4 = some ⟨oc4, od4, .func (PySem.W.fnOf "is_word" "is_word" (defArgs s_is_word) (defBody s_is_word) (defScope s_is_word) .none kV4 dc4 pm4 an4 cd4 ct4), sl4⟩) (c4 : PySem.W.codeIn K cd4 "is_word" = true) (k4 : PySem.W.keepIn K (.ref f4) = true)
    {od5 an5 : Option Addr} {sl5 : Array (Option Value)} {oc5 kV5 dc5 pm5 cd5 ct5 : Value}
    (a5 : PySem.W.nsIn K mainGlobals "bits_of" = some (some (.ref f5))) (l5 : K.lookup f5 = some ⟨oc5, od5, .func (PySem.W.fnOf "bits_of" "bits_of" (defArgs s_bits_of) (defBody s_bits_of) (defScope s_bits_of) .none kV5 dc5 pm5 an5 cd5 ct5), sl5⟩) (c5 : PySem.W.codeIn K cd5 "bits_of" = true) (k5 : PySem.W.keepIn K (.ref f5) = true)
    {od6 an6 : Option Addr} {sl6 : Array (Option Value)} {oc6 kV6 dc6 pm6 cd6 ct6 : Value}
    (a6 : PySem.W.nsIn K mainGlobals "begins_with" = some (some (.ref f6))) (l6 : K.lookup f6 = some ⟨oc6, od6, .func (PySem.W.fnOf "begins_with" "begins_with" (defArgs s_begins_with) (defBody s_begins_with) (defScope s_begins_with) .none kV6 dc6 pm6 an6 cd6 ct6), sl6⟩) (c6 : PySem.W.codeIn K cd6 "begins_with" = true) (k6 : PySem.W.keepIn K (.ref f6) = true)
    {od7 an7 : Option Addr} {sl7 : Array (Option Value)} {oc7 kV7 dc7 pm7 cd7 ct7 : Value}
    (a7 : PySem.W.nsIn K mainGlobals "wrong_part_of_pairs" = some (some (.ref f7))) (l7 : K.lookup f7 = some ⟨oc7, od7, .func (PySem.W.fnOf "wrong_part_of_pairs" "wrong_part_of_pairs" (defArgs s_wrong_part_of_pairs) (defBody s_wrong_part_of_pairs) (defScope s_wrong_part_of_pairs) .none kV7 dc7 pm7 an7 cd7 ct7), sl7⟩) (c7 : PySem.W.codeIn K cd7 "wrong_part_of_pairs" = true) (k7 : PySem.W.keepIn K (.ref f7) = true)
    {od8 an8 : Option Addr} {sl8 : Array (Option Value)} {oc8 kV8 dc8 pm8 cd8 ct8 : Value}
    (a8 : PySem.W.nsIn K mainGlobals "wrong_part_of_halves" = some (some (.ref f8))) (l8 : K.lookup f8 = some ⟨oc8, od8, .func (PySem.W.fnOf "wrong_part_of_halves" "wrong_part_of_halves" (defArgs s_wrong_part_of_halves) (defBody s_wrong_part_of_halves) (defScope s_wrong_part_of_halves) .none kV8 dc8 pm8 an8 cd8 ct8), sl8⟩) (c8 : PySem.W.codeIn K cd8 "wrong_part_of_halves" = true) (k8 : PySem.W.keepIn K (.ref f8) = true)
    {od9 an9 : Option Addr} {sl9 : Array (Option Value)} {oc9 kV9 dc9 pm9 cd9 ct9 : Value}
    (a9 : PySem.W.nsIn K mainGlobals "is_duration" = some (some (.ref f9))) (l9 : K.lookup f9 = some ⟨oc9, od9, .func (PySem.W.fnOf "is_duration" "is_duration" (defArgs s_is_duration) (defBody s_is_duration) (defScope s_is_duration) .none kV9 dc9 pm9 an9 cd9 ct9), sl9⟩) (c9 : PySem.W.codeIn K cd9 "is_duration" = true) (k9 : PySem.W.keepIn K (.ref f9) = true)
    {od10 an10 : Option Addr} {sl10 : Array (Option Value)} {oc10 kV10 dc10 pm10 cd10 ct10 : Value}
    (a10 : PySem.W.nsIn K mainGlobals "are_durations" = some (some (.ref f10))) (l10 : K.lookup f10 = some ⟨oc10, od10, .func (PySem.W.fnOf "are_durations" "are_durations" (defArgs s_are_durations) (defBody s_are_durations) (defScope s_are_durations) .none kV10 dc10 pm10 an10 cd10 ct10), sl10⟩) (c10 : PySem.W.codeIn K cd10 "are_durations" = true) (k10 : PySem.W.keepIn K (.ref f10) = true)
    {od11 an11 : Option Addr} {sl11 : Array (Option Value)} {oc11 kV11 dc11 pm11 cd11 ct11 : Value}
    (a11 : PySem.W.nsIn K mainGlobals "is_pulse_and_gap" = some (some (.ref f11))) (l11 : K.lookup f11 = some ⟨oc11, od11, .func (PySem.W.fnOf "is_pulse_and_gap" "is_pulse_and_gap" (defArgs s_is_pulse_and_gap) (defBody s_is_pulse_and_gap) (defScope s_is_pulse_and_gap) .none kV11 dc11 pm11 an11 cd11 ct11), sl11⟩) (c11 : PySem.W.codeIn K cd11 "is_pulse_and_gap" = true) (k11 : PySem.W.keepIn K (.ref f11) = true)
    {od12 an12 : Option Addr} {sl12 : Array (Option Value)} {oc12 kV12 dc12 pm12 cd12 ct12 : Value}
    (a12 : PySem.W.nsIn K mainGlobals "is_bit_count" = some (some (.ref f12))) (l12 : K.lookup f12 = some ⟨oc12, od12, .func (PySem.W.fnOf "is_bit_count" "is_bit_count" (defArgs s_is_bit_count) (defBody s_is_bit_count) (defScope s_is_bit_count) .none kV12 dc12 pm12 an12 cd12 ct12), sl12⟩) (c12 : PySem.W.codeIn K cd12 "is_bit_count" = true) (k12 : PySem.W.keepIn K (.ref f12) = true)
    {od13 an13 : Option Addr} {sl13 : Array (Option Value)} {oc13 kV13 dc13 pm13 cd13 ct13 : Value}
    (a13 : PySem.W.nsIn K mainGlobals "is_below_one" = some (some (.ref f13))) (l13 : K.lookup f13 = some ⟨oc13, od13, .func (PySem.W.fnOf "is_below_one" "is_below_one" (defArgs s_is_below_one) (defBody s_is_below_one) (defScope s_is_below_one) .none kV13 dc13 pm13 an13 cd13 ct13), sl13⟩) (c13 : PySem.W.codeIn K cd13 "is_below_one" = true) (k13 : PySem.W.keepIn K (.ref f13) = true)
    {od14 an14 : Option Addr} {sl14 : Array (Option Value)} {oc14 kV14 dc14 pm14 cd14 ct14 : Value}
    (a14 : PySem.W.nsIn K mainGlobals "need_receiver" = some (some (.ref f14))) (l14 : K.lookup f14 = some ⟨oc14, od14, .func (PySem.W.fnOf "need_receiver" "need_receiver" (defArgs s_need_receiver) (defBody s_need_receiver) (defScope s_need_receiver) .none kV14 dc14 pm14 an14 cd14 ct14), sl14⟩) (c14 : PySem.W.codeIn K cd14 "need_receiver" = true) (k14 : PySem.W.keepIn K (.ref f14) = true)
    {od15 an15 : Option Addr} {sl15 : Array (Option Value)} {oc15 kV15 dc15 pm15 cd15 ct15 : Value}
    (a15 : PySem.W.nsIn K mainGlobals "is_sending" = some (some (.ref f15))) (l15 : K.lookup f15 = some ⟨oc15, od15, .func (PySem.W.fnOf "is_sending" "is_sending" (defArgs s_is_sending) (defBody s_is_sending) (defScope s_is_sending) .none kV15 dc15 pm15 an15 cd15 ct15), sl15⟩) (c15 : PySem.W.codeIn K cd15 "is_sending" = true) (k15 : PySem.W.keepIn K (.ref f15) = true)
    {od16 an16 : Option Addr} {sl16 : Array (Option Value)} {oc16 kV16 dc16 pm16 cd16 ct16 : Value}
    (a16 : PySem.W.nsIn K mainGlobals "is_pair" = some (some (.ref f16))) (l16 : K.lookup f16 = some ⟨oc16, od16, .func (PySem.W.fnOf "is_pair" "is_pair" (defArgs s_is_pair) (defBody s_is_pair) (defScope s_is_pair) .none kV16 dc16 pm16 an16 cd16 ct16), sl16⟩) (c16 : PySem.W.codeIn K cd16 "is_pair" = true) (k16 : PySem.W.keepIn K (.ref f16) = true)
    {od17 an17 : Option Addr} {sl17 : Array (Option Value)} {oc17 kV17 dc17 pm17 cd17 ct17 : Value}
    (a17 : PySem.W.nsIn K mainGlobals "is_table_with_tolerance" = some (some (.ref f17))) (l17 : K.lookup f17 = some ⟨oc17, od17, .func (PySem.W.fnOf "is_table_with_tolerance" "is_table_with_tolerance" (defArgs s_is_table_with_tolerance) (defBody s_is_table_with_tolerance) (defScope s_is_table_with_tolerance) .none kV17 dc17 pm17 an17 cd17 ct17), sl17⟩) (c17 : PySem.W.codeIn K cd17 "is_table_with_tolerance" = true) (k17 : PySem.W.keepIn K (.ref f17) = true)
    {od18 an18 : Option Addr} {sl18 : Array (Option Value)} {oc18 kV18 dc18 pm18 cd18 ct18 : Value}
    (a18 : PySem.W.nsIn K mainGlobals "is_table" = some (some (.ref f18))) (l18 : K.lookup f18 = some ⟨oc18, od18, .func (PySem.W.fnOf "is_table" "is_table" (defArgs s_is_table) (defBody s_is_table) (defScope s_is_table) .none kV18 dc18 pm18 an18 cd18 ct18), sl18⟩) (c18 : PySem.W.codeIn K cd18 "is_table" = true) (k18 : PySem.W.keepIn K (.ref f18) = true)
    {od19 an19 : Option Addr} {sl19 : Array (Option Value)} {oc19 kV19 dc19 pm19 cd19 ct19 : Value}
    (a19 : PySem.W.nsIn K mainGlobals "_law_begin" = some (some (.ref f19))) (l19 : K.lookup f19 = some ⟨oc19, od19, .func (PySem.W.fnOf "_law_begin" "_law_begin" (defArgs s__law_begin) (defBody s__law_begin) (defScope s__law_begin) .none kV19 dc19 pm19 an19 cd19 ct19), sl19⟩) (c19 : PySem.W.codeIn K cd19 "_law_begin" = true) (k19 : PySem.W.keepIn K (.ref f19) = true)
    {od20 an20 : Option Addr} {sl20 : Array (Option Value)} {oc20 kV20 dc20 pm20 cd20 ct20 : Value}
    (a20 : PySem.W.nsIn K mainGlobals "_law_next" = some (some (.ref f20))) (l20 : K.lookup f20 = some ⟨oc20, od20, .func (PySem.W.fnOf "_law_next" "_law_next" (defArgs s__law_next) (defBody s__law_next) (defScope s__law_next) .none kV20 dc20 pm20 an20 cd20 ct20), sl20⟩) (c20 : PySem.W.codeIn K cd20 "_law_next" = true) (k20 : PySem.W.keepIn K (.ref f20) = true)
    {od21 an21 : Option Addr} {sl21 : Array (Option Value)} {oc21 kV21 dc21 pm21 cd21 ct21 : Value}
    (a21 : PySem.W.nsIn K mainGlobals "_law_pick" = some (some (.ref f21))) (l21 : K.lookup f21 = some ⟨oc21, od21, .func (PySem.W.fnOf "_law_pick" "_law_pick" (defArgs s__law_pick) (defBody s__law_pick) (defScope s__law_pick) .none kV21 dc21 pm21 an21 cd21 ct21), sl21⟩) (c21 : PySem.W.codeIn K cd21 "_law_pick" = true) (k21 : PySem.W.keepIn K (.ref f21) = true)
    {od22 an22 : Option Addr} {sl22 : Array (Option Value)} {oc22 kV22 dc22 pm22 cd22 ct22 : Value}
    (a22 : PySem.W.nsIn K mainGlobals "_law_size" = some (some (.ref f22))) (l22 : K.lookup f22 = some ⟨oc22, od22, .func (PySem.W.fnOf "_law_size" "_law_size" (defArgs s__law_size) (defBody s__law_size) (defScope s__law_size) .none kV22 dc22 pm22 an22 cd22 ct22), sl22⟩) (c22 : PySem.W.codeIn K cd22 "_law_size" = true) (k22 : PySem.W.keepIn K (.ref f22) = true)
    {od23 an23 : Option Addr} {sl23 : Array (Option Value)} {oc23 kV23 dc23 pm23 cd23 ct23 : Value}
    (a23 : PySem.W.nsIn K mainGlobals "_law_table" = some (some (.ref f23))) (l23 : K.lookup f23 = some ⟨oc23, od23, .func (PySem.W.fnOf "_law_table" "_law_table" (defArgs s__law_table) (defBody s__law_table) (defScope s__law_table) .none kV23 dc23 pm23 an23 cd23 ct23), sl23⟩) (c23 : PySem.W.codeIn K cd23 "_law_table" = true) (k23 : PySem.W.keepIn K (.ref f23) = true)
    {od24 an24 : Option Addr} {sl24 : Array (Option Value)} {oc24 kV24 dc24 pm24 cd24 ct24 : Value}
    (a24 : PySem.W.nsIn K mainGlobals "_law_like" = some (some (.ref f24))) (l24 : K.lookup f24 = some ⟨oc24, od24, .func (PySem.W.fnOf "_law_like" "_law_like" (defArgs s__law_like) (defBody s__law_like) (defScope s__law_like) .none kV24 dc24 pm24 an24 cd24 ct24), sl24⟩) (c24 : PySem.W.codeIn K cd24 "_law_like" = true) (k24 : PySem.W.keepIn K (.ref f24) = true)
    {od25 an25 : Option Addr} {sl25 : Array (Option Value)} {oc25 kV25 dc25 pm25 cd25 ct25 : Value}
    (a25 : PySem.W.nsIn K mainGlobals "_law_receiver" = some (some (.ref f25))) (l25 : K.lookup f25 = some ⟨oc25, od25, .func (PySem.W.fnOf "_law_receiver" "_law_receiver" (defArgs s__law_receiver) (defBody s__law_receiver) (defScope s__law_receiver) .none kV25 dc25 pm25 an25 cd25 ct25), sl25⟩) (c25 : PySem.W.codeIn K cd25 "_law_receiver" = true) (k25 : PySem.W.keepIn K (.ref f25) = true)
    {od26 an26 : Option Addr} {sl26 : Array (Option Value)} {oc26 kV26 dc26 pm26 cd26 ct26 : Value}
    (a26 : PySem.W.nsIn K mainGlobals "_law_words" = some (some (.ref f26))) (l26 : K.lookup f26 = some ⟨oc26, od26, .func (PySem.W.fnOf "_law_words" "_law_words" (defArgs s__law_words) (defBody s__law_words) (defScope s__law_words) .none kV26 dc26 pm26 an26 cd26 ct26), sl26⟩) (c26 : PySem.W.codeIn K cd26 "_law_words" = true) (k26 : PySem.W.keepIn K (.ref f26) = true)
    {od27 an27 : Option Addr} {sl27 : Array (Option Value)} {oc27 kV27 dc27 pm27 cd27 ct27 : Value}
    (a27 : PySem.W.nsIn K mainGlobals "_law_said" = some (some (.ref f27))) (l27 : K.lookup f27 = some ⟨oc27, od27, .func (PySem.W.fnOf "_law_said" "_law_said" (defArgs s__law_said) (defBody s__law_said) (defScope s__law_said) .none kV27 dc27 pm27 an27 cd27 ct27), sl27⟩) (c27 : PySem.W.codeIn K cd27 "_law_said" = true) (k27 : PySem.W.keepIn K (.ref f27) = true)
    {od28 an28 : Option Addr} {sl28 : Array (Option Value)} {oc28 kV28 dc28 pm28 cd28 ct28 : Value}
    (a28 : PySem.W.nsIn K mainGlobals "_law_odd_pair" = some (some (.ref f28))) (l28 : K.lookup f28 = some ⟨oc28, od28, .func (PySem.W.fnOf "_law_odd_pair" "_law_odd_pair" (defArgs s__law_odd_pair) (defBody s__law_odd_pair) (defScope s__law_odd_pair) .none kV28 dc28 pm28 an28 cd28 ct28), sl28⟩) (c28 : PySem.W.codeIn K cd28 "_law_odd_pair" = true) (k28 : PySem.W.keepIn K (.ref f28) = true)
    {od29 an29 : Option Addr} {sl29 : Array (Option Value)} {oc29 kV29 dc29 pm29 cd29 ct29 : Value}
    (a29 : PySem.W.nsIn K mainGlobals "_law_sendings_right" = some (some (.ref f29))) (l29 : K.lookup f29 = some ⟨oc29, od29, .func (PySem.W.fnOf "_law_sendings_right" "_law_sendings_right" (defArgs s__law_sendings_right) (defBody s__law_sendings_right) (defScope s__law_sendings_right) .none kV29 dc29 pm29 an29 cd29 ct29), sl29⟩) (c29 : PySem.W.codeIn K cd29 "_law_sendings_right" = true) (k29 : PySem.W.keepIn K (.ref f29) = true)
    {od30 an30 : Option Addr} {sl30 : Array (Option Value)} {oc30 kV30 dc30 pm30 cd30 ct30 : Value}
    (a30 : PySem.W.nsIn K mainGlobals "law" = some (some (.ref f30))) (l30 : K.lookup f30 = some ⟨oc30, od30, .func (PySem.W.fnOf "law" "law" (defArgs s_law) (defBody s_law) (defScope s_law) .none kV30 dc30 pm30 an30 cd30 ct30), sl30⟩) (c30 : PySem.W.codeIn K cd30 "law" = true) (k30 : PySem.W.keepIn K (.ref f30) = true)
    (z1 : PySem.W.nsIn K mainGlobals "all" = some none)
    (z2 : PySem.W.nsIn K mainGlobals "bool" = some none)
    (z3 : PySem.W.nsIn K mainGlobals "enumerate" = some none)
    (z4 : PySem.W.nsIn K mainGlobals "int" = some none)
    (z5 : PySem.W.nsIn K mainGlobals "isinstance" = some none)
    (z6 : PySem.W.nsIn K mainGlobals "len" = some none)
    (z7 : PySem.W.nsIn K mainGlobals "list" = some none)
    (z8 : PySem.W.nsIn K mainGlobals "range" = some none)
    (z9 : PySem.W.nsIn K mainGlobals "str" = some none)
    (z10 : PySem.W.nsIn K mainGlobals "tuple" = some none)
    {q1 : Tok} (v1 : PySem.W.nsIn K mainGlobals "MOST_BITS" = some (some (.int 8 q1)))
    {q2 : Tok} (v2 : PySem.W.nsIn K mainGlobals "MOST_DURATION" = some (some (.int 99999 q2)))
    {q3 : Tok} (v3 : PySem.W.nsIn K mainGlobals "MOST_PAIRS" = some (some (.int 4 q3)))
    {C1 fI1 cc1 cda1 B1_1 xN1 : Addr} {xnm1 xqn1 fl1 : Str} {xbs1 : List Value} {xsn1 : List Str} {xsub1 : List Value} {xab1 : Bool} {xcol1 : Option Bool} {xdd1 : Option Addr} {xm10 xm11 xm12 xm13 xm15 : Option Value}
    {xoc1 xcl1 xkl1 xdo1 xpm1 xct1 : Value} {xod1 xcd1 xkd1 xan1 : Option Addr} {xos1 xcs1 xks1 : Array (Option Value)} {xvs1 : Array Value} {xtf1 : Tok}
    (xa1 : PySem.W.nsIn K mainGlobals "BadTable" = some (some (.ref C1))) (xb1 : K.lookup C1 = some (excClassObj xnm1 xqn1 C1 xN1 xbs1 [.ref B1_1, .type "ValueError", .type "Exception", .type "BaseException", .type "object"] true xsn1 xsub1 xab1 xcol1 xdd1 xm10 xm11 xm12 xm13 xm15 "ValueError.__new__"))
    (xc1 : PySem.W.findIn K (.ref C1) "__setattr__" = some (some (.builtin "object.__setattr__"))) (xd1 : PySem.W.findIn K (.ref C1) "__getattribute__" = some (some (.builtin "BaseException.__getattribute__"))) (xe1 : PySem.W.findIn K (.ref C1) "__getattr__" = some none) (xf1 : PySem.W.findIn K (.ref C1) "part" = some none)
    (xg1 : PySem.W.findIn K (.ref C1) "__init__" = some (some (.ref fI1))) (xh1 : PySem.W.typeIn K (.ref fI1) = some (.type "function"))
    (xi1 : K.lookup fI1 = some ⟨xoc1, xod1, .func (fnX "__init__" "BadTable.__init__" (xA "part" ⟨12, 17, 12, 21⟩ ⟨12, 23, 12, 27⟩) (xB "part" "a part of the table is not as described" (fun n => match n with | 1 => ⟨13, 8, 13, 13⟩ | 2 => ⟨13, 8, 13, 15⟩ | 3 => ⟨13, 8, 13, 24⟩ | 4 => ⟨13, 25, 13, 66⟩ | 5 => ⟨13, 8, 13, 67⟩ | 6 => ⟨13, 8, 13, 67⟩ | 7 => ⟨14, 8, 14, 12⟩ | 8 => ⟨14, 8, 14, 17⟩ | 9 => ⟨14, 20, 14, 24⟩ | 10 => ⟨14, 8, 14, 24⟩ | _ => ⟨0, 0, 0, 0⟩)) (xS "part") [("__class__", cc1)] .none .none xdo1 xpm1 xan1 (.ref cda1) xct1), xos1⟩)
    (xj1 : PySem.W.codeIn K (.ref cda1) "BadTable.__init__" = true) (xk1 : K.lookup cc1 = some ⟨xcl1, xcd1, .cell (some (.ref C1)), xcs1⟩) (xl1 : K.lookup cda1 = some ⟨xkl1, xkd1, .fields xvs1, xks1⟩) (xw1 : xvs1[2]? = some (.str fl1 xtf1)) (xx1 : ((PySem.Challenge.pw_beamframes_k09_receivers.main.file : Str) == fl1) = true)
    (xo1 : PySem.W.keepIn K (.ref C1) = true) (xp1 : PySem.W.subIn K (.ref C1) (.type "BaseException") = some true) (xq1 : PySem.W.typeIn K (.ref C1) = some (.type "type")) (xr1 : PySem.W.hasDictIn K C1 = true) (xs1 : PySem.W.isClsIn K C1 = true) (xt1 : PySem.W.subIn K (.ref C1) (.ref C1) = some true)
    (xu1 : PySem.W.subIn K (.ref C1) (.type "ValueError") = some true) (xv1 : PySem.W.mroIn K C1 (.ref C1) = some true) (xy1 : ks_superIn K C1 C1 "__init__" = some (some (.builtin "ValueError.__init__"))) (xz1 : PySem.W.nsIn K cStatics "thirdparty.any" = some none)
    {C2 fI2 cc2 cda2 B2_1 xN2 : Addr} {xnm2 xqn2 fl2 : Str} {xbs2 : List Value} {xsn2 : List Str} {xsub2 : List Value} {xab2 : Bool} {xcol2 : Option Bool} {xdd2 : Option Addr} {xm20 xm21 xm22 xm23 xm25 : Option Value}
    {xoc2 xcl2 xkl2 xdo2 xpm2 xct2 : Value} {xod2 xcd2 xkd2 xan2 : Option Addr} {xos2 xcs2 xks2 : Array (Option Value)} {xvs2 : Array Value} {xtf2 : Tok}
    (xa2 : PySem.W.nsIn K mainGlobals "BadReceiver" = some (some (.ref C2))) (xb2 : K.lookup C2 = some (excClassObj xnm2 xqn2 C2 xN2 xbs2 [.ref B2_1, .type "ValueError", .type "Exception", .type "BaseException", .type "object"] true xsn2 xsub2 xab2 xcol2 xdd2 xm20 xm21 xm22 xm23 xm25 "ValueError.__new__"))
    (xc2 : PySem.W.findIn K (.ref C2) "__setattr__" = some (some (.builtin "object.__setattr__"))) (xd2 : PySem.W.findIn K (.ref C2) "__getattribute__" = some (some (.builtin "BaseException.__getattribute__"))) (xe2 : PySem.W.findIn K (.ref C2) "__getattr__" = some none) (xf2 : PySem.W.findIn K (.ref C2) "place" = some none)
    (xg2 : PySem.W.findIn K (.ref C2) "__init__" = some (some (.ref fI2))) (xh2 : PySem.W.typeIn K (.ref fI2) = some (.type "function"))
    (xi2 : K.lookup fI2 = some ⟨xoc2, xod2, .func (fnX "__init__" "BadReceiver.__init__" (xA "place" ⟨17, 17, 17, 21⟩ ⟨17, 23, 17, 28⟩) (xB "place" "the receiver is not as described" (fun n => match n with | 1 => ⟨18, 8, 18, 13⟩ | 2 => ⟨18, 8, 18, 15⟩ | 3 => ⟨18, 8, 18, 24⟩ | 4 => ⟨18, 25, 18, 59⟩ | 5 => ⟨18, 8, 18, 60⟩ | 6 => ⟨18, 8, 18, 60⟩ | 7 => ⟨19, 8, 19, 12⟩ | 8 => ⟨19, 8, 19, 18⟩ | 9 => ⟨19, 21, 19, 26⟩ | 10 => ⟨19, 8, 19, 26⟩ | _ => ⟨0, 0, 0, 0⟩)) (xS "place") [("__class__", cc2)] .none .none xdo2 xpm2 xan2 (.ref cda2) xct2), xos2⟩)
    (xj2 : PySem.W.codeIn K (.ref cda2) "BadReceiver.__init__" = true) (xk2 : K.lookup cc2 = some ⟨xcl2, xcd2, .cell (some (.ref C2)), xcs2⟩) (xl2 : K.lookup cda2 = some ⟨xkl2, xkd2, .fields xvs2, xks2⟩) (xw2 : xvs2[2]? = some (.str fl2 xtf2)) (xx2 : ((PySem.Challenge.pw_beamframes_k09_receivers.main.file : Str) == fl2) = true)
    (xo2 : PySem.W.keepIn K (.ref C2) = true) (xp2 : PySem.W.subIn K (.ref C2) (.type "BaseException") = some true) (xq2 : PySem.W.typeIn K (.ref C2) = some (.type "type")) (xr2 : PySem.W.hasDictIn K C2 = true) (xs2 : PySem.W.isClsIn K C2 = true) (xt2 : PySem.W.subIn K (.ref C2) (.ref C2) = some true)
    (xu2 : PySem.W.subIn K (.ref C2) (.type "ValueError") = some true) (xv2 : PySem.W.mroIn K C2 (.ref C2) = some true) (xy2 : ks_superIn K C2 C2 "__init__" = some (some (.builtin "ValueError.__init__"))) (xz2 : PySem.W.nsIn K cStatics "thirdparty.any" = some none)
    (zsup : PySem.W.nsIn K mainGlobals "super" = some none)
    {RC rfI rp_n rg_n rp_d rg_d rdT : Addr} {rr_n rr_d : List Value} {rdo : Value} {rdd : Option Addr} {rdq : Tok} {rdn : Nat} {rds : Array (Option Value)}
    {ro_n rk_n rc_n rpm_n ru_n rt_n : Value} {rd_n ra_n : Option Addr} {rs_n : Array (Option Value)}
    {ro_d rk_d rc_d rpm_d ru_d rt_d : Value} {rd_d ra_d : Option Addr} {rs_d : Array (Option Value)}
    {ro_i rk_i rc_i rpm_i ru_i rt_i : Value} {rd_i ra_i : Option Addr} {rs_i : Array (Option Value)}
    (rq_a : PySem.W.nsIn K mainGlobals "Ratio" = some (some (.ref RC)))
    (rq_b : PySem.W.plainGet K RC Str.empty = true)
    (rq_c : PySem.W.hasDictIn K RC = true)
    (rq_d : PySem.W.plainOver K RC = true)
    (rq_e : PySem.W.findIn K (.ref RC) "__setattr__" = some (some (.builtin "object.__setattr__")))
    (rq_f : PySem.W.makesIn K RC = true)
    (rq_g : PySem.W.findIn K (.ref RC) "__init__" = some (some (.ref rfI)))
    (rq_h : PySem.W.isFn K (.ref rfI) = true)
    (rq_i : PySem.W.keepIn K (.ref RC) = true)
    (rq_n1 : PySem.W.findIn K (.ref RC) "num" = some (some (.ref rp_n)))
    (rq_n2 : PySem.W.specialIn K (.ref rp_n) "__get__" = some (some (.builtin "property.__get__")))
    (rq_n3 : PySem.W.takesIn K (.ref rp_n) = some true)
    (rq_n4 : PySem.W.recIn K rp_n "property" = some (.ref rg_n :: rr_n))
    (rq_n5 : PySem.W.findIn K (.ref RC) "_num" = some none)
    (rq_n6 : K.lookup rg_n = some ⟨ro_n, rd_n, .func (PySem.W.fnOf "num" "Ratio.num" (defArgs s_rN) (defBody s_rN) (defScope s_rN) .none rk_n rc_n rpm_n ra_n ru_n rt_n), rs_n⟩)
    (rq_n7 : PySem.W.codeIn K ru_n "Ratio.num" = true)
    (rq_d1 : PySem.W.findIn K (.ref RC) "den" = some (some (.ref rp_d)))
    (rq_d2 : PySem.W.specialIn K (.ref rp_d) "__get__" = some (some (.builtin "property.__get__")))
    (rq_d3 : PySem.W.takesIn K (.ref rp_d) = some true)
    (rq_d4 : PySem.W.recIn K rp_d "property" = some (.ref rg_d :: rr_d))
    (rq_d5 : PySem.W.findIn K (.ref RC) "_den" = some none)
    (rq_d6 : K.lookup rg_d = some ⟨ro_d, rd_d, .func (PySem.W.fnOf "den" "Ratio.den" (defArgs s_rD) (defBody s_rD) (defScope s_rD) .none rk_d rc_d rpm_d ra_d ru_d rt_d), rs_d⟩)
    (rq_d7 : PySem.W.codeIn K ru_d "Ratio.den" = true)
    (rq_j : PySem.W.findIn K (.ref RC) "__class__" = some (some (.builtin "object.__class__")))
    (rq_k : PySem.W.specialIn K (.builtin "object.__class__") "__get__" = some (some (.builtin "getset_descriptor.__get__")))
    (rq_l : PySem.W.takesIn K (.builtin "object.__class__") = some true)
    (rq_m : PySem.W.mroIn K RC (.type "object") = some true)
    (rq_noNoneType : PySem.W.kitOne K (.type "NoneType") (.ref RC) = some false)
    (rq_nobool : PySem.W.kitOne K (.type "bool") (.ref RC) = some false)
    (rq_noint : PySem.W.kitOne K (.type "int") (.ref RC) = some false)
    (rq_nostr : PySem.W.kitOne K (.type "str") (.ref RC) = some false)
    (rq_nolist : PySem.W.kitOne K (.type "list") (.ref RC) = some false)
    (rq_notuple : PySem.W.kitOne K (.type "tuple") (.ref RC) = some false)
    (rq_nodict : PySem.W.kitOne K (.type "dict") (.ref RC) = some false)
    (rq_si : PySem.W.kitOne K (.ref RC) (.ref RC) = some true)
    (rq_stbool : PySem.W.kitOne K (.ref RC) (.type "bool") = some false)
    (rq_stint : PySem.W.kitOne K (.ref RC) (.type "int") = some false)
    (rq_ststr : PySem.W.kitOne K (.ref RC) (.type "str") = some false)
    (rq_stlist : PySem.W.kitOne K (.ref RC) (.type "list") = some false)
    (rq_sttuple : PySem.W.kitOne K (.ref RC) (.type "tuple") = some false)
    (rq_fi : K.lookup rfI = some ⟨ro_i, rd_i, .func (PySem.W.fnOf "__init__" "Ratio.__init__" (defArgs s_rI) (defBody s_rI) (defScope s_rI) (.ref rdT) rk_i rc_i rpm_i ra_i ru_i rt_i), rs_i⟩)
    (rq_fc : PySem.W.codeIn K ru_i "Ratio.__init__" = true)
    (rq_fk : PySem.W.keepIn K (.ref rfI) = true)
    (rq_ft : K.lookup rdT = some ⟨rdo, rdd, .seq [.int 1 rdq].toArray rdn, rds⟩)
    (rq_gc : PySem.W.nsIn K mainGlobals "gcd" = some (some (.builtin "math.gcd")))
    : ∃ fd : FuncData, (∀ (s : Shared) (v : Value), BindsTo s fd ⟨[v], []⟩ [("script", v)]) ∧ ∀ base : Heap, K.In base → base.Ns mainGlobals mg → GOk l.prog w K mg base 13 fa fd ["script"] (spLaw K) := by
  have e := hfa.symm.trans (PySem.W.mg_of X G a30)
  obtain rfl : f30 = fa := by cases e; rfl
  have T : Txt K mg ⟨f1, (PySem.W.fnOf "is_whole" "is_whole" (defArgs s_is_whole) (defBody s_is_whole) (defScope s_is_whole) .none kV1 dc1 pm1 an1 cd1 ct1), f2, (PySem.W.fnOf "is_whole_from" "is_whole_from" (defArgs s_is_whole_from) (defBody s_is_whole_from) (defScope s_is_whole_from) .none kV2 dc2 pm2 an2 cd2 ct2), f3, (PySem.W.fnOf "need_table" "need_table" (defArgs s_need_table) (defBody s_need_table) (defScope s_need_table) .none kV3 dc3 pm3 an3 cd3 ct3), f4, (PySem.W.fnOf "is_word" "is_word" (defArgs s_is_word) (defBody s_is_word) (defScope s_is_word) .none kV4 dc4 pm4 an4 cd4 ct4), f5, (PySem.W.fnOf "bits_of" "bits_of" (defArgs s_bits_of) (defBody s_bits_of) (defScope s_bits_of) .none kV5 dc5 pm5 an5 cd5 ct5), f6, (PySem.W.fnOf "begins_with" "begins_with" (defArgs s_begins_with) (defBody s_begins_with) (defScope s_begins_with) .none kV6 dc6 pm6 an6 cd6 ct6), f7, (PySem.W.fnOf "wrong_part_of_pairs" "wrong_part_of_pairs" (defArgs s_wrong_part_of_pairs) (defBody s_wrong_part_of_pairs) (defScope s_wrong_part_of_pairs) .none kV7 dc7 pm7 an7 cd7 ct7), f8, (PySem.W.fnOf "wrong_part_of_halves" "wrong_part_of_halves" (defArgs s_wrong_part_of_halves) (defBody s_wrong_part_of_halves) (defScope s_wrong_part_of_halves) .none kV8 dc8 pm8 an8 cd8 ct8), f9, (PySem.W.fnOf "is_duration" "is_duration" (defArgs s_is_duration) (defBody s_is_duration) (defScope s_is_duration) .none kV9 dc9 pm9 an9 cd9 ct9), f10, (PySem.W.fnOf "are_durations" "are_durations" (defArgs s_are_durations) (defBody s_are_durations) (defScope s_are_durations) .none kV10 dc10 pm10 an10 cd10 ct10), f11, (PySem.W.fnOf "is_pulse_and_gap" "is_pulse_and_gap" (defArgs s_is_pulse_and_gap) (defBody s_is_pulse_and_gap) (defScope s_is_pulse_and_gap) .none kV11 dc11 pm11 an11 cd11 ct11), f12, (PySem.W.fnOf "is_bit_count" "is_bit_count" (defArgs s_is_bit_count) (defBody s_is_bit_count) (defScope s_is_bit_count) .none kV12 dc12 pm12 an12 cd12 ct12), f13, (PySem.W.fnOf "is_below_one" "is_below_one" (defArgs s_is_below_one) (defBody s_is_below_one) (defScope s_is_below_one) .none kV13 dc13 pm13 an13 cd13 ct13), f14, (PySem.W.fnOf "need_receiver" "need_receiver" (defArgs s_need_receiver) (defBody s_need_receiver) (defScope s_need_receiver) .none kV14 dc14 pm14 an14 cd14 ct14), f15, (PySem.W.fnOf "is_sending" "is_sending" (defArgs s_is_sending) (defBody s_is_sending) (defScope s_is_sending) .none kV15 dc15 pm15 an15 cd15 ct15), f16, (PySem.W.fnOf "is_pair" "is_pair" (defArgs s_is_pair) (defBody s_is_pair) (defScope s_is_pair) .none kV16 dc16 pm16 an16 cd16 ct16), f17, (PySem.W.fnOf "is_table_with_tolerance" "is_table_with_tolerance" (defArgs s_is_table_with_tolerance) (defBody s_is_table_with_tolerance) (defScope s_is_table_with_tolerance) .none kV17 dc17 pm17 an17 cd17 ct17), f18, (PySem.W.fnOf "is_table" "is_table" (defArgs s_is_table) (defBody s_is_table) (defScope s_is_table) .none kV18 dc18 pm18 an18 cd18 ct18), f19, (PySem.W.fnOf "_law_begin" "_law_begin" (defArgs s__law_begin) (defBody s__law_begin) (defScope s__law_begin) .none kV19 dc19 pm19 an19 cd19 ct19), f20, (PySem.W.fnOf "_law_next" "_law_next" (defArgs s__law_next) (defBody s__law_next) (defScope s__law_next) .none kV20 dc20 pm20 an20 cd20 ct20), f21, (PySem.W.fnOf "_law_pick" "_law_pick" (defArgs s__law_pick) (defBody s__law_pick) (defScope s__law_pick) .none kV21 dc21 pm21 an21 cd21 ct21), f22, (PySem.W.fnOf "_law_size" "_law_size" (defArgs s__law_size) (defBody s__law_size) (defScope s__law_size) .none kV22 dc22 pm22 an22 cd22 ct22), f23, (PySem.W.fnOf "_law_table" "_law_table" (defArgs s__law_table) (defBody s__law_table) (defScope s__law_table) .none kV23 dc23 pm23 an23 cd23 ct23), f24, (PySem.W.fnOf "_law_like" "_law_like" (defArgs s__law_like) (defBody s__law_like) (defScope s__law_like) .none kV24 dc24 pm24 an24 cd24 ct24), f25, (PySem.W.fnOf "_law_receiver" "_law_receiver" (defArgs s__law_receiver) (defBody s__law_receiver) (defScope s__law_receiver) .none kV25 dc25 pm25 an25 cd25 ct25), f26, (PySem.W.fnOf "_law_words" "_law_words" (defArgs s__law_words) (defBody s__law_words) (defScope s__law_words) .none kV26 dc26 pm26 an26 cd26 ct26), f27, (PySem.W.fnOf "_law_said" "_law_said" (defArgs s__law_said) (defBody s__law_said) (defScope s__law_said) .none kV27 dc27 pm27 an27 cd27 ct27), f28, (PySem.W.fnOf "_law_odd_pair" "_law_odd_pair" (defArgs s__law_odd_pair) (defBody s__law_odd_pair) (defScope s__law_odd_pair) .none kV28 dc28 pm28 an28 cd28 ct28), f29, (PySem.W.fnOf "_law_sendings_right" "_law_sendings_right" (defArgs s__law_sendings_right) (defBody s__law_sendings_right) (defScope s__law_sendings_right) .none kV29 dc29 pm29 an29 cd29 ct29), f30, (PySem.W.fnOf "law" "law" (defArgs s_law) (defBody s_law) (defScope s_law) .none kV30 dc30 pm30 an30 cd30 ct30), C1, fI1, C2, fI2, RC, rfI, (PySem.W.fnOf "__init__" "Ratio.__init__" (defArgs s_rI) (defBody s_rI) (defScope s_rI) (.ref rdT) rk_i rc_i rpm_i ra_i ru_i rt_i), rp_n, rg_n, (PySem.W.fnOf "num" "Ratio.num" (defArgs s_rN) (defBody s_rN) (defScope s_rN) .none rk_n rc_n rpm_n ra_n ru_n rt_n), rp_d, rg_d, (PySem.W.fnOf "den" "Ratio.den" (defArgs s_rD) (defBody s_rD) (defScope s_rD) .none rk_d rc_d rpm_d ra_d ru_d rt_d)⟩ := {
    r_Ratio := { cl := ⟨rq_b, rq_c, rq_d, rq_e⟩, mK := ⟨rq_f, rq_g, rq_h, rq_i⟩, pn := ⟨rq_n1, rq_n2, rq_n3, ⟨_, rq_n4⟩⟩, pd := ⟨rq_d1, rq_d2, rq_d3, ⟨_, rq_d4⟩⟩, an := rq_n5, ad := rq_d5, gC := PySem.W.mg_of X G rq_a, c1 := rq_j, c2 := rq_k, c3 := rq_l, c4 := rq_m, no := (by intro T hT; simp only [List.mem_cons, List.not_mem_nil, or_false] at hT; rcases hT with rfl | rfl | rfl | rfl | rfl | rfl | rfl <;> assumption), si := rq_si, sT := (by intro T hT; simp only [List.mem_cons, List.not_mem_nil, or_false] at hT; rcases hT with rfl | rfl | rfl | rfl | rfl <;> assumption) }
    g_Ratio := { n := fun P w mg base => L2.fn_getter rq_n6 rq_n7 sc_rN rfl rfl ⟨rq_b, rq_c, rq_d, rq_e⟩ rq_n5, d := fun P w mg base => L2.fn_getter rq_d6 rq_d7 sc_rD rfl rfl ⟨rq_b, rq_c, rq_d, rq_e⟩ rq_d5, bn := L2.Binds.all fun us hl => match us, hl with | [_], _ => rfl, bd := L2.Binds.all fun us hl => match us, hl with | [_], _ => rfl }
    g_fi := ⟨⟨_, _, _, _, _, _, _, _, _, _, rfl, rq_fi, rq_fc, .inr ⟨by simp, _, _, [.int 1 rdq], _, rfl, rq_ft, rfl, .cons ⟨_, rfl⟩ .nil⟩, .inl rfl⟩, rq_fk⟩
    m_gcd := PySem.W.mg_of X G rq_gc
    b_BadTable := { T := { cls := ⟨_, _, _, _, _, _, _, _, _, _, _, _, _, _, _, xb1, rfl⟩, sa := xc1, noN := xf1, iC := xg1, tC := xh1, sup := xy1, sub := xu1, self := xv1, st := xz1, fn := ⟨_, _, _, _, _, _, _, _, _, _, _, _, _, _, _, _, _, (fun n => match n with | 1 => ⟨13, 8, 13, 13⟩ | 2 => ⟨13, 8, 13, 15⟩ | 3 => ⟨13, 8, 13, 24⟩ | 4 => ⟨13, 25, 13, 66⟩ | 5 => ⟨13, 8, 13, 67⟩ | 6 => ⟨13, 8, 13, 67⟩ | 7 => ⟨14, 8, 14, 12⟩ | 8 => ⟨14, 8, 14, 17⟩ | 9 => ⟨14, 20, 14, 24⟩ | 10 => ⟨14, 8, 14, 24⟩ | _ => ⟨0, 0, 0, 0⟩), _, _, _, _, _, xi1, xj1, xk1, xl1, xw1, xx1, (fun env => ⟨_, rfl⟩), (fun s a b => .of_eq rfl)⟩ }, gC := PySem.W.mg_of X G xa1, kC := xo1, exC := xp1, tyC := xq1, ga := xd1, gg := xe1, hdC := xr1, te := exm_self xp1 xs1 xq1 xt1, ms := PySem.W.mg_none_of X G zsup, top := by rfl, fn := by decide }
    b_BadReceiver := { T := { cls := ⟨_, _, _, _, _, _, _, _, _, _, _, _, _, _, _, xb2, rfl⟩, sa := xc2, noN := xf2, iC := xg2, tC := xh2, sup := xy2, sub := xu2, self := xv2, st := xz2, fn := ⟨_, _, _, _, _, _, _, _, _, _, _, _, _, _, _, _, _, (fun n => match n with | 1 => ⟨18, 8, 18, 13⟩ | 2 => ⟨18, 8, 18, 15⟩ | 3 => ⟨18, 8, 18, 24⟩ | 4 => ⟨18, 25, 18, 59⟩ | 5 => ⟨18, 8, 18, 60⟩ | 6 => ⟨18, 8, 18, 60⟩ | 7 => ⟨19, 8, 19, 12⟩ | 8 => ⟨19, 8, 19, 18⟩ | 9 => ⟨19, 21, 19, 26⟩ | 10 => ⟨19, 8, 19, 26⟩ | _ => ⟨0, 0, 0, 0⟩), _, _, _, _, _, xi2, xj2, xk2, xl2, xw2, xx2, (fun env => ⟨_, rfl⟩), (fun s a b => .of_eq rfl)⟩ }, gC := PySem.W.mg_of X G xa2, kC := xo2, exC := xp2, tyC := xq2, ga := xd2, gg := xe2, hdC := xr2, te := exm_self xp2 xs2 xq2 xt2, ms := PySem.W.mg_none_of X G zsup, top := by rfl, fn := by decide }
    f_is_whole := ⟨fun_mk (st := s_is_whole) l1 c1 k1, PySem.W.mg_of X G a1, fun s us hl => match us, hl with | [_], _ => .of_eq rfl⟩
    f_is_whole_from := ⟨fun_mk (st := s_is_whole_from) l2 c2 k2, PySem.W.mg_of X G a2, fun s us hl => match us, hl with | [_, _, _], _ => .of_eq rfl⟩
    f_need_table := ⟨fun_mk (st := s_need_table) l3 c3 k3, PySem.W.mg_of X G a3, fun s us hl => match us, hl with | [_], _ => .of_eq rfl⟩
    f_is_word := ⟨fun_mk (st := s_is_word) l4 c4 k4, PySem.W.mg_of X G a4, fun s us hl => match us, hl with | [_, _], _ => .of_eq rfl⟩
    f_bits_of := ⟨fun_mk (st := s_bits_of) l5 c5 k5, PySem.W.mg_of X G a5, fun s us hl => match us, hl with | [_], _ => .of_eq rfl⟩
    f_begins_with := ⟨fun_mk (st := s_begins_with) l6 c6 k6, PySem.W.mg_of X G a6, fun s us hl => match us, hl with | [_, _, _], _ => .of_eq rfl⟩
    f_wrong_part_of_pairs := ⟨fun_mk (st := s_wrong_part_of_pairs) l7 c7 k7, PySem.W.mg_of X G a7, fun s us hl => match us, hl with | [_], _ => .of_eq rfl⟩
    f_wrong_part_of_halves := ⟨fun_mk (st := s_wrong_part_of_halves) l8 c8 k8, PySem.W.mg_of X G a8, fun s us hl => match us, hl with | [_], _ => .of_eq rfl⟩
    f_is_duration := ⟨fun_mk (st := s_is_duration) l9 c9 k9, PySem.W.mg_of X G a9, fun s us hl => match us, hl with | [_], _ => .of_eq rfl⟩
    f_are_durations := ⟨fun_mk (st := s_are_durations) l10 c10 k10, PySem.W.mg_of X G a10, fun s us hl => match us, hl with | [_], _ => .of_eq rfl⟩
    f_is_pulse_and_gap := ⟨fun_mk (st := s_is_pulse_and_gap) l11 c11 k11, PySem.W.mg_of X G a11, fun s us hl => match us, hl with | [_], _ => .of_eq rfl⟩
    f_is_bit_count := ⟨fun_mk (st := s_is_bit_count) l12 c12 k12, PySem.W.mg_of X G a12, fun s us hl => match us, hl with | [_], _ => .of_eq rfl⟩
    f_is_below_one := ⟨fun_mk (st := s_is_below_one) l13 c13 k13, PySem.W.mg_of X G a13, fun s us hl => match us, hl with | [_], _ => .of_eq rfl⟩
    f_need_receiver := ⟨fun_mk (st := s_need_receiver) l14 c14 k14, PySem.W.mg_of X G a14, fun s us hl => match us, hl with | [_], _ => .of_eq rfl⟩
    f_is_sending := ⟨fun_mk (st := s_is_sending) l15 c15 k15, PySem.W.mg_of X G a15, fun s us hl => match us, hl with | [_, _], _ => .of_eq rfl⟩
    f_is_pair := ⟨fun_mk (st := s_is_pair) l16 c16 k16, PySem.W.mg_of X G a16, fun s us hl => match us, hl with | [_], _ => .of_eq rfl⟩
    f_is_table_with_tolerance := ⟨fun_mk (st := s_is_table_with_tolerance) l17 c17 k17, PySem.W.mg_of X G a17, fun s us hl => match us, hl with | [_], _ => .of_eq rfl⟩
    f_is_table := ⟨fun_mk (st := s_is_table) l18 c18 k18, PySem.W.mg_of X G a18, fun s us hl => match us, hl with | [_], _ => .of_eq rfl⟩
    f__law_begin := ⟨fun_mk (st := s__law_begin) l19 c19 k19, PySem.W.mg_of X G a19, fun s us hl => match us, hl with | [_], _ => .of_eq rfl⟩
    f__law_next := ⟨fun_mk (st := s__law_next) l20 c20 k20, PySem.W.mg_of X G a20, fun s us hl => match us, hl with | [_, _], _ => .of_eq rfl⟩
    f__law_pick := ⟨fun_mk (st := s__law_pick) l21 c21 k21, PySem.W.mg_of X G a21, fun s us hl => match us, hl with | [_, _], _ => .of_eq rfl⟩
    f__law_size := ⟨fun_mk (st := s__law_size) l22 c22 k22, PySem.W.mg_of X G a22, fun s us hl => match us, hl with | [_], _ => .of_eq rfl⟩
    f__law_table := ⟨fun_mk (st := s__law_table) l23 c23 k23, PySem.W.mg_of X G a23, fun s us hl => match us, hl with | [_, _], _ => .of_eq rfl⟩
    f__law_like := ⟨fun_mk (st := s__law_like) l24 c24 k24, PySem.W.mg_of X G a24, fun s us hl => match us, hl with | [_, _], _ => .of_eq rfl⟩
    f__law_receiver := ⟨fun_mk (st := s__law_receiver) l25 c25 k25, PySem.W.mg_of X G a25, fun s us hl => match us, hl with | [_, _, _], _ => .of_eq rfl⟩
    f__law_words := ⟨fun_mk (st := s__law_words) l26 c26 k26, PySem.W.mg_of X G a26, fun s us hl => match us, hl with | [_], _ => .of_eq rfl⟩
    f__law_said := ⟨fun_mk (st := s__law_said) l27 c27 k27, PySem.W.mg_of X G a27, fun s us hl => match us, hl with | [_], _ => .of_eq rfl⟩
    f__law_odd_pair := ⟨fun_mk (st := s__law_odd_pair) l28 c28 k28, PySem.W.mg_of X G a28, fun s us hl => match us, hl with | [_, _], _ => .of_eq rfl⟩
    f__law_sendings_right := ⟨fun_mk (st := s__law_sendings_right) l29 c29 k29, PySem.W.mg_of X G a29, fun s us hl => match us, hl with | [_, _], _ => .of_eq rfl⟩
    f_law := ⟨fun_mk (st := s_law) l30 c30 k30, PySem.W.mg_of X G a30, fun s us hl => match us, hl with | [_], _ => .of_eq rfl⟩
    k_is_sending_thing_receiver := fun s ws hl => match ws, hl with | [_, _], _ => .of_eq rfl
    k_need_receiver_thing := fun s ws hl => match ws, hl with | [_], _ => .of_eq rfl
    m_all := PySem.W.mg_none_of X G z1
    m_bool := PySem.W.mg_none_of X G z2
    m_enumerate := PySem.W.mg_none_of X G z3
    m_int := PySem.W.mg_none_of X G z4
    m_isinstance := PySem.W.mg_none_of X G z5
    m_len := PySem.W.mg_none_of X G z6
    m_list := PySem.W.mg_none_of X G z7
    m_range := PySem.W.mg_none_of X G z8
    m_str := PySem.W.mg_none_of X G z9
    m_tuple := PySem.W.mg_none_of X G z10
    c_MOST_BITS := ⟨_, PySem.W.mg_of X G v1, ⟨_, rfl⟩⟩
    c_MOST_DURATION := ⟨_, PySem.W.mg_of X G v2, ⟨_, rfl⟩⟩
    c_MOST_PAIRS := ⟨_, PySem.W.mg_of X G v3, ⟨_, rfl⟩⟩
  }
  refine ⟨(PySem.W.fnOf "law" "law" (defArgs s_law) (defBody s_law) (defScope s_law) .none kV30 dc30 pm30 an30 cd30 ct30), fun s v => .of_eq rfl, fun base _ _ => ?_⟩
  rw [hl]
  exact ok_law T
end Bf
open PySem PySem.W PyProof.Rows
set_option maxHeartbeats 0 in
theorem PySem.Challenge.cw_beamframes_k09_receivers_holds : PySem.Challenge.rw_beamframes_k09_receivers.Holds := by
  w_on; o_law; k_head; (case hw => w_witness2)
  k_fill
  refine Bf.walk_g (l := PySem.Challenge.rw_beamframes_k09_receivers) (n := 63) (k := 13) (x := "script") (sp := Bf.spLaw) rfl (by decide) rfl ⟨rfl, by decide, by decide⟩ (fun w h Y => PySem.W.kIn_of Y) ?F (fun _ _ a ns hl _ hS => ⟨a, ns, rfl, hS, hl, fun _ => rfl⟩)
  case F =>
    intro w mg fa h KX G hmg
    refine' Bf.all_mk KX G hmg rfl ?a1 ?l1 ?c1 ?k1 ?a2 ?l2 ?c2 ?k2 ?a3 ?l3 ?c3 ?k3 ?a4 ?l4 ?c4 ?k4 ?a5 ?l5 ?c5 ?k5 ?a6 ?l6 ?c6 ?k6 ?a7 ?l7 ?c7 ?k7 ?a8 ?l8 ?c8 ?k8 ?a9 ?l9 ?c9 ?k9 ?a10 ?l10 ?c10 ?k10 ?a11 ?l11 ?c11 ?k11 ?a12 ?l12 ?c12 ?k12 ?a13 ?l13 ?c13 ?k13 ?a14 ?l14 ?c14 ?k14 ?a15 ?l15 ?c15 ?k15 ?a16 ?l16 ?c16 ?k16 ?a17 ?l17 ?c17 ?k17 ?a18 ?l18 ?c18 ?k18 ?a19 ?l19 ?c19 ?k19 ?a20 ?l20 ?c20 ?k20 ?a21 ?l21 ?c21 ?k21 ?a22 ?l22 ?c22 ?k22 ?a23 ?l23 ?c23 ?k23 ?a24 ?l24 ?c24 ?k24 ?a25 ?l25 ?c25 ?k25 ?a26 ?l26 ?c26 ?k26 ?a27 ?l27 ?c27 ?k27 ?a28 ?l28 ?c28 ?k28 ?a29 ?l29 ?c29 ?k29 ?a30 ?l30 ?c30 ?k30 ?z1 ?z2 ?z3 ?z4 ?z5 ?z6 ?z7 ?z8 ?z9 ?z10 ?v1 ?v2 ?v3 ?xa1 ?xb1 ?xc1 ?xd1 ?xe1 ?xf1 ?xg1 ?xh1 ?xi1 ?xj1 ?xk1 ?xl1 ?xw1 ?xx1 ?xo1 ?xp1 ?xq1 ?xr1 ?xs1 ?xt1 ?xu1 ?xv1 ?xy1 ?xz1 ?xa2 ?xb2 ?xc2 ?xd2 ?xe2 ?xf2 ?xg2 ?xh2 ?xi2 ?xj2 ?xk2 ?xl2 ?xw2 ?xx2 ?xo2 ?xp2 ?xq2 ?xr2 ?xs2 ?xt2 ?xu2 ?xv2 ?xy2 ?xz2 ?zsup ?rq_a ?rq_b ?rq_c ?rq_d ?rq_e ?rq_f ?rq_g ?rq_h ?rq_i ?rq_n1 ?rq_n2 ?rq_n3 ?rq_n4 ?rq_n5 ?rq_n6 ?rq_n7 ?rq_d1 ?rq_d2 ?rq_d3 ?rq_d4 ?rq_d5 ?rq_d6 ?rq_d7 ?rq_j ?rq_k ?rq_l ?rq_m ?rq_noNoneType ?rq_nobool ?rq_noint ?rq_nostr ?rq_nolist ?rq_notuple ?rq_nodict ?rq_si ?rq_stbool ?rq_stint ?rq_ststr ?rq_stlist ?rq_sttuple ?rq_fi ?rq_fc ?rq_fk ?rq_ft ?rq_gc
    (case a1 => k_is); (case l1 => k_is); (case c1 => k_is); (case k1 => k_is); (case a2 => k_is); (case l2 => k_is)
    (case c2 => k_is); (case k2 => k_is); (case a3 => k_is); (case l3 => k_is); (case c3 => k_is); (case k3 => k_is)
    (case a4 => k_is); (case l4 => k_is); (case c4 => k_is); (case k4 => k_is); (case a5 => k_is); (case l5 => k_is)
    (case c5 => k_is); (case k5 => k_is); (case a6 => k_is); (case l6 => k_is); (case c6 => k_is); (case k6 => k_is)
    (case a7 => k_is); (case l7 => k_is); (case c7 => k_is); (case k7 => k_is); (case a8 => k_is); (case l8 => k_is)
    (case c8 => k_is); (case k8 => k_is); (case a9 => k_is); (case l9 => k_is); (case c9 => k_is); (case k9 => k_is)
    (case a10 => k_is); (case l10 => k_is); (case c10 => k_is); (case k10 => k_is); (case a11 => k_is); (case l11 => k_is)
    (case c11 => k_is); (case k11 => k_is); (case a12 => k_is); (case l12 => k_is); (case c12 => k_is); (case k12 => k_is)
    (case a13 => k_is); (case l13 => k_is); (case c13 => k_is); (case k13 => k_is); (case a14 => k_is); (case l14 => k_is)
    (case c14 => k_is); (case k14 => k_is); (case a15 => k_is); (case l15 => k_is); (case c15 => k_is); (case k15 => k_is)
    (case a16 => k_is); (case l16 => k_is); (case c16 => k_is); (case k16 => k_is); (case a17 => k_is); (case l17 => k_is)
    (case c17 => k_is); (case k17 => k_is); (case a18 => k_is); (case l18 => k_is); (case c18 => k_is); (case k18 => k_is)
    (case a19 => k_is); (case l19 => k_is); (case c19 => k_is); (case k19 => k_is); (case a20 => k_is); (case l20 => k_is)
    (case c20 => k_is); (case k20 => k_is); (case a21 => k_is); (case l21 => k_is); (case c21 => k_is); (case k21 => k_is)
    (case a22 => k_is); (case l22 => k_is); (case c22 => k_is); (case k22 => k_is); (case a23 => k_is); (case l23 => k_is)
    (case c23 => k_is); (case k23 => k_is); (case a24 => k_is); (case l24 => k_is); (case c24 => k_is); (case k24 => k_is)
    (case a25 => k_is); (case l25 => k_is); (case c25 => k_is); (case k25 => k_is); (case a26 => k_is); (case l26 => k_is)
    (case c26 => k_is); (case k26 => k_is); (case a27 => k_is); (case l27 => k_is); (case c27 => k_is); (case k27 => k_is)
    (case a28 => k_is); (case l28 => k_is); (case c28 => k_is); (case k28 => k_is); (case a29 => k_is); (case l29 => k_is)
    (case c29 => k_is); (case k29 => k_is); (case a30 => k_is); (case l30 => k_is); (case c30 => k_is); (case k30 => k_is)
    (case z1 => k_is); (case z2 => k_is); (case z3 => k_is); (case z4 => k_is); (case z5 => k_is); (case z6 => k_is)
    (case z7 => k_is); (case z8 => k_is); (case z9 => k_is); (case z10 => k_is); (case v1 => k_is); (case v2 => k_is)
    (case v3 => k_is); (case xa1 => first | k_is | rfl | decide +kernel); (case xb1 => first | k_is | rfl | decide +kernel); (case xc1 => first | k_is | rfl | decide +kernel); (case xd1 => first | k_is | rfl | decide +kernel); (case xe1 => first | k_is | rfl | decide +kernel)
    (case xf1 => first | k_is | rfl | decide +kernel); (case xg1 => first | k_is | rfl | decide +kernel); (case xh1 => first | k_is | rfl | decide +kernel); (case xi1 => first | k_is | rfl | decide +kernel); (case xj1 => first | k_is | rfl | decide +kernel); (case xk1 => first | k_is | rfl | decide +kernel)
    (case xl1 => first | k_is | rfl | decide +kernel); (case xw1 => first | k_is | rfl | decide +kernel); (case xx1 => first | k_is | rfl | decide +kernel); (case xo1 => first | k_is | rfl | decide +kernel); (case xp1 => first | k_is | rfl | decide +kernel); (case xq1 => first | k_is | rfl | decide +kernel)
    (case xr1 => first | k_is | rfl | decide +kernel); (case xs1 => first | k_is | rfl | decide +kernel); (case xt1 => first | k_is | rfl | decide +kernel); (case xu1 => first | k_is | rfl | decide +kernel); (case xv1 => first | k_is | rfl | decide +kernel); (case xy1 => first | k_is | rfl | decide +kernel)
    (case xz1 => first | k_is | rfl | decide +kernel); (case xa2 => first | k_is | rfl | decide +kernel); (case xb2 => first | k_is | rfl | decide +kernel); (case xc2 => first | k_is | rfl | decide +kernel); (case xd2 => first | k_is | rfl | decide +kernel); (case xe2 => first | k_is | rfl | decide +kernel)
    (case xf2 => first | k_is | rfl | decide +kernel); (case xg2 => first | k_is | rfl | decide +kernel); (case xh2 => first | k_is | rfl | decide +kernel); (case xi2 => first | k_is | rfl | decide +kernel); (case xj2 => first | k_is | rfl | decide +kernel); (case xk2 => first | k_is | rfl | decide +kernel)
    (case xl2 => first | k_is | rfl | decide +kernel); (case xw2 => first | k_is | rfl | decide +kernel); (case xx2 => first | k_is | rfl | decide +kernel); (case xo2 => first | k_is | rfl | decide +kernel); (case xp2 => first | k_is | rfl | decide +kernel); (case xq2 => first | k_is | rfl | decide +kernel)
    (case xr2 => first | k_is | rfl | decide +kernel); (case xs2 => first | k_is | rfl | decide +kernel); (case xt2 => first | k_is | rfl | decide +kernel); (case xu2 => first | k_is | rfl | decide +kernel); (case xv2 => first | k_is | rfl | decide +kernel); (case xy2 => first | k_is | rfl | decide +kernel)
    (case xz2 => first | k_is | rfl | decide +kernel); (case zsup => k_is); (case rq_a => first | k_is | rfl | decide +kernel); (case rq_b => first | k_is | rfl | decide +kernel); (case rq_c => first | k_is | rfl | decide +kernel); (case rq_d => first | k_is | rfl | decide +kernel)
    (case rq_e => first | k_is | rfl | decide +kernel); (case rq_f => first | k_is | rfl | decide +kernel); (case rq_g => first | k_is | rfl | decide +kernel); (case rq_h => first | k_is | rfl | decide +kernel); (case rq_i => first | k_is | rfl | decide +kernel); (case rq_n1 => first | k_is | rfl | decide +kernel)
    (case rq_n2 => first | k_is | rfl | decide +kernel); (case rq_n3 => first | k_is | rfl | decide +kernel); (case rq_n4 => first | k_is | rfl | decide +kernel); (case rq_n5 => first | k_is | rfl | decide +kernel); (case rq_n6 => first | k_is | rfl | decide +kernel); (case rq_n7 => first | k_is | rfl | decide +kernel)
    (case rq_d1 => first | k_is | rfl | decide +kernel); (case rq_d2 => first | k_is | rfl | decide +kernel); (case rq_d3 => first | k_is | rfl | decide +kernel); (case rq_d4 => first | k_is | rfl | decide +kernel); (case rq_d5 => first | k_is | rfl | decide +kernel); (case rq_d6 => first | k_is | rfl | decide +kernel)
    (case rq_d7 => first | k_is | rfl | decide +kernel); (case rq_j => first | k_is | rfl | decide +kernel); (case rq_k => first | k_is | rfl | decide +kernel); (case rq_l => first | k_is | rfl | decide +kernel); (case rq_m => first | k_is | rfl | decide +kernel); (case rq_noNoneType => first | k_is | rfl | decide +kernel)
    (case rq_nobool => first | k_is | rfl | decide +kernel); (case rq_noint => first | k_is | rfl | decide +kernel); (case rq_nostr => first | k_is | rfl | decide +kernel); (case rq_nolist => first | k_is | rfl | decide +kernel); (case rq_notuple => first | k_is | rfl | decide +kernel); (case rq_nodict => first | k_is | rfl | decide +kernel)
    (case rq_si => first | k_is | rfl | decide +kernel); (case rq_stbool => first | k_is | rfl | decide +kernel); (case rq_stint => first | k_is | rfl | decide +kernel); (case rq_ststr => first | k_is | rfl | decide +kernel); (case rq_stlist => first | k_is | rfl | decide +kernel); (case rq_sttuple => first | k_is | rfl | decide +kernel)
    (case rq_fi => first | k_is | rfl | decide +kernel); (case rq_fc => first | k_is | rfl | decide +kernel); (case rq_fk => first | k_is | rfl | decide +kernel); (case rq_ft => first | k_is | rfl | decide +kernel); (case rq_gc => first | k_is | rfl | decide +kernel)
