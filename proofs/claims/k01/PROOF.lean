import PyProof.Rows.All
import Wide.All
import OpenK.AllK
import Wide.FinOn
import KE.KExcSuper
import HandS.Exc
import HandS.ForSpec
import KE.KExcInit
import HandS.ForMost
import HandS.ForExc
import HandS.Star
import HandS.IsInst
import HandS.TupAny
import HandS.Style
import KE.KDictKeyed
import KE.KDictLaw
import HandS.Wide
import HandS.RaiseMore
import HandS.Lambda
import HandS.Zip
import HandS.TupMul
import HandS.TryMany
import KE.KExcIs
import PyProof.NeKinds
import HandS.Property
import HandS.Gcd
import HandS.Defaults
import HandS.Walk
import HandS.Iter
import PyProof.Draws
import HandS.TryOnly
import HandS.OwnEq
import HandS.TupLen
import KE.KDictPairs
import KE.KRevSl
import PyProof.P3In
import HandS.EndTab
import PySem.Challenge.RW_beamframes_k01_errors_made
set_option Elab.async false
set_option linter.all false
set_option maxRecDepth 100000
set_option maxHeartbeats 4000000
namespace Bf
open PySem PySem.Spec PySem.W PySem.Calls PyProof.Rows PySem.HandSPX
/-! ## Own errors: super().__init__('..'); self.f = v -/
def xA (f : Str) (p1 p2 : Pos) : Arguments := { posonlyargs := [], args := [{ arg := "self", annotation := none, pos := p1 }, { arg := f, annotation := none, pos := p2 }], vararg := none, kwonlyargs := [], kw_defaults := [], kwarg := none, defaults := [] }
def xB (f t : Str) (q : Nat → Pos) : List Stmt := [.Expr (.Call (.Attribute (.Call (.Name "super" (q 1)) [] [] (q 2)) "__init__" (q 3)) [.Constant (.str t) 0 (q 4)] [] (q 5)) (q 6), .Assign [.Attribute (.Name "self" (q 7)) f (q 8)] (.Name f (q 9)) (q 10)]
def xS (f : Str) : Scope := { kind := .function, names := [("self", .local), (f, .local), ("__class__", .free), ("super", .globalImplicit)], isGenerator := false, isCoroutine := false, more := [] }
/-- where the call stands in the file plays no part -/
def xCall (t : Str) (q : Nat → Pos) : Prop := ∀ env : Env, ∃ pl : Sem Bool, eval (.Call (.Attribute (.Call (.Name "super" (q 1)) [] [] (q 2)) "__init__" (q 3)) [.Constant (.str t) 0 (q 4)] [] (q 5)) env = (do
  let ov ← attributeBase (.Call (.Name "super" (q 1)) [] [] (q 2)) "__init__" env (eval (.Call (.Name "super" (q 1)) [] [] (q 2)) env)
  standAt (q 3).atName
  let (f, first) ← holding [ov] (getMethod ov "__init__" pl)
  callWith (q 5) f first (backTo (q 5) (starEach [.Constant (.str t) 0 (q 4)] env)) [])
structure BadTxt (prog : Program) (K : Frag) (f : Str) (C fI : Addr) : Prop where
  cls : ∃ nm q N bs bm sn sub ab col dd k0 k1 k2 k3 k5, K.lookup C = some (excClassObj nm q C N bs bm true sn sub ab col dd k0 k1 k2 k3 k5 "ValueError.__new__") ∧ refsVE bm = true
  sa : findIn K (.ref C) "__setattr__" = some (some (.builtin "object.__setattr__"))
  noN : findIn K (.ref C) f = some none
  iC : findIn K (.ref C) "__init__" = some (some (.ref fI))
  tC : typeIn K (.ref fI) = some (.type "function")
  sup : ks_superIn K C C "__init__" = some (some (.builtin "ValueError.__init__"))
  sub : subIn K (.ref C) (.type "ValueError") = some true
  self : mroIn K C (.ref C) = some true
  st : nsIn K cStatics "thirdparty.any" = some none
  fn : ∃ (oc ccl cl : Value) (od cdd cld : Option Addr) (doc pm ct : Value) (an : Option Addr) (osl ccs csl : Array (Option Value)) (qual t : Str) (p1 p2 : Pos) (q : Nat → Pos) (cc cda : Addr) (vs : Array Value) (file : Str) (tf : Tok),
    K.lookup fI = some ⟨oc, od, .func (fnX "__init__" qual (xA f p1 p2) (xB f t q) (xS f) [("__class__", cc)] .none .none doc pm an (.ref cda) ct), osl⟩ ∧ codeIn K (.ref cda) qual = true ∧ K.lookup cc = some ⟨cl, cld, .cell (some (.ref C)), csl⟩ ∧
    K.lookup cda = some ⟨ccl, cdd, .fields vs, ccs⟩ ∧ vs[2]? = some (.str file tf) ∧ ((prog.main.file : Str) == file) = true ∧ xCall t q ∧
    ∀ (s : Shared) (a b : Value), BindsTo s (fnX "__init__" qual (xA f p1 p2) (xB f t q) (xS f) [("__class__", cc)] .none .none doc pm an (.ref cda) ct) ⟨[a, b], []⟩ [(("self" : Str), a), (f, b)]
structure BadEnd (h h' : Heap) (f : Str) (x C dx t1 : Addr) (v : Value) : Prop where
  keep : ∀ b o, b ≠ x → h.get? b = some o → h'.get? b = some o
  obj : h'.get? x = some { cls := .ref C, dict := some dx, data := .fields #[.ref t1, .none, .none, .none, .bool false, .none] }
  dbig : h.objs.size ≤ dx
  dne : dx ≠ x
  ns : h'.Ns1 dx (fun y => if y = f then some v else none)
section
variable {prog : Program} {w : World} {A : Around} {E : Value → Shared → Prop} {R : Result → Shared → Prop} {s : Shared} {K : Frag} {mg mb : Str → Option Value} {C fI : Addr} {f : Str}
end
end Bf
namespace Bf
open PySem PySem.Spec PySem.W PySem.Calls PyProof.Rows PySem.HandSPX
/-- a made error: new, its dict holds its field -/
structure BadMade (h h' : Heap) (f : Str) (e C d : Addr) (v : Value) : Prop where
  keep : ∀ b o, h.get? b = some o → h'.get? b = some o
  new : h.objs.size ≤ e
  obj : ∃ t1 : Addr, h'.get? e = some { cls := .ref C, dict := some d, data := .fields #[.ref t1, .none, .none, .none, .bool false, .none] }
  dbig : h.objs.size ≤ d
  dne : d ≠ e
  ns : h'.Ns1 d (fun y => if y = f then some v else none)
section
variable {prog : Program} {w : World} {A : Around} {R : Result → Shared → Prop} {s : Shared} {K : Frag} {mg mb : Str → Option Value} {C fI : Addr} {f : Str}
end
end Bf
namespace Bf
open PySem PySem.Spec PySem.W PySem.Calls PyProof.Rows PySem.HandSPX Builtin Builtin.ObjectAttr
/-! ## Own errors over any base, made by place or by keyword -/
/-- own classes, then RuntimeError's order -/
abbrev reTail : List Value := [.type "RuntimeError", .type "Exception", .type "BaseException", .type "object"]
def refsRE (l : List Value) : Bool := match l with
  | .ref _ :: t => refsRE t
  | t => t == reTail
theorem refsRE_or (l : List Value) (h : refsRE l = true) : (∃ a t, l = .ref a :: t ∧ refsRE t = true) ∨ l = reTail := by
  cases l with
  | nil => exact .inr (beq_iff_eq.mp h)
  | cons x t =>
    cases x with
    | ref a => exact .inl ⟨a, t, rfl, h⟩
    | _ => exact .inr (beq_iff_eq.mp h)
theorem refsRE_pass (me : Value) : ∀ l : List Value, refsRE l = true → refuseLoop me "__setattr__" l = pure ()
  | [], h => absurd h (by decide)
  | x :: t, h => by
    rcases refsRE_or (x :: t) h with ⟨a, t', e, h'⟩ | e
    · cases e
      rw [refuseLoop_ref]
      exact refsRE_pass me t h'
    · rw [e]
      exact PySem.F.store_RuntimeError.passes me
theorem refsRE_has (X : String) : ∀ l : List Value, refsRE l = true → l.contains (.type X) = reTail.contains (.type X)
  | [], h => absurd h (by decide)
  | x :: t, h => by
    rcases refsRE_or (x :: t) h with ⟨a, t', e, h'⟩ | e
    · cases e
      rw [List.contains_cons, refsRE_has X t h']
      rfl
    · rw [e]
/-- a built-in base of own errors -/
structure BaseOf (B newId initId : String) (bmB : List Value) (rf : List Value → Bool) : Prop where
  F : ExcBaseFacts B newId initId bmB
  X : KxsFacts B initId
  con : ∀ (Y : String) (l : List Value), rf l = true → l.contains (.type Y) = bmB.contains (.type Y)
  ne : ∀ l : List Value, rf l = true → l.isEmpty = false
  pass : ∀ (me : Value) (l : List Value), rf l = true → refuseLoop me "__setattr__" l = pure ()
  ref : ∀ (c : Addr) (l : List Value), rf (.ref c :: l) = rf l
  obj : bmB.contains (.type "object") = true
theorem baseVE : BaseOf "ValueError" "ValueError.__new__" "ValueError.__init__" veTail refsVE := ⟨PySem.F.excBase_ValueError, kxs_ValueError, fun Y l h => refsVE_contains Y l h, fun l h => refsVE_ne h, fun me l h => refsVE_pass me l h, fun _ _ => rfl, by decide +kernel⟩
theorem baseRE : BaseOf "RuntimeError" "RuntimeError.__new__" "RuntimeError.__init__" reTail refsRE := ⟨PySem.F.excBase_RuntimeError, kxs_RuntimeError, refsRE_has, fun l h => by cases l with | nil => exact absurd h (by decide) | cons _ _ => rfl, refsRE_pass, fun _ _ => rfl, by decide +kernel⟩
/-- the arguments: by place, or the last by its name -/
def errArgs (kw : Bool) (f : Str) (l : List Value) (v : Value) : Args := if kw then ⟨l, [(f, v)]⟩ else ⟨l ++ [v], []⟩
theorem errBind {fd : FuncData} {f : Str} {kw : Bool} {s : Shared} {a b : Value} (h : ∀ (s : Shared) (a b : Value), BindsTo s fd ⟨[a, b], []⟩ [(("self" : Str), a), (f, b)] ∧ BindsTo s fd ⟨[a], [(f, b)]⟩ [(("self" : Str), a), (f, b)]) : BindsTo s fd (errArgs kw f [a] b) [(("self" : Str), a), (f, b)] := by
  cases kw
  · exact (h s a b).1
  · exact (h s a b).2
structure ErrTxt (B newId initId : String) (rf : List Value → Bool) (prog : Program) (K : Frag) (f : Str) (C fI : Addr) : Prop where
  cls : ∃ nm q N bs bm sn sub ab col dd k0 k1 k2 k3 k5, K.lookup C = some (excClassObj nm q C N bs bm true sn sub ab col dd k0 k1 k2 k3 k5 newId) ∧ rf bm = true
  sa : findIn K (.ref C) "__setattr__" = some (some (.builtin "object.__setattr__"))
  noN : findIn K (.ref C) f = some none
  iC : findIn K (.ref C) "__init__" = some (some (.ref fI))
  tC : typeIn K (.ref fI) = some (.type "function")
  sup : ks_superIn K C C "__init__" = some (some (.builtin initId))
  sub : subIn K (.ref C) (.type B) = some true
  self : mroIn K C (.ref C) = some true
  st : nsIn K cStatics "thirdparty.any" = some none
  fn : ∃ (oc ccl cl : Value) (od cdd cld : Option Addr) (doc pm ct : Value) (an : Option Addr) (osl ccs csl : Array (Option Value)) (qual t : Str) (p1 p2 : Pos) (q : Nat → Pos) (cc cda : Addr) (vs : Array Value) (file : Str) (tf : Tok),
    K.lookup fI = some ⟨oc, od, .func (fnX "__init__" qual (xA f p1 p2) (xB f t q) (xS f) [("__class__", cc)] .none .none doc pm an (.ref cda) ct), osl⟩ ∧ codeIn K (.ref cda) qual = true ∧ K.lookup cc = some ⟨cl, cld, .cell (some (.ref C)), csl⟩ ∧
    K.lookup cda = some ⟨ccl, cdd, .fields vs, ccs⟩ ∧ vs[2]? = some (.str file tf) ∧ ((prog.main.file : Str) == file) = true ∧ xCall t q ∧
    ∀ (s : Shared) (a b : Value), (BindsTo s (fnX "__init__" qual (xA f p1 p2) (xB f t q) (xS f) [("__class__", cc)] .none .none doc pm an (.ref cda) ct) ⟨[a, b], []⟩ [(("self" : Str), a), (f, b)] ∧ BindsTo s (fnX "__init__" qual (xA f p1 p2) (xB f t q) (xS f) [("__class__", cc)] .none .none doc pm an (.ref cda) ct) ⟨[a], [(f, b)]⟩ [(("self" : Str), a), (f, b)])
section
variable {B newId initId : String} {bmB : List Value} {rf : List Value → Bool} {prog : Program} {w : World} {A : Around} {R : Result → Shared → Prop} {h0 : Heap} {gn : Array GenState} {dw : Drawn} {tk0 : Nat} {o0 : OsState}
/-- self.f = v on an error that has no dict yet -/
theorem err_osa (O : BaseOf B newId initId bmB rf) {K : Frag} {f : Str} {tf : Tok} {v : Value} {x C : Addr} {fv : Array Value} {cd : ClassData} (KX : K.In h0) (hx : h0.get? x = some { cls := .ref C, data := .fields fv }) (hcd : clsIn K C = some cd) (hm : rf cd.mro = true) (hdi : cd.hasDict = true)
    (ha : findIn K (.ref C) f = some none) (next : ∀ h' tk' dx, (∀ b o, b ≠ x → h0.get? b = some o → h'.get? b = some o) → h0.objs.size ≤ dx → dx ≠ x → h'.get? x = some { cls := .ref C, dict := some dx, data := .fields fv } → h'.Ns1 dx (fun y => if y = f then some v else none) → R (.ok (.ret .none)) ⟨h', gn, dw, tk', o0⟩) :
    codeAny (model prog w) A (.call (.builtin "object.__setattr__") ⟨[.ref x, .str f tf, v], []⟩) R ⟨h0, gn, dw, tk0, o0⟩ := by
  have IA : InstAt h0 x { cls := .ref C, data := .fields fv } C none := ⟨hx, rfl, rfl, trivial⟩
  have S0 := PySem.F.store_object
  have e0 := O.ne _ hm
  have ob : cd.mro.contains (.type "object") = true := (O.con "object" _ hm).trans O.obj
  have xn : x ≠ h0.objs.size := Nat.ne_of_lt (Heap.lt_size hx)
  have sb : Looks (model prog w) h0 (isInstance (.ref x) (.type "object")) true := IA.type.andThen (looks_mroIn KX (by unfold mroIn; rw [hcd, Option.bind_some, if_neg (by rw [e0]; decide), ob]))
  refine codeAny_call_builtin S0.slot.plain S0.entry (@check_slot (model prog w) _ _ ⟨h0, gn, dw, tk0, o0⟩ "object.__setattr__" "object" "__setattr__" (.ref x) [.str f tf, v] [] _ S0.kind S0.split sb (S0.args (.ref x) (.str f tf) v) ?_)
  have mr : Looks (model prog w) h0 (mroOf (.ref C)) cd.mro := (looks_clsIn KX hcd).andThen .now
  have l3 : Looks (model prog w) h0 (storeTaker? none) none := .now
  have lc : Looks (model prog w) h0 (classData C) cd := looks_clsIn KX hcd
  rw [osa_eq, refuse_eq] <;> refine wpAny_bind (wpAny_bind (IA.type.at (wpAny_bind (mr.at ?_))))
  rw [O.pass _ _ hm] <;> refine wpAny_pure (wpAny_bind (IA.type.at (wpAny_bind ((looks_findIn KX ha).at (wpAny_bind (l3.at ?_))))))
  show wpAny _ _ (storeInOwnDict (.ref x) (.ref C) (.str f tf) f v false) _ _ _
  obtain ⟨q1, q2, q3, q4, q5, q6, q7, q8, q9, q10, q11⟩ := cd
  dsimp only at hdi
  subst hdi
  unfold storeInOwnDict ownDictForStores
  repeat (first | with_reducible refine store_in_new ?_ ?_ | with_reducible refine wpAny_loadPart_at hx ?_ | with_reducible refine lc.at ?_ | wp_step)
  · exact ⟨_, #[], _, (Heap.get?_update_ne _ _ _ _ xn.symm).trans (Heap.get?_push_at rfl rfl), rfl, (fun _ z => absurd z (by simp)), fun _ => rfl⟩
  · intro h' tk' hn' same
    have hx1 : (h0.push { cls := .type "dict", data := .dict #[] }).get? x = some { cls := .ref C, data := .fields fv } := Heap.get?_push_of_some _ hx
    refine next h' tk' h0.objs.size (fun b o hb z => (same.2 b (Nat.ne_of_lt (Heap.lt_size z))).trans ((Heap.get?_update_ne _ _ _ _ hb).trans (Heap.get?_push_of_some _ z))) (Nat.le_refl _) xn.symm ((same.2 x xn).trans (Heap.get?_update_self _ hx1 rfl)) hn'
end
section
variable {B newId initId : String} {bmB : List Value} {rf : List Value → Bool} {prog : Program} {w : World} {A : Around} {E : Value → Shared → Prop} {R : Result → Shared → Prop} {s : Shared} {K : Frag} {mg mb : Str → Option Value} {C fI : Addr} {f : Str}
theorem err_init (O : BaseOf B newId initId bmB rf) (T : ErrTxt B newId initId rf prog K f C fI) (kw : Bool) {x t0 : Addr} {v : Value} (X : K.In s.heap) (hlim : s.heap.NoLimit) (hg : s.heap.Ns mainGlobals mg) (hb : s.heap.Ns builtinsNs mb) (hms : mg "super" = none) (hbs : mb "super" = some (.type "super"))
    (htop : (prog.main.scope.names.lookup ("super" : Str)).isSome = false) (hfn : f ≠ "self" ∧ f ≠ "super" ∧ f ≠ "__class__" ∧ f ≠ "__debug__") (hx : s.heap.get? x = some (excO C t0)) (hnx : K.lookup x = none) (hroom : A.depth < recursionLimit)
    (hq : ∀ h' tk dx t1, BadEnd s.heap h' f x C dx t1 v → R (.ok (.ret .none)) { s with heap := h', toks := tk }) :
    codeAny (model prog w) A (.call (.ref fI) (errArgs kw f [.ref x] v)) R s := by
  obtain ⟨oc, ccl, cl, od, cdd, cld, doc, pm, ct, an, osl, ccs, csl, qual, t, p1, p2, q, cc, cda, vs, file, tf, ho, hcd, hcell, hcode, hvs, hfile, hcall, hbind⟩ := T.fn
  obtain ⟨nm, qn, N, bs, bm, sn, sub, ab, col, dd, k0, k1, k2, k3, k5, hC, hbm⟩ := T.cls
  have hcl : clsIn K C = some { name := nm, bases := bs, mro := .ref C :: bm, ns := N, qualname := qn, hasDict := true, slotNames := sn, subclasses := sub, abstract := ab, collection := col, hasDel := false } := by unfold clsIn; rw [hC] <;> rfl
  obtain ⟨n1, n2, n3, n4⟩ := hfn
  have l1 : (xS f).names.lookup ("self" : Str) = some .local := by simp [xS, List.lookup]
  have l2 : (xS f).names.lookup f = some .local := by
    have : (f == ("self" : Str)) = false := by simpa using n1
    simp [xS, List.lookup, this]
  have l3 : (xS f).names.lookup ("__class__" : Str) = some .free := by
    have e1 : (("__class__" : Str) == f) = false := by simpa using n3.symm
    have e2 : (("__class__" : Str) == "self") = false := by decide
    simp [xS, List.lookup, e1, e2]
  have l4 : (xS f).names.lookup ("super" : Str) = some .globalImplicit := by
    have e1 : (("super" : Str) == f) = false := by simpa using n2.symm
    have e2 : (("super" : Str) == "self") = false := by decide
    have e3 : (("super" : Str) == "__class__") = false := by decide
    simp [xS, List.lookup, e1, e2, e3]
  refine ks_codeAny_call_defAt (fd := fnX "__init__" qual (xA f p1 p2) (xB f t q) (xS f) [("__class__", cc)] .none .none doc pm an (.ref cda) ct) (body := xB f t q) (binds := [(("self" : Str), .ref x), (f, v)]) hroom (X _ _ ho) rfl hlim (codeRec_of X hcd) rfl (errBind hbind) (by simp [xS]) (by simp [l1, l2]) (fun h₁ hns k => ?_) rfl rfl rfl
  have X₁ : K.In h₁ := X.keeps k
  have hx₁ := k _ _ hx
  have hC₁ := X₁ _ _ hC
  have m1 : (fun y => List.lookup y [(("self" : Str), Value.ref x), (f, v)].reverse) "self" = some (.ref x) := by
    have : (("self" : Str) == f) = false := by simpa using n1.symm
    simp [List.lookup, this]
  have m2 : (fun y => List.lookup y [(("self" : Str), Value.ref x), (f, v)].reverse) f = some v := by simp [List.lookup]
  have hxL : s.heap.objs.size ≠ x := Nat.ne_of_gt (Heap.lt_size hx)
  -- super()
  obtain ⟨pl, he⟩ := hcall (callEnv (fnX "__init__" qual (xA f p1 p2) (xB f t q) (xS f) [("__class__", cc)] .none .none doc pm an (.ref cda) ct) s.heap.objs.size fI)
  refine ks_wpAt_execs_cons (ks_wpAt_Expr_any (ks_wpAt_MethodCall ?_ he))
  refine ks_wpAt_super_base (f := fI) (cc := cda) (ar := { arg := "self", annotation := none, pos := p1 }) l4 l3 (by decide) rfl (X₁ _ _ ho) rfl rfl rfl (X₁ _ _ hcode) rfl hvs hfile htop ?_
  refine ks_loadName_global rfl l4 (loadGlobal_builtin (hg.keeps k) hms (hb.keeps k) hbs ⟨rfl, ?_⟩)
  refine wpAny_loadName_free rfl l3 rfl ⟨_, X₁ _ _ hcell, rfl⟩ ?_
  refine wpAny_loadName_local rfl l1 hns m1 ?_
  refine ks_wpAny_isType_cls hC₁ rfl ⟨rfl, ?_⟩
  refine ks_wpAny_call_super hC₁ rfl hx₁ rfl (fun c e => nomatch e) (looks_mroIn X₁ T.self) (fun h₂ e k2 => ?_)
  have X₂ : K.In h₂ := X₁.keeps k2
  -- .__init__
  have hne : x ≠ C := fun z => by rw [z, hC] at hnx; cases hnx
  have hsup : alongIn K "__init__" (((Value.ref C :: bm).dropWhile (· != .ref C)).drop 1) = some (some (.builtin initId)) := by
    have := T.sup
    unfold ks_superIn at this
    rw [hcl] at this
    exact this
  have I2 : InstAt h₂ x (excO C t0) C none := ⟨k2 _ _ hx₁, rfl, rfl, trivial⟩
  refine kxs_getMethod O.X e (looks_opaque X₂ T.st) (l₀ := Value.ref C :: bm) (fun A Q E s k q => wpAny_bind ((looks_clsIn X₂ hcl) A _ E s k (wpAny_pure q))) rfl X₂ hsup (I2.type.andThen (looks_subIn X₂ T.sub)) hne (by decide) ?_
  have k3 : ∀ b o, h₂.get? b = some o → (h₂.push (kxs_mw initId x)).get? b = some o := fun b o e => Heap.get?_push_of_some _ e
  have hu : (h₂.push (kxs_mw initId x)).get? h₂.objs.size = some (kxs_mw initId x) := Heap.get?_push_at rfl rfl
  refine kxs_callWith (i := initId) (x := x) rfl ?_
  refine evalArgs_plain ?_
  refine spliced_more (Calls.Constant_str (spliced_none ⟨hu, ?_⟩)) rfl
  have hx₃ : (h₂.push (kxs_mw initId x)).get? x = some (excObj C t0 none .none) := k3 _ _ (k2 _ _ hx₁)
  have hC₃ := X₂.keeps k3 _ _ hC
  refine wpAny_call (codeAny_of_tree ?_)
  show wpAny _ _ (callAny (.ref h₂.objs.size) ⟨[.str t _], []⟩) _ _ _
  simp only [callAny]
  refine wpAny_bind (wpAny_load hu ?_)
  simp only [kxs_mw, show (Value.type "method-wrapper" == Value.type "method" || Value.type "method-wrapper" == Value.type "builtin_function_or_method" || Value.type "method-wrapper" == Value.type "method-wrapper") = true by decide, if_true]
  refine KFB.if_so (by decide) ?_
  refine wpAny_bind (check_bound_init O.F.toExcCallFacts hC₃ hx₃ rfl ?_)
  refine wpAny_bind (wpAny_pure (wpAny_pure ?_))
  refine ⟨plainId_quiet O.F.init.plain _, codeAny_builtin O.F.initEntry ?_⟩
  refine exc_init_tree (cls := .ref C) (t0 := t0) (dv := none) (c2 := .none) (c3 := .none) (b4 := .bool false) hx₃ (by rw [sizeLine_eq]; show 1 ≤ 16777216; decide) fun h₄ k4 e4 t4 => ?_
  have up : ∀ b o, b ≠ x → h₁.get? b = some o → h₄.get? b = some o := fun b o hb e => k4 _ _ hb (k3 _ _ (k2 _ _ e))
  have X₄ : K.In h₄ := fun a o e => up a o (fun z => by rw [z, hnx] at e; cases e) (X₁ a o e)
  have hns₄ := hns.at (h' := h₄) fun o e => up _ _ hxL e
  -- self.f = v
  show _root_.PySem.wpAt _ _ _ (execs _ _) _ _ _
  refine ks_wpAt_execs_cons (ks_wpAt_Assign_Attr (wpAt_of_wpAny ?_))
  refine wpAny_Name (wpAny_loadName_local rfl l2 hns₄ m2 ?_) (by simpa using n4)
  refine wpAny_Name (wpAny_loadName_local rfl l1 hns₄ m1 ?_) (by decide)
  refine set_plain X₄ (ox := excO C (h₂.push (kxs_mw initId x)).objs.size) (od := none) ⟨e4, rfl, rfl, trivial⟩ T.sa ?_
  refine err_osa O X₄ e4 hcl (show rf (.ref C :: bm) = true from (O.ref C bm).trans hbm) rfl T.noN (fun h₅ tk₅ dx k₅ dn dne hx₅ hn₅ => ?_)
  show _root_.PySem.wpAt _ _ _ (execs [] _) _ _ _
  refine wpAt_of_wpAny (wpAny_execs_nil (hq h₅ tk₅ dx (h₂.push (kxs_mw initId x)).objs.size ⟨fun b o hb e => k₅ b o hb (up b o hb (k b o e)), hx₅, Nat.le_of_lt (Nat.lt_of_lt_of_le hns₄.lt dn), dne, hn₅⟩))
end
section
variable {M : Model} {A : Around} {E : Value → Shared → Prop} {h : Heap} {gn : Array GenState} {dw : Drawn} {tk0 : Nat} {o0 : OsState} {nm qn : Str} {C N : Addr} {bs bm bmB : List Value} {hd : Bool} {sn : List Str} {sb : List Value} {ab : Bool} {col : Option Bool} {dd : Option Addr} {k0 k1 k2 k3 k5 : Option Value} {B newId initId : String} {ps : List Value} {kws : List (Str × Value)}
theorem checkK (F : ExcBaseFacts B newId initId bmB) (hT : ∀ Y : String, bm.contains (.type Y) = bmB.contains (.type Y)) {Q : Unit → Shared → Prop} (hC : h.get? C = some (excClassObj nm qn C N bs bm hd sn sb ab col dd k0 k1 k2 k3 k5 newId)) (hq : Q () ⟨h, gn, dw, tk0, o0⟩) :
    wpAny M A (checkBuiltinCall newId ⟨.ref C :: ps, kws⟩) Q E ⟨h, gn, dw, tk0, o0⟩ := by
  have cB : (Value.ref C :: bm).contains (.type B) = true := by rw [List.contains_cons, hT, F.hasB, Bool.or_true]
  have nostar := F.noStar
  simp only [checkBuiltinCall, F.newKind, F.newSplit, F.newRow] <;>
    repeat (first | refine wpAny_loadPart_at hC ?_ | (refine wpAny_isSubtype_exc hC ?_; rw [cB]) | refine wpAny_staticBase_exc hC ?_ | refine wpAny_madeBy_exc hC ?_ | simp only [bne_self_eq_false, Bool.false_eq_true, if_false] | wp_step)
  exact hq
end
section
variable {prog : Program} {w : World} {A : Around} {E : Value → Shared → Prop} {R : Result → Shared → Prop} {h : Heap} {gn : Array GenState} {dw : Drawn} {tk0 : Nat} {o0 : OsState} {nm qn : Str} {C N fI : Addr} {bs bm bmB : List Value} {hd : Bool} {sn : List Str} {sb : List Value} {ab : Bool} {col : Option Bool} {dd : Option Addr} {k0 k1 k2 k3 k5 : Option Value} {B newId initId : String} {ps : List Value} {kws : List (Str × Value)}
theorem newK (F : ExcBaseFacts B newId initId bmB) (hT : ∀ Y : String, bm.contains (.type Y) = bmB.contains (.type Y)) (hC : h.get? C = some (excClassObj nm qn C N bs bm hd sn sb ab col dd k0 k1 k2 k3 k5 newId))
    (hq : R (.ok (.ret (.ref (h.objs.size + 1)))) ⟨(h.push (kdv_tup ps)).push (excO C h.objs.size), gn, dw, tk0, o0⟩) (hl : ps.length ≤ sizeLine) : codeAny (model prog w) A (.builtin newId ⟨.ref C :: ps, kws⟩) R ⟨h, gn, dw, tk0, o0⟩ := by
  have ends := F.ends
  have cB : (Value.ref C :: bm).contains (.type B) = true := by rw [List.contains_cons, hT, F.hasB, Bool.or_true]
  have cA : (Value.ref C :: bm).contains (.type "AttributeError") = false := by rw [List.contains_cons, hT, F.noAttr] <;> rfl
  have cN : (Value.ref C :: bm).contains (.type "NameError") = false := by rw [List.contains_cons, hT, F.noName] <;> rfl
  refine codeAny_builtinAt F.entry ?_
  unfold Builtin.«BaseException.__new__»
  refine _root_.PySem.wpAt_bind ?_ <;> show _root_.PySem.wpAt _ _ _ (stack >>= _) _ _ _
  refine _root_.PySem.wpAt_bind (_root_.PySem.wpAt_stack fun p below => _root_.PySem.wpAt_of_wpAny ?_) <;> wp_walk
  refine _root_.PySem.wpAt_of_wpAny ?_ <;> rw [F.owner]
  repeat (first | with_reducible refine wpAny_madeHere_exc F.canon hC ?_ | with_reducible refine wpAny_loadPart_at hC ?_ | (with_reducible refine wpAny_isSubtype_exc hC ?_; first | rw [cB] | rw [cA] | rw [cN]) | wp_step)
  show R _ _
  rw [Heap.size_push] <;> exact hq
theorem typeK (F : ExcBaseFacts B newId initId bmB) (hT : ∀ Y : String, bm.contains (.type Y) = bmB.contains (.type Y)) {Q : Fin → Shared → Prop} (hC : h.get? C = some (excClassObj nm qn C N bs bm hd sn sb ab col dd k0 k1 k2 k3 k5 newId))
    (hi : Looks (model prog w) h (typeLookup (.ref C) "__init__") (some (.ref fI))) (hb : ∀ me, Looks (model prog w) h (bindSpecial (.ref fI) me) (.ref fI, [me])) (hl : ps.length ≤ sizeLine)
    (hq : codeAny (model prog w) A (.call (.ref fI) ⟨.ref (h.objs.size + 1) :: ps, kws⟩) (fun r s' => match r with | .ok (.ret v) => v = .none ∧ Q (.done (.ret (.ref (h.objs.size + 1)))) s' | .ok _ => False | .error e => E e s') ⟨(h.push (kdv_tup ps)).push (excO C h.objs.size), gn, dw, tk0, o0⟩) :
    wpAny (model prog w) A (Builtin.«type.__call__» ⟨.ref C :: ps, kws⟩) Q E ⟨h, gn, dw, tk0, o0⟩ := by
  repeat (first | with_reducible refine wpAny_loadPart_at hC ?_ | with_reducible refine wpAny_madeBy_exc hC ?_ | wp_step)
  refine codeAny_call_builtin_code (Code.quiet_builtin _ F.quiet) (checkK F hT hC ?_)
  refine newK F hT hC ?_ hl <;> show wpAny _ _ _ _ _ _
  have k : ∀ b o, h.get? b = some o → ((h.push (kdv_tup ps)).push (excO C h.objs.size)).get? b = some o := fun b o z => Heap.get?_push_of_some _ (Heap.get?_push_of_some _ z)
  have hC1 := k _ _ hC
  have hg : ((h.push (kdv_tup ps)).push (excO C h.objs.size)).get? (h.objs.size + 1) = some (excO C h.objs.size) := by heap_get
  have cC : (Value.ref C :: bm).contains (.ref C) = true := by simp
  have i1 := hi.keeps k
  have b1 := (hb (.ref (h.objs.size + 1))).keeps k
  unfold isInstance <;> repeat (first | with_reducible refine wpAny_loadPart_at hg ?_ | (with_reducible refine wpAny_isSubtype_exc hC1 ?_; rw [cC]) | wp_step)
  show wpAny _ _ (typeLookup (.ref C) _) _ _ _
  refine i1.at (wpAny_holding (wpAny_bind (b1.at (wpAny_bind (wpAny_call (codeAny_mono hq fun r s' z => ?_))))))
  rcases r with e | (v | _ | _ | _) <;> first | exact z | exact z.elim | skip
  obtain ⟨rfl, z⟩ := z <;> first | exact wpAny_pure (wpAny_pure z) | (wp_walk; exact z)
theorem callK (F : ExcBaseFacts B newId initId bmB) (hT : ∀ Y : String, bm.contains (.type Y) = bmB.contains (.type Y)) (hC : h.get? C = some (excClassObj nm qn C N bs bm hd sn sb ab col dd k0 k1 k2 k3 k5 newId))
    (hi : Looks (model prog w) h (typeLookup (.ref C) "__init__") (some (.ref fI))) (hb : ∀ me, Looks (model prog w) h (bindSpecial (.ref fI) me) (.ref fI, [me])) (hl : ps.length ≤ sizeLine)
    (hq : codeAny (model prog w) (A.under (.builtin "type.__call__" ⟨.ref C :: ps, kws⟩)) (.call (.ref fI) ⟨.ref (h.objs.size + 1) :: ps, kws⟩) (InitBack (h.objs.size + 1) R) ⟨(h.push (kdv_tup ps)).push (excO C h.objs.size), gn, dw, tk0, o0⟩) : codeAny (model prog w) A (.call (.ref C) ⟨ps, kws⟩) R ⟨h, gn, dw, tk0, o0⟩ := by
  have a1 := tc_lookup
  have a2 := tc_bind (.ref C)
  have a3 : (⟨h, gn, dw, tk0, o0⟩ : Shared).TypeIs (.ref C) "type" := ⟨_, hC, rfl⟩
  refine codeAny_of_tree ?_ <;> show wpAny _ _ (callAny (.ref C) _) _ _ _
  repeat (any_goals (first | assumption | with_reducible refine wpAny_loadPart_at hC ?_ | wp_step))
  refine ⟨rfl, codeAny_call_builtin_at (Code.quiet_builtin _ (by decide +kernel)) entry_typeCall (wpAny_check_type_call_sub hC (typeK F hT hC hi hb hl ?_))⟩
  refine codeAny_mono hq fun r s' z => ?_
  rcases r with e | (v | _ | _ | _) <;> exact z
end
section
variable {B newId initId : String} {bmB : List Value} {rf : List Value → Bool} {prog : Program} {w : World} {A : Around} {R : Result → Shared → Prop} {s : Shared} {K : Frag} {mg mb : Str → Option Value} {C fI : Addr} {f : Str}
theorem err_made (O : BaseOf B newId initId bmB rf) (T : ErrTxt B newId initId rf prog K f C fI) (kw : Bool) {v : Value} (X : K.In s.heap) (hlim : s.heap.NoLimit) (hg : s.heap.Ns mainGlobals mg) (hb : s.heap.Ns builtinsNs mb) (hms : mg "super" = none) (hbs : mb "super" = some (.type "super"))
    (htop : (prog.main.scope.names.lookup ("super" : Str)).isSome = false) (hfn : f ≠ "self" ∧ f ≠ "super" ∧ f ≠ "__class__" ∧ f ≠ "__debug__") (hroom : A.depth + 1 < recursionLimit)
    (hq : ∀ h' tk e d, BadMade s.heap h' f e C d v → R (.ok (.ret (.ref e))) { s with heap := h', toks := tk }) : codeAny (model prog w) A (.call (.ref C) (errArgs kw f [] v)) R s := by
  obtain ⟨nm, qn, N, bs, bm, sn, sub, ab, col, dd, k0, k1, k2, k3, k5, hC, hbm⟩ := T.cls
  obtain ⟨hp, g, dr, tk, os⟩ := s
  have go : ∀ ps : List Value, ps.length ≤ 1 → ∀ kws, (∀ y, (⟨.ref y :: ps, kws⟩ : Args) = errArgs kw f [.ref y] v) → codeAny (model prog w) A (.call (.ref C) ⟨ps, kws⟩) R ⟨hp, g, dr, tk, os⟩ := fun ps hl kws he => by
    have k : ∀ b o, hp.get? b = some o → ((hp.push (kdv_tup ps)).push (excO C hp.objs.size)).get? b = some o := fun b o e => Heap.get?_push_of_some _ (Heap.get?_push_of_some _ e)
    have hget : ((hp.push (kdv_tup ps)).push (excO C hp.objs.size)).get? (hp.objs.size + 1) = some (excO C hp.objs.size) := by heap_get
    have hnx : K.lookup (hp.objs.size + 1) = none := by
      cases e : K.lookup (hp.objs.size + 1) with
      | none => rfl
      | some o => exact absurd (Nat.lt_of_succ_lt (Heap.lt_size (show hp.get? (hp.objs.size + 1) = some o from X _ _ e))) (Nat.lt_irrefl _)
    refine callK O.F (fun Y => O.con Y bm hbm) (X _ _ hC) (looks_findIn X T.iC) (fun self => bind_fn X self T.tC) (by rw [sizeLine_eq]; show ps.length ≤ 16777216; omega) ?_
    rw [he (hp.objs.size + 1)]
    refine err_init (A := A.under (.builtin "type.__call__" ⟨.ref C :: ps, kws⟩)) (s := ⟨(hp.push (kdv_tup ps)).push (excO C hp.objs.size), g, dr, tk, os⟩) O T kw (X.keeps k) (hlim.keeps k) (hg.keeps k) (hb.keeps k) hms hbs htop hfn hget hnx hroom fun h' tk' dx t1 M => ?_
    have old : ∀ b o, hp.get? b = some o → h'.get? b = some o := fun b o e => M.keep b o (Nat.ne_of_lt (Nat.lt_succ_of_lt (Heap.lt_size e))) (k b o e)
    have z : hp.objs.size ≤ dx := by
      have q := M.dbig
      first
        | (rw [show (Shared.heap ⟨(hp.push (kdv_tup ps)).push (excO C hp.objs.size), g, dr, tk, os⟩) = (hp.push (kdv_tup ps)).push (excO C hp.objs.size) from rfl, Heap.size_push, Heap.size_push] at q; omega)
        | (simp only [Heap.size_push] at q; omega)
    exact ⟨rfl, hq h' tk' (hp.objs.size + 1) dx ⟨old, Nat.le_succ _, ⟨t1, M.obj⟩, z, M.dne, M.ns⟩⟩
  cases kw
  · exact go [v] (by simp) [] fun _ => rfl
  · exact go [] (by simp) [(f, v)] fun _ => rfl
end
end Bf
/-! Data over the hand layer: a def's body read over plain data, the heap out of sight. -/
namespace Bf
open PySem PySem.Spec PyProof.Rows L2

/-! ### A. defs that are called where no guard runs (for repr) -/
structure GOk (P : Program) (w : World) (K : PySem.W.Frag) (mg : Str → Option Value) (base : Heap) (k : Nat) (f : Addr) (fd : FuncData) (ps : List Str) (sp : Sp) : Prop where
  len : ∀ vs H Q E, sp vs H Q E → vs.length = ps.length
  go : ∀ (A : Around) (out : List Env) (s : Shared) (H : Hp) (args : Args) (us : List Value) (vs : List V) (Q : VK) (E : XK),
    Room k A → A.guards = some [] → Env0 P w K mg base A out s H → BindsTo s fd args (ps.zip us) → Vals vs us → sp vs H Q E →
    codeAny (model P w) A (.call (.ref f) args) (CR (L2.CX P w) out P w H s Q E) s
section
variable {P : Program} {w : World} {K : PySem.W.Frag} {mg : Str → Option Value} {base : Heap}
theorem GOk.up {j k : Nat} {f : Addr} {fd : FuncData} {ps : List Str} {sp : Sp} (G : GOk P w K mg base j f fd ps sp) (h : j ≤ k) : GOk P w K mg base k f fd ps sp :=
  ⟨G.len, fun A out s H args us vs Q E r => G.go A out s H args us vs Q E (r.mono h)⟩
/-- a def by its body -/
theorem okG {x qual : Str} {st : Stmt} {f : Addr} {fd : FuncData} {N ps : List Str} {k : Nat} {sp : Sp} (F : Fun K x qual st f fd) (S : FnScope N ps (defScope st)) (len : ∀ vs H Q E, sp vs H Q E → vs.length = ps.length)
    (hb : ∀ (cdv : Value) (A : Around) (out : List Env) (s : Shared) (H : Hp) (vs : List V) (Q : VK) (E : XK), Room k (A.deeper (envOfC qual (defScope st) s.heap.objs.size f cdv)) → A.guards = some [] → sp vs H Q E →
      ∃ t, PSs (cxOf (L2.CX P w) P w K mg base N qual (defScope st) f cdv A out s H E) (defBody st) t ∧ t { nx := fun _ H' => Q .non H', rt := Q } (start N vs) H) :
    GOk P w K mg base (k + 1) f fd ps sp := by
  obtain ⟨oc, od, kV, doc, pm, an, cdv, ct, osl, rfl, lk, hcd⟩ := F.ex
  refine ⟨len, fun A out s H args us vs Q E hr hgd e0 hbi r hsp => ?_⟩
  refine StX.run_bnd lk hcd S hr e0 (G := fun xs H2 => xs = vs ∧ H2 = H) (fun A' Ex Q' h => ?_) fun s2 H2 xs ⟨ex, eH⟩ hr' => ?_
  · exact hbi _ _ _ _ (h s H vs us e0 Un.refl rfl (fun _ _ z => z) r (len _ _ _ _ hsp) ⟨rfl, rfl⟩)
  · subst ex eH
    exact hb cdv A out s2 _ _ Q E hr' hgd hsp
end
/-- how a def's arguments bind: all by place -/
def BPos (fd : FuncData) (ps : List Str) : Prop := ∀ (s : Shared) (us : List Value), us.length = ps.length → BindsTo s fd ⟨us, []⟩ (ps.zip us)
section
variable {X : Cx} {k : Nat} {f : Addr} {fd : FuncData} {ps ks : List Str} {sp : Sp} {E : XK} {x : Str} {p pos : Pos} {e : Expr} {es : List Expr} {kws : List Keyword} {t : TA}
theorem run_g {pins : List (Addr × Obj)} {σ : L2.St} {H : Hp} {s : Shared} {Q : VK} {args : Args} {us : List Value} {vs : List V} (G : GOk X.prog X.w X.K X.mg X.base k f fd ps sp) (hr : Room k X.A) (hgd : X.A.guards = some []) (hx : Passes (L2.CX X.prog X.w) X E)
    (I : Inv X pins σ H s) (hb : BindsTo s fd args (ps.zip us)) (r : Vals vs us) (h : sp vs H Q E) : wpAny (model X.prog X.w) X.A (call (.ref f) args.pos args.kw) (EP X pins σ Q) X.xe s := by
  refine wpAny_call (codeAny_mono (G.go X.A X.stack s H args us vs Q E hr hgd I.env0 hb r h) fun r' s' hq => ?_)
  match r', hq with
  | .error er, hq => exact hx pins σ H s er s' I hq
  | .ok (.ret u), hq => exact I.after hq
  | .ok .next, hq => exact hq.elim
  | .ok .brk, hq => exact hq.elim
  | .ok .cont, hq => exact hq.elim
/-- f(e, ..) -/
theorem pe_g (G : GOk X.prog X.w X.K X.mg X.base k f fd ps sp) (hb : BPos fd ps) (hm : X.mg x = some (.ref f)) (hk : PySem.W.keepIn X.K (.ref f) = true) (hr : Room k X.A) (hgd : X.A.guards = some []) (hx : Passes (L2.CX X.prog X.w) X E) (ha : PA X (e :: es) t)
    (hg : Gl X x := by rfl) (hdb : (x == ("__debug__" : Str)) = false := by decide) (he : starEach (e :: es) X.env = (false, eval e X.env) :: starEach es X.env := by rfl) (hpl : (backTo pos (starEach es X.env)).any (·.1) = false := by rfl) :
    PE X (.Call (.Name x p) (e :: es) [] pos) (tCall sp [] E t) := by
  refine ⟨fun pins s σ H Q I h => wpAny_Call_Name_kw (ld_glob I hg hm ?_ hdb)⟩
  refine PySem.W.callWith_K (h₀ := X.base) I.ok.mod.kin hk (thn (ha.run pos pins s σ H _ I h) fun us s1 ⟨vs, H1, I1, r, q⟩ => ⟨I1.kIn, ?_⟩) he hpl
  have q : sp (vs ++ []) H1 Q E := q
  rw [List.append_nil] at q
  exact run_g (args := ⟨us, []⟩) G hr hgd hx I1 (hb s1 us (r.length.symm.trans (G.len _ _ _ _ q))) r q
/-- f() -/
theorem pe_g0 (G : GOk X.prog X.w X.K X.mg X.base k f fd [] sp) (hb : BPos fd []) (hm : X.mg x = some (.ref f)) (hk : PySem.W.keepIn X.K (.ref f) = true) (hr : Room k X.A) (hgd : X.A.guards = some []) (hx : Passes (L2.CX X.prog X.w) X E)
    (hg : Gl X x := by rfl) (hdb : (x == ("__debug__" : Str)) = false := by decide) : PE X (.Call (.Name x p) [] [] pos) (tCall sp [] E tNil) := by
  refine ⟨fun pins s σ H Q I h => wpAny_Call_Name_kw (ld_glob I hg hm ?_ hdb)⟩
  exact PySem.W.callWith_K0 I.kIn hk (run_g (args := ⟨[], []⟩) G hr hgd hx I (hb s [] rfl) .nil h)
end

/-! ### B. plain data -/
inductive Dt where
  | non | bl (b : Bool) | int (i : Int) | str (x : Str) | lst (xs : List Dt) | tup (xs : List Dt)
  /-- an empty dict -/
  | dic
  /-- an instance: its class, its fields -/
  | ins (C : Addr) (ns : List Str) (xs : List Dt)
  /-- any value, by itself -/
  | raw (v : V)
  /-- the list at p -/
  | lat (p : Addr) (xs : List Dt)
  /-- an error that was caught or made: its class, its field -/
  | err (C : Addr) (f : Str) (d : Dt)
  /-- a dict by its keys (tuples) and its values -/
  | dct (ks xs : List Dt)
  /-- the dict at p whose keys are ints -/
  | dti (p : Addr) (ks : List Int) (xs : List Dt)
  /-- the dict at p whose keys are tuples -/
  | dat (p : Addr) (w : World) (ks xs : List Dt)
  /-- what is at p, whatever it holds -/
  | cel (p : Addr) (w : World)
/-- an error as an object: its class, its dict -/
def ErrO (cls : Value) (d : Option Addr) (a : Addr) : HO := .ext fun h => ∃ oe : Obj, h.get? a = some oe ∧ Zc cls d oe ∧ ∃ vs, oe.data = .fields vs

mutual
/-- hash(d), d without texts -/
def hKey : Dt → Int
  | .non => reduceHash 0xFCA86420
  | .bl b => hashInt (if b = true then 1 else 0)
  | .int i => hashInt i
  | .tup xs => reduceHash (Builtin.Tuple.tupleHashOf (hKeys xs))
  | _ => 0
def hKeys : List Dt → List Int
  | [] => []
  | x :: xs => hKey x :: hKeys xs
end
def ents : List Dt → List Addr → List Value → List DictEntry
  | k :: ks, a :: as, u :: us => ⟨hKey k, .ref a, u⟩ :: ents ks as us
  | _, _, _ => []
/-- a dict as an object: its keys (as data, and where they stand), its values -/
def DicO (ks : List Dt) (as : List Addr) (vs : List V) (d : Addr) : HO := .ext fun h => (d == sysModules) = false ∧ ∃ (o : Obj) (es : Array DictEntry) (ep : Nat) (us : List Value), h.get? d = some o ∧ o.ExactDict ∧ o.data = .dict es ep ∧ Vals vs us ∧ es.toList = ents ks as us
mutual
def nk : Dt → NestedKey
  | .bl b => .num (if b = true then 1 else 0)
  | .int i => .num i
  | .str x => .text x
  | .tup xs => .tup (nkA xs)
  | _ => .none
def nkA : List Dt → List NestedKey
  | [] => []
  | x :: xs => nk x :: nkA xs
end
/-- a dict's entries, by the keys' data -/
def entsW (w : World) : List Dt → List Addr → List Value → List DictEntry
  | k :: ks, a :: as, u :: us => ⟨(nk k).hash w, .ref a, u⟩ :: entsW w ks as us
  | _, _, _ => []
/-- a dict that may grow, as an object: its keys (as data, and where they stand), its values -/
def DatO (w : World) (ks : List Dt) (as : List Addr) (vs : List V) (d : Addr) : HO := .ext fun h => (d == sysModules) = false ∧ ∃ (o : Obj) (es : Array DictEntry) (ep : Nat) (us : List Value), h.get? d = some o ∧ o.ExactDict ∧ o.data = .dict es ep ∧ Vals vs us ∧ es.toList = entsW w ks as us
/-- a dict with ints as keys -/
def iK (ks : List Int) (vs : List V) : List (Key × V) := (ks.map Sum.inl).zip vs
/-- dicts whose first key is a text, and tables of code objects, are no data -/
def dob : HO → Bool
  | .dK ((.inr _, _) :: _) => false
  | .tbl _ => false
  | _ => true
theorem dob_iK : ∀ (ks : List Int) (vs : List V), dob (.dK (iK ks vs)) = true
  | [], _ => by simp [iK, dob]
  | _ :: _, [] => by simp [iK, dob]
  | _ :: _, _ :: _ => rfl
/-- data stay -/
def Gr (H H' : Hp) : Prop := ∀ a o, H a = some o → dob o = true → H' a = some o
theorem Gr.refl (H : Hp) : Gr H H := fun _ _ h _ => h
theorem Gr.trans {H H1 H2 : Hp} (a : Gr H H1) (b : Gr H1 H2) : Gr H H2 := fun c o h d => b c o (a c o h d) d
theorem _root_.L2.Same.gr {H H' : Hp} (s : Same H H') : Gr H H' := fun c o h _ => s c o h
theorem same_new {H : Hp} {p : Addr} {o : HO} (h : H p = none) : Same H (upd H p o) := fun b x e => by
  rw [upd_ne (ne_of_none e h)]
  exact e
theorem Gr.sqL {K : PySem.W.Frag} {H H' : Hp} {a : Addr} {xs : List V} (g : Gr H H') (h : SqL K H a xs) : SqL K H' a xs := by
  rcases h with (h | ⟨o, h⟩) | h
  · exact .inl (.inl (g _ _ h rfl))
  · exact .inl (.inr ⟨o, g _ _ h rfl⟩)
  · exact .inr h
theorem Gr.sqT {K : PySem.W.Frag} {H H' : Hp} {a : Addr} {xs : List V} (g : Gr H H') (h : SqT K H a xs) : SqT K H' a xs := by
  rcases h with (h | ⟨o, h⟩) | h
  · exact .inl (.inl (g _ _ h rfl))
  · exact .inl (.inr ⟨o, g _ _ h rfl⟩)
  · exact .inr h

mutual
inductive Rep (K : PySem.W.Frag) (H : Hp) : V → Dt → Prop
  | non : Rep K H .non .non
  | bl (b : Bool) : Rep K H (.bl b) (.bl b)
  | int (i : Int) : Rep K H (.int i) (.int i)
  | str (x : Str) : Rep K H (.str x) (.str x)
  | lst {a : Addr} {vs : List V} {ds : List Dt} : SqL K H a vs → RepA K H vs ds → Rep K H (.ref a) (.lst ds)
  | tup {a : Addr} {vs : List V} {ds : List Dt} : SqT K H a vs → RepA K H vs ds → Rep K H (.ref a) (.tup ds)
  | dic {a : Addr} : H a = some (.dK []) → Rep K H (.ref a) .dic
  | ins {a C dx : Addr} {ns : List Str} {vs : List V} {ds : List Dt} : H a = some (.ins C dx (ns.zip vs)) → RepA K H vs ds → Rep K H (.ref a) (.ins C ns ds)
  | raw (v : V) : Rep K H v (.raw v)
  | lat {p : Addr} {vs : List V} {ds : List Dt} : H p = some (.lst vs) → RepA K H vs ds → Rep K H (.ref p) (.lat p ds)
  | err {a C dd : Addr} {f : Str} {v : V} {d : Dt} : H a = some (ErrO (.ref C) (some dd) a) → H dd = some (.xd [(f, v)]) → Rep K H v d → Rep K H (.ref a) (.err C f d)
  | dti {p : Addr} {vs : List V} {ks : List Int} {ds : List Dt} : H p = some (.dK (iK ks vs)) → ks.length = ds.length → RepA K H vs ds → Rep K H (.ref p) (.dti p ks ds)
  | dat {p : Addr} {w : World} {as : List Addr} {vs : List V} {ks ds : List Dt} : H p = some (DatO w ks as vs p) → ks.length = ds.length → RepA K H (as.map V.ref) ks → RepA K H vs ds → Rep K H (.ref p) (.dat p w ks ds)
  | cel {p : Addr} {w : World} {o : HO} : H p = some o → dob o = true → Rep K H (.ref p) (.cel p w)
  | dct {a : Addr} {as : List Addr} {vs : List V} {ks ds : List Dt} : H a = some (DicO ks as vs a) → RepA K H (as.map V.ref) ks → RepA K H vs ds → Rep K H (.ref a) (.dct ks ds)
inductive RepA (K : PySem.W.Frag) (H : Hp) : List V → List Dt → Prop
  | nil : RepA K H [] []
  | cons {v : V} {vs : List V} {d : Dt} {ds : List Dt} : Rep K H v d → RepA K H vs ds → RepA K H (v :: vs) (d :: ds)
end
section
variable {K : PySem.W.Frag} {H H' : Hp}
mutual
theorem Rep.mono (g : Gr H H') : ∀ {v : V} {d : Dt}, Rep K H v d → Rep K H' v d
  | _, _, .non => .non
  | _, _, .bl b => .bl b
  | _, _, .int i => .int i
  | _, _, .str x => .str x
  | _, _, .lst h r => .lst (g.sqL h) (r.mono g)
  | _, _, .tup h r => .tup (g.sqT h) (r.mono g)
  | _, _, .dic h => .dic (g _ _ h rfl)
  | _, _, .ins h r => .ins (g _ _ h rfl) (r.mono g)
  | _, _, .raw v => .raw v
  | _, _, .lat h r => .lat (g _ _ h rfl) (r.mono g)
  | _, _, .err h1 h2 r => .err (g _ _ h1 rfl) (g _ _ h2 rfl) (r.mono g)
  | _, _, .dct h r1 r2 => .dct (g _ _ h rfl) (r1.mono g) (r2.mono g)
  | _, _, .dti h l r => .dti (g _ _ h (dob_iK _ _)) l (r.mono g)
  | _, _, .dat h l r1 r2 => .dat (g _ _ h rfl) l (r1.mono g) (r2.mono g)
  | _, _, .cel h e => .cel (g _ _ h e) e
theorem RepA.mono (g : Gr H H') : ∀ {vs : List V} {ds : List Dt}, RepA K H vs ds → RepA K H' vs ds
  | _, _, .nil => .nil
  | _, _, .cons h r => .cons (h.mono g) (r.mono g)
end
theorem RepA.len : ∀ {vs : List V} {ds : List Dt}, RepA K H vs ds → vs.length = ds.length
  | _, _, .nil => rfl
  | _, _, .cons _ r => congrArg (· + 1) r.len
theorem RepA.at_ : ∀ {vs : List V} {ds : List Dt} {i : Nat} {d : Dt}, RepA K H vs ds → ds[i]? = some d → ∃ v, vs[i]? = some v ∧ Rep K H v d
  | _, _, _, _, .nil, h => by simp at h
  | _, _, 0, _, .cons r _, h => ⟨_, rfl, by simp at h; exact h ▸ r⟩
  | _, _, i + 1, d, .cons _ r, h => by
    obtain ⟨v, e, q⟩ := RepA.at_ (i := i) (d := d) r (by simpa using h)
    exact ⟨v, by simpa using e, q⟩
theorem RepA.ta : ∀ {vs : List V} {ds : List Dt} {i : Nat} {v : V}, RepA K H vs ds → vs[i]? = some v → ∃ d, ds[i]? = some d ∧ Rep K H v d
  | _, _, _, _, .nil, h => by simp at h
  | _, _, 0, _, .cons r _, h => ⟨_, rfl, by simp at h; exact h ▸ r⟩
  | _, _, i + 1, v, .cons _ r, h => by
    obtain ⟨d, e, q⟩ := RepA.ta (i := i) (v := v) r (by simpa using h)
    exact ⟨d, by simpa using e, q⟩
theorem RepA.app : ∀ {vs ws : List V} {ds es : List Dt}, RepA K H vs ds → RepA K H ws es → RepA K H (vs ++ ws) (ds ++ es)
  | _, _, _, _, .nil, s => s
  | _, _, _, _, .cons h r, s => .cons h (r.app s)
theorem RepA.take : ∀ {vs : List V} {ds : List Dt} (n : Nat), RepA K H vs ds → RepA K H (vs.take n) (ds.take n)
  | _, _, 0, _ => .nil
  | _, _, _ + 1, .nil => .nil
  | _, _, n + 1, .cons h r => .cons h (r.take n)
theorem RepA.drop : ∀ {vs : List V} {ds : List Dt} (n : Nat), RepA K H vs ds → RepA K H (vs.drop n) (ds.drop n)
  | _, _, 0, r => r
  | _, _, _ + 1, .nil => .nil
  | _, _, n + 1, .cons _ r => r.drop n
theorem RepA.ints : ∀ {vs : List V} {ns : List Int}, RepA K H vs (ns.map Dt.int) → vs = ns.map V.int
  | _, [], .nil => rfl
  | _, _ :: _, .cons (.int _) r => congrArg _ r.ints
theorem Rep.tupI {v : V} {ds : List Dt} (h : Rep K H v (.tup ds)) : ∃ a vs, v = .ref a ∧ SqT K H a vs ∧ RepA K H vs ds := by
  cases h with
  | tup h r => exact ⟨_, _, rfl, h, r⟩
theorem Rep.lstI {v : V} {ds : List Dt} (h : Rep K H v (.lst ds)) : ∃ a vs, v = .ref a ∧ SqL K H a vs ∧ RepA K H vs ds := by
  cases h with
  | lst h r => exact ⟨_, _, rfl, h, r⟩
theorem Rep.intI {v : V} {i : Int} (h : Rep K H v (.int i)) : v = .int i := by cases h <;> rfl
theorem Rep.blI {v : V} {b : Bool} (h : Rep K H v (.bl b)) : v = .bl b := by cases h <;> rfl
theorem Rep.strI {v : V} {x : Str} (h : Rep K H v (.str x)) : v = .str x := by cases h <;> rfl
theorem Rep.rawI {v u : V} (h : Rep K H v (.raw u)) : v = u := by cases h <;> rfl
end

/-- what holds of the heap all along -/
structure Sta where
  I : Hp → Prop
  st : ∀ {H H' : Hp}, I H → Same H H' → I H'
/-- the slots' data -/
structure Slots (K : PySem.W.Frag) (H : Hp) (σ : L2.St) (ρ : List (Option Dt)) : Prop where
  len : σ.length = ρ.length
  val : ∀ (i : Nat) (d : Dt), ρ[i]? = some (some d) → ∃ v, σ[i]? = some (some v) ∧ Rep K H v d
section
variable {K : PySem.W.Frag} {H H' : Hp} {σ : L2.St} {ρ : List (Option Dt)}
theorem Slots.mono (s : Slots K H σ ρ) (g : Gr H H') : Slots K H' σ ρ := ⟨s.len, fun i d h => let ⟨v, e, r⟩ := s.val i d h; ⟨v, e, r.mono g⟩⟩
theorem Slots.set (s : Slots K H σ ρ) {v : V} {d : Dt} (r : Rep K H v d) (j : Nat) : Slots K H (σ.set j (some v)) (ρ.set j (some d)) := by
  refine ⟨by rw [List.length_set, List.length_set, s.len], fun i e h => ?_⟩
  by_cases hj : j = i
  · subst hj
    by_cases hl : j < ρ.length
    · rw [List.getElem?_set_self hl] at h
      cases h
      exact ⟨v, List.getElem?_set_self (by rw [s.len]; exact hl), r⟩
    · rw [List.getElem?_eq_none (by rw [List.length_set]; omega)] at h
      cases h
  · rw [List.getElem?_set_ne hj] at h
    obtain ⟨u, hu, q⟩ := s.val i e h
    exact ⟨u, by rw [List.getElem?_set_ne hj]; exact hu, q⟩
/-- a slot whose data are forgotten -/
theorem Slots.lose (s : Slots K H σ ρ) {ν : Option V} (j : Nat) : Slots K H (σ.set j ν) (ρ.set j none) := by
  refine ⟨by rw [List.length_set, List.length_set, s.len], fun i e h => ?_⟩
  by_cases hj : j = i
  · subst hj
    by_cases hl : j < ρ.length
    · rw [List.getElem?_set_self hl] at h
      cases h
    · rw [List.getElem?_eq_none (by rw [List.length_set]; omega)] at h
      cases h
  · rw [List.getElem?_set_ne hj] at h
    obtain ⟨u, hu, q⟩ := s.val i e h
    exact ⟨u, by rw [List.getElem?_set_ne hj]; exact hu, q⟩
def wipeD (ρ : List (Option Dt)) : List Nat → List (Option Dt)
  | [] => ρ
  | v :: vs => (wipeD ρ vs).set v none
theorem Slots.wipe (s : Slots K H σ ρ) : ∀ vs : List Nat, Slots K H (L2.wipe σ vs) (wipeD ρ vs)
  | [] => s
  | v :: vs => (s.wipe vs).lose v
end

/-! ### C. what an expression comes to -/
section
variable (K : PySem.W.Frag) (S S' : Sta)
def Ev (ρ : List (Option Dt)) (te : TE) (Φ : Dt → Prop) : Prop := ∀ (σ : L2.St) (H : Hp), S.I H → Slots K H σ ρ → ∀ Q : VK, (∀ v d H', Gr H H' → S'.I H' → Rep K H' v d → Φ d → Q v H') → te σ H Q
def EvT (ρ : List (Option Dt)) (tt : TT) (Φ : Bool → Prop) : Prop := ∀ (σ : L2.St) (H : Hp), S.I H → Slots K H σ ρ → ∀ Q : Bool → Hp → Prop, (∀ b H', Gr H H' → S'.I H' → Φ b → Q b H') → tt σ H Q
def EvA (ρ : List (Option Dt)) (ta : TA) (Φ : List Dt → Prop) : Prop := ∀ (σ : L2.St) (H : Hp), S.I H → Slots K H σ ρ → ∀ Q : List V → Hp → Prop, (∀ vs ds H', Gr H H' → S'.I H' → RepA K H' vs ds → Φ ds → Q vs H') → ta σ H Q
end
section
variable (K : PySem.W.Frag) (S : Sta)
/-- a two-place operation over data -/
def Rv2 (r : R2) (x y : Dt) (Φ : Dt → Prop) : Prop := ∀ (H : Hp) (v u : V), S.I H → Rep K H v x → Rep K H u y → ∀ Q : VK, (∀ v' d H', Gr H H' → S.I H' → Rep K H' v' d → Φ d → Q v' H') → r v u H Q
def RvC (r : List V → Hp → VK → Prop) (xs : List Dt) (Φ : Dt → Prop) : Prop := ∀ (H : Hp) (vs : List V), S.I H → RepA K H vs xs → ∀ Q : VK, (∀ v' d H', Gr H H' → S.I H' → Rep K H' v' d → Φ d → Q v' H') → r vs H Q
end
section
variable {K : PySem.W.Frag} {S S1 S2 S3 : Sta} {ρ : List (Option Dt)} {ta tb te : TE} {t u : TT} {Φ Ψ Θ : Dt → Prop} {x y z d : Dt}
theorem Ev.weak (h : Ev K S S1 ρ te Φ) (w : ∀ d, Φ d → Ψ d) : Ev K S S1 ρ te Ψ := fun σ H i s Q q => h σ H i s Q fun v d H' g i' r p => q v d H' g i' r (w d p)
theorem EvT.weak {Φ Ψ : Bool → Prop} (h : EvT K S S1 ρ t Φ) (w : ∀ d, Φ d → Ψ d) : EvT K S S1 ρ t Ψ := fun σ H i s Q q => h σ H i s Q fun v H' g i' p => q v H' g i' (w v p)
theorem Ev.to (h : Ev K S S1 ρ te (Eq x)) (e : x = y) : Ev K S S1 ρ te (Eq y) := e ▸ h
theorem EvT.to {a b : Bool} (h : EvT K S S1 ρ t (Eq a)) (e : a = b) : EvT K S S1 ρ t (Eq b) := e ▸ h
theorem ev_var {i : Nat} (h : ρ[i]? = some (some d)) : Ev K S S ρ (tVar i) (Eq d) := fun σ H hi s Q q => by
  obtain ⟨v, e, r⟩ := s.val i d h
  exact ⟨v, e, q v d H (Gr.refl H) hi r rfl⟩
theorem ev_int {i : Int} : Ev K S S ρ (tC (.int i)) (Eq (.int i)) := fun σ H hi s Q q => q _ _ H (Gr.refl H) hi (.int i) rfl
theorem ev_bl {b : Bool} : Ev K S S ρ (tC (.bl b)) (Eq (.bl b)) := fun σ H hi s Q q => q _ _ H (Gr.refl H) hi (.bl b) rfl
theorem ev_non : Ev K S S ρ (tC .non) (Eq .non) := fun σ H hi s Q q => q _ _ H (Gr.refl H) hi .non rfl
theorem ev_str {x : Str} : Ev K S S ρ (tC (.str x)) (Eq (.str x)) := fun σ H hi s Q q => q _ _ H (Gr.refl H) hi (.str x) rfl
theorem ev_opP {r : R2} (ha : Ev K S S1 ρ ta Φ) (hb : Ev K S1 S2 ρ tb Ψ) (hr : ∀ x y, Φ x → Ψ y → Rv2 K S2 r x y Θ) : Ev K S S2 ρ (tOp r ta tb) Θ := fun σ H i s Q q =>
  ha σ H i s _ fun v x H1 g1 i1 r1 p1 => hb σ H1 i1 (s.mono g1) _ fun u y H2 g2 i2 r2 p2 => hr x y p1 p2 H2 v u i2 (r1.mono g2) r2 Q fun v' d H3 g3 i3 r3 p3 => q v' d H3 ((g1.trans g2).trans g3) i3 r3 p3
theorem ev_op {r : R2} (ha : Ev K S S1 ρ ta (Eq x)) (hb : Ev K S1 S2 ρ tb (Eq y)) (hr : Rv2 K S2 r x y Θ) : Ev K S S2 ρ (tOp r ta tb) Θ := ev_opP ha hb fun _ _ e1 e2 => e1 ▸ e2 ▸ hr
theorem ev_un {r : V → Hp → VK → Prop} (ha : Ev K S S1 ρ ta (Eq x)) (hr : ∀ (H : Hp) (v : V), S1.I H → Rep K H v x → ∀ Q : VK, (∀ v' d H', Gr H H' → S1.I H' → Rep K H' v' d → Θ d → Q v' H') → r v H Q) : Ev K S S1 ρ (tUn r ta) Θ := fun σ H i s Q q =>
  ha σ H i s _ fun v x' H1 g1 i1 r1 p1 => hr H1 v i1 (p1 ▸ r1) Q fun v' d H3 g3 i3 r3 p3 => q v' d H3 (g1.trans g3) i3 r3 p3
/-! operations that hand back a plain value and leave the heap -/
theorem rv_at {r : R2} (h : ∀ H v u, S.I H → Rep K H v x → Rep K H u y → ∀ Q : VK, (∀ v', Rep K H v' z → Q v' H) → r v u H Q) : Rv2 K S r x y (Eq z) := fun H v u i r1 r2 Q q =>
  h H v u i r1 r2 Q fun v' r' => q v' z H (Gr.refl H) i r' rfl
theorem rv_I0 {g : Int → Int → V} {i j : Int} (hz : ∀ H, Rep K H (g i j) z) : Rv2 K S (rI0 g) (.int i) (.int j) (Eq z) := rv_at fun H v u _ r1 r2 Q q => ⟨i, j, r1.intI, r2.intI, q _ (hz H)⟩
theorem rv_I {C : Int → Int → Prop} {g : Int → Int → V} {i j : Int} (hc : C i j) (hz : ∀ H, Rep K H (g i j) z) : Rv2 K S (rI C g) (.int i) (.int j) (Eq z) := rv_at fun H v u _ r1 r2 Q q => ⟨i, j, r1.intI, r2.intI, hc, q _ (hz H)⟩
theorem rv_ii {g : Int → Int → Int} {i j : Int} : Rv2 K S (rI0 fun a b => .int (g a b)) (.int i) (.int j) (Eq (.int (g i j))) := rv_I0 fun _ => .int _
theorem rv_iic {C : Int → Int → Prop} {g : Int → Int → Int} {i j : Int} (hc : C i j) : Rv2 K S (rI C fun a b => .int (g a b)) (.int i) (.int j) (Eq (.int (g i j))) := rv_I hc fun _ => .int _
theorem rv_ib {g : Int → Int → Bool} {i j : Int} : Rv2 K S (rI0 fun a b => .bl (g a b)) (.int i) (.int j) (Eq (.bl (g i j))) := rv_I0 fun _ => .bl _
theorem rv_eqI {i j : Int} : Rv2 K S rEq (.int i) (.int j) (Eq (.bl (decide (i = j)))) := rv_at fun H v u _ r1 r2 Q q => by
  obtain rfl := r1.intI; obtain rfl := r2.intI
  exact ⟨rfl, by rw [show decide (V.int i = V.int j) = decide (i = j) by by_cases e : i = j <;> simp [e]]; exact q _ (.bl _)⟩
theorem rv_neS {i j : Str} : Rv2 K S rNe (.str i) (.str j) (Eq (.bl (!decide (i = j)))) := rv_at fun H v u _ r1 r2 Q q => by
  obtain rfl := r1.strI; obtain rfl := r2.strI
  exact ⟨rfl, by rw [show decide (V.str i = V.str j) = decide (i = j) by by_cases e : i = j <;> simp [e]]; exact q _ (.bl _)⟩
/-- is None -/
def Dt.isNon : Dt → Bool
  | .non => true
  | .raw .non => true
  | _ => false
theorem Rep.isNon {H : Hp} {v : V} (r : Rep K H v d) : decide (v = .non) = d.isNon := by
  cases r with
  | raw v => cases v <;> rfl
  | _ => rfl
/-! argument lists, displays -/
theorem ea_nil : EvA K S S ρ tNil (Eq []) := fun σ H i s Q q => q _ _ H (Gr.refl H) i .nil rfl
theorem ea_consP {tr : TA} {Φl : List Dt → Prop} (ha : Ev K S S1 ρ ta Φ) (hr : EvA K S1 S2 ρ tr Φl) : EvA K S S2 ρ (tCons ta tr) (fun l => ∃ d ds, l = d :: ds ∧ Φ d ∧ Φl ds) := fun σ H i s Q q =>
  ha σ H i s _ fun v d H1 g1 i1 r1 p1 => hr σ H1 i1 (s.mono g1) _ fun vs ds H2 g2 i2 r2 p2 => q _ _ H2 (g1.trans g2) i2 (.cons (r1.mono g2) r2) ⟨d, ds, rfl, p1, p2⟩
theorem ea_cons {tr : TA} {ds : List Dt} (ha : Ev K S S1 ρ ta (Eq d)) (hr : EvA K S1 S2 ρ tr (Eq ds)) : EvA K S S2 ρ (tCons ta tr) (Eq (d :: ds)) := fun σ H i s Q q =>
  ha σ H i s _ fun v d' H1 g1 i1 r1 p1 => hr σ H1 i1 (s.mono g1) _ fun vs ds' H2 g2 i2 r2 p2 => q _ _ H2 (g1.trans g2) i2 (.cons (p1 ▸ r1.mono g2) (p2 ▸ r2)) rfl
theorem ev_tupP {t : TA} {Φl : List Dt → Prop} (h : EvA K S S1 ρ t Φl) (hz : ∀ ds, Φl ds → ds.length ≤ sizeLine) : Ev K S S1 ρ (tTup t) (fun d => ∃ ds, d = .tup ds ∧ Φl ds) := fun σ H i s Q q =>
  h σ H i s _ fun vs ds H1 g1 i1 r1 p1 => ⟨by rw [r1.len]; exact hz ds p1, fun p hp => q _ _ _ (g1.trans (same_new hp).gr) (S1.st i1 (same_new hp)) (.tup (SqT.of upd_same) (r1.mono (same_new hp).gr)) ⟨ds, rfl, p1⟩⟩
theorem ev_lstP {t : TA} {Φl : List Dt → Prop} (h : EvA K S S1 ρ t Φl) (hz : ∀ ds, Φl ds → ds.length ≤ sizeLine) : Ev K S S1 ρ (tLst t) (fun d => ∃ ds, d = .lst ds ∧ Φl ds) := fun σ H i s Q q =>
  h σ H i s _ fun vs ds H1 g1 i1 r1 p1 => ⟨by rw [r1.len]; exact hz ds p1, fun p hp => q _ _ _ (g1.trans (same_new hp).gr) (S1.st i1 (same_new hp)) (.lst (SqL.of upd_same) (r1.mono (same_new hp).gr)) ⟨ds, rfl, p1⟩⟩
theorem ev_tup {t : TA} {ds : List Dt} (h : EvA K S S1 ρ t (Eq ds)) (hz : ds.length ≤ sizeLine) : Ev K S S1 ρ (tTup t) (Eq (.tup ds)) := (ev_tupP h fun _ e => e ▸ hz).weak fun _ ⟨_, e, e'⟩ => e ▸ e' ▸ rfl
theorem ev_lst {t : TA} {ds : List Dt} (h : EvA K S S1 ρ t (Eq ds)) (hz : ds.length ≤ sizeLine) : Ev K S S1 ρ (tLst t) (Eq (.lst ds)) := (ev_lstP h fun _ e => e ▸ hz).weak fun _ ⟨_, e, e'⟩ => e ▸ e' ▸ rfl
theorem ev_dic : Ev K S S ρ tDNewK (Eq .dic) := fun σ H i s Q q p hp => q _ _ _ (same_new hp).gr (S.st i (same_new hp)) (.dic upd_same) rfl

/-! calls -/
theorem ev_cbP {r : List V → Hp → VK → Prop} {t : TA} {Φl : List Dt → Prop} (ha : EvA K S S1 ρ t Φl) (hr : ∀ ds, Φl ds → RvC K S1 r ds Θ) : Ev K S S1 ρ (tCB r t) Θ := fun σ H i s Q q =>
  ha σ H i s _ fun vs ds' H1 g1 i1 r1 p1 => hr ds' p1 H1 vs i1 r1 Q fun v' d H3 g3 i3 r3 p3 => q v' d H3 (g1.trans g3) i3 r3 p3
theorem ev_cb {r : List V → Hp → VK → Prop} {t : TA} {ds : List Dt} (ha : EvA K S S1 ρ t (Eq ds)) (hr : RvC K S1 r ds Θ) : Ev K S S1 ρ (tCB r t) Θ := ev_cbP ha fun _ e => e ▸ hr
theorem rc_at {r : List V → Hp → VK → Prop} {xs : List Dt} (h : ∀ H vs, S.I H → RepA K H vs xs → ∀ Q : VK, (∀ v', Rep K H v' z → Q v' H) → r vs H Q) : RvC K S r xs (Eq z) := fun H vs i r1 Q q => h H vs i r1 Q fun v' r' => q v' z H (Gr.refl H) i r' rfl
theorem RepA.oneI {H : Hp} {vs : List V} (r : RepA K H vs [d]) : ∃ v, vs = [v] ∧ Rep K H v d := by
  cases r with
  | cons h r => cases r; exact ⟨_, rfl, h⟩
theorem RepA.twoI {H : Hp} {vs : List V} (r : RepA K H vs [x, y]) : ∃ v u, vs = [v, u] ∧ Rep K H v x ∧ Rep K H u y := by
  cases r with
  | cons h r => obtain ⟨u, rfl, q⟩ := r.oneI; exact ⟨_, _, rfl, h, q⟩
def rLen (K : PySem.W.Frag) : List V → Hp → VK → Prop := fun xs H Q => ∃ p ys, xs = [.ref p] ∧ (SqL K H p ys ∨ SqT K H p ys) ∧ Q (.int ys.length) H
theorem rc_lenT {xs : List Dt} : RvC K S (rLen K) [.tup xs] (Eq (.int xs.length)) := rc_at fun H vs i r Q q => by
  obtain ⟨v, rfl, r1⟩ := r.oneI
  obtain ⟨a, us, rfl, h, ra⟩ := r1.tupI
  exact ⟨a, us, rfl, .inr h, by rw [ra.len]; exact q _ (.int _)⟩
theorem rc_lenL {xs : List Dt} : RvC K S (rLen K) [.lst xs] (Eq (.int xs.length)) := rc_at fun H vs i r Q q => by
  obtain ⟨v, rfl, r1⟩ := r.oneI
  obtain ⟨a, us, rfl, h, ra⟩ := r1.lstI
  exact ⟨a, us, rfl, .inl h, by rw [ra.len]; exact q _ (.int _)⟩
/-! subscripts, slices, joined tuples -/
theorem atI_rep {H : Hp} {vs : List V} {ds : List Dt} {i : Int} (r : RepA K H vs ds) (h : atI ds i = some d) : ∃ v, atI vs i = some v ∧ Rep K H v d := by
  unfold atI at h ⊢
  rw [r.len]
  cases e : ixN ds.length i with
  | none => rw [e] at h; cases h
  | some j =>
    rw [e] at h
    exact r.at_ h
theorem rv_ixT {xs : List Dt} {i : Int} (h : atI xs i = some d) : Rv2 K S (rIxT K) (.tup xs) (.int i) (Eq d) := rv_at fun H v u _ r1 r2 Q q => by
  obtain ⟨a, us, rfl, ht, ra⟩ := r1.tupI
  obtain rfl := r2.intI
  obtain ⟨v, e, rv⟩ := atI_rep ra h
  exact ⟨a, us, i, v, rfl, rfl, ht, e, q v rv⟩
theorem rv_ixL {xs : List Dt} {i : Int} (h : atI xs i = some d) : Rv2 K S (rIxL K) (.lst xs) (.int i) (Eq d) := rv_at fun H v u _ r1 r2 Q q => by
  obtain ⟨a, us, rfl, ht, ra⟩ := r1.lstI
  obtain rfl := r2.intI
  obtain ⟨v, e, rv⟩ := atI_rep ra h
  exact ⟨a, us, i, v, rfl, rfl, ht, e, q v rv⟩
theorem rv_ixSL {xs : List Dt} {i : Int} (h : atI xs i = some d) : Rv2 K S (rIx K) (.lst xs) (.int i) (Eq d) := fun H v u hi r1 r2 Q q => .inl (rv_ixL h H v u hi r1 r2 Q q)
theorem rv_ixST {xs : List Dt} {i : Int} (h : atI xs i = some d) : Rv2 K S (rIx K) (.tup xs) (.int i) (Eq d) := fun H v u hi r1 r2 Q q => .inr (.inl (rv_ixT h H v u hi r1 r2 Q q))
/-! choices -/
theorem et_test {a : Bool} (ha : Ev K S S1 ρ ta (Eq (.bl a))) : EvT K S S1 ρ (tTest ta) (Eq a) := fun σ H i s Q q => ha σ H i s _ fun v d H1 g1 i1 r1 p1 => by
  subst p1
  exact ⟨a, r1.blI, q _ H1 g1 i1 rfl⟩
theorem et_and {a b : Bool} (ha : EvT K S S1 ρ t (Eq a)) (hb : a = true → EvT K S1 S1 ρ u (Eq b)) : EvT K S S1 ρ (tAnd t u) (Eq (a && b)) := fun σ H i s Q q => ha σ H i s _ fun c H1 g1 i1 p1 => by
  subst p1
  cases a with
  | true => rw [if_pos rfl]; exact hb rfl σ H1 i1 (s.mono g1) Q fun v H2 g2 => q v H2 (g1.trans g2)
  | false => rw [if_neg Bool.false_ne_true]; exact q _ H1 g1 i1 rfl
theorem et_or {a b : Bool} (ha : EvT K S S1 ρ t (Eq a)) (hb : a = false → EvT K S1 S1 ρ u (Eq b)) : EvT K S S1 ρ (tOr t u) (Eq (a || b)) := fun σ H i s Q q => ha σ H i s _ fun c H1 g1 i1 p1 => by
  subst p1
  cases a with
  | false => rw [if_neg Bool.false_ne_true]; exact hb rfl σ H1 i1 (s.mono g1) Q fun v H2 g2 => q v H2 (g1.trans g2)
  | true => rw [if_pos rfl]; exact q _ H1 g1 i1 rfl
theorem et_yes : EvT K S S ρ tYes (Eq true) := fun σ H i s Q q => q _ H (Gr.refl H) i rfl
end
end Bf
namespace Bf
open PySem PySem.Spec PyProof.Rows L2

/-! ### D. statements over data -/
structure Po where
  nx : List (Option Dt) → Prop := fun _ => False
  rt : Dt → Prop := fun _ => False
  bk : List (Option Dt) → Prop := fun _ => False
  ct : List (Option Dt) → Prop := fun _ => False
structure Ft (K : PySem.W.Frag) (S : Sta) (P : Po) (D : Ends) (H : Hp) : Prop where
  nx : ∀ (σ : L2.St) ρ H', Gr H H' → S.I H' → Slots K H' σ ρ → P.nx ρ → D.nx σ H'
  rt : ∀ v d H', Gr H H' → S.I H' → Rep K H' v d → P.rt d → D.rt v H'
  bk : ∀ (σ : L2.St) ρ H', Gr H H' → S.I H' → Slots K H' σ ρ → P.bk ρ → D.bk σ H'
  ct : ∀ (σ : L2.St) ρ H', Gr H H' → S.I H' → Slots K H' σ ρ → P.ct ρ → D.ct σ H'
/-- what holds at first holds at last -/
def Sta.Le (S SF : Sta) : Prop := ∀ H, S.I H → SF.I H
theorem Sta.Le.refl (S : Sta) : S.Le S := fun _ h => h
theorem Sta.Le.trans {S S1 S2 : Sta} (a : S.Le S1) (b : S1.Le S2) : S.Le S2 := fun H h => b H (a H h)
/-- from what holds at the base B on: the lists in L are newer than B and may be changed -/
structure Bs (SB : Sta) (L : List Addr) (B H : Hp) : Prop where
  gr : Gr B H
  i : SB.I B
  new : ∀ p ∈ L, B p = none
theorem Bs.up {SB : Sta} {L : List Addr} {B H H' : Hp} (b : Bs SB L B H) (g : Gr H H') : Bs SB L B H' := ⟨b.gr.trans g, b.i, b.new⟩
/-- S holds at first, SB at the base, SF at last -/
def Sg (K : PySem.W.Frag) (S SB SF : Sta) (L : List Addr) (ts : TS) (ρ : List (Option Dt)) (P : Po) : Prop := ∀ (D : Ends) (σ : L2.St) (B H : Hp), Bs SB L B H → S.I H → Slots K H σ ρ → Ft K SF P D B → ts D σ H
abbrev So (K : PySem.W.Frag) (S SF : Sta) (L : List Addr) (ts : TS) (ρ : List (Option Dt)) (P : Po) : Prop := Sg K S SF SF L ts ρ P
section
variable {K : PySem.W.Frag} {S S1 S2 SB SF : Sta} {L : List Addr} {ρ : List (Option Dt)} {P : Po} {ta tb te tl : TE} {c : TT} {t u w : TS} {Φ Ψ Θ : Dt → Prop} {x y z d : Dt} {D : Ends} {H H' : Hp}
theorem Ft.mono (f : Ft K SF P D H) (g : Gr H H') : Ft K SF P D H' := ⟨fun σ ρ H2 g2 => f.nx σ ρ H2 (g.trans g2), fun v d H2 g2 => f.rt v d H2 (g.trans g2), fun σ ρ H2 g2 => f.bk σ ρ H2 (g.trans g2), fun σ ρ H2 g2 => f.ct σ ρ H2 (g.trans g2)⟩
theorem Ft.le (f : Ft K SF P D H) (l : S.Le SF) : Ft K S P D H := ⟨fun σ ρ H2 g2 i2 => f.nx σ ρ H2 g2 (l _ i2), fun v d H2 g2 i2 => f.rt v d H2 g2 (l _ i2), fun σ ρ H2 g2 i2 => f.bk σ ρ H2 g2 (l _ i2), fun σ ρ H2 g2 i2 => f.ct σ ρ H2 g2 (l _ i2)⟩
theorem so_next (l : S.Le SF) (h : P.nx ρ) : Sg K S SB SF L tNext ρ P := fun D σ B H b i s f => f.nx σ ρ H b.gr (l _ i) s h
/-- a statement that leaves what holds and the loose lists, in the middle -/
theorem so_mid {M : List (Option Dt) → Prop} (l : S.Le SF) (h1 : So K S S [] t ρ { P with nx := M }) (h2 : ∀ ρ', M ρ' → Sg K S SB SF L u ρ' P) : Sg K S SB SF L (tSeq t u) ρ P := fun D σ B H b i s f =>
  h1 { D with nx := u D } σ H H ⟨Gr.refl H, i, fun _ z => nomatch z⟩ i s ⟨fun σ' ρ' H' g i' s' m => h2 ρ' m D σ' B H' (b.up g) i' s' f, ((f.mono b.gr).le l).rt, ((f.mono b.gr).le l).bk, ((f.mono b.gr).le l).ct⟩
/-- a statement, then the rest, the loose lists kept -/
theorem so_seqG {M : List (Option Dt) → Prop} (l : S1.Le SF) (h1 : Sg K S SB S1 L t ρ { P with nx := M }) (h2 : ∀ ρ', M ρ' → Sg K S1 SB SF L u ρ' P) : Sg K S SB SF L (tSeq t u) ρ P := fun D σ B H b i s f =>
  h1 { D with nx := u D } σ B H b i s ⟨fun σ' ρ' H' g i' s' m => h2 ρ' m D σ' B H' ⟨g, b.i, b.new⟩ i' s' f, (f.le l).rt, (f.le l).bk, (f.le l).ct⟩
theorem so_skip (h : Sg K S SB SF L w ρ P) : Sg K S SB SF L (tSeq tNext w) ρ P := fun D σ B H b i s f => h D σ B H b i s f
theorem so_assoc (h : Sg K S SB SF L (tSeq t (tSeq u w)) ρ P) : Sg K S SB SF L (tSeq (tSeq t u) w) ρ P := fun D σ B H b i s f => h D σ B H b i s f
theorem so_ret (h : Ev K S S1 ρ te Φ) (l : S1.Le SF) (q : ∀ d, Φ d → P.rt d) : Sg K S SB SF L (tRet te) ρ P := fun D σ B H b i s f => h σ H i s _ fun v d H1 g1 i1 r1 p1 => f.rt v d H1 (b.gr.trans g1) (l _ i1) r1 (q d p1)
theorem so_retD (h : Ev K S S1 ρ te (Eq d)) (l : S1.Le SF) (q : P.rt d) : Sg K S SB SF L (tRet te) ρ P := so_ret h l fun _ e => e ▸ q
theorem so_ret1 (h : Ev K S S1 ρ te Φ) (l : S1.Le SF) (q : ∀ d, Φ d → P.rt d) : Sg K S SB SF L (tSeq (tRet te) w) ρ P := fun D σ B H b i s f => h σ H i s _ fun v d H1 g1 i1 r1 p1 => f.rt v d H1 (b.gr.trans g1) (l _ i1) r1 (q d p1)
theorem so_ret1D (h : Ev K S S1 ρ te (Eq d)) (l : S1.Le SF) (q : P.rt d) : Sg K S SB SF L (tSeq (tRet te) w) ρ P := so_ret1 h l fun _ e => e ▸ q
/-- x = e -/
theorem so_set {j : Nat} (h : Ev K S S1 ρ te Φ) (q : ∀ d, Φ d → Sg K S1 SB SF L w (ρ.set j (some d)) P) : Sg K S SB SF L (tSeq (tAsg te (gName j)) w) ρ P := fun D σ B H b i s f =>
  h σ H i s _ fun v d H1 g1 i1 r1 p1 => q d p1 D _ B H1 (b.up g1) i1 ((s.mono g1).set r1 j) f
theorem so_setD {j : Nat} (h : Ev K S S1 ρ te (Eq d)) (q : Sg K S1 SB SF L w (ρ.set j (some d)) P) : Sg K S SB SF L (tSeq (tAsg te (gName j)) w) ρ P := so_set h fun _ e => e ▸ q
theorem so_set0 {j : Nat} (h : Ev K S S1 ρ te Φ) (l : S1.Le SF) (q : ∀ d, Φ d → P.nx (ρ.set j (some d))) : Sg K S SB SF L (tAsg te (gName j)) ρ P := fun D σ B H b i s f =>
  h σ H i s _ fun v d H1 g1 i1 r1 p1 => f.nx _ _ H1 (b.gr.trans g1) (l _ i1) ((s.mono g1).set r1 j) (q d p1)
theorem so_set0D {j : Nat} (h : Ev K S S1 ρ te (Eq d)) (l : S1.Le SF) (q : P.nx (ρ.set j (some d))) : Sg K S SB SF L (tAsg te (gName j)) ρ P := so_set0 h l fun _ e => e ▸ q
theorem so_if {Φb : Bool → Prop} (h : EvT K S S1 ρ c Φb) (h1 : Φb true → Sg K S1 SB SF L (tSeq t w) ρ P) (h2 : Φb false → Sg K S1 SB SF L (tSeq u w) ρ P) : Sg K S SB SF L (tSeq (tIfS c t u) w) ρ P := fun D σ B H b i s f => h σ H i s _ fun k H1 g1 i1 p1 => by
  cases k with
  | true => rw [if_pos rfl]; exact h1 p1 D σ B H1 (b.up g1) i1 (s.mono g1) f
  | false => rw [if_neg Bool.false_ne_true]; exact h2 p1 D σ B H1 (b.up g1) i1 (s.mono g1) f
theorem so_if0 {Φb : Bool → Prop} (h : EvT K S S1 ρ c Φb) (h1 : Φb true → Sg K S1 SB SF L t ρ P) (h2 : Φb false → Sg K S1 SB SF L u ρ P) : Sg K S SB SF L (tIfS c t u) ρ P := fun D σ B H b i s f => h σ H i s _ fun k H1 g1 i1 p1 => by
  cases k with
  | true => rw [if_pos rfl]; exact h1 p1 D σ B H1 (b.up g1) i1 (s.mono g1) f
  | false => rw [if_neg Bool.false_ne_true]; exact h2 p1 D σ B H1 (b.up g1) i1 (s.mono g1) f
theorem so_ifD {k : Bool} (h : EvT K S S1 ρ c (Eq k)) (h1 : k = true → Sg K S1 SB SF L (tSeq t w) ρ P) (h2 : k = false → Sg K S1 SB SF L (tSeq u w) ρ P) : Sg K S SB SF L (tSeq (tIfS c t u) w) ρ P := so_if h h1 h2
theorem so_ifF (h : EvT K S S1 ρ c (Eq false)) (h1 : Sg K S1 SB SF L (tSeq u w) ρ P) : Sg K S SB SF L (tSeq (tIfS c t u) w) ρ P := so_if h (fun e => nomatch e) fun _ => h1
theorem so_if0F (h : EvT K S S1 ρ c (Eq false)) (h1 : Sg K S1 SB SF L u ρ P) : Sg K S SB SF L (tIfS c t u) ρ P := so_if0 h (fun e => nomatch e) fun _ => h1
/-- a, b, .. = e -/
def gNames : List Nat → TGs
  | [] => gNil
  | i :: is => gCons (gName i) (gNames is)
def setAll (ρ : List (Option Dt)) : List Nat → List Dt → List (Option Dt)
  | i :: is, d :: ds => setAll (ρ.set i (some d)) is ds
  | _, _ => ρ
theorem names_run {Q : L2.St → Hp → Prop} : ∀ {is : List Nat} {vs : List V} {ds : List Dt} {σ : L2.St} {ρ : List (Option Dt)}, Slots K H σ ρ → RepA K H vs ds → ds.length = is.length → (∀ σ', Slots K H σ' (setAll ρ is ds) → Q σ' H) → gNames is vs σ H Q
  | [], _, _, σ, ρ, s, .nil, _, q => ⟨rfl, q σ s⟩
  | i :: is, _, _, σ, ρ, s, .cons (v := v) (vs := vs) (d := d) (ds := ds) r ra, hl, q => ⟨v, vs, rfl, names_run (is := is) (s.set r i) ra (by simpa using hl) q⟩
  | [], _, _, _, _, _, .cons _ _, hl, _ => by simp at hl
  | _ :: _, _, _, _, _, _, .nil, hl, _ => by simp at hl
theorem so_unp {n : Nat} {g : TGs} {is : List Nat} {xs : List Dt} (h : Ev K S S1 ρ te (Eq (.tup xs))) (hg : g = gNames is) (hn : xs.length = n) (hi : xs.length = is.length) (q : Sg K S1 SB SF L w (setAll ρ is xs) P) : Sg K S SB SF L (tSeq (tAsg te (gTup K n g)) w) ρ P := fun D σ B H b i s f =>
  h σ H i s _ fun v d H1 g1 i1 r1 p1 => by
    subst p1 hg
    obtain ⟨a, vs, rfl, ht, ra⟩ := r1.tupI
    exact ⟨a, vs, rfl, ht, ra.len.trans hn, names_run (s.mono g1) ra hi fun σ' s' => q D σ' B H1 (b.up g1) i1 s' f⟩

/-! loops -/
theorem so_forT {j : Nat} {xs : List Dt} (h : Ev K S S ρ tl (Eq (.tup xs))) (J : Nat → List (Option Dt) → Prop) (h0 : J 0 ρ)
    (hs : ∀ i x ρ', xs[i]? = some x → J i ρ' → So K S S [] t (ρ'.set j (some x)) { P with nx := J (i + 1), ct := J (i + 1), bk := P.nx }) (hd : ∀ ρ', J xs.length ρ' → P.nx ρ') : Sg K S SB S L (tFor (iTup K tl) (gName j) t) ρ P := fun D σ B H b i s f0 =>
  have f := f0.mono b.gr
  h σ H i s _ fun v d H1 g1 i1 r1 p1 => by
    subst p1
    obtain ⟨a, vs, rfl, ht, ra⟩ := r1.tupI
    refine ⟨a, rfl, ⟨vs, ht⟩, for_tup (K := K) (a := a) (xs := vs) (fun n σ' H' => Gr H1 H' ∧ S.I H' ∧ ∃ ρ', Slots K H' σ' ρ' ∧ J n ρ') ⟨Gr.refl H1, i1, ρ, s.mono g1, h0⟩ (fun n σ' H' _ p => p.1.sqT ht) (fun n x σ' H' hx p => ?_) fun σ' H' p => ?_⟩
    · obtain ⟨g2, i2, ρ', s2, jn⟩ := p
      obtain ⟨d, hd', rd⟩ := ra.ta hx
      refine hs n d ρ' hd' jn _ _ H' H' ⟨Gr.refl H', i2, fun _ z => nomatch z⟩ i2 (s2.set (rd.mono g2) j) ⟨fun σ3 ρ3 H3 g3 i3 s3 q => ⟨g2.trans g3, i3, ρ3, s3, q⟩, fun v3 d3 H3 g3 => f.rt v3 d3 H3 ((g1.trans g2).trans g3), fun σ3 ρ3 H3 g3 i3 s3 q => f.nx σ3 ρ3 H3 ((g1.trans g2).trans g3) i3 s3 q, fun σ3 ρ3 H3 g3 i3 s3 q => ⟨g2.trans g3, i3, ρ3, s3, q⟩⟩
    · obtain ⟨g2, i2, ρ', s2, jn⟩ := p
      rw [ra.len] at jn
      exact f.nx σ' ρ' H' (g1.trans g2) i2 s2 (hd ρ' jn)
/-- for i in range(n): what holds may turn with each round (Z) -/
theorem so_forR {j n : Nat} {ta : TA} {Z : Nat → Sta} (h : EvA K S (Z 0) ρ ta (Eq [.int n])) (hn : n < 2 ^ 62) (hz : ∀ i, i ≤ n → (Z i).Le SF) (hup : ∀ i, i < n → (Z i).Le (Z (i + 1))) (J : Nat → List (Option Dt) → Prop) (h0 : J 0 ρ)
    (hs : ∀ (i : Nat) ρ', i < n → J i ρ' → So K (Z i) (Z (i + 1)) [] t (ρ'.set j (some (.int i))) { P with nx := J (i + 1), ct := J (i + 1), bk := P.nx }) (hd : ∀ ρ', J n ρ' → P.nx ρ') : Sg K S SB SF L (tFor (iRng1 ta) (gName j) t) ρ P := fun D σ B H b i s f0 =>
  have f := f0.mono b.gr
  h σ H i s _ fun vs ds H1 g1 i1 r1 p1 => by
    subst p1
    obtain ⟨v, rfl, rv⟩ := r1.oneI
    obtain rfl := rv.intI
    refine ⟨n, rfl, by omega, by omega, ?_⟩
    rw [Int.toNat_natCast]
    refine for_range (lo := 0) (n := n) (fun m σ' H' => Gr H1 H' ∧ (Z m).I H' ∧ ∃ ρ', Slots K H' σ' ρ' ∧ J m ρ') ⟨Gr.refl H1, i1, ρ, s.mono g1, h0⟩ (fun m σ' H' hm p => ?_) fun σ' H' p => ?_
    · obtain ⟨g2, i2, ρ', s2, jn⟩ := p
      rw [Int.zero_add]
      have l := hz (m + 1) hm
      exact hs m ρ' hm jn _ _ H' H' ⟨Gr.refl H', hup m hm _ i2, fun _ z => nomatch z⟩ i2 (s2.set (.int _) j) ⟨fun σ3 ρ3 H3 g3 i3 s3 q => ⟨g2.trans g3, i3, ρ3, s3, q⟩, fun v3 d3 H3 g3 i3 => f.rt v3 d3 H3 ((g1.trans g2).trans g3) (l _ i3), fun σ3 ρ3 H3 g3 i3 s3 q => f.nx σ3 ρ3 H3 ((g1.trans g2).trans g3) (l _ i3) s3 q, fun σ3 ρ3 H3 g3 i3 s3 q => ⟨g2.trans g3, i3, ρ3, s3, q⟩⟩
    · obtain ⟨g2, i2, ρ', s2, jn⟩ := p
      exact f.nx σ' ρ' H' (g1.trans g2) (hz n (Nat.le_refl n) _ i2) s2 (hd ρ' jn)
end

/-! ### E. comprehensions: the list that grows is none of the items' -/
mutual
def nol : Dt → Bool
  | .lst _ => false
  | .lat _ _ => false
  | .tup xs => nolA xs
  | .ins _ _ xs => nolA xs
  | .err _ _ d => nol d
  | .dct ks xs => nolA ks && nolA xs
  | .dti _ _ xs => nolA xs
  | .dat _ _ ks xs => nolA ks && nolA xs
  | .cel _ _ => false
  | _ => true
def nolA : List Dt → Bool
  | [] => true
  | x :: xs => nol x && nolA xs
end
section
variable {K : PySem.W.Frag} {H : Hp} {D : Addr} {acc : List V} {o : HO}
theorem upd_other {a : Addr} {u : HO} (hD : H D = some (.lst acc)) (ha : H a = some u) (hu : ∀ xs, u ≠ .lst xs) : upd H D o a = some u := by
  rw [upd_ne (fun e => by rw [e, hD] at ha; exact hu acc (Option.some.inj ha).symm)]
  exact ha
mutual
theorem Rep.off (hD : H D = some (.lst acc)) : ∀ {v : V} {d : Dt}, nol d = true → Rep K H v d → Rep K (upd H D o) v d
  | _, _, _, .non => .non
  | _, _, _, .bl b => .bl b
  | _, _, _, .int i => .int i
  | _, _, _, .str x => .str x
  | _, _, h, .lst _ _ => by simp [nol] at h
  | _, _, h, .tup q r => .tup (by
      rcases q with (q | ⟨o', q⟩) | q
      · exact .inl (.inl (upd_other hD q fun _ z => nomatch z))
      · exact .inl (.inr ⟨o', upd_other hD q fun _ z => nomatch z⟩)
      · exact .inr q) (r.off hD (by simpa [nol] using h))
  | _, _, _, .dic h => .dic (upd_other hD h fun _ z => nomatch z)
  | _, _, h, .ins q r => .ins (upd_other hD q fun _ z => nomatch z) (r.off hD (by simpa [nol] using h))
  | _, _, _, .raw v => .raw v
  | _, _, h, .lat _ _ => by simp [nol] at h
  | _, _, h, .err q1 q2 r => .err (upd_other hD q1 fun _ z => nomatch (show HO.ext _ = HO.lst _ from z)) (upd_other hD q2 fun _ z => nomatch z) (r.off hD (by simpa [nol] using h))
  | _, _, h, .dct q r1 r2 => .dct (upd_other hD q fun _ z => nomatch (show HO.ext _ = HO.lst _ from z)) (r1.off hD (Bool.and_eq_true_iff.mp (by simpa only [nol] using h)).1) (r2.off hD (Bool.and_eq_true_iff.mp (by simpa only [nol] using h)).2)
  | _, _, h, .dti q l r => .dti (upd_other hD q fun _ z => nomatch (show HO.dK _ = HO.lst _ from z)) l (r.off hD (by simpa only [nol] using h))
  | _, _, h, .cel _ _ => by simp [nol] at h
  | _, _, h, .dat q l r1 r2 => .dat (upd_other hD q fun _ z => nomatch (show HO.ext _ = HO.lst _ from z)) l (r1.off hD (Bool.and_eq_true_iff.mp (by simpa only [nol] using h)).1) (r2.off hD (Bool.and_eq_true_iff.mp (by simpa only [nol] using h)).2)
theorem RepA.off (hD : H D = some (.lst acc)) : ∀ {vs : List V} {ds : List Dt}, nolA ds = true → RepA K H vs ds → RepA K (upd H D o) vs ds
  | _, _, _, .nil => .nil
  | _, _, h, .cons q r => by
    simp only [nolA, Bool.and_eq_true] at h
    exact .cons (q.off hD h.1) (r.off hD h.2)
end
end
theorem nolA_all : ∀ {xs : List Dt}, nolA xs = true ↔ ∀ x ∈ xs, nol x = true
  | [] => by simp [nolA]
  | x :: xs => by simp [nolA, nolA_all]
theorem wipe_set (ν : Option V) (j : Nat) : ∀ (vs : List Nat) (σ : L2.St), (L2.wipe (σ.set j ν) vs).set j none = (L2.wipe σ vs).set j none
  | [], σ => by simp [L2.wipe, List.set_set]
  | v :: vs, σ => by
    show ((L2.wipe (σ.set j ν) vs).set v none).set j none = ((L2.wipe σ vs).set v none).set j none
    by_cases h : v = j
    · subst h
      rw [wipe_set ν v vs σ]
    · rw [List.set_comm _ _ h, wipe_set ν j vs σ, List.set_comm _ _ h]
theorem wipe_in (ν : Option V) (j : Nat) : ∀ (vs : List Nat) (σ : L2.St), j ∈ vs → L2.wipe (σ.set j ν) vs = L2.wipe σ vs
  | v :: vs, σ, h => by
    show (L2.wipe (σ.set j ν) vs).set v none = (L2.wipe σ vs).set v none
    by_cases e : v = j
    · subst e
      exact wipe_set ν v vs σ
    · rw [wipe_in ν j vs σ ((List.mem_cons.mp h).resolve_left (Ne.symm e))]
theorem wipe_twice : ∀ (vs : List Nat) (σ : L2.St), L2.wipe (L2.wipe σ vs) vs = L2.wipe σ vs
  | [], σ => rfl
  | v :: vs, σ => by
    show (L2.wipe ((L2.wipe σ vs).set v none) vs).set v none = (L2.wipe σ vs).set v none
    rw [wipe_set none v vs, wipe_twice vs σ]
theorem wipe_put (ν : Option V) {j : Nat} {vs : List Nat} (σ : L2.St) (h : j ∈ vs) : L2.wipe ((L2.wipe σ vs).set j ν) vs = L2.wipe σ vs := by
  rw [wipe_in ν j vs _ h, wipe_twice]
/-- a list may turn under what holds all along -/
def Sta.Mu (S : Sta) : Prop := ∀ {H1 H : Hp} {D : Addr} {o : HO} {ws : List V}, S.I H1 → Gr H1 H → H1 D = none → H D = some (.lst ws) → S.I H → S.I (upd H D o)
theorem gr_off {H1 H : Hp} {D : Addr} {o : HO} (g : Gr H1 H) (h : H1 D = none) : Gr H1 (upd H D o) := fun a u e d => by
  rw [upd_ne (ne_of_none e h)]
  exact g a u e d
section
variable {K : PySem.W.Frag} {S S1 : Sta} {ρ : List (Option Dt)} {te tl : TE} {tt : TT} {vs : List Nat} {j : Nat}
/-- a comprehension over a source whose items are told; every item's data such that Φ i, or left out -/
theorem lc_turns {g : L2.St} {H1 : Hp} {D : Addr} {σ : L2.St} (hmu : ∀ {H2 : Hp} {o : HO} {ws : List V}, Gr H1 H2 → H2 D = some (.lst ws) → S1.I H2 → S1.I (upd H2 D o)) (le : S.Le S1) (hD : H1 D = none) {Z : Nat → List Dt → Prop} {i : Nat} {acc : List V} {ds : List Dt} {x : V} {dx : Dt} {H : Hp} (hj : j ∈ vs)
    {p : Bool} {Φ : Dt → Prop} (s : Slots K H1 σ ρ) (gH : Gr H1 H) (iH : S.I H) (hH : H D = some (.lst acc)) (ra : RepA K H acc ds) (hnol : nolA ds = true) (rx : Rep K H x dx)
    (hz : ds.length < sizeLine) (ht : EvT K S S ((wipeD ρ vs).set j (some dx)) tt (Eq p)) (he : p = true → Ev K S S1 ((wipeD ρ vs).set j (some dx)) te (fun d => Φ d ∧ nol d = true))
    {Pv : Hp → Prop} (hy : p = true → ∀ H' acc' d, Φ d → nol d = true → Gr H1 H' → S1.I H' → H' D = some (.lst acc') → RepA K H' acc' (ds ++ [d]) → Pv H') (hn : p = false → ∀ H', Gr H1 H' → S1.I H' → H' D = some (.lst acc) → RepA K H' acc ds → Pv H') :
    gName j x (L2.wipe σ vs) H fun σ2 H2 => L2.wipe σ2 vs = L2.wipe σ vs ∧ tt σ2 H2 fun b H3 => if b = true then te σ2 H3 fun y H4 => ∃ acc, H4 D = some (.lst acc) ∧ acc.length < sizeLine ∧ Pv (upd H4 D (.lst (acc ++ [y]))) else Pv H3 := by
  refine ⟨wipe_put _ σ hj, ht _ H iH (((s.mono gH).wipe vs).set rx j) _ fun b H3 g3 i3 p3 => ?_⟩
  subst p3
  have hH3 : H3 D = some (.lst acc) := g3 _ _ hH rfl
  cases p with
  | false =>
    rw [if_neg Bool.false_ne_true]
    exact hn rfl H3 (gH.trans g3) (le _ i3) hH3 (ra.mono g3)
  | true =>
    rw [if_pos rfl]
    refine he rfl _ H3 i3 (((s.mono (gH.trans g3)).wipe vs).set (rx.mono g3) j) _ fun y d H4 g4 i4 r4 p4 => ?_
    have hH4 : H4 D = some (.lst acc) := g4 _ _ hH3 rfl
    have ra4 := ra.mono (g3.trans g4)
    refine ⟨acc, hH4, by rw [ra4.len]; exact hz, hy rfl _ (acc ++ [y]) d p4.1 p4.2 (gr_off ((gH.trans g3).trans g4) hD) (hmu ((gH.trans g3).trans g4) hH4 i4) upd_same ?_⟩
    exact (ra4.off hH4 hnol).app (.cons (r4.off hH4 p4.2) .nil)
/-- [te for x in a tuple if tt], the element a function of the item -/
theorem ev_lcT {xs : List Dt} {f : Dt → Dt} {p : Dt → Bool} (hmu : S.Mu) (h : Ev K S S ρ tl (Eq (.tup xs))) (hj : j ∈ vs) (hz : xs.length ≤ 100000) (ht : ∀ x ∈ xs, EvT K S S ((wipeD ρ vs).set j (some x)) tt (Eq (p x)))
    (he : ∀ x ∈ xs, p x = true → Ev K S S ((wipeD ρ vs).set j (some x)) te (Eq (f x))) (hf : ∀ x ∈ xs, p x = true → nol (f x) = true) : Ev K S S ρ (tLc (iTup K tl) (gName j) tt te vs) (Eq (.lst ((xs.filter p).map f))) := fun σ H i s Q q =>
  h σ H i s _ fun v d H1 g1 i1 r1 p1 => by
    subst p1
    obtain ⟨a, us, rfl, hT, ra⟩ := r1.tupI
    refine ⟨a, rfl, ⟨us, hT⟩, fun D hD => lc_tup (K := K) (a := a) (xs := us) (fun n H' => Gr H1 H' ∧ S.I H' ∧ ∃ acc, H' D = some (.lst acc) ∧ RepA K H' acc (((xs.take n).filter p).map f)) ⟨(same_new hD).gr, S.st i1 (same_new hD), [], upd_same, .nil⟩
      (fun n H' _ q' => q'.1.sqT hT) (fun n x H' hx q' => ?_) fun H' q' => ?_⟩
    · obtain ⟨g2, i2, acc, ha, rac⟩ := q'
      obtain ⟨dx, hdx, rdx⟩ := ra.ta hx
      have hmem : dx ∈ xs := List.mem_of_getElem? hdx
      have htake : xs.take (n + 1) = xs.take n ++ [dx] := by rw [List.take_add_one, hdx]; rfl
      have hnol : nolA (((xs.take n).filter p).map f) = true := nolA_all.mpr fun y hy => by
        obtain ⟨z, hz1, rfl⟩ := List.mem_map.mp hy
        obtain ⟨hz2, hz3⟩ := List.mem_filter.mp hz1
        exact hf z (List.mem_of_mem_take hz2) hz3
      refine lc_turns (g := σ) (Z := fun _ _ => True) (i := n) (acc := acc) (ds := ((xs.take n).filter p).map f) (dx := dx) (p := p dx) (Φ := Eq (f dx)) (S := S) (S1 := S) (fun g e i => hmu i1 g hD e i) (Sta.Le.refl S) hD hj (s.mono g1) g2 i2 ha rac hnol (rdx.mono g2) ?_ (ht dx hmem) (fun e => (he dx hmem e).weak fun d e2 => ⟨e2, e2 ▸ hf dx hmem e⟩) (fun e H2 acc' d e1 _ g3 i3 h3 r3 => ?_) fun e H2 g3 i3 h3 r3 => ?_
      · rw [List.length_map]
        refine Nat.lt_of_le_of_lt (List.length_filter_le _ _) ?_
        refine Nat.lt_of_le_of_lt (List.length_take_le _ _) (Nat.lt_of_le_of_lt (Nat.le_trans (Nat.le_of_lt ?_) hz) (by decide))
        have := (List.getElem?_eq_some_iff.mp hdx).1
        exact this
      · subst e1
        refine ⟨g3, i3, acc', h3, ?_⟩
        rw [htake, List.filter_append, List.map_append]
        simpa [List.filter_cons, e] using r3
      · refine ⟨g3, i3, acc, h3, ?_⟩
        rw [htake, List.filter_append, List.map_append]
        simpa [List.filter_cons, e] using r3
    · obtain ⟨g2, i2, acc, ha, rac⟩ := q'
      rw [ra.len, List.take_length] at rac
      exact q _ _ H' (g1.trans g2) i2 (.lst (SqL.of ha) rac) rfl
end

/-- all that was is as it was -/
def staSameQ (H : Hp) : Sta := ⟨fun H' => Same H H', fun a b => a.trans b⟩
/-! lists that may be changed -/
section
variable {K : PySem.W.Frag} {S SB SF : Sta} {L : List Addr} {ρ : List (Option Dt)} {P : Po} {te : TE} {w : TS} {x d : Dt} {D : Ends} {H H' : Hp}
/-- a list that is made on the way: it is new at some H1 in between, nothing else knows it -/
def EvN (K : PySem.W.Frag) (S S' : Sta) (ρ : List (Option Dt)) (te : TE) (xs : List Dt) : Prop := ∀ (σ : L2.St) (H : Hp), S.I H → Slots K H σ ρ → ∀ Q : VK,
  (∀ p vs H1 H', Gr H H1 → S'.I H1 → H1 p = none → Gr H1 H' → S'.I H' → H' p = some (.lst vs) → RepA K H' vs xs → Q (.ref p) H') → te σ H Q
theorem EvN.to {S1 : Sta} {xs ys : List Dt} (h : EvN K S S1 ρ te xs) (e : xs = ys) : EvN K S S1 ρ te ys := e ▸ h
/-- what holds bears that a loose list is changed -/
def Loose (S SF : Sta) : Prop := ∀ {B H : Hp} {p : Addr} {vs : List V} {o : HO}, SF.I B → Gr B H → B p = none → H p = some (.lst vs) → S.I H → S.I (upd H p o)
end
end Bf
namespace Bf
open PySem PySem.Spec PyProof.Rows L2

/-! ### F. what kind a thing is -/
/-- the name of a thing's class (not of an instance, not of a value by itself) -/
def tyN : Dt → Option String
  | .non => some "NoneType"
  | .bl _ => some "bool"
  | .int _ => some "int"
  | .str _ => some "str"
  | .lst _ => some "list"
  | .tup _ => some "tuple"
  | .dic => some "dict"
  | .raw (.ty _) => none
  | _ => none
section
variable {K : PySem.W.Frag} {S : Sta} {ρ : List (Option Dt)} {H : Hp} {d : Dt} {v : V} {n T : String}
theorem Rep.ty (r : Rep K H v d) (h : tyN d = some n) : TyX K H v (.type n) := by
  cases r with
  | non => cases h; exact .base .non
  | bl b => cases h; exact .base (.bl b)
  | int i => cases h; exact .base (.int i)
  | str x => cases h; exact .base (.str x)
  | lst q r =>
    cases h
    rcases q with (q | ⟨o, q⟩) | ⟨o, its, n, hk, hc, _⟩
    · exact .base (.lst q)
    · exact .base (.frz q)
    · exact .kList hk hc
  | tup q r =>
    cases h
    rcases q with (q | ⟨o, q⟩) | ⟨o, its, n, hk, hc, _⟩
    · exact .base (.tup q)
    · exact .fTuple q
    · exact .kTuple hk hc
  | dic q => cases h; exact .base (.dK q)
  | ins q r => cases h
  | raw v => cases v <;> cases h
  | lat q r => cases h
  | err q1 q2 r => cases h
  | dct q r1 r2 => cases h
  | dti q l r => cases h
  | dat q l r1 r2 => cases h
  | cel q e => cases h
end

/-! ### G. == and repr of data without dicts, instances -/
mutual
def py : Dt → PyData
  | .non => .none
  | .bl b => .bool b
  | .int i => .int i
  | .str x => .str x
  | .lst xs => .list (pyA xs)
  | .tup xs => .tuple (pyA xs)
  | .dic => .dict []
  | .ins _ _ _ => .none
  | .raw _ => .none
  | .lat _ _ => .none
  | .err _ _ _ => .none
  | .dct _ _ => .none
  | .dti _ _ _ => .none
  | .dat _ _ _ _ => .none
  | .cel _ _ => .none
def pyA : List Dt → List PyData
  | [] => []
  | x :: xs => py x :: pyA xs
end
mutual
/-- no dict, no instance, no value by itself -/
def pur : Dt → Bool
  | .lst xs => purA xs
  | .tup xs => purA xs
  | .dic => false
  | .ins _ _ _ => false
  | .raw _ => false
  | .lat _ _ => false
  | .err _ _ _ => false
  | .dct _ _ => false
  | .dti _ _ _ => false
  | .dat _ _ _ _ => false
  | .cel _ _ => false
  | _ => true
def purA : List Dt → Bool
  | [] => true
  | x :: xs => pur x && purA xs
end
section
variable {K : PySem.W.Frag} {H : Hp}
mutual
theorem Rep.dp : ∀ {v : V} {d : Dt}, pur d = true → Rep K H v d → Dp K H v (py d)
  | _, _, _, .non => by unfold py; exact .non
  | _, _, _, .bl b => by unfold py; exact .bl b
  | _, _, _, .int i => by unfold py; exact .int i
  | _, _, _, .str x => by unfold py; exact .str x
  | _, _, h, .lst q r => by unfold py; exact .lst q (r.dp (by simpa [pur] using h))
  | _, _, h, .tup q r => by unfold py; exact .tup q (r.dp (by simpa [pur] using h))
  | _, _, h, .dic _ => by simp [pur] at h
  | _, _, h, .ins _ _ => by simp [pur] at h
  | _, _, h, .raw _ => by simp [pur] at h
  | _, _, h, .lat _ _ => by simp [pur] at h
  | _, _, h, .err _ _ _ => by simp [pur] at h
  | _, _, h, .dct _ _ _ => by simp [pur] at h
  | _, _, h, .dti _ _ _ => by simp [pur] at h
  | _, _, h, .dat _ _ _ _ => by simp [pur] at h
  | _, _, h, .cel _ _ => by simp [pur] at h
theorem RepA.dp : ∀ {vs : List V} {ds : List Dt}, purA ds = true → RepA K H vs ds → DpAll K H vs (pyA ds)
  | _, _, _, .nil => by unfold pyA; exact .nil
  | _, _, h, .cons q r => by
    simp only [purA, Bool.and_eq_true] at h
    unfold pyA
    exact .cons (q.dp h.1) (r.dp h.2)
end
end
/-- fit to be compared -/
def cmpOk (d : Dt) : Bool := pur d && SeqAt.shaped (py d)
section
variable {K : PySem.W.Frag} {S : Sta} {x y : Dt}
theorem rv_neD (hx : cmpOk x = true) (hy : cmpOk y = true) : Rv2 K S (rNeD K) x y (Eq (.bl (!PyData.eqv (py x) (py y)))) := rv_at fun H v u _ r1 r2 Q q => by
  simp only [cmpOk, Bool.and_eq_true] at hx hy
  exact ⟨_, _, r1.dp hx.1, r2.dp hy.1, hx.2, hy.2, q _ (.bl _)⟩
end
/-- repr(x) -/
def rRepr (K : PySem.W.Frag) : List V → Hp → VK → Prop := fun xs H Q => ∃ x d, xs = [x] ∧ Dp K H x d ∧ d.showable = true ∧ SeqAt.shaped d = true ∧ d.shown.length ≤ sizeLine ∧ Q (.str d.shown) H
theorem call_reprD {X : Cx} (hg : X.A.guards = some []) (hu : X.A.units + 70 < cLine) : CallR X (.builtin "repr") (rRepr X.K) := by
  intro pins s σ H xs us Q I r h
  obtain ⟨x, d, rfl, hd, hs, hsh, hz, q⟩ := h
  obtain ⟨u, rfl, ru⟩ := vals1 r
  have hq : ∀ t, EP X pins σ Q (.str d.shown t) { s with toks := s.toks + 1 } := fun t => ⟨.str _, H, I.tok _, ⟨_, rfl⟩, q⟩
  cases hd with
  | non => cases ru; exact PySem.P.repr_of_none (by simpa [PyData.shown] using hq _)
  | bl b => cases ru; exact PySem.P.repr_of_bool (by simpa [PyData.shown] using hq _)
  | int i =>
    obtain ⟨t, rfl⟩ := ru
    exact PySem.P.repr_of_int (by simpa [PyData.showable] using hs) (by simpa [PyData.shown] using hq _)
  | str y =>
    obtain ⟨t, rfl⟩ := ru
    exact PySem.P.repr_of_str (by simpa [PyData.shown] using hq _) (by simpa [PyData.shown] using hz)
  | lst q1 q2 =>
    cases ru
    obtain ⟨as, rd⟩ := Dp.reads I _ _ _ (Dp.lst q1 q2) rfl
    have hdep := SeqAt.depth_of_shaped hsh
    exact repr_of_reads' rd hs (PyData.noDict_hsm (PyData.hasDict_of_canLay _ (SeqAt.canLay_of_shaped hsh))) hg (by omega) (fun _ _ e => e) (fun h' u tk hk => ⟨.str _, H, I.kept (t' := tk) hk, ⟨_, rfl⟩, q⟩) hz
  | tup q1 q2 =>
    cases ru
    obtain ⟨as, rd⟩ := Dp.reads I _ _ _ (Dp.tup q1 q2) rfl
    have hdep := SeqAt.depth_of_shaped hsh
    exact repr_of_reads' rd hs (PyData.noDict_hsm (PyData.hasDict_of_canLay _ (SeqAt.canLay_of_shaped hsh))) hg (by omega) (fun _ _ e => e) (fun h' u tk hk => ⟨.str _, H, I.kept (t' := tk) hk, ⟨_, rfl⟩, q⟩) hz
/-- fit to be shown -/
def shwOk (d : Dt) : Prop := cmpOk d = true ∧ (py d).showable = true ∧ (py d).shown.length ≤ sizeLine
theorem rc_repr {K : PySem.W.Frag} {S : Sta} {d : Dt} (h : shwOk d) : RvC K S (rRepr K) [d] (Eq (.str (py d).shown)) := rc_at fun H vs i r Q q => by
  obtain ⟨v, rfl, rv⟩ := r.oneI
  have h1 := h.1
  simp only [cmpOk, Bool.and_eq_true] at h1
  exact ⟨v, _, rfl, rv.dp h1.1, h.2.1, h1.2, h.2.2, q _ (.str _)⟩

/-! ### H. lists joined, whatever their lists are -/
def rCatS (K : PySem.W.Frag) : R2 := fun x y H Q => ∃ l b xs zs, x = .ref l ∧ y = .ref b ∧ SqL K H l xs ∧ SqL K H b zs ∧ xs.length + zs.length ≤ sizeLine ∧ ∀ p, H p = none → Q (.ref p) (upd H p (.lst (xs ++ zs)))
theorem op_catS {X : Cx} : OpR X (binaryOp .Add) (rCatS X.K) := by
  intro pins s σ H x y v u Q I rx ry h
  obtain ⟨l, b, xs, zs, rfl, rfl, h1, h2, hz, q⟩ := h
  cases rx
  cases ry
  obtain ⟨its, r1, ⟨⟨c1, d1, dt1, sl1⟩, n1, o1, e1, _, f1⟩, _⟩ := I.list h1
  obtain ⟨jts, r2, ⟨⟨c2, d2, dt2, sl2⟩, n2, o2, e2, _, f2⟩, _⟩ := I.list h2
  simp only at e1 e2 f1 f2
  subst e1 e2 f1 f2
  have l1 := r1.length
  have l2 := r2.length
  refine concat_meets ⟨_, o1, rfl⟩ ⟨_, o2, rfl⟩ noFill_list_add seq_list_add PySem.F.slot_list_add PySem.F.entry_list_add (PySem.F.args_list_add_2 _ _)
    (list_addW l b its.toArray jts.toArray n1 n2 d1 d2 sl1 sl2 (by rw [List.size_toArray, List.size_toArray]; omega)) ⟨o1, o2, ?_⟩
  rw [show its.toArray ++ jts.toArray = (its ++ jts).toArray by simp]
  exact ⟨.ref _, _, I.lnew (t' := s.toks) (r1.append r2) (by rw [List.length_append]; omega), rfl, q _ I.fresh⟩
section
variable {K : PySem.W.Frag} {S : Sta} {ρ : List (Option Dt)} {x y d : Dt}
theorem rv_catL {xs ys : List Dt} (hz : xs.length + ys.length ≤ sizeLine) : Rv2 K S (rCatS K) (.lst xs) (.lst ys) (Eq (.lst (xs ++ ys))) := fun H v u i r1 r2 Q q => by
  obtain ⟨a, vs, rfl, h1, ra⟩ := r1.lstI
  obtain ⟨b, us, rfl, h2, rb⟩ := r2.lstI
  exact ⟨a, b, vs, us, rfl, rfl, h1, h2, by rw [ra.len, rb.len]; exact hz, fun p hp => q _ _ _ (same_new hp).gr (S.st i (same_new hp)) (.lst (SqL.of upd_same) ((ra.app rb).mono (same_new hp).gr)) rfl⟩
/-! tuple(..), list(..) -/
/-! int(True) -/
/-! in a written tuple of ints -/
end

/-! ### I. a def over data, by its body -/
def startD (n : Nat) (ds : List Dt) : List (Option Dt) := ds.map some ++ List.replicate (n - ds.length) none
theorem slots_start {K : PySem.W.Frag} {H : Hp} {N : List Str} {vs : List V} {ds : List Dt} (r : RepA K H vs ds) : Slots K H (L2.start N vs) (startD N.length ds) := by
  refine ⟨by simp [L2.start, startD, r.len], fun i d h => ?_⟩
  unfold startD at h
  unfold L2.start
  by_cases hi : i < ds.length
  · rw [List.getElem?_append_left (by simpa using hi), List.getElem?_map] at h
    cases e : ds[i]? with
    | none => rw [e] at h; cases h
    | some d' =>
      rw [e] at h
      cases h
      obtain ⟨v, hv, rv⟩ := r.at_ e
      exact ⟨v, by rw [List.getElem?_append_left (by rw [List.length_map, r.len]; exact hi), List.getElem?_map, hv]; rfl, rv⟩
  · rw [List.getElem?_append_right (by simpa using hi), List.getElem?_replicate] at h
    split at h <;> cases h
/-- all that was is as it was -/
abbrev staSame (H : Hp) : Sta := staSameQ H
theorem staSame_mu {H : Hp} : (staSame H).Mu := fun {H1 H2 D o ws} i1 _ hD _ i2 b u e => by
  have hb : b ≠ D := fun z => by
    have y := i1 b u e
    rw [z, hD] at y
    cases y
  rw [upd_ne hb]
  exact i2 b u e
end Bf
namespace Bf
open PySem PySem.Spec PyProof.Rows L2
/-! ### J. the readings' names -/
abbrev rAddI : R2 := rI0 fun i j => .int (i + j)
abbrev rMulW : R2 := rI CMulW fun i j => .int (i * j)
abbrev rDivW : R2 := rI CDivW fun i j => .int (i / j)
abbrev rModI : R2 := rI (fun _ j => 0 < j) fun i j => .int (i % j)
abbrev rPowI : R2 := rI CPow fun i j => .int (i ^ j.toNat)
abbrev rLtI : R2 := rI0 fun i j => .bl (decide (i < j))
abbrev rLeI : R2 := rI0 fun i j => .bl (decide (i ≤ j))
abbrev rGtI : R2 := rI0 fun i j => .bl (decide (j < i))
abbrev rGeI : R2 := rI0 fun i j => .bl (decide (j ≤ i))
abbrev rNegI : V → Hp → VK → Prop := rU fun i => .int (-i)
section
variable {K : PySem.W.Frag} {S S1 S2 : Sta} {ρ : List (Option Dt)} {te tl ta : TE} {vs : List Nat} {j : Nat} {x y d : Dt} {t u : TT}
theorem ev_neg {i : Int} (h : Ev K S S1 ρ ta (Eq (.int i))) : Ev K S S1 ρ (tUn rNegI ta) (Eq (.int (-i))) := ev_un h fun H v _ r Q q => ⟨i, r.intI, q _ _ H (Gr.refl H) (by assumption) (.int _) rfl⟩
/-! and, or where the first answer decides -/
theorem et_orF {b : Bool} (ha : EvT K S S1 ρ t (Eq false)) (hb : EvT K S1 S1 ρ u (Eq b)) : EvT K S S1 ρ (tOr t u) (Eq b) := (et_or ha fun _ => hb).to (by rw [Bool.false_or])
/-! a < b < c where the first already fails, or not -/

/-! isinstance -/
def okN (d : Dt) : Bool := (tyN d).isSome
/-! [te for x in a list for y in (a tuple)] -/
end
end Bf
namespace Bf
open PySem PySem.Spec PyProof.Rows L2

/-! ### K. a def of the text -/
structure Cal (K : PySem.W.Frag) (mg : Str → Option Value) (x : Str) (st : Stmt) (ps : List Str) (f : Addr) (fd : FuncData) : Prop where
  fn : Fun K x x st f fd
  gl : mg x = some (.ref f)
  bp : BPos fd ps
def swpL : List Value → List Value
  | [a, b] => [b, a]
  | ws => ws
def swpV : List V → List V
  | [a, b] => [b, a]
  | ws => ws
theorem kws {n : Nat} : ∀ {vs : List V} {us : List Value}, Vals vs us → vs.length = n → Vals (swpV vs) (swpL us)
  | _, _, .nil, _ => .nil
  | _, _, .cons a .nil, _ => .cons a .nil
  | _, _, .cons a (.cons b .nil), _ => .cons b (.cons a .nil)
  | _, _, .cons a (.cons b (.cons c r)), _ => .cons a (.cons b (.cons c r))
/-! ### L. the draws' dict -/
def rSetD : TSet := fun o i v H Q => ∃ a H', o = .ref a ∧ DPut H a i v H' ∧ Q H'
theorem set_dict {X : Cx} (hu : X.A.units + 1 < cLine) : PSet X rSetD := by
  intro pins s σ H o i v ov iv u Q I ro ri rv h
  obtain ⟨a, H', rfl, g, q⟩ := h
  obtain rfl : ov = Value.ref a := ro
  exact d_setItem hu I g ri rv fun s4 I4 => ⟨H', I4, q⟩
def drK (c : Addr) (i l u : Int) : List (Key × V) := [(.inr "cells", .ref c), (.inr "at", .int i), (.inr "left", .int l), (.inr "used", .int u)]
section
variable {c : Addr} {i l u x : Int}
theorem dr_cells : valV (drK c i l u) (.inr "cells") = some (.ref c) := by with_unfolding_all rfl
theorem dr_at : valV (drK c i l u) (.inr "at") = some (.int i) := by with_unfolding_all rfl
theorem dr_left : valV (drK c i l u) (.inr "left") = some (.int l) := by with_unfolding_all rfl
theorem dr_used : valV (drK c i l u) (.inr "used") = some (.int u) := by with_unfolding_all rfl
theorem dr_pat : putK (drK c i l u) (.inr "at") (.int x) = drK c x l u := by with_unfolding_all rfl
theorem dr_pleft : putK (drK c i l u) (.inr "left") (.int x) = drK c i x u := by with_unfolding_all rfl
theorem dr_pused : putK (drK c i l u) (.inr "used") (.int x) = drK c i l x := by with_unfolding_all rfl
theorem dr_merge : mergeK [] [((.inr "cells" : Key), V.ref c), (.inr "at", .int i), (.inr "left", .int l), (.inr "used", .int u)] = drK c i l u := by with_unfolding_all rfl
end
/-- where the cells stand; the tables of code objects, and the name that each bears -/
structure CT where
  p : Addr
  tb : List (Addr × Str)
/-- an object that is no table and no code object turns: the tables stay -/
theorem tabs_upd {T : List (Addr × Str)} {H : Hp} {D : Addr} {o u : HO} (h : LamX.Tabs T H) (e : H D = some u) (h1 : ∀ ps, u ≠ .tbl ps) (h2 : ∀ f, u ≠ .ext f) : LamX.Tabs T (upd H D o) := fun p hp => by
  obtain ⟨ps, a1, a2, a3⟩ := h p hp
  have keep : ∀ {b : Addr} {x : HO}, H b = some x → x ≠ u → upd H D o b = some x := fun {b x} e' hn => by
    rw [upd_ne (fun z => by rw [z, e] at e'; exact hn (Option.some.inj e').symm)]
    exact e'
  refine ⟨ps, keep a1 (fun z => h1 ps z.symm), a2, fun pos cv hc => ?_⟩
  obtain ⟨c', e1, e2⟩ := a3 pos cv hc
  exact ⟨c', e1, keep e2 (fun z => h2 _ z.symm)⟩
theorem tabs_off {T : List (Addr × Str)} {H : Hp} {D : Addr} {o : HO} {ws : List V} (h : LamX.Tabs T H) (e : H D = some (.lst ws)) : LamX.Tabs T (upd H D o) := tabs_upd h e (fun _ z => nomatch z) fun _ z => nomatch z
/-- the draws' dict at a, its cells cs at c: just so -/
def DS (K : PySem.W.Frag) (a : Addr) (c : CT) (cs : List Int) (i l u : Int) : Sta :=
  ⟨fun H => H a = some (.dK (drK c.p i l u)) ∧ SqL K H c.p (cs.map V.int) ∧ LamX.Tabs c.tb H, fun h s => ⟨s _ _ h.1, s.seq h.2.1, h.2.2.ext fun b o e => s b o e⟩⟩
/-- .. with counts up to n -/
def DW (K : PySem.W.Frag) (a : Addr) (c : CT) (cs : List Int) (n : Nat) : Sta :=
  ⟨fun H => ∃ i l u, (DS K a c cs i l u).I H ∧ 0 ≤ i ∧ i ≤ n ∧ 0 ≤ l ∧ 0 ≤ u ∧ u ≤ n, fun ⟨i, l, u, h, r⟩ s => ⟨i, l, u, (DS K a c cs i l u).st h s, r⟩⟩
section
variable {K : PySem.W.Frag} {a : Addr} {c : CT} {cs : List Int} {i l u x : Int} {n m : Nat} {S S1 SF : Sta} {L : List Addr} {ρ : List (Option Dt)} {P : Po} {te : TE} {w : TS} {Φ : Dt → Prop}
theorem dw_le (h : n ≤ m) : (DW K a c cs n).Le (DW K a c cs m) := fun H ⟨i, l, u, h0, h1, h2, h3, h4, h5⟩ => ⟨i, l, u, h0, h1, by omega, h3, h4, by omega⟩
theorem dw_of (h0 : 0 ≤ i) (h1 : i ≤ n) (h2 : 0 ≤ l) (h3 : 0 ≤ u) (h4 : u ≤ n) : (DS K a c cs i l u).Le (DW K a c cs n) := fun H h => ⟨i, l, u, h, h0, h1, h2, h3, h4⟩
theorem ds_off {H1 H : Hp} {D : Addr} {o : HO} {ws : List V} (ha : ∃ o, H1 a = some o) (hc : SqL K H1 c.p (cs.map V.int)) (g : Gr H1 H) (hD : H1 D = none) (hd : H D = some (.lst ws)) (h : (DS K a c cs i l u).I H) : (DS K a c cs i l u).I (upd H D o) := by
  obtain ⟨o1, e⟩ := ha
  refine ⟨?_, (gr_off g hD).sqL hc, tabs_off h.2.2 hd⟩
  rw [upd_ne (ne_of_none e hD)]
  exact h.1
theorem dw_off {H1 H : Hp} {D : Addr} {o : HO} {ws : List V} (h1 : (DW K a c cs m).I H1) (g : Gr H1 H) (hD : H1 D = none) (hd : H D = some (.lst ws)) (h : (DW K a c cs n).I H) : (DW K a c cs n).I (upd H D o) := by
  obtain ⟨i1, l1, u1, hh, _⟩ := h1
  obtain ⟨i, l, u, h, r⟩ := h
  exact ⟨i, l, u, ds_off ⟨_, hh.1⟩ hh.2.1 g hD hd h, r⟩
theorem dw_mu : (DW K a c cs n).Mu := fun i1 g hD e i2 => dw_off i1 g hD e i2
/-- what is so by cases -/
theorem so_open (h : ∀ i l u : Int, 0 ≤ i → i ≤ n → 0 ≤ l → 0 ≤ u → u ≤ n → So K (DS K a c cs i l u) SF L w ρ P) : So K (DW K a c cs n) SF L w ρ P := fun D σ B H b ⟨i, l, u, h0, h1, h2, h3, h4, h5⟩ s f => h i l u h1 h2 h3 h4 h5 D σ B H b h0 s f
theorem ev_dget {k : Str} {v : V} {d : Dt} {j : Nat} (hj : ρ[j]? = some (some (.raw (.ref a)))) (hk : valV (drK c.p i l u) (.inr k) = some v) (hd : ∀ H, (DS K a c cs i l u).I H → Rep K H v d) : Ev K (DS K a c cs i l u) (DS K a c cs i l u) ρ (tDGet (tVar j) (tC (.str k))) (Eq d) := fun σ H h s Q q => by
  obtain ⟨v0, hv, rv⟩ := s.val j _ hj
  obtain rfl := rv.rawI
  exact ⟨.ref a, hv, a, v, rfl, hk ▸ DGet.k (k := Sum.inr k) h.1, q _ _ H (Gr.refl H) h (hd H h) rfl⟩
theorem ev_dat {j : Nat} (hj : ρ[j]? = some (some (.raw (.ref a)))) : Ev K (DS K a c cs i l u) (DS K a c cs i l u) ρ (tDGet (tVar j) (tC (.str "at"))) (Eq (.int i)) := ev_dget hj dr_at fun _ _ => .int i
theorem ev_dleft {j : Nat} (hj : ρ[j]? = some (some (.raw (.ref a)))) : Ev K (DS K a c cs i l u) (DS K a c cs i l u) ρ (tDGet (tVar j) (tC (.str "left"))) (Eq (.int l)) := ev_dget hj dr_left fun _ _ => .int l
theorem ev_dused {j : Nat} (hj : ρ[j]? = some (some (.raw (.ref a)))) : Ev K (DS K a c cs i l u) (DS K a c cs i l u) ρ (tDGet (tVar j) (tC (.str "used"))) (Eq (.int u)) := ev_dget hj dr_used fun _ _ => .int u
theorem rep_ints {H : Hp} : ∀ ns : List Int, RepA K H (ns.map V.int) (ns.map Dt.int)
  | [] => .nil
  | n :: ns => .cons (.int n) (rep_ints ns)
theorem ev_dcells {j : Nat} (hj : ρ[j]? = some (some (.raw (.ref a)))) : Ev K (DS K a c cs i l u) (DS K a c cs i l u) ρ (tDGet (tVar j) (tC (.str "cells"))) (Eq (.lst (cs.map Dt.int))) := ev_dget hj dr_cells fun _ h => .lst h.2.1 (rep_ints cs)
/-- draw[k] = e -/
theorem so_dset {k : Str} {j : Nat} {i' l' u' : Int} (h : Ev K S (DS K a c cs i l u) ρ te (Eq (.int x))) (hj : ρ[j]? = some (some (.raw (.ref a)))) (hk : putK (drK c.p i l u) (.inr k) (.int x) = drK c.p i' l' u') (q : So K (DS K a c cs i' l' u') SF L w ρ P) :
    So K S SF L (tSeq (tAsg te (gSub (tVar j) (tC (.str k)) rSetD)) w) ρ P := fun D σ B H b hi s f => h σ H hi s _ fun v d H1 g1 i1 r1 e => by
  subst e
  obtain rfl := r1.intI
  obtain ⟨v0, hv, rv⟩ := (s.mono g1).val j _ hj
  obtain rfl := rv.rawI
  have gg : ∀ {C : Hp}, Gr C H1 → Gr C (upd H1 a (.dK (drK c.p i' l' u'))) := fun {C} g p o e d => by
    by_cases hp : p = a
    · subst hp
      have y := g p o e d
      rw [i1.1] at y
      cases y
      cases d
    · rw [upd_ne hp]
      exact g p o e d
  refine ⟨.ref a, hv, a, _, rfl, DPut.k (k := Sum.inr k) i1.1 (by show 4 < sizeLine; decide), ?_⟩
  rw [hk]
  exact q D σ B _ ⟨gg (b.gr.trans g1), b.i, b.new⟩ ⟨upd_same, (gg (Gr.refl H1)).sqL i1.2.1, tabs_upd i1.2.2 i1.1 (fun _ z => nomatch z) fun _ z => nomatch z⟩ ((s.mono g1).mono (gg (Gr.refl H1))) f
/-- cell, draw["left"] = (x, y) -/
theorem so_dset2 {j m : Nat} {ta : TA} {x y : Int} (h : EvA K S (DS K a c cs i l u) ρ ta (Eq [.int x, .int y])) (hj : ρ[j]? = some (some (.raw (.ref a)))) (hm : m ≠ j) (q : So K (DS K a c cs i y u) SF L w (ρ.set m (some (.int x))) P) :
    So K S SF L (tSeq (tAsg (tTup ta) (gTup K 2 (gCons (gName m) (gCons (gSub (tVar j) (tC (.str "left")) rSetD) gNil)))) w) ρ P := fun D σ B H b hi s f => h σ H hi s _ fun vs ds H1 g1 i1 r1 e => by
  subst e
  obtain ⟨v, u', rfl, ra, rb⟩ := r1.twoI
  obtain rfl := ra.intI
  obtain rfl := rb.intI
  refine ⟨by show 2 ≤ sizeLine; decide, fun p hp => ?_⟩
  have s2 := same_new (o := .tup [.int x, .int y]) hp
  have i2 := (DS K a c cs i l u).st i1 s2
  have g2 := g1.trans s2.gr
  have hs := ((s.mono g2).set (v := .int x) (d := .int x) (.int x) m)
  obtain ⟨v0, hv, rv⟩ := hs.val j (.raw (.ref a)) (by rw [List.getElem?_set_ne hm]; exact hj)
  obtain rfl := rv.rawI
  have gg : ∀ {C : Hp}, Gr C (upd H1 p (.tup [.int x, .int y])) → Gr C (upd (upd H1 p (.tup [.int x, .int y])) a (.dK (drK c.p i y u))) := fun {C} g p' o e d => by
    by_cases hp : p' = a
    · subst hp
      have z := g p' o e d
      rw [i2.1] at z
      cases z
      cases d
    · rw [upd_ne hp]
      exact g p' o e d
  refine ⟨p, _, rfl, SqT.of upd_same, rfl, .int x, [.int y], rfl, .int y, [], rfl, .ref a, hv, a, _, rfl, DPut.k (k := Sum.inr "left") i2.1 (by show 4 < sizeLine; decide), rfl, ?_⟩
  rw [dr_pleft]
  exact q D _ B _ ⟨gg (b.gr.trans g2), b.i, b.new⟩ ⟨upd_same, (gg (Gr.refl _)).sqL i2.2.1, tabs_upd i2.2.2 i2.1 (fun _ z => nomatch z) fun _ z => nomatch z⟩ (hs.mono (gg (Gr.refl _))) f

/-! ### M. defs that draw -/
def spD (K : PySem.W.Frag) (nargs : Nat) (pre : List Dt → Prop) (Φ : List Dt → Dt → Prop) (cost : Nat) : Sp := fun vs H Q _ => ∃ a c cs n ds ws, vs = .ref a :: ws ∧ RepA K H ws ds ∧ ds.length = nargs ∧ pre ds ∧ cs ≠ [] ∧ n + cost ≤ 1000000 ∧ (DW K a c cs n).I H ∧
  ∀ v d H', Gr H H' → (DW K a c cs (n + cost)).I H' → Rep K H' v d → Φ ds d → Q v H'
theorem ev_callD {t : TA} {ds : List Dt} {k cost : Nat} {pre : List Dt → Prop} {Φ : List Dt → Dt → Prop} {E : XK} (ha : EvA K S (DW K a c cs n) ρ t (Eq (.raw (.ref a) :: ds))) (hn : ds.length = k) (hp : pre ds) (hc : cs ≠ []) (hb : n + cost ≤ 1000000) :
    Ev K S (DW K a c cs (n + cost)) ρ (tCall (spD K k pre Φ cost) [] E t) (Φ ds) := fun σ H i s Q q =>
  ha σ H i s _ fun vs ds' H1 g1 i1 r1 p1 => by
    subst p1
    rw [List.append_nil]
    cases r1 with
    | cons r0 r1 =>
      obtain rfl := r0.rawI
      exact ⟨a, c, cs, n, ds, _, rfl, r1, hn, hp, hc, hb, i1, fun v d H' g i' r p => q v d H' (g1.trans g) i' r p⟩
theorem okD {P : Program} {w : World} {mg : Str → Option Value} {base : Heap} {x qual : Str} {st : Stmt} {f : Addr} {fd : FuncData} {N ps : List Str} {k na cost : Nat} {pre : List Dt → Prop} {Φ : List Dt → Dt → Prop} (Fu : Fun K x qual st f fd) (Sc : FnScope N ps (defScope st)) (hps : ps.length = na + 1)
    (hb : ∀ (cdv : Value) (A : Around) (out : List Env) (s : Shared) (H : Hp) (E : XK), Room k (A.deeper (envOfC qual (defScope st) s.heap.objs.size f cdv)) → A.guards = some [] →
      ∃ t, PSs (cxOf (L2.CX P w) P w K mg base N qual (defScope st) f cdv A out s H E).nox (defBody st) t ∧ ∀ (a : Addr) (c : CT) (cs : List Int) (n : Nat) (ds : List Dt), cs ≠ [] → n + cost ≤ 1000000 → ds.length = na → pre ds →
        So K (DW K a c cs n) (DW K a c cs (n + cost)) [] t (startD N.length (.raw (.ref a) :: ds)) { nx := fun _ => Φ ds .non, rt := Φ ds }) :
    GOk P w K mg base (k + 1) f fd ps (spD K na pre Φ cost) := by
  refine okG Fu Sc (fun vs H Q E h => ?_) fun cdv A out s H vs Q E hr hg h => ?_
  · obtain ⟨a, c, cs, n, ds, ws, rfl, r, hl, _⟩ := h
    rw [List.length_cons, r.len, hl, hps]
  · obtain ⟨a, c, cs, n, ds, ws, rfl, r, hl, hp, hc, hn, hi, q⟩ := h
    obtain ⟨t, ht, so⟩ := hb cdv A out s H E hr hg
    refine ⟨t, ht.nox, so a c cs n ds hc hn hl hp _ _ H H ⟨Gr.refl H, dw_le (Nat.le_add_right n cost) H hi, fun _ z => nomatch z⟩ hi (slots_start (.cons (.raw _) r)) ⟨fun σ ρ H' g i s' e => ?_, fun v d H' g i r' e => ?_, fun _ _ _ _ _ _ z => z.elim, fun _ _ _ _ _ _ z => z.elim⟩⟩
    · exact q _ _ H' g i .non e
    · exact q v d H' g i r' e
end
end Bf
namespace Bf
open PySem PySem.Spec PyProof.Rows L2
/-! ### N. the operations by their names -/
section
variable {K : PySem.W.Frag} {S S1 S2 S3 : Sta} {ρ : List (Option Dt)} {i j : Int} {ta tb tc te : TE} {d x y : Dt}
theorem rv_add : Rv2 K S rAddI (.int i) (.int j) (Eq (.int (i + j))) := rv_ii
theorem rv_mul (h : CMulW i j) : Rv2 K S rMulW (.int i) (.int j) (Eq (.int (i * j))) := rv_iic h
theorem rv_div (h : CDivW i j) : Rv2 K S rDivW (.int i) (.int j) (Eq (.int (i / j))) := rv_iic h
theorem rv_mod (h : 0 < j) : Rv2 K S rModI (.int i) (.int j) (Eq (.int (i % j))) := rv_iic (C := fun _ j => 0 < j) h
theorem rv_pow (h : CPow i j) : Rv2 K S rPowI (.int i) (.int j) (Eq (.int (i ^ j.toNat))) := rv_iic h
theorem rv_lt : Rv2 K S rLtI (.int i) (.int j) (Eq (.bl (decide (i < j)))) := rv_ib
theorem rv_le : Rv2 K S rLeI (.int i) (.int j) (Eq (.bl (decide (i ≤ j)))) := rv_ib
theorem rv_gt : Rv2 K S rGtI (.int i) (.int j) (Eq (.bl (decide (j < i)))) := rv_ib
theorem rv_ge : Rv2 K S rGeI (.int i) (.int j) (Eq (.bl (decide (j ≤ i)))) := rv_ib
theorem ev_lenT {xs : List Dt} (h : Ev K S S1 ρ ta (Eq (.tup xs))) : Ev K S S1 ρ (tCB (rLen K) (tCons ta tNil)) (Eq (.int xs.length)) := ev_cb (ea_cons h ea_nil) rc_lenT
theorem ev_lenL {xs : List Dt} (h : Ev K S S1 ρ ta (Eq (.lst xs))) : Ev K S S1 ρ (tCB (rLen K) (tCons ta tNil)) (Eq (.int xs.length)) := ev_cb (ea_cons h ea_nil) rc_lenL
theorem ev_ixL {xs : List Dt} (h : Ev K S S1 ρ ta (Eq (.lst xs))) (hb : Ev K S1 S2 ρ tb (Eq (.int i))) (hi : atI xs i = some d) : Ev K S S2 ρ (tOp (rIx K) ta tb) (Eq d) := ev_op h hb (rv_ixSL hi)
theorem ev_ixLP {xs : List Dt} {Φ Θ : Dt → Prop} (h : Ev K S S1 ρ ta (Eq (.lst xs))) (hb : Ev K S1 S2 ρ tb Φ) (hi : ∀ y, Φ y → ∃ k d, y = .int k ∧ atI xs k = some d ∧ Θ d) : Ev K S S2 ρ (tOp (rIx K) ta tb) Θ := ev_opP h hb fun x y e p => by
  obtain ⟨k, d, rfl, hk, hd⟩ := hi y p
  subst e
  exact fun H v u i r1 r2 Q q => rv_ixSL hk H v u i r1 r2 Q fun v' d' H' g i' r e => q v' d' H' g i' r (e ▸ hd)
end
/-! ### O. plain through and through -/
mutual
def pl : Dt → Bool
  | .lst xs => plA xs
  | .tup xs => plA xs
  | .ins _ _ _ => false
  | .raw _ => false
  | .lat _ _ => false
  | .err _ _ _ => false
  | .dct _ _ => false
  | .dti _ _ _ => false
  | .dat _ _ _ _ => false
  | .cel _ _ => false
  | _ => true
def plA : List Dt → Bool
  | [] => true
  | x :: xs => pl x && plA xs
end
theorem pl_okN {d : Dt} (h : pl d = true) : okN d = true := by
  cases d with
  | ins => simp [pl] at h
  | raw => simp [pl] at h
  | lat => simp [pl] at h
  | err => simp [pl] at h
  | dct => simp [pl] at h
  | dti => simp [pl] at h
  | dat => simp [pl] at h
  | cel => simp [pl] at h
  | _ => rfl
theorem plA_all : ∀ {xs : List Dt}, plA xs = true ↔ ∀ x ∈ xs, pl x = true
  | [] => by simp [plA]
  | x :: xs => by simp [plA, plA_all]
end Bf
namespace Bf
open PySem PySem.Spec PyProof.Rows L2
/-! ## Lists that are changed within loops -/
section
variable {K : PySem.W.Frag} {S S0 S1 SB SF : Sta} {L : List Addr} {ρ : List (Option Dt)} {P : Po} {te tl t1 t2 : TE} {w t : TS} {d : Dt} {p q : Addr} {j : Nat} {xs ys : List Dt} {H : Hp} {σ : L2.St}
/-- what holds bears that the list at p is changed -/
def LooseP (S S0 : Sta) (p : Addr) : Prop := ∀ {B H : Hp} {vs : List V} {o : HO}, S0.I B → Gr B H → B p = none → H p = some (.lst vs) → S.I H → S.I (upd H p o)
theorem Loose.at_ (h : Loose S S0) (p : Addr) : LooseP S S0 p := fun i g hp e k => h i g hp e k
/-- d is not touched where the list at p is changed -/
def offOk (p : Addr) : Dt → Prop
  | .lat q xs => q ≠ p ∧ nolA xs = true
  | d => nol d = true
def Offs (p : Addr) (ρ : List (Option Dt)) (j : Nat) : Prop := ∀ (i : Nat) (d : Dt), i ≠ j → ρ[i]? = some (some d) → offOk p d
/-- slot by slot -/
def offL (p : Addr) (j : Nat) : Nat → List (Option Dt) → Prop
  | _, [] => True
  | n, o :: r => (n ≠ j → ∀ d, o = some d → offOk p d) ∧ offL p j (n + 1) r
theorem offs_of : ∀ {ρ : List (Option Dt)} {n : Nat}, offL p j n ρ → ∀ (i : Nat) (d : Dt), i + n ≠ j → ρ[i]? = some (some d) → offOk p d
  | [], _, _, i, d, _, e => by simp at e
  | o :: r, n, h, 0, d, hi, e => h.1 (by omega) d (by simpa using e)
  | o :: r, n, h, i + 1, d, hi, e => offs_of h.2 i d (by omega) (by simpa using e)
theorem Offs.mk (h : offL p j 0 ρ) : Offs p ρ j := fun i d hi e => offs_of h i d (by omega) e
/-! ### loops in which loose lists are changed -/
theorem SqT.offP {a : Addr} {vs ws : List V} {o : HO} (hD : H p = some (.lst ws)) (q : SqT K H a vs) : SqT K (upd H p o) a vs := by
  rcases q with (q | ⟨o', q⟩) | q
  · exact .inl (.inl (upd_other hD q fun _ z => nomatch z))
  · exact .inl (.inr ⟨o', upd_other hD q fun _ z => nomatch z⟩)
  · exact .inr q
end
end Bf
namespace Bf
open PySem PySem.Spec PyProof.Rows L2
/-! ## a tuple times 0 or 1 -/
end Bf
namespace Bf
open PySem PySem.Spec PyProof.Rows L2
/-! ## Promises by a relation -/
section
variable {K : PySem.W.Frag} {S S1 S2 SB SF : Sta} {L : List Addr} {ρ : List (Option Dt)} {P : Po} {te tl : TE} {w t : TS} {d : Dt} {j : Nat} {vs : List Nat} {xs : List Dt}
def spR (K : PySem.W.Frag) (n : Nat) (R : List Dt → Dt → Prop) : Sp := fun vs H Q _ => ∃ ds d, RepA K H vs ds ∧ ds.length = n ∧ R ds d ∧ ∀ v H', Same H H' → Rep K H' v d → Q v H'
theorem ev_callR {t : TA} {ds : List Dt} {n : Nat} {R : List Dt → Dt → Prop} {E : XK} (ha : EvA K S S1 ρ t (Eq ds)) (hn : ds.length = n) (hp : R ds d) : Ev K S S1 ρ (tCall (spR K n R) [] E t) (Eq d) := fun σ H i s Q q =>
  ha σ H i s _ fun vs ds' H1 g1 i1 r1 p1 => by
    subst p1
    rw [List.append_nil]
    exact ⟨ds, d, r1, hn, hp, fun v H2 sm r => q v _ H2 (g1.trans sm.gr) (S1.st i1 sm) r rfl⟩
theorem okR {P : Program} {w : World} {mg : Str → Option Value} {base : Heap} {x qual : Str} {st : Stmt} {f : Addr} {fd : FuncData} {N ps : List Str} {k : Nat} {R : List Dt → Dt → Prop} (Fu : Fun K x qual st f fd) (Sc : FnScope N ps (defScope st))
    (hb : ∀ (cdv : Value) (A : Around) (out : List Env) (s : Shared) (H : Hp) (E : XK), Room k (A.deeper (envOfC qual (defScope st) s.heap.objs.size f cdv)) → A.guards = some [] →
      ∃ t, PSs (cxOf (L2.CX P w) P w K mg base N qual (defScope st) f cdv A out s H E).nox (defBody st) t ∧ ∀ (S : Sta), S.Mu → ∀ (ds : List Dt) (d : Dt), ds.length = ps.length → R ds d → So K S S [] t (startD N.length ds) { nx := fun _ => d = .non, rt := Eq d }) :
    GOk P w K mg base (k + 1) f fd ps (spR K ps.length R) := by
  refine okG Fu Sc (fun vs H Q E h => ?_) fun cdv A out s H vs Q E hr hg h => ?_
  · obtain ⟨ds, d, r, hl, _⟩ := h
    exact r.len.trans hl
  · obtain ⟨ds, d, r, hl, hp, q⟩ := h
    obtain ⟨t, ht, so⟩ := hb cdv A out s H E hr hg
    refine ⟨t, ht.nox, so (staSame H) staSame_mu ds d hl hp _ _ H H ⟨Gr.refl H, Same.refl H, fun _ z => nomatch z⟩ (Same.refl H) (slots_start r) ⟨fun σ ρ H' g i s' e => ?_, fun v d' H' g i r' e => ?_, fun _ _ _ _ _ _ z => z.elim, fun _ _ _ _ _ _ z => z.elim⟩⟩
    · exact q _ H' i ((show d = .non from e) ▸ .non)
    · exact q v H' i ((show d = d' from e) ▸ r')
end
end Bf
namespace Bf
open PySem PySem.Spec PyProof.Rows L2
/-! ## raise C(e), C an own error with a field -/
/-- what is known of the class at C, by the name x -/
structure BadCls (prog : Program) (K : PySem.W.Frag) (mg : Str → Option Value) (x f : Str) (C fI : Addr) : Prop where
  T : BadTxt prog K f C fI
  gC : mg x = some (.ref C)
  kC : PySem.W.keepIn K (.ref C) = true
  exC : PySem.W.subIn K (.ref C) (.type "BaseException") = some true
  tyC : PySem.W.typeIn K (.ref C) = some (.type "type")
  ga : PySem.W.findIn K (.ref C) "__getattribute__" = some (some (.builtin "BaseException.__getattribute__"))
  gg : PySem.W.findIn K (.ref C) "__getattr__" = some none
  hdC : PySem.W.hasDictIn K C = true
  te : PySem.W.exmOne K (.ref C) (.ref C) = some true
  ms : mg "super" = none
  top : (prog.main.scope.names.lookup ("super" : Str)).isSome = false
  fn : f ≠ "self" ∧ f ≠ "super" ∧ f ≠ "__class__" ∧ f ≠ "__debug__"
theorem relO_one {f : Str} {v : V} {v' : Value} (r : RelV v v') (g : Str) : RelO (List.lookup g [(f, v)]) (if g = f then some v' else none) := by
  by_cases h : g = f
  · subst h
    rw [if_pos rfl]
    have q : List.lookup g [(g, v)] = some v := by simp [List.lookup]
    rw [q]
    exact r
  · rw [if_neg h]
    have q1 : (g == f) = false := by simpa using h
    have q2 : List.lookup g [(f, v)] = none := by simp [List.lookup, q1]
    rw [q2]
    trivial
section
variable {X : Cx} {C fI : Addr} {x f : Str}
end
end Bf
namespace Bf
open PySem PySem.Spec PyProof.Rows L2
/-! ## Defs that raise, over data -/
section
variable {X : Cx} {k : Nat} {f : Addr} {fd : FuncData} {ps : List Str} {sp : Sp} {E : L2.St → XK} {x : Str} {p pos : Pos} {e : Expr} {es : List Expr} {t : TA}
end
/-- what a call comes to -/
inductive Out where
  | ok (d : Dt)
  | er (C : Addr) (f : Str) (d : Dt)
section
variable {K : PySem.W.Frag} {S S1 S2 SB SF : Sta} {L : List Addr} {ρ : List (Option Dt)} {P : Po} {te ta tb : TE} {tt : TT} {w t u : TS} {tl : TA} {d : Dt} {j n : Nat} {ds : List Dt} {R : List Dt → Out → Prop} {E : XK} {C : Addr} {f : Str}
/-! ### try .. except C as n -/
theorem Slots.none_ {H : Hp} {σ : L2.St} (s : Slots K H σ ρ) (j : Nat) : Slots K H (σ.set j none) (ρ.set j none) := by
  refine ⟨by rw [List.length_set, List.length_set]; exact s.len, fun i d h => ?_⟩
  by_cases hij : j = i
  · subst hij
    by_cases hl : j < ρ.length
    · rw [List.getElem?_set_self hl] at h
      cases h
    · rw [List.getElem?_eq_none (by rw [List.length_set]; omega)] at h
      cases h
  · rw [List.getElem?_set_ne hij] at h
    obtain ⟨v, hv, rv⟩ := s.val i d h
    exact ⟨v, by rw [List.getElem?_set_ne hij]; exact hv, rv⟩
variable {c : Value} {i : Nat} {tw : WX → TS} {ts : Addr → Value → Option Addr → TS} {Wout : WX}
/-! at one place: what is wished plays no part -/
section
variable {σ : L2.St} {H : Hp} {D : Ends}
end
end
end Bf
namespace Bf
open PySem PySem.Spec PyProof.Rows L2
/-! ## try .. except C as n, and except (C, D, ..) as n: the error that was caught is kept as a value -/
theorem errO_ok {P : Program} {w : World} {H : Hp} {h : Heap} {a : Addr} {cls : Value} {d : Option Addr} {oe : Obj} (e : h.get? a = some oe) (z : Zc cls d oe) (hv : ∃ vs, oe.data = .fields vs) : ObjOk P w H h a (ErrO cls d a) :=
  ⟨⟨oe, e, z, hv⟩, ⟨oe, e⟩, fun _ _ ⟨o, x1, x2, x3⟩ k => ⟨o, k o x1, x2, x3⟩⟩
section
variable {X : Cx} {pins pn' : List (Addr × Obj)} {σ : L2.St} {H : Hp} {s : Shared}
end
/-! ### what the clause names -/
section
variable {M : Model} {K : PySem.W.Frag}
end
section
variable {X : Cx}
end
/-! ### the rule -/
section
variable {X : Cx} {n : Str} {t : Expr} {m : Value → Option Bool} {i : Nat} {body suite : List Stmt} {b₀ : Stmt} {pos pos' : Pos} {tb : WX → TS} {ts : Addr → Value → Option Addr → TS} {Wout : WX}
end
/-! ### what is read of it -/
structure KeepC (K : PySem.W.Frag) (f : Str) (C : Addr) : Prop where
  ga : PySem.W.findIn K (.ref C) "__getattribute__" = some (some (.builtin "BaseException.__getattribute__"))
  gg : PySem.W.findIn K (.ref C) "__getattr__" = some none
  ex : PySem.W.subIn K (.ref C) (.type "BaseException") = some true
  hd : PySem.W.hasDictIn K C = true
  no : PySem.W.findIn K (.ref C) f = some none
/-- y.f, y an error that was kept -/
def tKFld (Cs : List Addr) (f : Str) (te : TE) : TE := fun σ H Q => te σ H fun y H1 => ∃ (a C dd : Addr) (v : V), y = .ref a ∧ C ∈ Cs ∧ H1 a = some (ErrO (.ref C) (some dd) a) ∧ H1 dd = some (.xd [(f, v)]) ∧ Q v H1
theorem pe_kfld {X : Cx} {Cs : List Addr} {f : Str} {e : Expr} {te : TE} {pos : Pos} (T : ∀ C ∈ Cs, KeepC X.K f C) (he : PE X e te) (hb : attributeBase e f X.env (eval e X.env) = eval e X.env := by rfl) : PE X (.Attribute e f pos) (tKFld Cs f te) := by
  refine ⟨fun pins s σ H Q I h => attr_of hb (thn (he.run pins s σ H _ I h) fun u s1 hq => ?_)⟩
  obtain ⟨y, H1, I1, rx, a, C, dd, v, rfl, hC, hA, hD, q⟩ := hq
  obtain rfl : u = Value.ref a := rx
  have T := T C hC
  obtain ⟨⟨oe, ha, hz, vs, hv⟩, _, _⟩ := show ObjOk X.prog X.w H1 s1.heap a (ErrO (.ref C) (some dd) a) from I1.hok a _ hA
  obtain ⟨mA, hns, hr⟩ := show ObjOk X.prog X.w H1 s1.heap dd (.xd [(f, v)]) from I1.hok dd _ hD
  obtain ⟨od, ho, hl⟩ := lookIn_ns hns
  have l : List.lookup f [(f, v)] = some v := by simp [List.lookup]
  obtain ⟨w, hw, rw⟩ := RelO.some_of (v := v) (o := mA f) (l ▸ hr f)
  have J : PySem.W.InstAt s1.heap a oe C (some od) := ⟨ha, hz.1, by unfold PySem.W.notCls; rw [hv] <;> rfl, by rw [hz.2]; exact ho⟩
  exact HandSPX.exc_get I1.kIn J T.ga T.gg T.ex (PySem.W.findObj_own T.hd T.no rfl (by rw [hl, hw])) (handed_of rw) ⟨v, H1, I1.tok _, rw, q⟩
end Bf
namespace Bf
open PySem PySem.Spec PyProof.Rows L2
/-! ## try .. except as e: x = e, over data -/
section
variable {K : PySem.W.Frag} {S S1 SB SF : Sta} {L : List Addr} {ρ : List (Option Dt)} {P : Po} {te : TE} {d : Dt} {f : Str} {C : Addr} {m : Value → Option Bool} {i j : Nat} {tw : WX → TS} {ts : Addr → Value → Option Addr → TS} {Wout : WX}
/-- y.f -/
theorem ev_kfld {Cs : List Addr} (h : Ev K S S1 ρ te (Eq (.err C f d))) (hC : C ∈ Cs) : Ev K S S1 ρ (tKFld Cs f te) (Eq d) := fun σ H i s Q q =>
  h σ H i s _ fun v d' H1 g1 i1 r1 e => by
    subst e
    cases r1 with
    | err h1 h2 r => exact ⟨_, _, _, _, rfl, hC, h1, h2, q _ _ H1 g1 i1 r rfl⟩
end
end Bf
namespace Bf
open PySem PySem.Spec PyProof.Rows L2
/-! ## isinstance of an error that was kept -/
structure IsiC (K : PySem.W.Frag) (C : Addr) : Prop where
  cl : (PySem.W.clsIn K C).isSome = true
  ga : PySem.W.findIn K (.ref C) "__getattribute__" = some (some (.builtin "BaseException.__getattribute__"))
  gg : PySem.W.findIn K (.ref C) "__getattr__" = some none
  ex : PySem.W.subIn K (.ref C) (.type "BaseException") = some true
  ca : PySem.W.findIn K (.ref C) "__class__" = some (some (.builtin "object.__class__"))
  cg : PySem.W.specialIn K (.builtin "object.__class__") "__get__" = some (some (.builtin "getset_descriptor.__get__"))
  ct : PySem.W.takesIn K (.builtin "object.__class__") = some true
  ob : PySem.W.mroIn K C (.type "object") = some true
section
variable {K : PySem.W.Frag} {S S1 : Sta} {ρ : List (Option Dt)} {te : TE} {d : Dt} {C C' : Addr} {f : Str} {b : Bool}
end
end Bf
namespace Bf
open PySem PySem.Spec PyProof.Rows L2
/-! ## Small data may be compared and shown -/
mutual
/-- n deep, at most ten things each, ints below 10^12, texts of at most 40 signs -/
def gd : Nat → Dt → Bool
  | _, .non => true
  | _, .bl _ => true
  | _, .int i => decide (i.natAbs < 10 ^ 12)
  | _, .str x => x.cps.all (· < 0x110000) && decide (x.cps.size ≤ 40)
  | n + 1, .lst xs => gdA n xs && decide (xs.length ≤ 10)
  | n + 1, .tup xs => gdA n xs && decide (xs.length ≤ 10)
  | _, _ => false
def gdA : Nat → List Dt → Bool
  | _, [] => true
  | n, x :: xs => gd n x && gdA n xs
end
def wB : Nat → Nat
  | 0 => 64
  | n + 1 => 10 * (wB n + 1)
theorem wB_ge : ∀ n, 64 ≤ wB n
  | 0 => Nat.le_refl _
  | n + 1 => by have := wB_ge n; simp only [wB]; omega
structure GdW (n : Nat) (d : Dt) : Prop where
  p : pur d = true
  c : (py d).canLay0 = true
  t : (py d).depth ≤ n
  i : (py d).intsShort 13 = true
  s : (py d).showable = true
  w : (py d).weight ≤ wB n
structure GdWA (n m : Nat) (xs : List Dt) : Prop where
  p : purA xs = true
  c : PyData.canLayAll0 (pyA xs) = true
  t : PyData.depthAll (pyA xs) ≤ n
  i : PyData.intsShortAll 13 (pyA xs) = true
  s : PyData.showableAll (pyA xs) = true
  w : PyData.weightAll (pyA xs) ≤ m * (wB n + 1)
theorem log_lt {i : Int} (h : i.natAbs < 10 ^ 12) : i.natAbs.log2 < 40 := by
  by_cases h0 : i.natAbs = 0
  · rw [h0]; decide
  · exact (Nat.log2_lt h0).mpr (Nat.lt_trans h (by decide))
mutual
theorem gd_w : ∀ (n : Nat) (d : Dt), gd n d = true → GdW n d
  | n, .non, _ => ⟨rfl, rfl, Nat.zero_le _, rfl, rfl, Nat.zero_le _⟩
  | n, .bl b, _ => ⟨rfl, rfl, Nat.zero_le _, rfl, rfl, Nat.zero_le _⟩
  | n, .int i, h => by
    have h : i.natAbs < 10 ^ 12 := by simpa [gd] using h
    have hl := log_lt h
    refine ⟨rfl, rfl, Nat.zero_le _, ?_, ?_, ?_⟩
    · unfold py
      simp only [PyData.intsShort, decide_eq_true_eq]
      exact PyData.shown_int_le h
    · unfold py
      simp only [PyData.showable, decide_eq_true_eq]
      omega
    · unfold py
      simp only [PyData.weight]
      have := wB_ge n
      split <;> omega
  | n, .str x, h => by
    have h : x.cps.all (· < 0x110000) = true ∧ x.cps.size ≤ 40 := by simpa only [gd, Bool.and_eq_true, decide_eq_true_eq] using h
    refine ⟨rfl, ?_, Nat.zero_le _, rfl, rfl, ?_⟩
    · unfold py
      simp only [PyData.canLay0, PyData.strOk]
      exact h.1
    · unfold py
      simp only [PyData.weight]
      have := wB_ge n
      omega
  | n + 1, .lst xs, h => by
    simp only [gd, Bool.and_eq_true, decide_eq_true_eq] at h
    have g := gdA_w n xs h.1
    refine ⟨by unfold pur; exact g.p, by unfold py; simp only [PyData.canLay0]; exact g.c, by unfold py; simp only [PyData.depth]; have := g.t; omega, by unfold py; simp only [PyData.intsShort]; exact g.i, by unfold py; simp only [PyData.showable]; exact g.s, ?_⟩
    unfold py
    simp only [PyData.weight, wB]
    exact Nat.le_trans g.w (Nat.mul_le_mul_right _ h.2)
  | n + 1, .tup xs, h => by
    simp only [gd, Bool.and_eq_true, decide_eq_true_eq] at h
    have g := gdA_w n xs h.1
    refine ⟨by unfold pur; exact g.p, by unfold py; simp only [PyData.canLay0]; exact g.c, by unfold py; simp only [PyData.depth]; have := g.t; omega, by unfold py; simp only [PyData.intsShort]; exact g.i, by unfold py; simp only [PyData.showable]; exact g.s, ?_⟩
    unfold py
    simp only [PyData.weight, wB]
    exact Nat.le_trans g.w (Nat.mul_le_mul_right _ h.2)
  | 0, .lst xs, h => by simp [gd] at h
  | 0, .tup xs, h => by simp [gd] at h
  | n, .dic, h => by simp [gd] at h
  | n, .ins _ _ _, h => by simp [gd] at h
  | n, .raw _, h => by simp [gd] at h
  | n, .lat _ _, h => by simp [gd] at h
theorem gdA_w : ∀ (n : Nat) (xs : List Dt), gdA n xs = true → GdWA n xs.length xs
  | n, [], _ => ⟨rfl, rfl, Nat.zero_le _, rfl, rfl, Nat.zero_le _⟩
  | n, x :: xs, h => by
    simp only [gdA, Bool.and_eq_true] at h
    have g := gd_w n x h.1
    have r := gdA_w n xs h.2
    refine ⟨by unfold purA; rw [g.p, r.p]; rfl, by unfold pyA; simp only [PyData.canLayAll0]; rw [g.c, r.c]; rfl, by unfold pyA; simp only [PyData.depthAll]; exact Nat.max_le.mpr ⟨g.t, r.t⟩, by unfold pyA; simp only [PyData.intsShortAll]; rw [g.i, r.i]; rfl, by unfold pyA; simp only [PyData.showableAll]; rw [g.s, r.s]; rfl, ?_⟩
    unfold pyA
    simp only [PyData.weightAll, List.length_cons]
    have h1 := g.w
    have h2 := r.w
    rw [Nat.add_mul]
    omega
end
end Bf
namespace Bf
open PySem PySem.Spec PyProof.Rows L2 PySem.SeqAt
/-! ## a list == [], isinstance(x, (T, U, ..)) -/
section
variable {K : PySem.W.Frag} {S S1 S2 : Sta} {ρ : List (Option Dt)} {te tl : TE} {xs : List Dt} {d : Dt}
end
end Bf
namespace Bf
open PySem PySem.Spec PyProof.Rows L2
/-! ## Tables: the defs over data, and their readings -/
/-! ### is_whole, is_whole_from, is_duration, is_bit_count -/
/-- what a pure def's body is to come to -/
abbrev Pu (d : Dt) : Po := { nx := fun _ => d = .non, rt := Eq d }
section
variable {K : PySem.W.Frag} {S : Sta} {ds : List Dt}
end
/-! ### are_durations, is_pulse_and_gap -/
/-- plain, and its tuple not too long -/
def plS (d : Dt) : Bool := pl d && match d with
  | .tup xs => decide (xs.length ≤ 100000)
  | _ => true
section
variable {K : PySem.W.Frag} {S : Sta} {ds : List Dt}
end
/-! ### begins_with, the first wrong part -/
def plSA (xs : List Dt) : Bool := xs.all plS
section
variable {K : PySem.W.Frag} {S : Sta} {ds : List Dt}
end
end Bf
namespace Bf
open PySem PySem.Spec PyProof.Rows L2
/-! ## Right tables, words -/
/-- a right table's parts -/
inductive Tab where
  | ha (u b : Int)
  | pa (h : List Int) (z1 z2 o1 o2 s b : Int)
def tI (ns : List Int) : Dt := .tup (ns.map Dt.int)
def Tab.d : Tab → Dt
  | .ha u b => .tup [.str "halves", .int u, .int b]
  | .pa h z1 z2 o1 o2 s b => .tup [.str "pairs", tI h, tI [z1, z2], tI [o1, o2], .int s, .int b]
def Tab.b : Tab → Int
  | .ha _ b => b
  | .pa _ _ _ _ _ _ b => b
def dur (i : Int) : Prop := 1 ≤ i ∧ i ≤ 99999
def Tab.ok : Tab → Prop
  | .ha u b => dur u ∧ 1 ≤ b ∧ b ≤ 8
  | .pa h z1 z2 o1 o2 s b => (h.length = 0 ∨ h.length = 2 ∨ h.length = 4) ∧ (∀ x ∈ h, dur x) ∧ dur z1 ∧ dur z2 ∧ dur o1 ∧ dur o2 ∧ ¬ (o1 = z1 ∧ o2 = z2) ∧ dur s ∧ 1 ≤ b ∧ b ≤ 8
theorem Tab.b1 {T : Tab} (h : T.ok) : 1 ≤ T.b ∧ T.b ≤ 8 := by
  cases T with
  | ha u b => exact h.2
  | pa => exact ⟨h.2.2.2.2.2.2.2.2.1, h.2.2.2.2.2.2.2.2.2⟩
section
variable {K : PySem.W.Frag} {S : Sta} {ds : List Dt}
end
/-! ### is_word -/
section
variable {K : PySem.W.Frag} {S : Sta} {ds : List Dt}
end
/-! ### words -/
section
variable {K : PySem.W.Frag} {S : Sta} {ds : List Dt}
end
end Bf
namespace Bf
open PySem PySem.Spec PyProof.Rows L2
/-! ## The law's draws -/
/-- a number below ds' one -/
def nextR : List Dt → Dt → Prop := fun ds d => ∃ m r, ds = [.int m] ∧ d = .int r ∧ 0 ≤ r ∧ r < m
abbrev p__law_next (K : PySem.W.Frag) : Sp := spD K 1 (fun ds => ∃ m, ds = [.int m] ∧ 0 < m ∧ m.natAbs < 2 ^ 8000) nextR 1
abbrev t__law_next (K : PySem.W.Frag) : TS := (tSeq (tIfS (tTest (tOp rGtI (tDGet (tVar 0) (tC (.str "left"))) (tC (.int 0)))) (tSeq (tAsg (tTup (tCons (tDGet (tVar 0) (tC (.str "left"))) (tCons (tOp rDivW (tDGet (tVar 0) (tC (.str "left"))) (tVar 1)) tNil))) (gTup K 2 (gCons (gName 2) (gCons (gSub (tVar 0) (tC (.str "left")) rSetD) gNil))))
    (tRet (tOp rModI (tVar 2) (tVar 1)))) tNext)
    (tSeq (tAsg (tDGet (tVar 0) (tC (.str "cells"))) (gName 3))
    (tSeq (tAsg (tOp (rIx K) (tVar 3) (tOp rModI (tDGet (tVar 0) (tC (.str "at"))) (tCB (rLen K) (tCons (tVar 3) tNil)))) (gName 2))
    (tSeq (tAsg (tOp rAddI (tDGet (tVar 0) (tC (.str "at"))) (tC (.int 1))) (gSub (tVar 0) (tC (.str "at")) rSetD))
    (tSeq (tIfS (tAnd (tTest (tOp rGeI (tVar 2) (tOp rPowI (tC (.int 10)) (tC (.int 18))))) (tTest (tOp rLeI (tDGet (tVar 0) (tC (.str "at"))) (tCB (rLen K) (tCons (tVar 3) tNil))))) (tSeq (tAsg (tOp rDivW (tVar 2) (tVar 1)) (gSub (tVar 0) (tC (.str "left")) rSetD))
    (tRet (tOp rModI (tVar 2) (tVar 1)))) tNext)
    (tSeq (tAsg (tOp rAddI (tDGet (tVar 0) (tC (.str "used"))) (tC (.int 1))) (gSub (tVar 0) (tC (.str "used")) rSetD))
    (tSeq (tAsg (tOp rAddI (tOp rModI (tVar 2) (tC (.int 1000000007))) (tOp rMulW (tOp rMulW (tC (.int 7919)) (tDGet (tVar 0) (tC (.str "used")))) (tDGet (tVar 0) (tC (.str "used"))))) (gName 4))
    (tSeq (tFor (iTup K (tTup (tCons (tDGet (tVar 0) (tC (.str "at"))) (tCons (tDGet (tVar 0) (tC (.str "used"))) tNil)))) (gName 5) (tSeq (tAsg (tOp rModI (tOp rMulW (tOp rAddI (tOp rAddI (tVar 4) (tOp rMulW (tC (.int 31)) (tVar 5))) (tC (.int 7))) (tC (.int 48271))) (tC (.int 2147483647))) (gName 4))
    (tAsg (tOp rModI (tOp rMulW (tVar 4) (tOp rAddI (tC (.int 69621)) (tOp rMulW (tC (.int 2)) (tOp rModI (tVar 5) (tC (.int 1000)))))) (tC (.int 2147483629))) (gName 4))))
    (tRet (tOp rModI (tOp rDivW (tVar 4) (tC (.int 7))) (tVar 1)))))))))))
theorem mul_in {x y B C : Int} (h1 : 0 ≤ x) (h2 : x ≤ B) (h3 : 0 ≤ y) (h4 : y ≤ C) : 0 ≤ x * y ∧ x * y ≤ B * C :=
  ⟨Int.mul_nonneg h1 h3, Int.mul_le_mul h2 h4 h3 (Int.le_trans h1 h2)⟩
theorem cmul {x y : Int} (h1 : 0 ≤ x) (h2 : x < 2 ^ 100) (h3 : 0 ≤ y) (h4 : y < 2 ^ 100) : CMulW x y := wide_mul (a := 100) (b := 100) (by omega) (by omega) (by decide) (by decide) (by decide)
theorem cdivs {x y : Int} (h : 0 < y) (hb : y.natAbs < 2 ^ 8000) : CDivW x y := wide_div (b := 8000) h hb (by decide) (by decide)
section
variable {K : PySem.W.Frag} {a : Addr} {c : CT} {cs : List Int} {n : Nat} {ds : List Dt}
theorem so__law_next (hc : cs ≠ []) (hn : n + 1 ≤ 1000000) (hp : ∃ m, ds = [.int m] ∧ 0 < m ∧ m.natAbs < 2 ^ 8000) :
    So K (DW K a c cs n) (DW K a c cs (n + 1)) [] (t__law_next K) (startD 6 (.raw (.ref a) :: ds)) { nx := fun _ => nextR ds .non, rt := nextR ds } := by
  obtain ⟨m, rfl, hm, hmb⟩ := hp
  refine so_open fun i l u i0 i1 l0 u0 u1 => ?_
  have fin : ∀ x : Int, nextR [.int m] (.int (x % m)) := fun x => ⟨m, _, rfl, rfl, Int.emod_nonneg _ (by omega), Int.emod_lt_of_pos _ hm⟩
  refine so_ifD (et_test (ev_op (ev_dleft rfl) ev_int rv_gt)) (fun e => ?_) fun e => so_skip ?_
  · have hl : 0 < l := of_decide_eq_true e
    refine so_assoc (so_dset2 (ea_cons (ev_dleft rfl) (ea_cons (ev_op (ev_dleft rfl) (ev_var rfl) (rv_div (cdivs hm hmb))) ea_nil)) rfl (by decide) ?_)
    exact so_ret1D (ev_op (ev_var rfl) (ev_var rfl) (rv_mod hm)) (dw_of i0 (by omega) (Int.ediv_nonneg (by omega) (by omega)) u0 (by omega)) (fin _)
  · have hcl : 0 < cs.length := List.length_pos_iff.mpr hc
    have hcm : (0 : Int) < ((cs.map Dt.int).length : Nat) := by rw [List.length_map]; omega
    have hix : 0 ≤ i % ((cs.map Dt.int).length : Nat) ∧ i % ((cs.map Dt.int).length : Nat) < (cs.length : Nat) := ⟨Int.emod_nonneg _ (by omega), by have := Int.emod_lt_of_pos i hcm; rw [List.length_map] at this ⊢; exact this⟩
    obtain ⟨cell, hcell⟩ : ∃ cell : Int, atI (cs.map Dt.int) (i % ((cs.map Dt.int).length : Nat)) = some (.int cell) := by
      have hlt : (i % ((cs.map Dt.int).length : Nat)).toNat < cs.length := by omega
      refine ⟨cs[(i % ((cs.map Dt.int).length : Nat)).toNat], ?_⟩
      have e1 : ((i % ((cs.map Dt.int).length : Nat)).toNat : Int) = i % ((cs.map Dt.int).length : Nat) := Int.toNat_of_nonneg hix.1
      have := atI_nat (xs := cs.map Dt.int) (j := (i % ((cs.map Dt.int).length : Nat)).toNat) (v := .int cs[(i % ((cs.map Dt.int).length : Nat)).toNat]) (by rw [List.getElem?_map, List.getElem?_eq_getElem hlt]; rfl)
      rwa [e1] at this
    refine so_setD (ev_dcells rfl) ?_
    refine so_setD (ev_ixL (ev_var rfl) (ev_op (ev_dat rfl) (ev_lenL (ev_var rfl)) (rv_mod hcm)) hcell) ?_
    refine so_dset (ev_op (ev_dat rfl) ev_int rv_add) rfl dr_pat ?_
    refine so_ifD (et_and (et_test (ev_op (ev_var rfl) (ev_op ev_int ev_int (rv_pow ⟨by decide, by decide, by decide⟩)) rv_ge)) fun _ => et_test (ev_op (ev_dat rfl) (ev_lenL (ev_var rfl)) rv_le)) (fun e2 => ?_) fun e2 => so_skip ?_
    · have hbig : (10 : Int) ^ (18 : Int).toNat ≤ cell := of_decide_eq_true (Bool.and_eq_true_iff.mp e2).1
      have hpos : 0 ≤ cell := Int.le_trans (by decide) hbig
      refine so_assoc (so_dset (ev_op (ev_var rfl) (ev_var rfl) (rv_div (cdivs hm hmb))) rfl dr_pleft ?_)
      exact so_ret1D (ev_op (ev_var rfl) (ev_var rfl) (rv_mod hm)) (dw_of (by omega) (by omega) (Int.ediv_nonneg hpos (by omega)) u0 (by omega)) (fin _)
    · refine so_dset (ev_op (ev_dused rfl) ev_int rv_add) rfl dr_pused ?_
      have u2 : 0 ≤ u + 1 ∧ u + 1 ≤ 1000001 := by omega
      have q1 := mul_in (x := 7919) (y := u + 1) (B := 7919) (C := 1000001) (by decide) (Int.le_refl _) u2.1 u2.2
      have q2 := mul_in (x := 7919 * (u + 1)) (y := u + 1) (B := 7919 * 1000001) (C := 1000001) q1.1 q1.2 u2.1 u2.2
      have c0 := Int.emod_nonneg cell (show (1000000007 : Int) ≠ 0 by decide)
      have c1 := Int.emod_lt_of_pos cell (show (0 : Int) < 1000000007 by decide)
      refine so_setD (ev_op (ev_op (ev_var rfl) ev_int (rv_mod (by decide))) (ev_op (ev_op ev_int (ev_dused rfl) (rv_mul (cmul (by decide) (by decide) u2.1 (by omega)))) (ev_dused rfl) (rv_mul (cmul q1.1 (by omega) u2.1 (by omega)))) rv_add) ?_
      have le1 : (DS K a c cs (i + 1) l (u + 1)).Le (DW K a c cs (n + 1)) := dw_of (by omega) (by omega) l0 u2.1 (by omega)
      refine so_mid (M := fun ρ' => ∃ (num : Int) (x : Option Dt), 0 ≤ num ∧ num < 2 ^ 64 ∧ ρ' = [some (.raw (.ref a)), some (.int m), some (.int cell), some (.lst (cs.map Dt.int)), some (.int num), x]) le1
        (so_forT (xs := [.int (i + 1), .int (u + 1)]) (ev_tup (ea_cons (ev_dat rfl) (ea_cons (ev_dused rfl) ea_nil)) (by show 2 ≤ sizeLine; decide)) (fun _ ρ' => ∃ (num : Int) (x : Option Dt), 0 ≤ num ∧ num < 2 ^ 64 ∧ ρ' = [some (.raw (.ref a)), some (.int m), some (.int cell), some (.lst (cs.map Dt.int)), some (.int num), x])
          ⟨_, _, ?_, ?_, rfl⟩ (fun t x ρ' hx hJ => ?_) fun ρ' h => h) fun ρ' hM => ?_
      · omega
      · have e7 : (7919 * 1000001 * 1000001 : Int) = 7919015838007919 := by decide
        omega
      · obtain ⟨num, y, n0, n1, rfl⟩ := hJ
        obtain ⟨k, rfl, k0, k1⟩ : ∃ k : Int, x = .int k ∧ 0 ≤ k ∧ k ≤ 1000001 := by
          match t, hx with
          | 0, hx => exact ⟨i + 1, (by simpa using hx.symm), by omega, by omega⟩
          | 1, hx => exact ⟨u + 1, (by simpa using hx.symm), by omega, by omega⟩
          | t + 2, hx => simp at hx
        have s0 := Int.emod_nonneg ((num + 31 * k + 7) * 48271) (show (2147483647 : Int) ≠ 0 by decide)
        have s1 := Int.emod_lt_of_pos ((num + 31 * k + 7) * 48271) (show (0 : Int) < 2147483647 by decide)
        have k2 := Int.emod_nonneg k (show (1000 : Int) ≠ 0 by decide)
        have k3 := Int.emod_lt_of_pos k (show (0 : Int) < 1000 by decide)
        refine so_setD (ev_op (ev_op (ev_op (ev_op (ev_var rfl) (ev_op ev_int (ev_var rfl) (rv_mul (cmul (by decide) (by decide) k0 (by omega)))) rv_add) ev_int rv_add) ev_int (rv_mul (cmul (by omega) (by omega) (by decide) (by decide)))) ev_int (rv_mod (by decide))) ?_
        refine so_set0D (ev_op (ev_op (ev_var rfl) (ev_op ev_int (ev_op ev_int (ev_op (ev_var rfl) ev_int (rv_mod (by decide))) (rv_mul (cmul (by decide) (by decide) k2 (by omega)))) rv_add) (rv_mul (cmul s0 (by omega) (by omega) (by omega)))) ev_int (rv_mod (by decide))) (Sta.Le.refl _) ⟨_, _, Int.emod_nonneg _ (by decide), ?_, rfl⟩
        have := Int.emod_lt_of_pos ((num + 31 * k + 7) * 48271 % 2147483647 * (69621 + 2 * (k % 1000))) (show (0 : Int) < 2147483629 by decide)
        omega
      · obtain ⟨num, y, n0, n1, rfl⟩ := hM
        exact so_retD (ev_op (ev_op (ev_var rfl) ev_int (rv_div (cdivs (by decide) (by decide)))) (ev_var rfl) (rv_mod hm)) le1 (fin _)
theorem ev__law_next {S : Sta} {ρ : List (Option Dt)} {ta tm : TE} {m : Int} (h : EvA K S (DW K a c cs n) ρ (tCons ta (tCons tm tNil)) (Eq [.raw (.ref a), .int m])) (hc : cs ≠ []) (hn : n + 1 ≤ 1000000) (h0 : 0 < m) (h1 : m.natAbs < 2 ^ 8000) :
    Ev K S (DW K a c cs (n + 1)) ρ (tCall (p__law_next K) [] E0 (tCons ta (tCons tm tNil))) (fun d => ∃ r, d = .int r ∧ 0 ≤ r ∧ r < m) :=
  (ev_callD (ds := [.int m]) h rfl ⟨m, rfl, h0, h1⟩ hc hn).weak fun d ⟨m', r, e, e2, r0, r1⟩ => by cases e; exact ⟨r, e2, r0, r1⟩
end
/-! ### _law_pick -/
def pickR : List Dt → Dt → Prop := fun ds d => ∃ xs, (ds = [.lst xs] ∨ ds = [.tup xs]) ∧ d ∈ xs
abbrev p__law_pick (K : PySem.W.Frag) : Sp := spD K 1 (fun ds => ∃ xs, (ds = [.lst xs] ∨ ds = [.tup xs]) ∧ xs ≠ [] ∧ xs.length ≤ 100000) pickR 1
abbrev t__law_pick (K : PySem.W.Frag) : TS := (tRet (tOp (rIx K) (tVar 1) (tCall (p__law_next K) [] E0 (tCons (tVar 0) (tCons (tCB (rLen K) (tCons (tVar 1) tNil)) tNil)))))
section
variable {K : PySem.W.Frag} {a : Addr} {c : CT} {cs : List Int} {n : Nat} {ds : List Dt}
theorem at_in {xs : List Dt} {r : Int} (h0 : 0 ≤ r) (h1 : r < (xs.length : Nat)) : ∃ d, atI xs r = some d ∧ d ∈ xs := by
  have hlt : r.toNat < xs.length := by omega
  have e1 : (r.toNat : Int) = r := Int.toNat_of_nonneg h0
  have := atI_nat (xs := xs) (j := r.toNat) (v := xs[r.toNat]) (List.getElem?_eq_getElem hlt)
  rw [e1] at this
  exact ⟨_, this, List.getElem_mem hlt⟩
theorem so__law_pick (hc : cs ≠ []) (hn : n + 1 ≤ 1000000) (hp : ∃ xs, (ds = [.lst xs] ∨ ds = [.tup xs]) ∧ xs ≠ [] ∧ xs.length ≤ 100000) :
    So K (DW K a c cs n) (DW K a c cs (n + 1)) [] (t__law_pick K) (startD 2 (.raw (.ref a) :: ds)) { nx := fun _ => pickR ds .non, rt := pickR ds } := by
  obtain ⟨xs, h, hx, hz⟩ := hp
  have hl : 0 < xs.length := List.length_pos_iff.mpr hx
  have hb : (xs.length : Int).natAbs < 2 ^ 8000 := Nat.lt_of_le_of_lt (show (xs.length : Int).natAbs ≤ 100000 by omega) (by decide)
  rcases h with rfl | rfl
  · refine so_ret (ev_ixLP (ev_var rfl) (ev__law_next (ea_cons (ev_var rfl) (ea_cons (ev_lenL (ev_var rfl)) ea_nil)) hc hn (by omega) hb) (fun y ⟨r, e, r0, r1⟩ => ?_)) (Sta.Le.refl _) fun d p => p
    obtain ⟨d, h1, h2⟩ := at_in r0 r1
    exact ⟨r, d, e, h1, xs, .inl rfl, h2⟩
  · refine so_ret (ev_opP (ev_var rfl) (ev__law_next (ea_cons (ev_var rfl) (ea_cons (ev_lenT (ev_var rfl)) ea_nil)) hc hn (by omega) hb) (fun x y e ⟨r, e2, r0, r1⟩ => ?_)) (Sta.Le.refl _) fun d p => p
    obtain ⟨d, h1, h2⟩ := at_in r0 r1
    subst e e2
    exact fun H v u i r1 r2 Q q => rv_ixST h1 H v u i r1 r2 Q fun v' d' H' g i' r e => q v' d' H' g i' r (e ▸ ⟨xs, .inr rfl, h2⟩)
theorem ev__law_pick {S : Sta} {ρ : List (Option Dt)} {ta tm : TE} {xs : List Dt} (h : EvA K S (DW K a c cs n) ρ (tCons ta (tCons tm tNil)) (Eq [.raw (.ref a), .lst xs])) (hc : cs ≠ []) (hn : n + 1 ≤ 1000000) (h0 : xs ≠ []) (h1 : xs.length ≤ 100000) :
    Ev K S (DW K a c cs (n + 1)) ρ (tCall (p__law_pick K) [] E0 (tCons ta (tCons tm tNil))) (fun d => d ∈ xs) :=
  (ev_callD (ds := [.lst xs]) h rfl ⟨xs, .inl rfl, h0, h1⟩ hc hn).weak fun d ⟨ys, e, hd⟩ => by
    rcases e with e | e <;> cases e
    exact hd
end
/-! ### _law_size, _law_table -/
section
variable {K : PySem.W.Frag} {a : Addr} {c : CT} {cs : List Int} {n : Nat} {ds : List Dt}
end
section
variable {K : PySem.W.Frag} {a : Addr} {c : CT} {cs : List Int} {n : Nat} {ds : List Dt}
end
end Bf
namespace Bf
open PySem PySem.Spec PyProof.Rows L2
/-! ## The end: the law's def is called with the script -/
theorem lt70 {k : Nat} {A : Around} (hr : Room k A) : A.units + 70 < cLine := by
  have := hr.un
  omega
section
variable {P : Program} {w : World} {K : PySem.W.Frag} {mg mb : Str → Option Value} {k : Nat} {fa a : Addr} {fd : FuncData} {x : Str} {sp : Sp} {s₁ : Shared} {vs : List Value} {ns : List Int}
/-- where H knows the script at a and nothing else -/
theorem law_from {H : Hp} (KX : K.In s₁.heap) (hns : s₁.heap.Ns mainGlobals mg) (hb : s₁.heap.Ns builtinsNs mb) (hbb : ∀ y : Str, y ≠ "__name__" → mb y = bootBuiltins y) (hlim : s₁.heap.NoLimit) (hg : s₁.gens = #[])
    (ha : s₁.heap.get? a = some { cls := .type "list", data := .seq vs.toArray }) (hr : Room k callerA) (F : ∀ base : Heap, K.In base → base.Ns mainGlobals mg → GOk P w K mg base k fa fd [x] sp) (hbind : ∀ (s : Shared) (u : Value), BindsTo s fd ⟨[u], []⟩ [(x, u)])
    (hsp : sp [.ref a] H (fun v _ => v = .bl true) fun _ _ _ => False) (hO : Only H) (hok : HOk P w H s₁.heap) (hA : ∀ b, H b ≠ none → b = a) (hK : H a ≠ none → K.lookup a = none) :
    codeAny (model P w) callerA (.call (.ref fa) ⟨[.ref a], []⟩) (fun r s' => r = .ok (.ret (.bool true)) ∧ OldK s₁.heap s'.heap ∧ s'.os = s₁.os ∧ AllBare s'.gens) s₁ := by
  have below : ∀ {b : Addr} {o : Obj}, s₁.heap.get? b = some o → H b = none → (hidT s₁.heap H).get? b = some o := fun e z => hidT_get e z
  have free : ∀ {b : Addr} {o : Obj} {es : Array DictEntry} {ep : Nat}, s₁.heap.get? b = some o → o.data = .dict es ep → H b = none := by
    intro b o es ep e d
    cases q : H b with
    | none => rfl
    | some y =>
      obtain rfl := hA b (by rw [q]; exact Option.some_ne_none y)
      rw [ha] at e
      cases e
      exact nomatch (show Data.seq vs.toArray _ = Data.dict es ep from d)
  have lift : ∀ {b : Addr} {m : Str → Option Value}, s₁.heap.Ns b m → (hidT s₁.heap H).Ns b m := fun {b m} z => by
    obtain ⟨o, es, ep, e, d, r⟩ := z
    exact ⟨o, es, ep, below e (free e d), d, r⟩
  have inK : K.In (hidT s₁.heap H) := fun b o e => below (KX b o e) (by
    cases q : H b with
    | none => rfl
    | some y =>
      obtain rfl := hA b (by rw [q]; exact Option.some_ne_none y)
      rw [hK (by rw [q]; exact Option.some_ne_none y)] at e
      cases e)
  obtain ⟨mc, l1, l2⟩ := hlim
  have e0 : Env0 P w K mg (hidT s₁.heap H) callerA [] s₁ H :=
    ⟨rfl, ⟨inK, lift hns, ⟨mb, lift hb, hbb⟩, ⟨mc, lift l1, l2⟩⟩, fun b o e => of_hidT e, Nat.le_of_eq (hidT_size _ _), trivial, fun b z => absurd (show b ∈ ([] : List Addr) from z) (by simp), hok, .of_eq hg⟩
  have run := (F _ inK (lift hns)).go callerA [] s₁ H ⟨[.ref a], []⟩ [.ref a] [.ref a] _ _ hr rfl e0 (hbind s₁ (.ref a)) (.cons rfl .nil) hsp
  refine codeAny_mono run fun r s' h => ?_
  match r, h with
  | .error e, h =>
    obtain ⟨_, _, _, _, _, _, _, _, _, _, _, _, z⟩ := h
    exact z.elim
  | .ok .next, h => exact h.elim
  | .ok .brk, h => exact h.elim
  | .ok .cont, h => exact h.elim
  | .ok (.ret u), h =>
    obtain ⟨v, H', os, bare, un, hok', rv, q⟩ := h
    obtain rfl : v = V.bl true := q
    obtain rfl : u = Value.bool true := rv
    refine ⟨rfl, OldK.of_keep fun b o e => ?_, os, bare⟩
    rcases hO b with z | ⟨ob, ys, z⟩
    · exact un.keep b o e z (fun y => absurd (show b ∈ ([] : List Addr) from y) (by simp)) (by simp)
    · obtain ⟨e1, _⟩ := hok b _ z
      obtain ⟨e2, _⟩ := hok' b _ (un.frzs b ob _ z)
      rw [e] at e1
      cases e1
      exact e2
theorem law_callG (KX : K.In s₁.heap) (hns : s₁.heap.Ns mainGlobals mg) (hb : s₁.heap.Ns builtinsNs mb) (hbb : ∀ y : Str, y ≠ "__name__" → mb y = bootBuiltins y) (hlim : s₁.heap.NoLimit) (hg : s₁.gens = #[])
    (ha : s₁.heap.get? a = some { cls := .type "list", data := .seq vs.toArray }) (hi : IntsAre vs ns) (hl : ns.length ≤ sizeLine) (hr : Room k callerA) (F : ∀ base : Heap, K.In base → base.Ns mainGlobals mg → GOk P w K mg base k fa fd [x] sp)
    (hbind : ∀ (s : Shared) (u : Value), BindsTo s fd ⟨[u], []⟩ [(x, u)]) (hsp : ∀ H : Hp, Only H → SqL K H a (ns.map V.int) → sp [.ref a] H (fun v _ => v = .bl true) fun _ _ _ => False) :
    codeAny (model P w) callerA (.call (.ref fa) ⟨[.ref a], []⟩) (fun r s' => r = .ok (.ret (.bool true)) ∧ OldK s₁.heap s'.heap ∧ s'.os = s₁.os ∧ AllBare s'.gens) s₁ := by
  have rv := vals_ints hi
  have lv := hi.length
  cases hk : K.lookup a with
  | some o =>
    have e := KX a o hk
    rw [ha] at e
    cases e
    have none_ : Only (fun _ => none) := fun _ => .inl rfl
    exact law_from KX hns hb hbb hlim hg ha hr F hbind (hsp _ none_ (.inr ⟨_, vs.toArray, _, hk, rfl, rfl, rfl, by rw [List.size_toArray, lv]; exact hl, by simpa using rv⟩)) none_
      (fun b u z => nomatch (show (none : Option HO) = some u from z)) (fun b z => absurd rfl z) fun z => absurd rfl z
  | none =>
    let H : Hp := fun b => if b = a then some (.frz { cls := .type "list", data := .seq vs.toArray } (.lst (ns.map V.int))) else none
    have at_ : H a = some (.frz { cls := .type "list", data := .seq vs.toArray } (.lst (ns.map V.int))) := if_pos rfl
    have off : ∀ {b}, b ≠ a → H b = none := fun hb => if_neg hb
    have only : Only H := fun b => by
      by_cases h : b = a
      · subst h
        exact .inr ⟨_, _, at_⟩
      · exact .inl (off h)
    refine law_from (H := H) KX hns hb hbb hlim hg ha hr F hbind (hsp H only (.inl (.inr ⟨_, at_⟩))) only (fun b u z => ?_) (fun b z => ?_) fun _ => hk
    · by_cases h : b = a
      · subst h
        rw [at_] at z
        cases z
        exact ⟨ha, by rw [List.length_map]; exact hl, vs, _, rv, ha⟩
      · rw [off h] at z
        cases z
    · by_cases h : b = a
      · exact h
      · exact absurd (off h) z
end
/-- a constant of the module -/
theorem pe_gc {X : Cx} {x : Str} {v : V} {pos : Pos} (hg : Gl X x) (hm : ∃ u, X.mg x = some u ∧ RelV v u) (hd : (x == ("__debug__" : Str)) = false := by decide) : PE X (.Name x pos) (tC v) := by
  obtain ⟨u, e, r⟩ := hm
  exact pe_glob hg e r hd
/-- what k_head leaves, from the law's promise -/
theorem walk_g {l : PySem.W.OpenLaw} {n k : Nat} {q : Program} {loose : List Str} {XP : (Str → Option Value) → Heap → Prop} {YP : World → Heap → Prop} {d : DefRec} {K : Params → PySem.W.Frag} {sp : PySem.W.Frag → Sp} {x : Str}
    (hn : l.most = some n) (hn2 : n ≤ sizeLine) (hdf : d.params.defaults = []) (hr : Room k callerA) (hY : ∀ (w : World) (h : Heap), YP w h → (K w.params).In h)
    (F : ∀ (w : World) (mg : Str → Option Value) (fa : Addr) (h : Heap), (K w.params).In h → h.Ns mainGlobals mg → mg d.name = some (.ref fa) →
      ∃ fd : FuncData, (∀ (s : Shared) (u : Value), BindsTo s fd ⟨[u], []⟩ [(x, u)]) ∧ ∀ base : Heap, (K w.params).In base → base.Ns mainGlobals mg → GOk l.prog w (K w.params) mg base k fa fd [x] (sp (K w.params)))
    (hsp : ∀ (K : PySem.W.Frag) (H : Hp) (a : Addr) (ns : List Int), ns.length ≤ n → Only H → SqL K H a (ns.map V.int) → sp K [.ref a] H (fun v _ => v = .bl true) fun _ _ _ => False) :
    PySem.W.WalkO q loose XP YP l.row.toRowW d [] (fun f vs => PySem.call f vs) := by
  refine Att.attach_call hn hdf fun w s₀ s₁ mg mb fa o pm cd doc a vs ns G Y ho hd hcd hmg hobj hints hlen hg => ?_
  have KX := hY w _ Y
  obtain ⟨fd, hb, hF⟩ := F w mg fa _ KX G.T.g hmg
  exact law_callG KX G.T.g G.T.b G.T.builtins G.T.nolimit hg hobj hints (Nat.le_trans hlen hn2) hr hF hb fun H hO hS => hsp _ H a ns hlen hO hS
/-- the law's promise: True, whatever the script -/
def spLaw (K : PySem.W.Frag) : Sp := fun vs H Q _ => ∃ (s : Addr) (ns : List Int), vs = [.ref s] ∧ SqL K H s (ns.map V.int) ∧ ns.length ≤ 63 ∧ ∀ H', Q (.bl true) H'
end Bf
namespace Bf
open PySem PySem.Spec PyProof.Rows L2
/-! ## _law_begin, _law_words -/
def spB (K : PySem.W.Frag) : Sp := fun vs H Q _ => ∃ s ns, vs = [.ref s] ∧ SqL K H s (ns.map V.int) ∧ ns.length ≤ 63 ∧ ∀ (p : Addr) (c : CT) H', Gr H H' → (DS K p c (ns ++ [0]) 0 0 0).I H' → Q (.ref p) H'
abbrev p__law_begin (K : PySem.W.Frag) : Sp := spB K
abbrev t__law_begin (K : PySem.W.Frag) : TS := (tRet (tDisp [((tC (.str "cells")), (tOp (rCatS K) (tVar 0) (tLst (tCons (tC (.int 0)) tNil)))), ((tC (.str "at")), (tC (.int 0))), ((tC (.str "left")), (tC (.int 0))), ((tC (.str "used")), (tC (.int 0)))]))
theorem rd__law_beginT {K : PySem.W.Frag} {D : Ends} {σ : L2.St} {H : Hp} {s : Addr} {ns : List Int} (hs : σ[0]? = some (some (.ref s))) (h : SqL K H s (ns.map V.int)) (hl : ns.length ≤ 63)
    {T : List (Addr × Str)} (hT : LamX.Tabs T H) (q : ∀ (p c : Addr) H', Gr H H' → (DS K p ⟨c, T⟩ (ns ++ [0]) 0 0 0).I H' → D.rt (.ref p) H') : t__law_begin K D σ H := by
  intro p hp
  have s1 := same_new (o := .dK []) hp
  refine ⟨.ref s, hs, (by show 1 ≤ sizeLine; decide), fun t ht => ?_⟩
  have s2 := same_new (o := .lst [.int 0]) ht
  refine ⟨s, t, ns.map V.int, [.int 0], rfl, rfl, s2.seq (s1.seq h), SqL.of upd_same, (by rw [List.length_map]; exact Nat.le_trans (show ns.length + 1 ≤ 64 by omega) (by decide)), fun c hc => ?_⟩
  have s3 := same_new (o := .lst (ns.map V.int ++ [.int 0])) hc
  have hp3 := s3 _ _ (s2 _ _ (upd_same (H := H) (a := p) (o := .dK [])))
  refine ⟨hp3, [((.inr "cells" : Key), V.ref c), (.inr "at", .int 0), (.inr "left", .int 0), (.inr "used", .int 0)], rfl, (by show 4 ≤ 15; decide), ?_⟩
  rw [dr_merge]
  have hcp : c ≠ p := fun e => by
    rw [e] at hc
    rw [s2 _ _ (upd_same (H := H) (a := p) (o := .dK []))] at hc
    cases hc
  have hk : ∀ b o, H b = some o → upd (upd (upd (upd H p (.dK [])) t (.lst [.int 0])) c (.lst (ns.map V.int ++ [.int 0]))) p (.dK (drK c 0 0 0)) b = some o := fun b o e => by
    rw [upd_ne (ne_of_none e hp)]
    exact s3 _ _ (s2 _ _ (s1 _ _ e))
  exact q p c _ (fun b o e d => hk b o e) ⟨upd_same, SqL.of (by
    rw [upd_ne hcp, upd_same, List.map_append]
    rfl), hT.ext hk⟩
theorem rd__law_begin {K : PySem.W.Frag} {D : Ends} {σ : L2.St} {H : Hp} {s : Addr} {ns : List Int} (hs : σ[0]? = some (some (.ref s))) (h : SqL K H s (ns.map V.int)) (hl : ns.length ≤ 63)
    (q : ∀ (p : Addr) (c : CT) H', Gr H H' → (DS K p c (ns ++ [0]) 0 0 0).I H' → D.rt (.ref p) H') : t__law_begin K D σ H := rd__law_beginT (T := []) hs h hl (fun _ z => nomatch z) fun p c H' => q p ⟨c, []⟩ H'
section
variable {K : PySem.W.Frag} {S : Sta} {ds : List Dt}
end
/-! ### all words of up to eight bits may be compared and shown -/
theorem cmp_refl {d : Dt} (h : cmpOk d = true) : PyData.eqv (py d) (py d) = true := by
  simp only [cmpOk, Bool.and_eq_true] at h
  exact SeqAt.eqv_refl _ (SeqAt.canLay_of_shaped h.2)
/-! ### the word in the middle of which something else is put -/
end Bf
namespace Bf
open PySem PySem.Spec PyProof.Rows L2
/-! ## A lambda handed to a def that calls it: what it lets out goes by the slots as they stand -/
section
variable {P : Program} {w : World} {K : PySem.W.Frag} {mg : Str → Option Value} {base : Heap}
end
section
variable {X : Cx} {pins pn : List (Addr × Obj)} {σ : L2.St} {H : Hp} {s : Shared}
end
/-- a def whose code object is told -/
structure FunC (K : PySem.W.Frag) (x qual : Str) (st : Stmt) (f : Addr) (fd : FuncData) (cdv : Value) : Prop where
  ex : ∃ (oc : Value) (od : Option Addr) (kV doc pm : Value) (an : Option Addr) (ct : Value) (osl : Array (Option Value)),
    fd = PySem.W.fnOf x qual (defArgs st) (defBody st) (defScope st) .none kV doc pm an cdv ct ∧ K.lookup f = some ⟨oc, od, .func fd, osl⟩ ∧ PySem.W.codeIn K cdv qual = true
/-! ### over data -/
/-- a state that the making of lambdas leaves -/
structure TabS (S : Sta) (T : List (Addr × Str)) : Prop where
  has : ∀ H, S.I H → LamX.Tabs T H
  on : ∀ H H1, S.I H → LamX.ExtN H H1 → LamX.Tabs T H1 → S.I H1
section
variable {K : PySem.W.Frag} {S : Sta} {ρ : List (Option Dt)} {T : List (Addr × Str)} {R : Out → Dt → Prop} {t : XK → TE} {d x : Dt} {C : Addr} {f : Str}
variable {S1 : Sta} {i : Nat} {a c' : Addr} {q : Str} {tl : XK → Hp → VK → Prop} {H0 : Hp}
end
end Bf
namespace Bf
open PySem PySem.Spec PyProof.Rows L2
/-! ## need_table for any plain data -/
def plD (d : Dt) : Prop := pl d = true ∧ ∀ xs, d = .tup xs → plSA xs = true
section
variable {K : PySem.W.Frag} {S : Sta} {ds : List Dt} {o : Out} {C : Addr} {E : XK}
end
end Bf
namespace Bf
open PySem PySem.Spec PyProof.Rows L2
/-! ## Ratios: instances of an own class with two attributes -/
def rat (C : Addr) (n d : Int) : Dt := .ins C ["_num", "_den"] [.int n, .int d]
section
variable {K : PySem.W.Frag} {H : Hp} {v : V} {C : Addr} {n d : Int}
end
/-- what is known of the class -/
structure RatT (K : PySem.W.Frag) (mg : Str → Option Value) (C fI pN gN pD gD : Addr) : Prop where
  cl : Cls K C
  mK : Mk K C fI
  pn : PropOf K C "num" pN gN
  pd : PropOf K C "den" pD gD
  an : NoAttr K C "_num"
  ad : NoAttr K C "_den"
  gC : mg "Ratio" = some (.ref C)
  c1 : PySem.W.findIn K (.ref C) "__class__" = some (some (.builtin "object.__class__"))
  c2 : PySem.W.specialIn K (.builtin "object.__class__") "__get__" = some (some (.builtin "getset_descriptor.__get__"))
  c3 : PySem.W.takesIn K (.builtin "object.__class__") = some true
  c4 : PySem.W.mroIn K C (.type "object") = some true
  no : ∀ T ∈ ["NoneType", "bool", "int", "str", "list", "tuple", "dict"], PySem.W.kitOne K (.type T) (.ref C) = some false
  si : PySem.W.kitOne K (.ref C) (.ref C) = some true
  sT : ∀ T ∈ ["bool", "int", "str", "list", "tuple"], PySem.W.kitOne K (.ref C) (.type T) = some false
section
variable {K : PySem.W.Frag} {mg : Str → Option Value} {C fI pN gN pD gD : Addr} {S S1 : Sta} {ρ : List (Option Dt)} {te : TE} {d : Dt} {n m : Int}
end
/-! ### Ratio(a, b) -/
/-- a right one is made -/
def spRI (C : Addr) : Sp := fun vs H Q _ => ∃ (x dx : Addr) (n m : Int), vs = [.ref x, .int n, .int m] ∧ H x = some (.ins C dx []) ∧ 0 ≤ n ∧ 1 ≤ m ∧ m.natAbs < 2 ^ 8000 ∧
  ∀ H', (∀ b o, b ≠ x → H b = some o → dob o = true → H' b = some o) → (∀ b o, b ≠ x → H b = some o → H' b = some o) → H' x = some (.ins C dx [("_num", .int (n / (Nat.gcd n.natAbs m.natAbs : Nat))), ("_den", .int (m / (Nat.gcd n.natAbs m.natAbs : Nat)))]) → Q .non H'
section
variable {X : Cx} {k : Nat} {f C : Addr} {fd : FuncData} {ps : List Str} {sp : Sp} {E : XK} {x : Str} {p pos : Pos} {e : Expr} {es : List Expr} {t : TA} {dvs : List V} {ds : List Value}
end
section
variable {K : PySem.W.Frag} {S S1 : Sta} {ρ : List (Option Dt)} {tl : TA} {n m : Int} {C : Addr} {E : XK}
end
end Bf
namespace Bf
open PySem PySem.Spec PyProof.Rows L2 PySem.SeqAt
open AutoSeq1 (wpAny_loadPart')
/-! ## == of tuples that hold instances -/
theorem tuple_eqFirst (l b : Addr) (items items2 : Array Value) (n n2 : Nat) (dd dd2 : Option Addr) (sl sl2 : Array (Option Value)) :
    Meets (Builtin.«tuple.__eq__» ⟨[.ref l, .ref b], []⟩)
      (fun A R s => s.heap.get? l = some { cls := .type "tuple", dict := dd, data := .seq items n, slots := sl } ∧ s.heap.get? b = some { cls := .type "tuple", dict := dd2, data := .seq items2 n2, slots := sl2 } ∧
        (∃ (h1 : 0 < items.size) (h2 : 0 < items2.size), EqAt A.in1 s items[0] items2[0] false) ∧ R (.ok (.ret (.bool false))) s) :=
  .of_wp fun prog w A R s h => by
    obtain ⟨hp, g, d, tk, os⟩ := s; obtain ⟨hl, hb, ⟨h1, h2, he⟩, h⟩ := h
    have f2 := AutoSeq1.sub_tuple_tuple
    have hZ : 0 < (items.toList.zip items2.toList).length := by simp; omega
    wp_walk using wpAny_loadPart' hl, wpAny_loadPart' hb, wpAny_forIn_list _ (fun rest b s' => b.1 = none ∧ s' = ⟨hp, g, d, tk, os⟩ ∧ rest = items.toList.zip items2.toList) _
    case turn =>
      rintro ⟨y, x⟩ rest b s' ⟨hb', rfl, hz⟩
      have hz' : (items.toList.zip items2.toList) = (items.toList.zip items2.toList)[0] :: (items.toList.zip items2.toList).drop 1 := by
        rw [← List.drop_eq_getElem_cons hZ, List.drop_zero]
      rw [hz'] at hz
      injection hz with hyx hrest
      have hy : y = items[0] := by have := congrArg Prod.fst hyx; simpa using this
      have hx : x = items2[0] := by have := congrArg Prod.snd hyx; simpa using this
      subst hy hx
      refine wpAny_bind (he prog w _ _ ?_)
      wp_walk
      exact ⟨_, rfl, h⟩
    case fin =>
      rintro ⟨b1, b2⟩ s' ⟨hb', rfl, hz⟩
      rw [← hz] at hZ
      exact absurd hZ (by simp)
    case h =>
      exact ⟨rfl, rfl, rfl⟩
theorem dict_eq_declines_tuple (l b : Addr) (o : Obj) (items2 : Array Value) (n2 : Nat) (dd2 : Option Addr) (sl2 : Array (Option Value)) :
    Meets (Builtin.«dict.__eq__» ⟨[.ref l, .ref b], []⟩) (fun _ R s => s.heap.get? l = some o ∧ o.cls = .type "dict" ∧ s.heap.get? b = some { cls := .type "tuple", dict := dd2, data := .seq items2 n2, slots := sl2 } ∧ R (.ok (.ret .notImplemented)) s) :=
  .of_wp fun prog w A R s h => by obtain ⟨hp, g, d, tk, os⟩ := s; obtain ⟨hl, hc, hb, h⟩ := h; have f1 := F.sub_tuple_dict; wp_walk using wpAny_loadPart' hl, wpAny_loadPart' hb; exact ⟨_, rfl, h⟩
theorem tuple_eq_declines_dict (l b : Addr) (o : Obj) (items : Array Value) (n : Nat) (dd : Option Addr) (sl : Array (Option Value)) :
    Meets (Builtin.«tuple.__eq__» ⟨[.ref l, .ref b], []⟩) (fun _ R s => s.heap.get? l = some { cls := .type "tuple", dict := dd, data := .seq items n, slots := sl } ∧ s.heap.get? b = some o ∧ o.cls = .type "dict" ∧ R (.ok (.ret .notImplemented)) s) :=
  .of_wp fun prog w A R s h => by
    obtain ⟨hp, g, d, tk, os⟩ := s
    obtain ⟨hl, hb, hc, h⟩ := h
    obtain ⟨cls2, dd2, data2, sl2⟩ := o
    simp only at hc
    subst hc
    have f1 := F.sub_dict_tuple
    wp_walk using wpAny_loadPart' hl, wpAny_loadPart' hb
    exact ⟨_, rfl, h⟩
section
variable {A : Around} {s : Shared}
theorem RcAt_first {l b : Addr} {items items2 : Array Value} (hl : s.heap.IsTuple l items) (hb : s.heap.IsTuple b items2) (hu : A.units < cLine)
    (he : ∃ (h1 : 0 < items.size) (h2 : 0 < items2.size), EqAt A.in1 s items[0] items2[0] false) : RcAt A s (.ref l) (.ref b) false := fun prog w E Q h => by
  obtain ⟨⟨cls, dd, data, sl⟩, ho, hc, n, hd⟩ := id hl
  obtain ⟨⟨cls2, dd2, data2, sl2⟩, ho2, hc2, n2, hd2⟩ := id hb
  simp only at hc hd hc2 hd2
  subst hc hd hc2 hd2
  exact richCompare_meets_room (op := .Eq) ⟨_, ho, rfl⟩ ⟨_, ho2, rfl⟩ F.slot_tuple_eq F.entry_tuple_eq (F.args_tuple_eq_2 _ _) (tuple_eqFirst l b items items2 n n2 dd dd2 sl sl2)
    ⟨ho, ho2, he, show Value.bool false ≠ Value.notImplemented ∧ Q (.bool false) s from ⟨(fun x => nomatch x), h⟩⟩ hu
end
section
variable {A : Around} {s : Shared}
theorem RcAt_dict_tuple {l b : Addr} {o : Obj} {items2 : Array Value} (ho : s.heap.get? l = some o) (hc : o.cls = .type "dict") (hb : s.heap.IsTuple b items2) (hu : A.units < cLine) : RcAt A s (.ref l) (.ref b) false := fun prog w E Q h => by
  obtain ⟨⟨cls2, dd2, data2, sl2⟩, ho2, hc2, n2, hd2⟩ := id hb
  simp only at hc2 hd2
  subst hc2 hd2
  have hne : l ≠ b := fun e => by
    subst e
    rw [ho] at ho2
    cases ho2
    exact absurd hc (by simp)
  exact (rc_eq_decline_or (k := false) ⟨_, ho, hc⟩ ⟨_, ho2, rfl⟩ (by decide) F.sub_tuple_dict F.slot_dict_eq F.slot_tuple_eq_refl
    (fun _ hq => call_meets F.slot_dict_eq ⟨_, ho, hc⟩ F.entry_dict_eq (F.args_dict_eq_2 _ _) (dict_eq_declines_tuple l b o items2 n2 dd2 sl2) ⟨ho, hc, ho2, hq⟩)
    (fun _ hq => call_meets F.slot_tuple_eq_refl ⟨_, ho2, rfl⟩ F.entry_tuple_eq (F.args_tuple_eq_2 _ _) (tuple_eq_declines_dict b l o items2 n2 dd2 sl2) ⟨ho2, ho, hc, hq⟩)
    (fun _ hq => wpAny_isSame_ref_other hne ho ho2 (by rw [hc]; simp) hq) (.inr hu) h)
end
/-- how two values are seen to be equal, or not, by their first things; n deep -/
inductive EqW (K : PySem.W.Frag) (H : Hp) : Nat → V → V → Bool → Prop
  | same {n : Nat} {a : Addr} {xs : List V} : SqT K H a xs → EqW K H n (.ref a) (.ref a) true
  | nonT {n : Nat} {b : Addr} {ys : List V} : SqT K H b ys → EqW K H n .non (.ref b) false
  | intT {n : Nat} {i : Int} {b : Addr} {ys : List V} : SqT K H b ys → EqW K H n (.int i) (.ref b) false
  | strT {n : Nat} {x : Str} {b : Addr} {ys : List V} : SqT K H b ys → EqW K H n (.str x) (.ref b) false
  | tStr {n : Nat} {x : Str} {a : Addr} {xs : List V} : SqT K H a xs → EqW K H n (.ref a) (.str x) false
  | lstT {n : Nat} {a b : Addr} {xs ys : List V} : SqL K H a xs → SqT K H b ys → EqW K H n (.ref a) (.ref b) false
  | dicT {n : Nat} {a b : Addr} {ys : List V} : H a = some (.dK []) → SqT K H b ys → EqW K H n (.ref a) (.ref b) false
  | nilT {n : Nat} {a b : Addr} {y : V} {ys : List V} : SqT K H a [] → SqT K H b (y :: ys) → EqW K H n (.ref a) (.ref b) false
  | fst {n : Nat} {a b : Addr} {x y : V} {xs ys : List V} : SqT K H a (x :: xs) → SqT K H b (y :: ys) → x :: xs ≠ y :: ys → EqW K H n x y false → EqW K H (n + 1) (.ref a) (.ref b) false
theorem EqW.at_ {X : Cx} {pins : List (Addr × Obj)} {σ : L2.St} {H : Hp} {s : Shared} (I : L2.Inv X pins σ H s) : ∀ {n : Nat} {x y : V} {b : Bool}, EqW X.K H n x y b → ∀ {A : Around} {u v : Value}, A.units + n < cLine → RelV x u → RelV y v → RcAt A s u v b ∧ EqAt A s u v b
  | _, _, _, _, .same (a := a) ht, A, u, v, hu, ru, rv => by
    cases (show u = Value.ref a from ru)
    cases (show v = Value.ref a from rv)
    obtain ⟨its, r, p, _⟩ := I.tuple ht
    refine ⟨?_, EqAt.same _⟩
    have := RcAt.tuples (e := fun _ => true) p p (A := A) (s := s) (by omega) fun j h1 h2 => EqAt.same _
    have e : ((List.range (min its.toArray.size its.toArray.size)).all (fun _ => true) && its.toArray.size == its.toArray.size) = true := by simp
    rw [e] at this
    exact this
  | _, _, _, _, .nonT (b := b) ht, A, u, v, hu, ru, rv => by
    cases (show u = Value.none from ru)
    cases (show v = Value.ref b from rv)
    obtain ⟨its, r, p, _⟩ := I.tuple ht
    exact ⟨RcAt.none_tuple p (by omega), EqAt.none_tuple p (by omega)⟩
  | _, _, _, _, .intT (b := b) ht, A, u, v, hu, ru, rv => by
    obtain ⟨t, q⟩ := (show ∃ t, u = Value.int _ t from ru)
    cases q
    cases (show v = Value.ref b from rv)
    obtain ⟨its, r, p, _⟩ := I.tuple ht
    exact ⟨RcAt.int_tuple _ _ p (by omega), EqAt.int_tuple _ _ p (by omega)⟩
  | _, _, _, _, .strT (b := b) ht, A, u, v, hu, ru, rv => by
    obtain ⟨t, q⟩ := (show ∃ t, u = Value.str _ t from ru)
    cases q
    cases (show v = Value.ref b from rv)
    obtain ⟨its, r, p, _⟩ := I.tuple ht
    exact ⟨RcAt.str_tuple _ _ p (by omega), EqAt.str_tuple _ _ p (by omega)⟩
  | _, _, _, _, .tStr (a := a) ht, A, u, v, hu, ru, rv => by
    cases (show u = Value.ref a from ru)
    obtain ⟨t, q⟩ := (show ∃ t, v = Value.str _ t from rv)
    cases q
    obtain ⟨its, r, p, _⟩ := I.tuple ht
    exact ⟨RcAt.tuple_str _ _ p (by omega), EqAt.tuple_str _ _ p (by omega)⟩
  | _, _, _, _, .lstT (a := a) (b := b) hl ht, A, u, v, hu, ru, rv => by
    cases (show u = Value.ref a from ru)
    cases (show v = Value.ref b from rv)
    obtain ⟨its, r, p, _⟩ := I.tuple ht
    obtain ⟨its2, r2, p2, _⟩ := I.list hl
    exact ⟨RcAt.list_tuple p2.isList p (by omega), EqAt.list_tuple p2.isList p (by omega)⟩
  | _, _, _, _, .dicT (a := a) (b := b) hd ht, A, u, v, hu, ru, rv => by
    cases (show u = Value.ref a from ru)
    cases (show v = Value.ref b from rv)
    obtain ⟨its, r, p, _⟩ := I.tuple ht
    obtain ⟨_, _, vs, _, o, es, ep, h1, h2, _⟩ := (show ObjOk X.prog X.w H s.heap a (.dK []) from I.hok a _ hd)
    have rc := RcAt_dict_tuple (A := A) (s := s) h1 h2.1 p (by omega)
    have hne : a ≠ b := fun e => by
      subst e
      obtain ⟨o2, ho2, hc2, _⟩ := p
      rw [h1] at ho2
      cases ho2
      rw [h2.1] at hc2
      exact absurd hc2 (by simp)
    exact ⟨rc, .of_refs hne rc⟩
  | _, _, _, _, .nilT (a := a) (b := b) h1 h2, A, u, v, hu, ru, rv => by
    cases (show u = Value.ref a from ru)
    cases (show v = Value.ref b from rv)
    obtain ⟨its, r, p, _⟩ := I.tuple h1
    obtain ⟨its2, r2, p2, _⟩ := I.tuple h2
    cases r
    have hl := r2.length
    have rc := RcAt.tuples (e := fun _ => true) p p2 (A := A) (s := s) (by omega) fun j h1 h2 => absurd h1 (by simp)
    have e : ((List.range (min ([] : List Value).toArray.size its2.toArray.size)).all (fun _ => true) && ([] : List Value).toArray.size == its2.toArray.size) = false := by
      have : its2.length ≠ 0 := by rw [← hl]; simp
      simp
      intro z
      exact this (by rw [z])
    rw [e] at rc
    have hne : a ≠ b := fun z => by
      subst z
      have := I.tuple_inj h1 h2
      cases this
    exact ⟨rc, .of_refs hne rc⟩
  | _, _, _, _, .fst (a := a) (b := b) h1 h2 hd h, A, u, v, hu, ru, rv => by
    cases (show u = Value.ref a from ru)
    cases (show v = Value.ref b from rv)
    obtain ⟨its, r, p, _⟩ := I.tuple h1
    obtain ⟨its2, r2, p2, _⟩ := I.tuple h2
    cases r with
    | cons ra rr =>
      cases r2 with
      | cons rb rr2 =>
        have q := EqW.at_ I h (A := A.in1) (by rw [units_in1]; omega) ra rb
        have rc := RcAt_first (A := A) (s := s) p p2 (by omega) ⟨by simp, by simp, by simpa using q.2⟩
        have hne : a ≠ b := fun z => by
          subst z
          exact hd (I.tuple_inj h1 h2)
        exact ⟨rc, .of_refs hne rc⟩
end Bf
namespace Bf
open PySem PySem.Spec PyProof.Rows L2
open AutoSeq1 (wpAny_loadPart')
/-! ## enumerate(a tuple) -/
section
variable {prog : Program} {w : World} {A : Around} {E : Value → Shared → Prop} {s : Shared}
end
section
variable {prog : Program} {w : World} {A : Around} {E : Value → Shared → Prop} {s : Shared}
end
section
variable {K : PySem.W.Frag} {S SB : Sta} {L : List Addr} {ρ : List (Option Dt)} {P : Po} {tl : TE} {t : TS}
end
end Bf
namespace Bf
open PySem PySem.Spec PyProof.Rows L2
/-! ## Ratios' members in terms -/
structure RatG (K : PySem.W.Frag) (C gN : Addr) (hN : FuncData) (gD : Addr) (hD : FuncData) : Prop where
  n : ∀ (P : Program) (w : World) (mg : Str → Option Value) (base : Heap), FnOk P w K mg base CX0 1 gN hN ["self"] (getSp C "_num")
  d : ∀ (P : Program) (w : World) (mg : Str → Option Value) (base : Heap), FnOk P w K mg base CX0 1 gD hD ["self"] (getSp C "_den")
  bn : Binds K hN ["self"] []
  bd : Binds K hD ["self"] []
structure RatI (P : Program) (K : PySem.W.Frag) (mg : Str → Option Value) (fI : Addr) (fd : FuncData) (C : Addr) : Prop where
  i : ∀ (w : World) (base : Heap), GOk P w K mg base 2 fI fd ["self", "num", "den"] (spRI C)
  b2 : Binds K fd ["self", "num", "den"] []
  b1 : ∃ ds, Vals [V.int 1] ds ∧ Binds K fd ["self", "num", "den"] ds
section
variable {X : Cx} {C fI pN gN pD gD : Addr} {hN hD fd : FuncData} {e : Expr} {es : List Expr} {te : TE} {t : TA} {p pos : Pos}
end
section
variable {K : PySem.W.Frag} {S S1 : Sta} {ρ : List (Option Dt)} {tl : TA} {n : Int} {C : Addr} {E : XK}
end
/-! ### try .. except C: without a name -/
section
variable {K : PySem.W.Frag} {S S1 SB SF : Sta} {L : List Addr} {ρ : List (Option Dt)} {P : Po} {te : TE} {w : TS} {d : Dt} {f : Str} {C : Addr} {c : Value} {tw : WX → TS} {ts : Addr → Value → Option Addr → TS} {Wout : WX}
end
end Bf
namespace Bf
open PySem PySem.Spec PyProof.Rows L2
/-! ## receivers.py -/
section
variable {K : PySem.W.Frag} {mg : Str → Option Value} {C fI pN gN pD gD CB : Addr} {S : Sta} {ds : List Dt} {d : Dt} {o : Out} {E : XK}
end
/-! ### promises that hand back the thing itself -/
section
variable {K : PySem.W.Frag} {S S1 SB SF : Sta} {L : List Addr} {ρ : List (Option Dt)} {d : Dt} {R : Dt → Out → Prop} {E : XK} {C : Addr} {f : Str} {j : Nat} {xs : List Dt}
end
/-! ### need_receiver -/
section
variable {K : PySem.W.Frag} {mg : Str → Option Value} {C fI pN gN pD gD CR : Addr} {S : Sta} {d : Dt} {o : Out} {E : XK} {v : V}
end
end Bf
namespace Bf
open PySem PySem.Spec PyProof.Rows L2 PySem.SeqAt
/-! ## Things that are handed on as they are: a slot's value by itself, with what it is known to be -/
section
variable {K : PySem.W.Frag} {S S0 S1 S2 SB SF : Sta} {L : List Addr} {ρ : List (Option Dt)} {P : Po} {te ta tb : TE} {w t : TS} {tl : TA} {d x : Dt} {j n : Nat} {ds xs : List Dt} {vs : List V} {R : List V → List Dt → Out → Prop} {E : XK} {C : Addr} {f : Str} {v : V}
/-! ### tuples of the same things -/
end
end Bf
namespace Bf
open PySem PySem.Spec PyProof.Rows L2
/-! ## keywords in any order -/
end Bf
namespace Bf
open PySem PySem.Spec PyProof.Rows L2
/-! ## x op y by an own method: both of the same class -/
end Bf
namespace Bf
open PySem PySem.Spec PyProof.Rows L2
/-! ## x != y by the text's own ==, through object.__ne__ -/
section
variable {M : Model} {prog : Program} {w : World} {A : Around} {E : Value → Shared → Prop} {s : Shared} {K : PySem.W.Frag} {x C L f : Addr} {h₀ : Heap} {m : Str → Option Value} {ox : Obj} {od : Option Obj} {b tb : Value}
end
end Bf
namespace Bf
open PySem PySem.Spec PyProof.Rows L2 PySem.SeqAt
open AutoSeq1 (wpAny_loadPart')
/-! ## == and != of tuples that hold ratios: equal ones are seen to be equal -/
section
variable {prog : Program} {w : World} {A : Around} {R : Result → Shared → Prop}
end
section
variable {prog : Program} {w : World} {A : Around} {E : Value → Shared → Prop} {s : Shared}
end
/-- somewhere below a body without guards, with room -/
structure SubG (X : Cx) (n : Nat) (A : Around) : Prop where
  room : Room n A
  fr : A.frames = X.A.frames
  gd : A.guards = some []
theorem SubG.in1 {X : Cx} {n : Nat} {A : Around} (s : SubG X (n + 1) A) : SubG X n A.in1 := ⟨s.room.in1, s.fr, s.gd⟩
theorem SubG.mono {X : Cx} {n m : Nat} {A : Around} (s : SubG X n A) (h : m ≤ n) : SubG X m A := ⟨s.room.mono h, s.fr, s.gd⟩
theorem SubG.sub {X : Cx} {n : Nat} {A : Around} (s : SubG X n A) : Sub X n A := ⟨s.room, s.fr⟩
/-- == inside a builtin gives True for what D says, and only makes objects -/
def EqP (X : Cx) (n : Nat) (D : Eqv) : Prop :=
  ∀ (A : Around) (pins : List (Addr × Obj)) (s : Shared) (σ : L2.St) (H : Hp) (x y : V) (u v : Value), SubG X n A → L2.Inv X pins σ H s → RelV x u → RelV y v → D x y H →
    wpAny (model X.prog X.w) A (eqBool u v) (fun r s' => r = true ∧ ∃ H', L2.Inv X pins σ H' s' ∧ Ext H H') X.xe s
section
variable {X : Cx} {n m : Nat} {D D' : Eqv}
theorem EqP.mono (h : EqP X n D) (hn : n ≤ m) : EqP X m D := fun A pins s σ H x y u v sb => h A pins s σ H x y u v (sb.mono hn)
theorem _root_.L2.EqG.p (h : EqG X n D) : EqP X n D := fun A pins s σ H x y u v sb => h A pins s σ H x y u v sb.sub
theorem EqP.or (h : EqP X n D) (h' : EqP X n D') : EqP X n (fun x y H => D x y H ∨ D' x y H) := fun A pins s σ H x y u v sb I rx ry d => by
  rcases d with d | d
  · exact h A pins s σ H x y u v sb I rx ry d
  · exact h' A pins s σ H x y u v sb I rx ry d
end
/-- what Ratio's == says -/
def r_req (C : Addr) (ds : List Dt) (a : Dt) : Prop := ∃ n m i j, ds = [rat C n m, rat C i j] ∧ a = .bl (decide (n = i) && decide (m = j))
abbrev p_req (K : PySem.W.Frag) (C : Addr) : Sp := spR K 2 (r_req C)
/-- what the class is known for by its == -/
structure RatE (P : Program) (w : World) (K : PySem.W.Frag) (mg : Str → Option Value) (base : Heap) (C q : Addr) (qd : FuncData) : Prop where
  g : GOk P w K mg base 2 q qd ["self", "other"] (p_req K C)
  s : PySem.W.findIn K (.ref C) "__eq__" = some (some (.ref q))
  n : PySem.W.findIn K (.ref C) "__ne__" = some (some (.builtin "object.__ne__"))
  f : PySem.W.isFn K (.ref q) = true
  m : PySem.W.mroIn K C (.type "object") = some true
  b : Binds K qd ["self", "other"] []
section
variable {X : Cx} {C q : Addr} {qd : FuncData}
end
section
variable {K : PySem.W.Frag} {S : Sta} {C : Addr} {d : Dt} {n m i j : Int}
end
end Bf
namespace Bf
open PySem PySem.Spec PyProof.Rows L2
/-! ## Ratio's methods -/
/-- a method of two parts, as the text has it -/
structure RatM (K : PySem.W.Frag) (C : Addr) (x qual : Str) (st : Stmt) (f : Addr) (fd : FuncData) : Prop where
  fn : Fun K x qual st f fd
  s : PySem.W.findIn K (.ref C) x = some (some (.ref f))
  f : PySem.W.isFn K (.ref f) = true
  b : Binds K fd ["self", "other"] []
section
variable {K : PySem.W.Frag} {mg : Str → Option Value} {C fI pN gN pD gD : Addr} {S S1 S2 : Sta} {ρ : List (Option Dt)} {te ta tb : TE} {ds : List Dt} {d : Dt} {n m i j : Int}
end
/-! ### for x, y in zip(a tuple, a tuple) -/
section
variable {K : PySem.W.Frag} {S S1 S2 SB SF : Sta} {L : List Addr} {ρ : List (Option Dt)} {P : Po} {t : TS} {ta : TA}
end
end Bf
namespace Bf
open PySem PySem.Spec PyProof.Rows L2
/-! ## Dicts with tuples as keys -/
section
variable {X : Cx} {pins : List (Addr × Obj)} {σ : L2.St} {H : Hp} {s : Shared}
/-! ### d.get(k) -/
/-! ### len(d) -/
end
end Bf
namespace Bf
open PySem PySem.Spec PyProof.Rows L2
/-! ## dict(a list of pairs), the keys tuples -/
inductive PrsA (K : PySem.W.Frag) (H : Hp) : List Addr → List Addr → List V → Prop
  | nil : PrsA K H [] [] []
  | cons {p a : Addr} {v : V} {ps as : List Addr} {vs : List V} : SqT K H p [.ref a, v] → PrsA K H ps as vs → PrsA K H (p :: ps) (a :: as) (v :: vs)
theorem PrsA.len {K : PySem.W.Frag} {H : Hp} : ∀ {ps as : List Addr} {vs : List V}, PrsA K H ps as vs → as.length = ps.length ∧ vs.length = ps.length
  | _, _, _, .nil => ⟨rfl, rfl⟩
  | _, _, _, .cons _ r => ⟨by rw [List.length_cons, List.length_cons, r.len.1], by rw [List.length_cons, List.length_cons, r.len.2]⟩
section
variable {X : Cx} {pins : List (Addr × Obj)} {σ : L2.St} {H : Hp} {s : Shared}
theorem PrsA.here (I : L2.Inv X pins σ H s) : ∀ {ps as : List Addr} {vs : List V}, PrsA X.K H ps as vs → ∃ us, Vals vs us ∧ ∀ (j : Nat) (a : Addr) (u : Value), as[j]? = some a → us[j]? = some u → ∃ p, ps[j]? = some p ∧ IsTup s.heap p #[.ref a, u]
  | _, _, _, .nil => ⟨[], .nil, fun j a u e => by simp at e⟩
  | _, _, _, .cons (p := p) (a := a) (v := v) h r => by
    obtain ⟨us, rv, q⟩ := r.here I
    obtain ⟨its, ri, ht, _⟩ := I.tuple h
    obtain ⟨x, y, ei, rx, ry⟩ := vals2 ri
    subst ei
    obtain rfl : x = Value.ref a := rx
    refine ⟨y :: us, .cons ry rv, fun j a' u' e1 e2 => ?_⟩
    cases j with
    | zero =>
      obtain rfl : a = a' := by simpa using e1
      obtain rfl : y = u' := by simpa using e2
      exact ⟨p, rfl, ht⟩
    | succ j => exact q j a' u' (by simpa using e1) (by simpa using e2)
end
/-! ### over data -/
section
variable {K : PySem.W.Frag} {S S1 S2 : Sta} {ρ : List (Option Dt)} {td ty te : TE} {ks xs : List Dt} {q : Dt}
end
end Bf
namespace Bf
open PySem PySem.Spec PyProof.Rows L2
/-! ## Frames and places -/
structure Site where
  k : Int
  rest : List Int
  o : Str
def Site.d (s : Site) : Dt := .tup [.int s.k, tI s.rest, .str s.o]
def fhS (bit : Int) : Str := if bit = 1 then "pulse" else "gap"
def ohS (h : Str) : Str := if h = "pulse" then "gap" else "pulse"
def Tab.beg : Tab → Site
  | .ha u _ => ⟨0, [u], "gap"⟩
  | .pa h .. => ⟨0, h, ""⟩
/-- what a bit of halves leaves: the durations, the half under way -/
def haP (u bit : Int) (o : Str) : List Int × Str := if fhS bit = o then ([2 * u], ohS o) else ([u, u], o)
def haS (u bit : Int) (o : Str) (last : Bool) : List Int × Str := if last && decide ((haP u bit o).2 = "pulse") then ((haP u bit o).1 ++ [u], "gap") else haP u bit o
def Tab.sett : Tab → Site → Int → Site
  | .ha u b, s, bit => ⟨s.k + 1, (haS u bit s.o (decide (s.k + 1 = b))).1, (haS u bit s.o (decide (s.k + 1 = b))).2⟩
  | .pa _ z1 z2 o1 o2 st b, s, bit => ⟨s.k + 1, (if bit = 1 then [o1, o2] else [z1, z2]) ++ (if decide (s.k + 1 = b) = true then [st] else []), ""⟩
/-- the durations from a place on, with these bits to come -/
def Tab.ahead (T : Tab) : Site → List Int → List Int
  | s, [] => s.rest
  | s, bit :: ws => s.rest ++ T.ahead ⟨(T.sett s bit).k, (T.sett s bit).rest, (T.sett s bit).o⟩ ws
/-- the frame -/
def Tab.frame (T : Tab) (w : List Int) : List Int := T.ahead T.beg w
/-! ### pairs -/
/-! ### halves -/
/-- durations of halves: one under way since cur -/
def runs (u : Int) : Str → Int → List Str → List Int
  | _, cur, [] => [cur]
  | prev, cur, l :: ls => if l = prev then runs u l (cur + u) ls else cur :: runs u l u ls
def hvs (w : List Int) : List Str := w.flatMap fun bit => [fhS bit, ohS (fhS bit)]
end Bf
namespace Bf
open PySem PySem.Spec PyProof.Rows L2
/-! ## frames.py over data -/
section
variable {K : PySem.W.Frag} {S : Sta} {ds : List Dt} {d : Dt}
section
variable {S1 : Sta} {ρ : List (Option Dt)} {ta tb tc td : TE}
end
/-! ### the frame of pairs -/
end
end Bf
namespace Bf
open PySem PySem.Spec PyProof.Rows L2
section
variable {K : PySem.W.Frag} {S : Sta} {ds : List Dt} {d : Dt}
/-! ### the frame of halves -/
end
end Bf
namespace Bf
open PySem PySem.Spec PyProof.Rows L2
/-! ## The parts of a frame: what each bit adds -/
def Tab.part : Tab → Str → Int → Bool → List Int
  | .ha u _, o, bit, l => (haS u bit o l).1
  | .pa _ z1 z2 o1 o2 st _, _, bit, l => (if bit = 1 then [o1, o2] else [z1, z2]) ++ (if l = true then [st] else [])
section
variable {K : PySem.W.Frag} {S : Sta} {ds : List Dt} {d : Dt}
section
variable {S1 : Sta} {ρ : List (Option Dt)} {ta tb tc td : TE} {T : Tab} {o : Str} {bit : Int} {l : Bool}
end
section
variable {S1 : Sta} {ρ : List (Option Dt)} {ta tb tc td : TE} {T : Tab} {o : Str} {bit : Int} {l : Bool}
end
/-! ### enumerate of a tuple while lists change -/
section
variable {SB : Sta} {L : List Addr} {ρ : List (Option Dt)} {P : Po} {tl : TE} {t : TS}
end
end
end Bf
namespace Bf
open PySem PySem.Spec PyProof.Rows L2
section
variable {K : PySem.W.Frag} {S : Sta} {ds xs : List Dt} {d : Dt}
/-! ### settled -/
section
variable {S1 S2 S3 S4 : Sta} {ρ : List (Option Dt)} {ta tb tc td : TE}
end
/-! ### a step -/
/-! ### begin_of, is_end, steps_of, frame_of -/
section
variable {S1 S2 : Sta} {ρ : List (Option Dt)} {ta tb tc : TE}
end
end
end Bf
namespace Bf
open PySem PySem.Spec PyProof.Rows L2
/-! ## The law's frames: two lists, one made anew, one changed -/
section
variable {K : PySem.W.Frag} {S S1 S2 SB SF : Sta} {L : List Addr} {ρ : List (Option Dt)} {P : Po} {ta tb te : TE} {w t : TS} {xs ys : List Dt} {p q : Addr} {j : Nat}
end
end Bf
namespace Bf
open PySem PySem.Spec PyProof.Rows L2
/-! ## _law_frame -/
section
variable {K : PySem.W.Frag} {S : Sta} {ds : List Dt} {d : Dt}
end
end Bf
namespace Bf
open PySem PySem.Spec PyProof.Rows L2
/-! ## Fact 1: different words have different frames -/
end Bf
namespace Bf
open PySem PySem.Spec PyProof.Rows L2
/-! ## The law of tables: what is said, what is due -/
section
variable {K : PySem.W.Frag} {S : Sta} {ds : List Dt} {d : Dt} {C : Addr}
end
end Bf
namespace Bf
open PySem PySem.Spec PyProof.Rows L2
/-! ## a tuple backwards; a tuple many times -/
section
variable {prog : Program} {w : World} {A : Around} {E : Value → Shared → Prop} {s : Shared}
end
theorem RepA.rep {K : PySem.W.Frag} {H : Hp} {vs : List V} {ds : List Dt} (r : RepA K H vs ds) : ∀ n : Nat, RepA K H (List.replicate n vs).flatten (List.replicate n ds).flatten
  | 0 => .nil
  | n + 1 => by
    rw [List.replicate_succ, List.replicate_succ, List.flatten_cons, List.flatten_cons]
    exact r.app (r.rep n)
section
variable {K : PySem.W.Frag} {S S1 : Sta} {ρ : List (Option Dt)} {te : TE} {xs : List Dt}
end
end Bf
namespace Bf
open PySem PySem.Spec PyProof.Rows L2
/-! ## The law of frames: frame_of that refuses, word_of -/
section
variable {K : PySem.W.Frag} {S S1 S2 : Sta} {ρ : List (Option Dt)} {ds : List Dt} {d : Dt} {o : Out} {C : Addr} {E : XK} {ta tb te tl : TE} {T : Tab}
/-! ### word_of -/
end
end Bf
namespace Bf
open PySem PySem.Spec PyProof.Rows L2
/-! ## right receivers, sendings -/
section
variable {C CR : Addr} {p : Tab × Int × Int} {rc : List (Tab × Int × Int)}
end
section
variable {K : PySem.W.Frag} {mg : Str → Option Value} {C fI pN gN pD gD CR : Addr} {S : Sta} {ds : List Dt} {d : Dt}
end
end Bf
namespace Bf
open PySem PySem.Spec PyProof.Rows L2
section
variable {K : PySem.W.Frag} {S : Sta} {ds : List Dt} {d : Dt}
/-! ### the law's own looks -/
/-- no list, no tuple, no dict: may be compared -/
def scal : Dt → Bool
  | .non => true
  | .bl _ => true
  | .int _ => true
  | .str x => x.cps.all (· < 0x110000)
  | _ => false
theorem scal_okN {x : Dt} (h : scal x = true) : okN x = true := by cases x <;> simp [scal] at h <;> rfl
end
end Bf
namespace Bf
open PySem PySem.Spec PyProof.Rows L2
/-! ## in, not in over data -/
section
variable {K : PySem.W.Frag} {S : Sta} {ds : List Dt} {d : Dt}
/-! ### what is due -/
/-- parts as they are drawn: scalars, or tuples and lists of scalars -/
def parT (d : Dt) : Prop := okN d = true ∧ ∀ xs, d = .tup xs → xs.length ≤ 1000 ∧ ∀ x ∈ xs, scal x = true
end
end Bf
namespace Bf
open PySem PySem.Spec PyProof.Rows L2
/-- values as they are drawn -/
def valT (d : Dt) : Prop := okN d = true ∧ ∀ xs, d = .tup xs → xs.length ≤ 1000 ∧ ∀ x ∈ xs, parT x ∧ ∀ s : Str, x = .str s → scal x = true
section
variable {K : PySem.W.Frag} {S : Sta} {ds : List Dt} {d : Dt}
end
end Bf
namespace Bf
open PySem PySem.Spec PyProof.Rows L2
/-! ## tables with a part otherwise -/
/-- a part as it is drawn -/
def ptD (n : Nat) (d : Dt) : Prop := scal d = true ∨ ∃ xs, (d = .tup xs ∨ d = .lst xs) ∧ xs.length ≤ n ∧ ∀ x ∈ xs, scal x = true
/-- a value as it is drawn -/
def vlD (n : Nat) (d : Dt) : Prop := scal d = true ∨ d = .dic ∨ ∃ xs, (d = .tup xs ∨ d = .lst xs) ∧ xs.length ≤ 7 ∧ ∀ x ∈ xs, ptD n x
theorem ptD.mono {n m : Nat} {d : Dt} (h : ptD n d) (l : n ≤ m) : ptD m d := by
  rcases h with h | ⟨xs, e, hl, hs⟩
  · exact .inl h
  · exact .inr ⟨xs, e, by omega, hs⟩
theorem scal_pl {d : Dt} (h : scal d = true) : pl d = true := by cases d <;> simp [scal] at h <;> rfl
theorem ptD.okN {n : Nat} {d : Dt} (h : ptD n d) : okN d = true := by
  rcases h with h | ⟨xs, rfl | rfl, _, _⟩
  · exact scal_okN h
  · rfl
  · rfl
theorem ptD.pl {n : Nat} {d : Dt} (h : ptD n d) : pl d = true := by
  rcases h with h | ⟨xs, rfl | rfl, _, hs⟩
  · exact scal_pl h
  · unfold Bf.pl; exact plA_all.mpr fun x hx => scal_pl (hs x hx)
  · unfold Bf.pl; exact plA_all.mpr fun x hx => scal_pl (hs x hx)
theorem ptD.plS {n : Nat} {d : Dt} (h : ptD n d) (hn : n ≤ 100000) : plS d = true := by
  have hp := h.pl
  rcases h with h | ⟨xs, rfl | rfl, hl, hs⟩
  · cases d <;> simp [scal] at h <;> simp [Bf.plS, hp]
  · simp only [Bf.plS, hp, Bool.true_and, decide_eq_true_eq]; omega
  · simp [Bf.plS, hp]
theorem ptD.parT {n : Nat} {d : Dt} (h : ptD n d) (hn : n ≤ 1000) : parT d := ⟨h.okN, fun xs e => by
  subst e
  rcases h with h | ⟨ys, e | e, hl, hs⟩
  · simp [scal] at h
  · cases e; exact ⟨by omega, hs⟩
  · cases e⟩
theorem vlD.pl {n : Nat} {d : Dt} (h : vlD n d) : pl d = true := by
  rcases h with h | rfl | ⟨xs, rfl | rfl, _, hs⟩
  · exact scal_pl h
  · rfl
  · unfold Bf.pl; exact plA_all.mpr fun x hx => (hs x hx).pl
  · unfold Bf.pl; exact plA_all.mpr fun x hx => (hs x hx).pl
theorem vlD.plD {n : Nat} {d : Dt} (h : vlD n d) (hn : n ≤ 1000) : plD d := ⟨h.pl, fun xs e => by
  subst e
  rcases h with h | h | ⟨ys, e | e, hl, hs⟩
  · simp [scal] at h
  · cases h
  · cases e
    exact List.all_eq_true.mpr fun x hx => (hs x hx).plS (by omega)
  · cases e⟩
theorem vlD.valT {n : Nat} {d : Dt} (h : vlD n d) (hn : n ≤ 1000) : valT d := ⟨pl_okN h.pl, fun xs e => by
  subst e
  rcases h with h | h | ⟨ys, e | e, hl, hs⟩
  · simp [scal] at h
  · cases h
  · cases e
    refine ⟨by omega, fun x hx => ⟨(hs x hx).parT hn, fun s e => ?_⟩⟩
    subst e
    rcases hs _ hx with h | ⟨zs, e | e, _⟩
    · exact h
    · cases e
    · cases e
  · cases e⟩
/-! ### a value of which nothing is wrong is a right table -/
end Bf
namespace Bf
open PySem PySem.Spec PyProof.Rows L2
/-! ## _law_spoiled -/
section
variable {K : PySem.W.Frag} {S S1 S2 : Sta} {ρ : List (Option Dt)} {t u : TT}
end
section
variable {K : PySem.W.Frag} {a : Addr} {c : CT} {cs : List Int} {n : Nat} {ds : List Dt}
end
end Bf
namespace Bf
open PySem PySem.Spec PyProof.Rows L2
/-! ## tables like others, receivers -/
section
variable {K : PySem.W.Frag} {a : Addr} {c : CT} {cs : List Int} {n : Nat} {ds : List Dt}
end
end Bf
namespace Bf
open PySem PySem.Spec PyProof.Rows L2
/-! ## The law of frames: what is said, a bent frame -/
section
variable {K : PySem.W.Frag} {S S1 S2 : Sta} {ρ : List (Option Dt)} {ds : List Dt} {d : Dt} {C : Addr} {ta tb te tl : TE} {tt : TT} {T : Tab} {vs : List Nat} {j : Nat} {xs : List Dt}
/-! ### [x for x in a tuple if tt]: how many -/
end
/-! ### str(n) -/
end Bf
namespace Bf
open PySem PySem.Spec PyProof.Rows L2
/-! ## a tuple times some number -/
/-! ## frames are small -/
/-! ## a frame with one thing otherwise -/
section
variable {K : PySem.W.Frag} {a : Addr} {c : CT} {cs : List Int} {n : Nat} {ds : List Dt}
end
end Bf
namespace Bf
open PySem PySem.Spec PyProof.Rows L2
/-! ## Bursts: how far off a frame -/
abbrev Fq : Type := Int × Int
/-- the difference, divided by the duration -/
def offP (p : Fq) (s : Int) : Fq := (if p.1 - s * p.2 < 0 then -(p.1 - s * p.2) else p.1 - s * p.2, s * p.2)
/-! ### off_by, greatest_off -/
section
variable {K : PySem.W.Frag} {mg : Str → Option Value} {C fI pN gN pD gD : Addr} {S S1 S2 : Sta} {ρ : List (Option Dt)} {te ta tb : TE} {ds : List Dt} {d : Dt}
end
end Bf
namespace Bf
open PySem PySem.Spec PyProof.Rows L2
/-! ## Frames have oddly many durations, each above 0 -/
end Bf
namespace Bf
open PySem PySem.Spec PyProof.Rows L2
section
variable {K : PySem.W.Frag} {S : Sta} {ds xs : List Dt} {d : Dt}
/-! ## the law's own frames and places -/
/-! ### _law_steps -/
end
end Bf
namespace Bf
open PySem PySem.Spec PyProof.Rows L2
/-! ## The law of frames -/
/-! ### what is known -/
end Bf
namespace Bf
open PySem PySem.Spec PyProof.Rows L2
section
variable {K : PySem.W.Frag} {a C : Addr} {c : CT} {cs : List Int}
end
end Bf
namespace Bf
open PySem PySem.Spec PyProof.Rows L2
/-! ## need_burst, nearest, and the law's own -/
section
variable {K : PySem.W.Frag} {mg : Str → Option Value} {C CW fI pN gN pD gD : Addr} {S S1 S2 : Sta} {ρ : List (Option Dt)} {te ta tb : TE} {ds : List Dt} {d : Dt}
end
end Bf
namespace Bf
open PySem PySem.Spec PyProof.Rows L2
/-! ## drawn receivers -/
section
variable {K : PySem.W.Frag} {S S1 : Sta} {ρ : List (Option Dt)} {tl : TA} {C : Addr} {E : XK} {Φ : Int → Int → Prop}
end
section
variable {K : PySem.W.Frag} {a : Addr} {c : CT} {cs : List Int} {n : Nat} {ds : List Dt} {C : Addr}
end
end Bf
namespace Bf
open PySem PySem.Spec PyProof.Rows L2
/-! ## What a receiver reads -/
/-! ### fits, and the law's own -/
section
variable {K : PySem.W.Frag} {mg : Str → Option Value} {C fI pN gN pD gD : Addr} {S S1 S2 SB : Sta} {L : List Addr} {ρ : List (Option Dt)} {P : Po} {te ta tb tl : TE} {t : TS} {ds : List Dt} {d : Dt}
end
end Bf
namespace Bf
open PySem PySem.Spec PyProof.Rows L2
/-! ## drawn receivers, with what their tolerances are at most -/
section
variable {K : PySem.W.Frag} {a : Addr} {c : CT} {cs : List Int} {n : Nat} {ds : List Dt} {C : Addr}
end
end Bf
namespace Bf
open PySem PySem.Spec PyProof.Rows L2
/-! ## words_of, where need_table may refuse -/
section
variable {K : PySem.W.Frag} {S : Sta} {ds : List Dt} {CB C : Addr}
end
/-! ## need_burst of what is none -/
section
variable {K : PySem.W.Frag} {mg : Str → Option Value} {C CB fI pN gN pD gD : Addr} {S : Sta} {ds : List Dt} {d : Dt} {o : Out} {E : XK}
end
end Bf
namespace Bf
open PySem PySem.Spec PyProof.Rows L2
/-! ### for x, y in zip(a tuple, a tuple), to the shorter one's end -/
section
variable {K : PySem.W.Frag} {S S1 S2 SB SF : Sta} {L : List Addr} {ρ : List (Option Dt)} {P : Po} {t : TS} {ta : TA}
end
end Bf
namespace Bf
open PySem PySem.Spec PyProof.Rows L2
/-! ## The law of bursts: need_burst, need_ratio, is_within -/
section
variable {K : PySem.W.Frag} {mg : Str → Option Value} {C CB CR fI pN gN pD gD : Addr} {S S1 : Sta} {ds : List Dt} {d : Dt} {o : Out} {E : XK} {vs : List V} {ρ : List (Option Dt)}
/-! ### what is said -/
/-- what is known of the two classes -/
structure Two (K : PySem.W.Frag) (CB CR : Addr) : Prop where
  bb : PySem.W.kitOne K (.ref CB) (.ref CB) = some true
  rb : PySem.W.kitOne K (.ref CR) (.ref CB) = some false
  xb : PySem.W.exmAny K (.ref CB) [.ref CB, .ref CR] = some true
  xr : PySem.W.exmAny K (.ref CR) [.ref CB, .ref CR] = some true
end
end Bf
namespace Bf
open PySem PySem.Spec PyProof.Rows L2
/-! ## The need of two durations -/
/-! ### nearest_allowed, need_between, and the law's own -/
section
variable {K : PySem.W.Frag} {C : Addr} {S : Sta} {ds : List Dt} {d : Dt}
end
end Bf
namespace Bf
open PySem PySem.Spec PyProof.Rows L2 PySem.SeqAt
/-! ## xs != ys, lists of tuples of the very same things -/
end Bf
namespace Bf
open PySem PySem.Spec PyProof.Rows L2
section
variable {K : PySem.W.Frag} {mg : Str → Option Value} {C CB CR fI pN gN pD gD : Addr} {S S1 : Sta} {ds : List Dt} {d : Dt} {o : Out} {E : XK} {vs : List V} {ρ : List (Option Dt)}
/-! ### what is said -/
end
/-! ## The law of needs -/
section
variable {K : PySem.W.Frag} {mg : Str → Option Value} {C CN CR fI pN gN pD gD : Addr} {S S1 : Sta} {ds : List Dt} {d : Dt} {o : Out} {E : XK} {vs : List V} {ρ : List (Option Dt)}
end
end Bf
namespace Bf
open PySem PySem.Spec PyProof.Rows L2
/-! ## list.count and list.index of flat things; isinstance of a kept error, of a tuple of classes -/
section
variable {K : PySem.W.Frag} {S S1 : Sta} {ρ : List (Option Dt)} {te : TE} {d : Dt} {p : Addr} {bs : List Bool}
end
section
variable {K : PySem.W.Frag} {S S1 : Sta} {ρ : List (Option Dt)} {te : TE} {d : Dt} {C D1 D2 : Addr} {f : Str} {b : Bool}
end
end Bf
namespace Bf
open PySem PySem.Spec PyProof.Rows L2
/-! ## Loops over a tuple in which draws are made and a list grows -/
section
variable {K : PySem.W.Frag} {S S1 SB SF : Sta} {L : List Addr} {ρ : List (Option Dt)} {P : Po} {te : TE} {w t : TS} {H : Hp} {σ : L2.St}
end
/-! ### _law_moved -/
section
variable {K : PySem.W.Frag} {a : Addr} {c : CT} {cs : List Int} {n : Nat} {ds : List Dt} {C : Addr}
end
end Bf
namespace Bf
open PySem PySem.Spec PyProof.Rows L2
/-! ## The law of bursts -/
section
variable {K : PySem.W.Frag} {a : Addr} {c : CT} {cs : List Int} {n : Nat} {ds : List Dt} {C : Addr}
end
end Bf
namespace Bf
open PySem PySem.Spec PyProof.Rows L2
/-! ## Drawn bursts; the law of nearest -/
section
variable {K : PySem.W.Frag} {S S1 S2 SB SF : Sta} {L : List Addr} {ρ : List (Option Dt)} {P : Po} {te ta tb tl : TE} {t : TS} {Φ : Dt → Prop} {a : Addr} {c : CT} {cs : List Int} {n : Nat} {C : Addr}
end
section
variable {K : PySem.W.Frag} {a : Addr} {c : CT} {cs : List Int} {n : Nat} {ds : List Dt} {C : Addr}
end
end Bf
namespace Bf
open PySem PySem.Spec PyProof.Rows L2
/-! ## reads -/
section
variable {K : PySem.W.Frag} {S SB : Sta} {L : List Addr} {ρ : List (Option Dt)} {P : Po} {tl : TE} {t : TS}
end
section
variable {K : PySem.W.Frag} {mg : Str → Option Value} {C CB CR CW : Addr} {S : Sta} {ds : List Dt} {d : Dt} {o : Out} {E : XK}
end
end Bf
namespace Bf
open PySem PySem.Spec PyProof.Rows L2 PySem.SeqAt
open AutoSeq1 (wpAny_loadPart')
open MeetsSeq MeetsSeq2 MeetsSeq3 SeqRoads2
/-! ## == and != of lists that hold ratios: equal ones are seen to be equal -/
section
variable {prog : Program} {w : World} {A : Around} {R : Result → Shared → Prop} {E : Value → Shared → Prop} {s : Shared}
end
section
variable {X : Cx} {n : Nat} {D : Eqv}
end
section
variable {X : Cx} {C q : Addr} {qd : FuncData}
end
end Bf
namespace Bf
open PySem PySem.Spec PyProof.Rows L2
/-! ## The law of reading: drawn bursts, what is refused -/
section
variable {K : PySem.W.Frag} {a : Addr} {c : CT} {cs : List Int} {n : Nat} {ds : List Dt} {d : Dt} {C CB : Addr}
end
end Bf
namespace Bf
open PySem PySem.Spec PyProof.Rows L2
/-! ## The end, where the law's def makes lambdas: the script, and the tables of code objects, empty -/
section
variable {P : Program} {w : World} {K : PySem.W.Frag} {mg mb : Str → Option Value} {k : Nat} {fa a : Addr} {fd : FuncData} {x : Str} {sp : Sp} {s₁ : Shared} {vs : List Value} {ns : List Int} {cs : List (Addr × Addr)}
end
end Bf
namespace Bf
open PySem PySem.Spec PyProof.Rows L2
section
variable {K : PySem.W.Frag} {S SB SF : Sta} {L : List Addr} {ρ : List (Option Dt)} {P : Po} {tl : TE} {t : TS}
end
section
variable {K : PySem.W.Frag} {S S1 SB SF : Sta} {L : List Addr} {ρ : List (Option Dt)} {P : Po} {te : TE} {w : TS} {xs : List Dt}
end
section
variable {K : PySem.W.Frag} {a : Addr} {c : CT} {cs : List Int} {CB CR C : Addr}
end
end Bf
namespace Bf
open PySem PySem.Spec PyProof.Rows L2
/-! ## Styles, moments, rows -/
section
variable {K : PySem.W.Frag} {S S1 : Sta} {ds : List Dt} {ρ : List (Option Dt)} {o : Out} {E : XK} {CN CS CR : Addr}
/-! ### those that refuse -/
end
end Bf
namespace Bf
open PySem PySem.Spec PyProof.Rows L2
section
variable {K : PySem.W.Frag} {a : Addr} {c : CT} {cs : List Int} {CN CR C : Addr}
end
end Bf
namespace Bf
open PySem PySem.Spec PyProof.Rows L2
/-! ## A list that grows once, right where it is made -/
section
variable {K : PySem.W.Frag} {S SB SF : Sta} {L : List Addr} {ρ : List (Option Dt)} {P : Po} {te : TE} {ta : TA} {w : TS} {d : Dt} {xs : List Dt} {j : Nat}
end
/-! ### an error is told of by its kind and by what it was given -/
structure Ten where
  ratio : Addr
  table : Addr
  word : Addr
  burst : Addr
  receiver : Addr
  number : Addr
  paper : Addr
  style : Addr
  row : Addr
  text : Addr
def Ten.l (t : Ten) : List Addr := [t.ratio, t.table, t.word, t.burst, t.receiver, t.number, t.paper, t.style, t.row, t.text]
/-- C is the one at i, and no other -/
structure IsTen (K : PySem.W.Frag) (t : Ten) (C : Addr) (i : Nat) : Prop where
  at_ : t.l[i]? = some C
  is_ : ∀ j D, j < 9 → t.l[j]? = some D → PySem.W.kitOne K (.ref C) (.ref D) = some (decide (j = i))
  ex : PySem.W.exmAny K (.ref C) (t.l.map Value.ref) = some true
section
variable {K : PySem.W.Frag} {S S1 : Sta} {ds : List Dt} {ρ : List (Option Dt)} {o : Out} {E : XK} {CN CS CR : Addr} {a : Dt} {t : Ten}
end
/-! ### what is said -/
section
variable {K : PySem.W.Frag} {S S1 : Sta} {ds : List Dt} {ρ : List (Option Dt)} {o : Out} {E : XK} {d : Dt} {t : Ten}
end
end Bf
namespace Bf
open PySem PySem.Spec PyProof.Rows L2
mutual
theorem gd_pl : ∀ (n : Nat) (d : Dt), gd n d = true → pl d = true
  | _, .non, _ => rfl
  | _, .bl _, _ => rfl
  | _, .int _, _ => rfl
  | _, .str _, _ => rfl
  | n + 1, .lst xs, h => by
    simp only [gd, Bool.and_eq_true] at h
    unfold pl
    exact gdA_pl n xs h.1
  | n + 1, .tup xs, h => by
    simp only [gd, Bool.and_eq_true] at h
    unfold pl
    exact gdA_pl n xs h.1
  | 0, .lst xs, h => by simp [gd] at h
  | 0, .tup xs, h => by simp [gd] at h
  | n, .dic, h => by simp [gd] at h
  | n, .ins _ _ _, h => by simp [gd] at h
  | n, .raw _, h => by simp [gd] at h
  | n, .lat _ _, h => by simp [gd] at h
  | n, .err _ _ _, h => by simp [gd] at h
  | n, .dct _ _, h => by simp [gd] at h
  | n, .dti _ _ _, h => by simp [gd] at h
  | n, .dat _ _ _ _, h => by simp [gd] at h
  | n, .cel _ _, h => by simp [gd] at h
theorem gdA_pl : ∀ (n : Nat) (xs : List Dt), gdA n xs = true → plA xs = true
  | _, [], _ => rfl
  | n, x :: xs, h => by
    simp only [gdA, Bool.and_eq_true] at h
    unfold plA
    rw [gd_pl n x h.1, gdA_pl n xs h.2]
    rfl
end
section
variable {K : PySem.W.Frag} {S S1 : Sta} {ds : List Dt} {ρ : List (Option Dt)} {d : Dt}
end
end Bf
namespace Bf
open PySem PySem.Spec PyProof.Rows L2
/-! ### what is due of a row -/
section
variable {K : PySem.W.Frag} {S S1 : Sta} {ds : List Dt} {ρ : List (Option Dt)} {d : Dt}
end
/-! ### repr, where an empty dict may stand -/
end Bf
namespace Bf
open PySem PySem.Spec PyProof.Rows L2
/-! ## The draws -/
section
variable {K : PySem.W.Frag} {S S1 SB SF : Sta} {L : List Addr} {ρ : List (Option Dt)} {P : Po} {t w : TS} {ta : TA}
end
section
variable {K : PySem.W.Frag} {a : Addr} {c : CT} {cs : List Int} {n : Nat} {ds : List Dt}
end
/-! ### a style -/
/-! ### an odd row -/
section
variable {K : PySem.W.Frag} {a : Addr} {c : CT} {cs : List Int} {n : Nat} {ds : List Dt}
end
end Bf
namespace Bf
open PySem PySem.Spec PyProof.Rows L2
/-! ## One moment on -/
inductive Sy where
  | short
  | toggle
  | same (k : Int)
def Sy.d : Sy → Dt
  | .short => .tup [.str "short"]
  | .toggle => .tup [.str "toggle"]
  | .same k => .tup [.str "same", .int k]
def Sy.n : Sy → Str
  | .short => "short"
  | .toggle => "toggle"
  | .same _ => "same"
def Sy.ok : Sy → Prop
  | .same k => 0 ≤ k ∧ k ≤ 9
  | _ => True
inductive Mo where
  | rest
  | press (b : Int) (h : Bool)
  | hold (h : Bool)
def Mo.d : Mo → Dt
  | .rest => .tup [.str "rest"]
  | .press b h => .tup [.str "press", .int b, .bl h]
  | .hold h => .tup [.str "hold", .bl h]
def Mo.n : Mo → Str
  | .rest => "rest"
  | .press _ _ => "press"
  | .hold _ => "hold"
/-- a frame is heard -/
def Mo.hd : Mo → Bool
  | .press _ h => h
  | .hold h => h
  | .rest => false
structure La where
  b : Int
  m : Int
  age : Int
  th : Bool
def La.d (l : La) : Dt := .tup [.int l.b, .int l.m, .int l.age, .bl l.th]
def laD : Option La → Dt
  | none => .non
  | some l => l.d
def boD : Option Int → Dt
  | none => .non
  | some b => .int b
structure St1 where
  bo : Option Int
  mr : Int
  la : Option La
def St1.d (s : St1) : Dt := .tup [boD s.bo, .int s.mr, laD s.la]
section
variable {K : PySem.W.Frag} {S S1 S2 : Sta} {ds : List Dt} {ρ : List (Option Dt)} {d : Dt} {te : TE}
end
end Bf
namespace Bf
open PySem PySem.Spec PyProof.Rows L2
/-! ## The law of styles and rows -/
section
variable {K : PySem.W.Frag} {S S1 : Sta} {ρ : List (Option Dt)} {tl : TA} {n m : Nat} {ds es : List Dt} {R : List Dt → Out → Prop} {E : XK} {d x : Dt} {o : Out} {T : List (Addr × Str)} {RR : Out → Dt → Prop}
end
section
variable {K : PySem.W.Frag} {a : Addr} {c : CT} {cs : List Int} {t : Ten}
end
end Bf
namespace Bf
open PySem PySem.Spec PyProof.Rows L2
/-! ## A row of moments -/
section
variable {K : PySem.W.Frag} {S : Sta} {ds : List Dt} {o : Out} {E : XK} {CS CN CR p : Addr}
end
end Bf
namespace Bf
open PySem PySem.Spec PyProof.Rows L2
/-! ## Lists: three new ones, one made anew among loose ones, a list times a number -/
section
variable {K : PySem.W.Frag} {S S1 S2 SB SF : Sta} {L : List Addr} {ρ : List (Option Dt)} {P : Po} {te tb : TE} {ta : TA} {w : TS} {xs : List Dt} {d : Dt}
/-- [..] * n -/
theorem RepA.repN {H : Hp} {vs : List V} {ds : List Dt} (r : RepA K H vs ds) : ∀ n : Nat, RepA K H (List.replicate n vs).flatten (List.replicate n ds).flatten
  | 0 => .nil
  | n + 1 => by
    rw [List.replicate_succ, List.replicate_succ, List.flatten_cons, List.flatten_cons]
    exact r.app (r.repN n)
theorem ev_repL {n : Nat} (ha : EvA K S S1 ρ ta (Eq xs)) (hz : xs.length ≤ 1000) (hb : Ev K S1 S2 ρ tb (Eq (.int n))) (hn : n ≤ 1000) : Ev K S S2 ρ (tOp rRep (tLst ta) tb) (Eq (.lst (List.replicate n xs).flatten)) := fun σ H i s Q q =>
  ha σ H i s _ fun vs ds H1 g1 i1 r1 e => by
    subst e
    have hl := r1.len
    have hsz : (1000000 : Nat) ≤ sizeLine := by decide
    refine ⟨by omega, fun p hp => ?_⟩
    have sm : Same H1 (upd H1 p (.lst vs)) := same_new hp
    refine hb σ _ (S1.st i1 sm) ((s.mono g1).mono sm.gr) _ fun u d' H2 g2 i2 r2 e => ?_
    subst e
    obtain rfl := r2.intI
    have hp2 : H2 p = some (.lst vs) := g2 _ _ upd_same rfl
    have hm : vs.length * n ≤ 1000 * 1000 := Nat.mul_le_mul (by omega) hn
    refine ⟨p, n, vs, rfl, rfl, hp2, by omega, by omega, by rw [Int.toNat_natCast]; omega, fun p' hp' => ?_⟩
    have sm2 := same_new (o := .lst (List.replicate (n : Int).toNat vs).flatten) hp'
    rw [Int.toNat_natCast] at *
    exact q _ _ _ ((g1.trans sm.gr).trans (g2.trans sm2.gr)) (S2.st i2 sm2) (.lst (SqL.of upd_same) (((r1.mono sm.gr).mono (g2.trans sm2.gr)).repN n)) rfl
end
end Bf
namespace Bf
open PySem PySem.Spec PyProof.Rows L2
/-! ## Errors as values: made by place or by keyword -/
section
variable {P : Program} {w : World} {fs ex : List Addr} {H : Hp} {h h' : Heap} {a b : Addr} {o u : HO}
theorem same_two (ha : H a = none) (hb : H b = none) : Same H (upd (upd H a o) b u) := fun c v e => by
  rw [upd_ne (ne_of_none e hb), upd_ne (ne_of_none e ha)]
  exact e
theorem un_two (k : ∀ c v, h.get? c = some v → h'.get? c = some v) (za : h.objs.size ≤ a) (zb : h.objs.size ≤ b) (ha : H a = none) (hb : H b = none) : Un fs ex H (upd (upd H a o) b u) h h' where
  keep := fun c v q _ _ _ => k c v q
  slot := fun c v q _ _ _ => ⟨v.slots, k c v q⟩
  free := fun c v q n _ => by
    rw [upd_ne (Nat.ne_of_lt (Nat.lt_of_lt_of_le (Heap.lt_size q) zb)), upd_ne (Nat.ne_of_lt (Nat.lt_of_lt_of_le (Heap.lt_size q) za))]
    exact n
  there := fun c v q _ => ⟨v, k c v q⟩
  tups := fun c xs q => same_two ha hb c _ q
  frzs := fun c v xs q => same_two ha hb c _ q
  tbls := fun c ps q => ⟨#[], by rw [same_two ha hb c _ q]; simp⟩
theorem hok_two (x : HOk P w H h) (k : ∀ c v, h.get? c = some v → h'.get? c = some v) (ha : H a = none) (hb : H b = none) (n1 : ObjOk P w (upd (upd H a o) b u) h' a o) (n2 : ObjOk P w (upd (upd H a o) b u) h' b u) : HOk P w (upd (upd H a o) b u) h' := fun c v e => by
  by_cases c2 : c = b
  · subst c2
    rw [upd_same] at e
    cases e
    exact n2
  · rw [upd_ne c2] at e
    by_cases c1 : c = a
    · subst c1
      rw [upd_same] at e
      cases e
      exact n1
    · rw [upd_ne c1] at e
      exact (x c v e).stay (fun d v' _ q => k d v' q) (fun d q => same_two ha hb d _ q) fun d xs q => same_two ha hb d _ q
end
/-- what is known of the class at C, an own error over any base -/
structure ErrCls (B newId initId : String) (bmB : List Value) (rf : List Value → Bool) (prog : Program) (K : PySem.W.Frag) (mg : Str → Option Value) (x f : Str) (C fI : Addr) : Prop where
  O : BaseOf B newId initId bmB rf
  T : ErrTxt B newId initId rf prog K f C fI
  gC : mg x = some (.ref C)
  kC : PySem.W.keepIn K (.ref C) = true
  ms : mg "super" = none
  top : (prog.main.scope.names.lookup ("super" : Str)).isSome = false
  fn : f ≠ "self" ∧ f ≠ "super" ∧ f ≠ "__class__" ∧ f ≠ "__debug__"
/-- C(e) as a value -/
def tMkE (C : Addr) (f : Str) (ta : TA) : TE := fun σ H Q => ta σ H fun vs H1 => ∃ v, vs = [v] ∧ ∀ e d, H1 e = none → H1 d = none → d ≠ e → Q (.ref e) (upd (upd H1 d (.xd [(f, v)])) e (ErrO (.ref C) (some d) e))
section
variable {X : Cx} {B newId initId : String} {bmB : List Value} {rf : List Value → Bool} {C fI : Addr} {x f : Str}
theorem mk_run {pins : List (Addr × Obj)} {σ : L2.St} {H1 : Hp} {Q : VK} {s1 : Shared} {k : Nat} {v : V} {u : Value} (T : ErrCls B newId initId bmB rf X.prog X.K X.mg x f C fI) (hr : Room k X.A) (kw : Bool) (I1 : Inv X pins σ H1 s1) (ru : RelV v u)
    (q1 : ∀ e d, H1 e = none → H1 d = none → d ≠ e → Q (.ref e) (upd (upd H1 d (.xd [(f, v)])) e (ErrO (.ref C) (some d) e))) : wpAny (model X.prog X.w) X.A (call (.ref C) (errArgs kw f [] u).pos (errArgs kw f [] u).kw) (EP X pins σ Q) X.xe s1 := by
  have hlim := I1.nolimit
  obtain ⟨mb, hb1, hb2⟩ := I1.mod.blt
  have hg1 := I1.mod.glob.keeps I1.bk
  have hb3 := hb1.keeps I1.bk
  obtain ⟨hp, g, dr, tk, os⟩ := s1
  refine wpAny_call (err_made T.O T.T kw I1.kIn hlim hg1 hb3 T.ms ((hb2 _ (by decide)).trans (by first | rfl | decide +kernel)) T.top T.fn (by have := hr.dp; omega) fun h' tk' e d M => ?_)
  show EP X pins σ Q (.ref e) ⟨h', g, dr, tk', os⟩
  obtain ⟨t1, hoe⟩ := M.obj
  have he := I1.hok.fresh M.new
  have hd := I1.hok.fresh M.dbig
  have ob : ObjOk X.prog X.w (upd (upd H1 d (.xd [(f, v)])) e (ErrO (.ref C) (some d) e)) h' d (.xd [(f, v)]) := ⟨_, M.ns, fun y => relO_one ru y⟩
  exact ⟨.ref e, _, I1.un (t' := tk') (un_two M.keep M.dbig M.new hd he) (hok_two I1.hok M.keep hd he ob (errO_ok hoe ⟨rfl, rfl⟩ ⟨_, rfl⟩)), rfl, q1 e d he hd M.dne⟩
theorem pe_mkE {a : Expr} {ta : TA} {p pos : Pos} {k : Nat} (T : ErrCls B newId initId bmB rf X.prog X.K X.mg x f C fI) (hr : Room k X.A) (ha : PA X [a] ta) (hg : Gl X x := by rfl) (hdb : (x == ("__debug__" : Str)) = false := by decide)
    (he : starEach (a :: []) X.env = (false, eval a X.env) :: starEach [] X.env := by rfl) (hpl : (backTo pos (starEach [] X.env)).any (·.1) = false := by rfl) : PE X (.Call (.Name x p) [a] [] pos) (tMkE C f ta) := by
  refine ⟨fun pins s σ H Q I h => wpAny_Call_Name_kw (ld_glob I hg T.gC ?_ hdb)⟩
  refine PySem.W.callWith_K (h₀ := X.base) I.ok.mod.kin T.kC (thn (ha.run pos pins s σ H _ I h) fun us s1 hh => ?_) he hpl
  obtain ⟨vs, H1, I1, r1, v, rfl, q1⟩ := hh
  obtain ⟨u, rfl, ru⟩ := r1.one
  exact ⟨I1.kIn, mk_run T hr false I1 ru q1⟩
theorem pe_mkEw {kws : List Keyword} {ta : TA} {p pos : Pos} {k : Nat} (T : ErrCls B newId initId bmB rf X.prog X.K X.mg x f C fI) (hr : Room k X.A) (hkw : PK X kws ta) (hg : Gl X x := by rfl)
    (hall : (backToKw pos (keywordEach kws X.env)).all (·.1.isSome) = true := by rfl) (hks : (backToKw pos (keywordEach kws X.env)).filterMap (·.1) = [f] := by rfl) (hdb : (x == ("__debug__" : Str)) = false := by decide)
    (hpl : ((backTo pos (starEach [] X.env)).any (·.1) || (backToKw pos (keywordEach kws X.env)).any (·.1.isNone)) = false := by rfl) : PE X (.Call (.Name x p) [] kws pos) (tMkE C f ta) := by
  refine ⟨fun pins s σ H Q I h => wpAny_Call_Name_kw (ld_glob I hg T.gC ?_ hdb)⟩
  refine PySem.W.callWith_KW0 (h₀ := X.base) I.ok.mod.kin T.kC hall (thn (hkw.run pos pins s σ H _ I h) fun us s1 hh => ?_) hpl
  obtain ⟨vs, H1, I1, r1, v, rfl, q1⟩ := hh
  obtain ⟨u, rfl, ru⟩ := r1.one
  rw [hks]
  exact ⟨I1.kIn, mk_run T hr true I1 ru q1⟩
end
/-! ### isinstance of an error, any class -/
inductive RelC : V → Value → Prop
  | own (C : Addr) : RelC (.ref C) (.ref C)
  | ty (n : String) : RelC (.ty n) (.type n)
def rIsiX (K : PySem.W.Frag) (Cs : List Addr) : List V → Hp → VK → Prop := fun xs H Q => ∃ (a C dd : Addr) (y : V) (y' : Value) (f : Str) (v : V) (b : Bool), xs = [.ref a, y] ∧ RelC y y' ∧ C ∈ Cs ∧ H a = some (ErrO (.ref C) (some dd) a) ∧ H dd = some (.xd [(f, v)]) ∧ PySem.W.kitOne K (.ref C) y' = some b ∧ Q (.bl b) H
theorem call_isiX {X : Cx} {Cs : List Addr} (T : ∀ C ∈ Cs, IsiC X.K C) : CallR X (.builtin "isinstance") (rIsiX X.K Cs) := by
  intro pins s σ H xs us Q I r h
  obtain ⟨a, C, dd, y, y', f, v, b, rfl, hy, hC, hA, hD, hk, q⟩ := h
  obtain ⟨u1, u2, rfl, r1, r2⟩ := vals2 r
  obtain rfl : u1 = Value.ref a := r1
  obtain rfl : u2 = y' := by cases hy <;> exact r2
  have T := T C hC
  obtain ⟨⟨oe, ha, hz, vs, hv⟩, _, _⟩ := show ObjOk X.prog X.w H s.heap a (ErrO (.ref C) (some dd) a) from I.hok a _ hA
  obtain ⟨mA, hns, _⟩ := show ObjOk X.prog X.w H s.heap dd (.xd [(f, v)]) from I.hok dd _ hD
  obtain ⟨od, ho, _⟩ := lookIn_ns hns
  have J : PySem.W.InstAt s.heap a oe C (some od) := ⟨ha, hz.1, by unfold PySem.W.notCls; rw [hv] <;> rfl, by rw [hz.2]; exact ho⟩
  exact PySem.W.kia_one (PySem.W.kitx_exc (ox := oe) (od := some od) T.cl T.ga T.gg T.ex T.ca T.cg T.ct T.ob) I.kIn J hk (by cases hy <;> exact fun z => nomatch z) fun tk => ⟨.bl b, H, I.tok tk, rfl, q⟩
section
variable {K : PySem.W.Frag} {S S1 : Sta} {ρ : List (Option Dt)} {te : TE} {ta : TA} {d : Dt} {C : Addr} {f : Str} {b : Bool} {y : V} {y' : Value}
theorem ev_isiX {Cs : List Addr} (h : Ev K S S1 ρ te (Eq (.err C f d))) (hC : C ∈ Cs) (hy : RelC y y') (hk : PySem.W.kitOne K (.ref C) y' = some b) : Ev K S S1 ρ (tCB (rIsiX K Cs) (tCons te (tCons (tC y) tNil))) (Eq (.bl b)) := fun σ H i s Q q =>
  h σ H i s _ fun v d' H1 g1 i1 r1 e => by
    subst e
    cases r1 with
    | err h1 h2 r => exact ⟨_, _, _, _, _, _, _, _, rfl, hy, hC, h1, h2, hk, q _ _ H1 g1 i1 (.bl b) rfl⟩
theorem ev_mkE (h : EvA K S S1 ρ ta (Eq [d])) : Ev K S S1 ρ (tMkE C f ta) (Eq (.err C f d)) := fun σ H i s Q q =>
  h σ H i s _ fun vs ds H1 g1 i1 r1 e => by
    subst e
    obtain ⟨v, rfl, rv⟩ := r1.oneI
    refine ⟨v, rfl, fun e d' he hd hne => ?_⟩
    have sm : Same H1 (upd (upd H1 d' (.xd [(f, v)])) e (ErrO (.ref C) (some d') e)) := same_two hd he
    exact q _ _ _ (g1.trans sm.gr) (S1.st i1 sm) (.err upd_same (by rw [upd_ne hne, upd_same]) (rv.mono sm.gr)) rfl
end
/-! ### new lists that are not sys.modules -/
def nsys (p : Addr) : Prop := (p == sysModules) = false
theorem nsys_new {X : Cx} {pins : List (Addr × Obj)} {σ : L2.St} {H : Hp} {s : Shared} (I : Inv X pins σ H s) : nsys s.heap.objs.size := by
  exact beq_eq_false_iff_ne.mpr (Nat.ne_of_gt I.big)
def rCatX (K : PySem.W.Frag) : R2 := fun x y H Q => ∃ l b xs zs, x = .ref l ∧ y = .ref b ∧ SqL K H l xs ∧ SqL K H b zs ∧ xs.length + zs.length ≤ sizeLine ∧ ∀ p, H p = none → nsys p → Q (.ref p) (upd H p (.lst (xs ++ zs)))
theorem op_catX {X : Cx} : OpR X (binaryOp .Add) (rCatX X.K) := by
  intro pins s σ H x y v u Q I rx ry h
  obtain ⟨l, b, xs, zs, rfl, rfl, h1, h2, hz, q⟩ := h
  cases rx
  cases ry
  obtain ⟨its, r1, ⟨⟨c1, d1, dt1, sl1⟩, n1, o1, e1, _, f1⟩, _⟩ := I.list h1
  obtain ⟨jts, r2, ⟨⟨c2, d2, dt2, sl2⟩, n2, o2, e2, _, f2⟩, _⟩ := I.list h2
  simp only at e1 e2 f1 f2
  subst e1 e2 f1 f2
  have l1 := r1.length
  have l2 := r2.length
  refine concat_meets ⟨_, o1, rfl⟩ ⟨_, o2, rfl⟩ noFill_list_add seq_list_add PySem.F.slot_list_add PySem.F.entry_list_add (PySem.F.args_list_add_2 _ _)
    (list_addW l b its.toArray jts.toArray n1 n2 d1 d2 sl1 sl2 (by rw [List.size_toArray, List.size_toArray]; omega)) ⟨o1, o2, ?_⟩
  rw [show its.toArray ++ jts.toArray = (its ++ jts).toArray by simp]
  exact ⟨.ref _, _, I.lnew (t' := s.toks) (r1.append r2) (by rw [List.length_append]; omega), rfl, q _ I.fresh (nsys_new I)⟩
def rRepX : R2 := fun x y H Q => ∃ (l : Addr) (m : Nat) (xs : List V), x = .ref l ∧ y = .int m ∧ H l = some (.lst xs) ∧ m < 1000 ∧ xs.length * m ≤ 1000 ∧ ∀ p, H p = none → nsys p → Q (.ref p) (upd H p (.lst (List.replicate m xs).flatten))
theorem op_repX {X : Cx} : OpR X (binaryOp .Mult) rRepX := by
  intro pins s σ H x y v u Q I rx ry h
  obtain ⟨l, m, xs, rfl, rfl, hH, hm, hz, q⟩ := h
  cases rx
  obtain ⟨t, rfl⟩ := ry
  obtain ⟨z, its, n, r, hl, e⟩ := I.lstM hH
  obtain ⟨k, hk⟩ : ∃ k : Int, k = (m : Int) := ⟨_, rfl⟩
  rw [← hk]
  have b1 : -(2 ^ 63) ≤ k := by omega
  have b2 : k < 2 ^ 63 := by omega
  have big : 1000 ≤ sizeLine := by decide
  have em : k.toNat = m := by rw [hk]; exact Int.toNat_natCast m
  have len : its.toArray.size * k.toNat ≤ sizeLine := by rw [List.size_toArray, ← hl, em]; omega
  have cap : ¬ its.toArray.size * k.toNat > (2 ^ 63 - 1) / 8 := by
    have : (sizeLine : Nat) ≤ (2 ^ 63 - 1) / 8 := by decide
    omega
  have fit : ¬ (!Builtin.List.listFitsIndex k) = true := by rw [fitsIndex_both b1 b2] <;> exact Bool.false_ne_true
  have long : ¬ Builtin.List.listTooLong (its.toArray.size * k.toNat) = true := by rw [notLongL len] <;> exact Bool.false_ne_true
  have f0 : ∀ n : Nat, List.foldl (fun x1 x2 => x1 ++ x2) #[] (List.replicate n its.toArray) = (List.replicate n its).flatten.toArray := fun n => by
    have w := foldl_rep its n []
    rw [List.nil_append] at w <;> exact w
  have nw : List.foldl (fun x1 x2 => x1 ++ x2) #[] (List.replicate (if its.toArray.isEmpty = true then 0 else k.toNat) its.toArray) = (List.replicate m its).flatten.toArray := by
    rw [f0, em]
    cases its with
    | nil => simp
    | cons a r' => rw [if_neg (by simp)]
  refine wpAny_binaryOp_repeat_ref (T := "list") (U := "int") (by decide) ⟨_, e, rfl⟩ (fun s' => typeIs_int s' k t) noFill_list_mul F.fills_int_mul F.slot_int_rmul repeat_list F.slot_int_index.lookup (call_meets F.slot_int_rmul (typeIs_int s k t) F.entry_int_rmul (F.args_int_rmul_2 _ _) (int___rmul___int_list k t l its.toArray n) ⟨e, rfl, ⟨_, e, rfl⟩, call_meets F.slot_list_mul ⟨_, e, rfl⟩ F.entry_list_mul (F.args_list_mul_2 _ _) (AutoListH.list___mul___list_int_3 l its.toArray n k t fit cap long) ⟨e, ?_⟩⟩)
  rw [nw]
  exact ⟨.ref _, _, I.lnew (t' := s.toks) (r.rep m) (by rw [PyProof.Rows.lm_len_rep_flat, Nat.mul_comm]; omega), rfl, q _ I.fresh (nsys_new I)⟩
section
variable {K : PySem.W.Frag} {S S1 S2 : Sta} {ρ : List (Option Dt)} {te tb : TE} {ta : TA} {xs ys : List Dt}
/-- a list that is not sys.modules -/
def nlst (xs : List Dt) (d : Dt) : Prop := ∃ p, d = .lat p xs ∧ nsys p
theorem ev_catX (h1 : Ev K S S1 ρ te (Eq (.lst xs))) (h2 : Ev K S1 S2 ρ tb (Eq (.lst ys))) (hz : xs.length + ys.length ≤ sizeLine) : Ev K S S2 ρ (tOp (rCatX K) te tb) (nlst (xs ++ ys)) := ev_opP h1 h2 fun x y e1 e2 => by
  subst e1 e2
  intro H v u i r1 r2 Q q
  obtain ⟨a, vs, rfl, ha, ra⟩ := r1.lstI
  obtain ⟨b, us, rfl, hb, rb⟩ := r2.lstI
  refine ⟨a, b, vs, us, rfl, rfl, ha, hb, by rw [ra.len, rb.len]; exact hz, fun p hp np => ?_⟩
  have sm := same_new (o := .lst (vs ++ us)) hp
  exact q _ _ _ sm.gr (S2.st i sm) (.lat upd_same ((ra.app rb).mono sm.gr)) ⟨p, rfl, np⟩
theorem ev_repX {n : Nat} (ha : EvA K S S1 ρ ta (Eq xs)) (hz : xs.length ≤ 10) (hb : Ev K S1 S2 ρ tb (Eq (.int n))) (hn : n ≤ 100) : Ev K S S2 ρ (tOp rRepX (tLst ta) tb) (nlst (List.replicate n xs).flatten) := fun σ H i s Q q =>
  ha σ H i s _ fun vs ds H1 g1 i1 r1 e => by
    subst e
    have big : 10 ≤ sizeLine := by decide
    refine ⟨by rw [r1.len]; omega, fun p hp => ?_⟩
    have sm := same_new (o := .lst vs) hp
    refine hb σ _ (S1.st i1 sm) (s.mono (g1.trans sm.gr)) _ fun v d H2 g2 i2 r2 e => ?_
    subst e
    obtain rfl := r2.intI
    have hl : vs.length * n ≤ 10 * 100 := Nat.mul_le_mul (by rw [r1.len]; exact hz) hn
    refine ⟨p, n, vs, rfl, rfl, g2 _ _ upd_same rfl, by omega, by omega, fun p' hp' np => ?_⟩
    have sm2 := same_new (o := .lst (List.replicate n vs).flatten) hp'
    exact q _ _ _ ((g1.trans sm.gr).trans (g2.trans sm2.gr)) (S2.st i2 sm2) (.lat upd_same (((r1.mono sm.gr).mono (g2.trans sm2.gr)).repN n)) ⟨p', rfl, np⟩
/-- a def whose result is told by a predicate -/
def spPr (K : PySem.W.Frag) (n : Nat) (R : List Dt → (Dt → Prop) → Prop) : Sp := fun vs H Q _ => ∃ ds Φ, RepA K H vs ds ∧ ds.length = n ∧ R ds Φ ∧ ∀ v d H', Same H H' → Rep K H' v d → Φ d → Q v H'
theorem ev_callPr {ds : List Dt} {Φ : Dt → Prop} {n : Nat} {R : List Dt → (Dt → Prop) → Prop} {E : XK} (h : EvA K S S1 ρ ta (Eq ds)) (hn : ds.length = n) (hp : R ds Φ) : Ev K S S1 ρ (tCall (spPr K n R) [] E ta) Φ := fun σ H i s Q q =>
  h σ H i s _ fun vs ds' H1 g1 i1 r1 p1 => by
    subst p1
    rw [List.append_nil]
    exact ⟨ds, Φ, r1, hn, hp, fun v d H2 sm r f => q v d H2 (g1.trans sm.gr) (S1.st i1 sm) r f⟩
theorem okPr {P : Program} {w : World} {mg : Str → Option Value} {base : Heap} {x qual : Str} {st : Stmt} {f : Addr} {fd : FuncData} {N ps : List Str} {k : Nat} {R : List Dt → (Dt → Prop) → Prop} (Fu : Fun K x qual st f fd) (Sc : FnScope N ps (defScope st))
    (hb : ∀ (cdv : Value) (A : Around) (out : List Env) (s : Shared) (H : Hp) (E : XK), Room k (A.deeper (envOfC qual (defScope st) s.heap.objs.size f cdv)) → A.guards = some [] → ∃ t, PSs (cxOf (L2.CX P w) P w K mg base N qual (defScope st) f cdv A out s H E).nox (defBody st) t ∧ ∀ (S : Sta), S.Mu → ∀ (ds : List Dt) (Φ : Dt → Prop), ds.length = ps.length → R ds Φ → So K S S [] t (startD N.length ds) { rt := Φ }) :
    GOk P w K mg base (k + 1) f fd ps (spPr K ps.length R) := by
  refine okG Fu Sc (fun vs H Q E h => ?_) fun cdv A out s H vs Q E hr hg h => ?_
  · obtain ⟨ds, Φ, r, hl, _⟩ := h
    exact r.len.trans hl
  · obtain ⟨ds, Φ, r, hl, hp, q⟩ := h
    obtain ⟨t, ht, so⟩ := hb cdv A out s H E hr hg
    exact ⟨t, ht.nox, so (staSame H) staSame_mu ds Φ hl hp _ _ H H ⟨Gr.refl H, Same.refl H, fun _ z => nomatch z⟩ (Same.refl H) (slots_start r) ⟨fun σ ρ H' g i s' e => False.elim e, fun v d' H' g i r' e => q v d' H' i r' e, fun _ _ _ _ _ _ z => z.elim, fun _ _ _ _ _ _ z => z.elim⟩⟩
end
/-! ### repr of a list that holds empty dicts -/
def rReprL (K : PySem.W.Frag) : List V → Hp → VK → Prop := fun xs H Q => rRepr K xs H Q ∨ ∃ (a : Addr) (vs : List V), xs = [.ref a] ∧ nsys a ∧ vs.length ≤ 20 ∧ SqL K H a vs ∧ (∀ v ∈ vs, ∃ b, v = .ref b ∧ H b = some (.dK [])) ∧ Q (.str (PyData.list (List.replicate vs.length (.dict []))).shown) H
theorem reads_dics {X : Cx} {pins : List (Addr × Obj)} {σ : L2.St} {H : Hp} {s : Shared} (I : Inv X pins σ H s) : ∀ (vs : List V) (us : List Value), Vals vs us → (∀ v ∈ vs, ∃ b, v = .ref b ∧ H b = some (.dK [])) → ∃ as, ReadsAll s.heap us (List.replicate vs.length (.dict [])) as ∧ sysModules ∉ as
  | [], _, .nil, _ => ⟨[], .nil, fun h => nomatch h⟩
  | v :: vs, us0, hr0, h => by
    cases hr0 with
    | cons r rs =>
    rename_i u us
    obtain ⟨b, rfl, hb⟩ := h v List.mem_cons_self
    obtain ⟨as, ra, hn⟩ := reads_dics I vs us rs fun v hv => h v (List.mem_cons_of_mem _ hv)
    obtain rfl : u = Value.ref b := r
    obtain ⟨_, hsm, ws, hkv, hdo⟩ := show ObjOk X.prog X.w H s.heap b (.dK []) from I.hok b _ hb
    obtain ⟨o, es, ep, hob, hex, hod, _, hps, _⟩ := hdo
    cases hkv
    have hes : es.toList = [] := by
      generalize es.toList = l at hps
      cases hps
      rfl
    have rd : Reads s.heap (.ref b) (.dict []) [b] := Reads.dict (h := s.heap) (a := b) (kvs := []) (as := []) (bs := []) hob hex.1 hod (by rw [hes]; exact .nil) (by rw [hes]; exact .nil)
    refine ⟨[b] ++ as, .cons rd ra, fun hm => ?_⟩
    rcases List.mem_append.mp hm with hm | hm
    · rw [List.mem_singleton.mp hm] at hsm
      simp at hsm
    · exact hn hm
theorem call_reprL {X : Cx} (hg : X.A.guards = some []) (hu : X.A.units + 70 < cLine) : CallR X (.builtin "repr") (rReprL X.K) := by
  intro pins s σ H xs us Q I r h
  rcases h with h | ⟨a, vs, rfl, na, hn, ha, hv, q⟩
  · exact call_reprD hg hu pins s σ H xs us Q I r h
  obtain ⟨u, rfl, ru⟩ := vals1 r
  obtain rfl : u = Value.ref a := ru
  obtain ⟨its, rv, ⟨⟨cls, dd, data, sl⟩, m, ho, hc, _, hd⟩, _⟩ := I.list ha
  simp only at hc hd
  subst hc hd
  obtain ⟨as, ra, hns⟩ := reads_dics I vs its rv hv
  have dep : ∀ n, (PyData.list (List.replicate n (.dict []))).depth ≤ 3 := by
    intro n
    have : ∀ n, PyData.depthAll (List.replicate n (.dict [])) ≤ 2 := by
      intro n
      induction n with
      | zero => decide
      | succ n ih => rw [List.replicate_succ]; simp only [PyData.depthAll, PyData.depth, PyData.depthKv] at *; omega
    have := this n
    simp only [PyData.depth]
    omega
  have shw : ∀ n, n ≤ 20 → (PyData.list (List.replicate n (.dict []))).showable = true ∧ (PyData.list (List.replicate n (.dict []))).shown.length ≤ sizeLine := by decide +kernel
  have rd1 : Reads s.heap (.ref a) (.list (List.replicate vs.length (.dict []))) (a :: as) := .list ho rfl rfl ra
  have := dep vs.length
  exact repr_of_reads' rd1 (shw _ hn).1 (fun _ hm => by
    rcases List.mem_cons.mp hm with hm | hm
    · rw [← hm] at na
      exact absurd na (by unfold nsys; decide)
    · exact hns hm) hg (by omega) (fun _ _ e => e) (fun h' u tk hk => ⟨.str _, H, I.kept (t' := tk) hk, ⟨_, rfl⟩, q⟩) (shw _ hn).2
section
variable {K : PySem.W.Frag} {S : Sta} {d : Dt}
theorem rc_reprL {p : Addr} {xs : List Dt} (h : shwOk (.lst xs)) : RvC K S (rReprL K) [.lat p xs] (Eq (.str (py (.lst xs)).shown)) := fun H vs i r Q q => by
  obtain ⟨v, rfl, rv⟩ := r.oneI
  cases rv with
  | lat h1 r1 => exact .inl (rc_repr (S := S) h H [.ref p] i (.cons (.lst (SqL.of h1) r1) .nil) Q q)
theorem rc_reprDs {p : Addr} {n : Nat} (hn : n ≤ 20) (np : nsys p) : RvC K S (rReprL K) [.lat p (List.replicate n .dic)] (Eq (.str (PyData.list (List.replicate n (.dict []))).shown)) := rc_at fun H vs i r Q q => by
  obtain ⟨v, rfl, rv⟩ := r.oneI
  cases rv with
  | lat h1 r1 =>
    rename_i ws
    have hl : ws.length = n := by rw [r1.len, List.length_replicate]
    refine .inr ⟨p, ws, rfl, np, by omega, SqL.of h1, ?_, ?_⟩
    · have : ∀ (n : Nat) (ws : List V), RepA K H ws (List.replicate n .dic) → ∀ v ∈ ws, ∃ b, v = .ref b ∧ H b = some (.dK []) := by
        intro n
        induction n with
        | zero => intro ws r; cases r; exact fun _ h => nomatch h
        | succ n ih =>
          intro ws r
          rw [List.replicate_succ] at r
          cases r with
          | cons r1 r2 =>
            intro v hv
            rcases List.mem_cons.mp hv with rfl | hv
            · cases r1 with
              | dic h => exact ⟨_, rfl, h⟩
            · exact ih _ r2 v hv
      exact this n ws r1
    · rw [hl]
      exact q _ (.str _)
end
end Bf
namespace Bf
open PySem PySem.Spec PyProof.Rows L2
/-! ## The law of made errors -/
/-- the classes by their numbers, the two families -/
structure E11 where
  c0 : Addr
  c1 : Addr
  c2 : Addr
  c3 : Addr
  c4 : Addr
  c5 : Addr
  c6 : Addr
  c7 : Addr
  c8 : Addr
  c9 : Addr
  c10 : Addr
  fr : Addr
  st : Addr
abbrev E11.cs (t : E11) : List Addr := [t.c0, t.c1, t.c2, t.c3, t.c4, t.c5, t.c6, t.c7, t.c8, t.c9, t.c10]
def E11.c (t : E11) : Nat → Addr
  | 0 => t.c0 | 1 => t.c1 | 2 => t.c2 | 3 => t.c3 | 4 => t.c4 | 5 => t.c5 | 6 => t.c6 | 7 => t.c7 | 8 => t.c8 | 9 => t.c9 | _ => t.c10
def efld : Nat → Str
  | 0 => "given" | 1 => "part" | 2 => "given" | 3 => "given" | 4 => "place" | 5 => "given" | 6 => "part" | 7 => "given" | 8 => "moment" | 9 => "word" | _ => "count"
def errD (t : E11) (x : Dt) (k : Nat) : Dt := .err (t.c k) (efld k) x
def errL (t : E11) (x : Dt) : List Dt := [errD t x 0, errD t x 1, errD t x 2, errD t x 3, errD t x 4, errD t x 5, errD t x 6, errD t x 7, errD t x 8, errD t x 9, errD t x 10]
structure IsE (K : PySem.W.Frag) (t : E11) : Prop where
  own : ∀ k, k < 11 → ∀ j, j < 11 → PySem.W.kitOne K (.ref (t.c k)) (.ref (t.c j)) = some (decide (k = j))
  fr : ∀ k, k < 11 → PySem.W.kitOne K (.ref (t.c k)) (.ref t.fr) = some (decide (k < 10))
  ve : ∀ k, k < 11 → PySem.W.kitOne K (.ref (t.c k)) (.type "ValueError") = some (decide (k < 10))
  st : ∀ k, k < 11 → PySem.W.kitOne K (.ref (t.c k)) (.ref t.st) = some (decide (k = 10))
  re : ∀ k, k < 11 → PySem.W.kitOne K (.ref (t.c k)) (.type "RuntimeError") = some (decide (k = 10))
theorem cs_mem (t : E11) {k : Nat} (h : k < 11) : t.c k ∈ t.cs := by
  match k, h with
  | 0, _ => simp [E11.c, E11.cs]
  | 1, _ => simp [E11.c, E11.cs]
  | 2, _ => simp [E11.c, E11.cs]
  | 3, _ => simp [E11.c, E11.cs]
  | 4, _ => simp [E11.c, E11.cs]
  | 5, _ => simp [E11.c, E11.cs]
  | 6, _ => simp [E11.c, E11.cs]
  | 7, _ => simp [E11.c, E11.cs]
  | 8, _ => simp [E11.c, E11.cs]
  | 9, _ => simp [E11.c, E11.cs]
  | 10, _ => simp [E11.c, E11.cs]
def thingsD : List Dt := [.int 0, .int (-1), .int 5, .bl true, .non, .str "", .str "a", .tup [], .tup [.int 0, .int 1], .lst [], .lst [.int 2], .dic, .tup [.str "k", .int 3], .int (10 ^ 30), .str "form"]
/-! ### rules -/
section
variable {K : PySem.W.Frag} {S S1 SB : Sta} {L : List Addr} {ρ : List (Option Dt)} {P : Po} {te tl : TE} {ta : TA} {t : TS} {vs : List Nat} {j j1 j2 : Nat} {xs : List Dt}
/-- for i, x in enumerate(a list) -/
theorem so_forE2 (h : Ev K S S ρ tl (Eq (.lst xs))) (J : Nat → List (Option Dt) → Prop) (h0 : J 0 ρ)
    (hs : ∀ (i : Nat) x ρ', xs[i]? = some x → J i ρ' → So K S S [] t ((ρ'.set j1 (some (.int i))).set j2 (some x)) { P with nx := J (i + 1), ct := J (i + 1), bk := P.nx }) (hd : ∀ ρ', J xs.length ρ' → P.nx ρ') :
    Sg K S SB S L (tFor (iEnum K (tCons tl tNil)) (gTup K 2 (gCons (gName j1) (gCons (gName j2) gNil))) t) ρ P := fun D σ B H b i s f0 =>
  have f := f0.mono b.gr
  h σ H i s _ fun v d H1 g1 i1 r1 p1 => by
    subst p1
    obtain ⟨a, us, rfl, ht, ra⟩ := r1.lstI
    refine ⟨a, us, rfl, ht, for_it walk_enum (fun n σ' H' => Gr H1 H' ∧ S.I H' ∧ ∃ ρ', Slots K H' σ' ρ' ∧ J n ρ') ⟨Gr.refl H1, i1, ρ, s.mono g1, h0⟩ (fun n σ' H' _ p => p.1.sqL ht) (fun n x σ' H' H2 hn p y => ?_) fun σ' H' p => ?_⟩
    · obtain ⟨g2, i2, ρ', s2, jn⟩ := p
      obtain ⟨T, x1, x2, rfl, hT, rfl, e1, e2⟩ := y
      cases e1
      obtain ⟨d, hd', rd⟩ := ra.ta e2
      have sn := same_new (o := .tup [.int (n : Nat), x2]) hT
      have g3 := g2.trans sn.gr
      refine ⟨T, [.int (n : Nat), x2], rfl, SqT.of upd_same, rfl, names_run (is := [j1, j2]) (ds := [.int (n : Nat), d]) (s2.mono sn.gr) (.cons (.int _) (.cons (rd.mono g3) .nil)) rfl fun σ5 s5 => ?_⟩
      exact hs n d ρ' hd' jn _ _ _ _ ⟨Gr.refl _, S.st i2 sn, fun _ z => nomatch z⟩ (S.st i2 sn) s5 ⟨fun σ3 ρ3 H3 g4 i3 s3 q => ⟨g3.trans g4, i3, ρ3, s3, q⟩, fun v3 d3 H3 g4 => f.rt v3 d3 H3 ((g1.trans g3).trans g4), fun σ3 ρ3 H3 g4 i3 s3 q => f.nx σ3 ρ3 H3 ((g1.trans g3).trans g4) i3 s3 q, fun σ3 ρ3 H3 g4 i3 s3 q => ⟨g3.trans g4, i3, ρ3, s3, q⟩⟩
    · obtain ⟨g2, i2, ρ', s2, jn⟩ := p
      rw [ra.len] at jn
      exact f.nx σ' ρ' H' (g1.trans g2) i2 s2 (hd ρ' jn)
/-- [te for x in range(n)], every element told by its place -/
theorem ev_lcRE {n : Nat} {f : Nat → Dt} (hmu : S.Mu) (h : EvA K S S ρ ta (Eq [.int n])) (hn : n ≤ 100000) (hj : j ∈ vs) (hf : ∀ i, i < n → nol (f i) = true)
    (he : ∀ i : Nat, i < n → Ev K S S ((wipeD ρ vs).set j (some (.int i))) te (Eq (f i))) : Ev K S S ρ (tLc (iRng1 ta) (gName j) tYes te vs) (Eq (.lst ((List.range n).map f))) := fun σ H i s Q q =>
  h σ H i s _ fun ws es H1 g1 i1 r1 p1 => by
    subst p1
    obtain ⟨v, rfl, rv⟩ := r1.oneI
    obtain rfl := rv.intI
    refine ⟨n, rfl, by omega, by omega, fun D hD => ?_⟩
    rw [Int.toNat_natCast]
    refine lc_range (lo := 0) (n := n) (fun m H' => Gr H1 H' ∧ S.I H' ∧ ∃ acc, H' D = some (.lst acc) ∧ RepA K H' acc ((List.range m).map f)) ⟨(same_new hD).gr, S.st i1 (same_new hD), [], upd_same, .nil⟩ (fun m H' hm q' => ?_) fun H' q' => ?_
    · obtain ⟨g2, i2, acc, ha, rac⟩ := q'
      rw [Int.zero_add]
      refine lc_turns (g := σ) (Z := fun _ _ => True) (i := m) (acc := acc) (ds := (List.range m).map f) (dx := .int m) (p := true) (Φ := Eq (f m)) (S := S) (S1 := S) (fun g e i => hmu i1 g hD e i) (Sta.Le.refl S) hD hj (s.mono g1) g2 i2 ha rac (nolA_all.mpr fun y hy => ?_) (.int _) (Nat.lt_of_lt_of_le (by rw [List.length_map, List.length_range]; exact Nat.lt_of_lt_of_le hm hn) (by decide)) et_yes (fun _ => (he m hm).weak fun d e => ⟨e, e ▸ hf m hm⟩) (fun e H2 acc' d e1 e2 g3 i3 h3 r3 => ?_) fun e => nomatch e
      · obtain ⟨k, hk, rfl⟩ := List.mem_map.mp hy
        exact hf k (Nat.lt_trans (List.mem_range.mp hk) hm)
      · subst e1
        exact ⟨g3, i3, acc', h3, by rw [List.range_succ, List.map_append]; exact r3⟩
    · obtain ⟨g2, i2, acc, ha, rac⟩ := q'
      exact q _ _ H' (g1.trans g2) i2 (.lst (SqL.of ha) rac) rfl
theorem ev_reprN {z : Str} (h : Ev K S S1 ρ te (nlst xs)) (hz : ∀ p, nsys p → RvC K S1 (rReprL K) [.lat p xs] (Eq (.str z))) : Ev K S S1 ρ (tCB (rReprL K) (tCons te tNil)) (Eq (.str z)) := ev_cbP (ea_consP h ea_nil) fun l hl => by
  obtain ⟨d, ds, rfl, ⟨p, rfl, np⟩, e⟩ := hl
  subst e
  exact hz p np
/-- the state, and all data of H0 -/
def staGr (S : Sta) (H0 : Hp) : Sta := ⟨fun H => S.I H ∧ Gr H0 H, fun ⟨a, b⟩ s => ⟨S.st a s, b.trans s.gr⟩⟩
theorem staGr_mu {H0 : Hp} (h : S.Mu) : (staGr S H0).Mu := fun {H1 H D o ws} ⟨a1, b1⟩ g hD hd ⟨a2, b2⟩ => ⟨h a1 g hD hd a2, fun c u e z => by
  have hc : c ≠ D := fun q => by
    have := b1 c u e z
    rw [q, hD] at this
    cases this
  rw [upd_ne hc]
  exact b2 c u e z⟩
/-- what stays of one error -/
theorem err_get {t : E11} {x : Dt} {H : Hp} {us : List V} (r : RepA K H us (errL t x)) {k : Nat} (hk : k < 11) : ∃ (e dd : Addr) (v : V), us[k]? = some (.ref e) ∧ H e = some (ErrO (.ref (t.c k)) (some dd) e) ∧ H dd = some (.xd [(efld k, v)]) ∧ Rep K H v x := by
  have hx : (errL t x)[k]? = some (errD t x k) := by
    match k, hk with
    | 0, _ => rfl
    | 1, _ => rfl
    | 2, _ => rfl
    | 3, _ => rfl
    | 4, _ => rfl
    | 5, _ => rfl
    | 6, _ => rfl
    | 7, _ => rfl
    | 8, _ => rfl
    | 9, _ => rfl
    | 10, _ => rfl
  have hl : k < us.length := by rw [r.len]; exact hk
  obtain ⟨d, hd, rd⟩ := r.ta (List.getElem?_eq_getElem hl)
  rw [hx] at hd
  cases hd
  generalize hu : us[k] = u at rd
  unfold errD at rd
  cases rd with
  | err h1 h2 r => exact ⟨_, _, _, by rw [List.getElem?_eq_getElem hl, hu], h1, h2, r⟩
theorem raw_all {H : Hp} : ∀ {ws vs : List V}, RepA K H ws (vs.map Dt.raw) → ws = vs
  | _, [], .nil => rfl
  | _, v :: vs, .cons (.raw _) r => by rw [raw_all r]
theorem rep_raws {H : Hp} : ∀ vs : List V, RepA K H vs (vs.map Dt.raw)
  | [] => .nil
  | v :: vs => .cons (.raw v) (rep_raws vs)
/-- [made[k].given for k in (0, 2, 3, 5, 7)] -/
theorem ev_told {t : E11} {x : Dt} {Cs : List Addr} (hmu : S.Mu) (hC : ∀ k ∈ [0, 2, 3, 5, 7], t.c k ∈ Cs) :
    Ev K S S [some (.lst (errL t x)), none, none] (tLc (iTup K (tTup (tCons (tC (.int 0)) (tCons (tC (.int 2)) (tCons (tC (.int 3)) (tCons (tC (.int 5)) (tCons (tC (.int 7)) tNil))))))) (gName 2) tYes (tKFld Cs "given" (tOp (rIx K) (tVar 0) (tVar 2))) [2]) (Eq (.lst [x, x, x, x, x])) := fun σ H i s Q q => by
  obtain ⟨v0, hv0, rv0⟩ := s.val 0 _ rfl
  obtain ⟨a, us, rfl, ha, ra⟩ := rv0.lstI
  have all : ∀ k, ∃ w : V, k < 11 → ∃ (e dd : Addr), us[k]? = some (.ref e) ∧ H e = some (ErrO (.ref (t.c k)) (some dd) e) ∧ H dd = some (.xd [(efld k, w)]) ∧ Rep K H w x := fun k => by
    by_cases hk : k < 11
    · obtain ⟨e, dd, w, h1, h2, h3, h4⟩ := err_get ra hk
      exact ⟨w, fun _ => ⟨e, dd, h1, h2, h3, h4⟩⟩
    · exact ⟨.non, fun z => absurd z hk⟩
  obtain ⟨w, hwk⟩ := Classical.axiomOfChoice all
  have one : ∀ k : Nat, k ∈ [0, 2, 3, 5, 7] → Ev K (staGr S H) (staGr S H) [some (.lst (us.map Dt.raw)), none, some (.int k)] (tKFld Cs "given" (tOp (rIx K) (tVar 0) (tVar 2))) (Eq (.raw (w k))) := fun k hk σ2 H2 i2 s2 Q2 q2 => by
    have hk11 : k < 11 := by simp at hk; omega
    obtain ⟨e, dd, h1, h2, h3, h4⟩ := hwk k hk11
    have hf : efld k = "given" := by
      simp only [List.mem_cons, List.not_mem_nil, or_false] at hk
      rcases hk with rfl | rfl | rfl | rfl | rfl <;> rfl
    rw [hf] at h3
    refine (ev_ixL (xs := us.map Dt.raw) (d := .raw (.ref e)) (ev_var rfl) (ev_var rfl) (atI_nat (j := k) (by rw [List.getElem?_map, h1]; rfl))) σ2 H2 i2 s2 _ fun v d H3 g3 i3 r3 e3 => ?_
    subst e3
    cases r3
    exact ⟨e, t.c k, dd, w k, rfl, hC k hk, i3.2 _ _ h2 rfl, i3.2 _ _ h3 rfl, q2 _ _ H3 g3 i3 (.raw _) rfl⟩
  let f : Dt → Dt := fun d => match d with | .int n => .raw (w n.toNat) | _ => .non
  have s' : Slots K H σ [some (.lst (us.map Dt.raw)), none, none] := ⟨s.len, fun i d h => by
    match i, h with
    | 0, h => cases h; exact ⟨_, hv0, .lst ha (rep_raws us)⟩
    | 1, h => cases h
    | 2, h => cases h
    | i + 3, h => simp at h⟩
  refine (ev_lcT (K := K) (S := staGr S H) (ρ := [some (.lst (us.map Dt.raw)), none, none]) (vs := [2]) (j := 2) (xs := [.int 0, .int 2, .int 3, .int 5, .int 7]) (f := f) (p := fun _ => true) (staGr_mu hmu) (ev_tup (ea_cons ev_int (ea_cons ev_int (ea_cons ev_int (ea_cons ev_int (ea_cons ev_int ea_nil))))) (by show 5 ≤ sizeLine; decide)) List.mem_cons_self (by show 5 ≤ 100000; decide) (fun _ _ => et_yes) (fun y hy _ => ?_) fun y hy _ => ?_) σ H ⟨i, Gr.refl H⟩ s' Q fun v d H' g' i' r' e => ?_
  · simp only [List.mem_cons, List.not_mem_nil, or_false] at hy
    rcases hy with rfl | rfl | rfl | rfl | rfl
    · exact one 0 (by decide)
    · exact one 2 (by decide)
    · exact one 3 (by decide)
    · exact one 5 (by decide)
    · exact one 7 (by decide)
  · simp only [List.mem_cons, List.not_mem_nil, or_false] at hy
    rcases hy with rfl | rfl | rfl | rfl | rfl <;> rfl
  · subst e
    obtain ⟨b, ws, rfl, hb, rb⟩ := r'.lstI
    have := raw_all (vs := [w 0, w 2, w 3, w 5, w 7]) rb
    subst this
    have g : ∀ k, k < 11 → Rep K H' (w k) x := fun k hk => by
      obtain ⟨_, _, _, _, _, h⟩ := hwk k hk
      exact h.mono g'
    exact q _ _ H' g' i'.1 (.lst hb (.cons (g 0 (by decide)) (.cons (g 2 (by decide)) (.cons (g 3 (by decide)) (.cons (g 5 (by decide)) (.cons (g 7 (by decide)) .nil)))))) rfl
end
/-! ### the law's defs -/
def r_lmade (t : E11) (ds : List Dt) (d : Dt) : Prop := ∃ x, ds = [x] ∧ d = .lst (errL t x)
abbrev p__law_made (K : PySem.W.Frag) (t : E11) : Sp := spR K 1 (r_lmade t)
abbrev p__law_named (K : PySem.W.Frag) (t : E11) : Sp := spR K 1 (r_lmade t)
def r_lthings (ds : List Dt) (d : Dt) : Prop := ds = [] ∧ d = .lst thingsD
abbrev p__law_things (K : PySem.W.Frag) : Sp := spR K 0 r_lthings
def r_ltold (t : E11) (ds : List Dt) (Φ : Dt → Prop) : Prop := ∃ x, ds = [.lst (errL t x)] ∧ Φ = nlst (List.replicate 11 x)
abbrev p__law_told (K : PySem.W.Frag) (t : E11) : Sp := spPr K 1 (r_ltold t)
def kindsD (k : Nat) : List Dt := (List.range 11).map fun j => .bl (decide (k = j))
def famD (k : Nat) : List Dt := [.bl (decide (k < 10)), .bl (decide (k < 10)), .bl (decide (k = 10)), .bl (decide (k = 10))]
def r_lkinds (t : E11) (ds : List Dt) (d : Dt) : Prop := ∃ k x, k < 11 ∧ ds = [errD t x k] ∧ d = .tup [.lst (kindsD k), .lst (famD k)]
abbrev p__law_kinds (K : PySem.W.Frag) (t : E11) : Sp := spR K 1 (r_lkinds t)
abbrev t__law_made (K : PySem.W.Frag) (t : E11) : TS := (tSeq (tAsg (tLst (tCons (tMkE t.c0 "given" (tCons (tVar 0) tNil)) (tCons (tMkE t.c1 "part" (tCons (tVar 0) tNil)) (tCons (tMkE t.c2 "given" (tCons (tVar 0) tNil)) (tCons (tMkE t.c3 "given" (tCons (tVar 0) tNil)) (tCons (tMkE t.c4 "place" (tCons (tVar 0) tNil)) (tCons (tMkE t.c5 "given" (tCons (tVar 0) tNil)) tNil))))))) (gName 1))
    (tRet (tOp (rCatS K) (tVar 1) (tLst (tCons (tMkE t.c6 "part" (tCons (tVar 0) tNil)) (tCons (tMkE t.c7 "given" (tCons (tVar 0) tNil)) (tCons (tMkE t.c8 "moment" (tCons (tVar 0) tNil)) (tCons (tMkE t.c9 "word" (tCons (tVar 0) tNil)) (tCons (tMkE t.c10 "count" (tCons (tVar 0) tNil)) tNil)))))))))
abbrev t__law_named (K : PySem.W.Frag) (t : E11) : TS := (tSeq (tAsg (tLst (tCons (tMkE t.c0 "given" (tCons (tVar 0) tNil)) (tCons (tMkE t.c1 "part" (tCons (tVar 0) tNil)) (tCons (tMkE t.c2 "given" (tCons (tVar 0) tNil)) (tCons (tMkE t.c3 "given" (tCons (tVar 0) tNil)) tNil))))) (gName 1))
    (tSeq (tAsg (tOp (rCatS K) (tVar 1) (tLst (tCons (tMkE t.c4 "place" (tCons (tVar 0) tNil)) (tCons (tMkE t.c5 "given" (tCons (tVar 0) tNil)) (tCons (tMkE t.c6 "part" (tCons (tVar 0) tNil)) (tCons (tMkE t.c7 "given" (tCons (tVar 0) tNil)) tNil)))))) (gName 1))
    (tRet (tOp (rCatS K) (tVar 1) (tLst (tCons (tMkE t.c8 "moment" (tCons (tVar 0) tNil)) (tCons (tMkE t.c9 "word" (tCons (tVar 0) tNil)) (tCons (tMkE t.c10 "count" (tCons (tVar 0) tNil)) tNil))))))))
abbrev t__law_told (K : PySem.W.Frag) (t : E11) : TS := (tSeq (tAsg (tLc (iTup K (tTup (tCons (tC (.int 0)) (tCons (tC (.int 2)) (tCons (tC (.int 3)) (tCons (tC (.int 5)) (tCons (tC (.int 7)) tNil))))))) (gName 2) tYes (tKFld [t.c0, t.c2, t.c3, t.c5, t.c7] "given" (tOp (rIx K) (tVar 0) (tVar 2))) [2]) (gName 1))
    (tSeq (tAsg (tOp (rCatS K) (tVar 1) (tLst (tCons (tKFld [t.c1, t.c6] "part" (tOp (rIx K) (tVar 0) (tC (.int 1)))) (tCons (tKFld [t.c4] "place" (tOp (rIx K) (tVar 0) (tC (.int 4)))) (tCons (tKFld [t.c1, t.c6] "part" (tOp (rIx K) (tVar 0) (tC (.int 6)))) (tCons (tKFld [t.c8] "moment" (tOp (rIx K) (tVar 0) (tC (.int 8)))) tNil)))))) (gName 1))
    (tRet (tOp (rCatX K) (tVar 1) (tLst (tCons (tKFld [t.c9] "word" (tOp (rIx K) (tVar 0) (tC (.int 9)))) (tCons (tKFld [t.c10] "count" (tOp (rIx K) (tVar 0) (tC (.int 10)))) tNil)))))))
abbrev t__law_kinds (K : PySem.W.Frag) (t : E11) : TS := (tSeq (tAsg (tLst (tCons (tCB (rIsiX K t.cs) (tCons (tVar 0) (tCons (tC (.ref t.c0)) tNil))) (tCons (tCB (rIsiX K t.cs) (tCons (tVar 0) (tCons (tC (.ref t.c1)) tNil))) (tCons (tCB (rIsiX K t.cs) (tCons (tVar 0) (tCons (tC (.ref t.c2)) tNil))) tNil)))) (gName 1))
    (tSeq (tAsg (tOp (rCatS K) (tVar 1) (tLst (tCons (tCB (rIsiX K t.cs) (tCons (tVar 0) (tCons (tC (.ref t.c3)) tNil))) (tCons (tCB (rIsiX K t.cs) (tCons (tVar 0) (tCons (tC (.ref t.c4)) tNil))) (tCons (tCB (rIsiX K t.cs) (tCons (tVar 0) (tCons (tC (.ref t.c5)) tNil))) tNil))))) (gName 1))
    (tSeq (tAsg (tOp (rCatS K) (tVar 1) (tLst (tCons (tCB (rIsiX K t.cs) (tCons (tVar 0) (tCons (tC (.ref t.c6)) tNil))) (tCons (tCB (rIsiX K t.cs) (tCons (tVar 0) (tCons (tC (.ref t.c7)) tNil))) (tCons (tCB (rIsiX K t.cs) (tCons (tVar 0) (tCons (tC (.ref t.c8)) tNil))) tNil))))) (gName 1))
    (tSeq (tAsg (tOp (rCatS K) (tVar 1) (tLst (tCons (tCB (rIsiX K t.cs) (tCons (tVar 0) (tCons (tC (.ref t.c9)) tNil))) (tCons (tCB (rIsiX K t.cs) (tCons (tVar 0) (tCons (tC (.ref t.c10)) tNil))) tNil)))) (gName 1))
    (tSeq (tAsg (tLst (tCons (tCB (rIsiX K t.cs) (tCons (tVar 0) (tCons (tC (.ref t.fr)) tNil))) (tCons (tCB (rIsiX K t.cs) (tCons (tVar 0) (tCons (tC (.ty "ValueError")) tNil))) tNil))) (gName 2))
    (tRet (tTup (tCons (tVar 1) (tCons (tOp (rCatS K) (tVar 2) (tLst (tCons (tCB (rIsiX K t.cs) (tCons (tVar 0) (tCons (tC (.ref t.st)) tNil))) (tCons (tCB (rIsiX K t.cs) (tCons (tVar 0) (tCons (tC (.ty "RuntimeError")) tNil))) tNil)))) tNil)))))))))
abbrev t__law_things (K : PySem.W.Frag) : TS := (tRet (tLst (tCons (tC (.int 0)) (tCons (tUn rNegI (tC (.int 1))) (tCons (tC (.int 5)) (tCons (tC (.bl true)) (tCons (tC .non) (tCons (tC (.str "")) (tCons (tC (.str "a")) (tCons (tTup tNil) (tCons (tTup (tCons (tC (.int 0)) (tCons (tC (.int 1)) tNil))) (tCons (tLst tNil) (tCons (tLst (tCons (tC (.int 2)) tNil)) (tCons tDNewK (tCons (tTup (tCons (tC (.str "k")) (tCons (tC (.int 3)) tNil))) (tCons (tOp rPowI (tC (.int 10)) (tC (.int 30))) (tCons (tC (.str "form")) tNil)))))))))))))))))
section
variable {K : PySem.W.Frag} {S S1 : Sta} {ρ : List (Option Dt)} {ds : List Dt} {d : Dt} {t : E11}
theorem so__law_made (hp : r_lmade t ds d) : So K S S [] (t__law_made K t) (startD 2 ds) (Pu d) := by
  obtain ⟨x, rfl, rfl⟩ := hp
  have mk : ∀ {C : Addr} {f : Str} {y : Option Dt}, Ev K S S [some x, y] (tMkE C f (tCons (tVar 0) tNil)) (Eq (.err C f x)) := fun {_ _ _} => ev_mkE (ea_cons (ev_var rfl) ea_nil)
  refine so_setD (ev_lst (ea_cons mk (ea_cons mk (ea_cons mk (ea_cons mk (ea_cons mk (ea_cons mk ea_nil)))))) (by show 6 ≤ sizeLine; decide)) ?_
  exact so_retD (ev_op (ev_var rfl) (ev_lst (ea_cons mk (ea_cons mk (ea_cons mk (ea_cons mk (ea_cons mk ea_nil))))) (by show 5 ≤ sizeLine; decide)) (rv_catL (by show 6 + 5 ≤ sizeLine; decide))) (Sta.Le.refl S) rfl
theorem so__law_named (hp : r_lmade t ds d) : So K S S [] (t__law_named K t) (startD 2 ds) (Pu d) := by
  obtain ⟨x, rfl, rfl⟩ := hp
  have mk : ∀ {C : Addr} {f : Str} {y : Option Dt}, Ev K S S [some x, y] (tMkE C f (tCons (tVar 0) tNil)) (Eq (.err C f x)) := fun {_ _ _} => ev_mkE (ea_cons (ev_var rfl) ea_nil)
  refine so_setD (ev_lst (ea_cons mk (ea_cons mk (ea_cons mk (ea_cons mk ea_nil)))) (by show 4 ≤ sizeLine; decide)) ?_
  refine so_setD (ev_op (ev_var rfl) (ev_lst (ea_cons mk (ea_cons mk (ea_cons mk (ea_cons mk ea_nil)))) (by show 4 ≤ sizeLine; decide)) (rv_catL (by show 4 + 4 ≤ sizeLine; decide))) ?_
  exact so_retD (ev_op (ev_var rfl) (ev_lst (ea_cons mk (ea_cons mk (ea_cons mk ea_nil))) (by show 3 ≤ sizeLine; decide)) (rv_catL (by show 8 + 3 ≤ sizeLine; decide))) (Sta.Le.refl S) rfl
theorem so__law_things (hp : r_lthings ds d) : So K S S [] (t__law_things K) (startD 0 ds) (Pu d) := by
  obtain ⟨rfl, rfl⟩ := hp
  exact so_retD (ev_lst (ea_cons ev_int (ea_cons (ev_neg ev_int) (ea_cons ev_int (ea_cons ev_bl (ea_cons ev_non (ea_cons ev_str (ea_cons ev_str (ea_cons (ev_tup ea_nil (by decide)) (ea_cons (ev_tup (ea_cons ev_int (ea_cons ev_int ea_nil)) (by show 2 ≤ sizeLine; decide)) (ea_cons (ev_lst ea_nil (by decide)) (ea_cons (ev_lst (ea_cons ev_int ea_nil) (by show 1 ≤ sizeLine; decide)) (ea_cons ev_dic (ea_cons (ev_tup (ea_cons ev_str (ea_cons ev_int ea_nil)) (by show 2 ≤ sizeLine; decide)) (ea_cons (ev_op ev_int ev_int (rv_pow ⟨by decide, by decide, by decide⟩)) (ea_cons ev_str ea_nil))))))))))))))) (by show 15 ≤ sizeLine; decide)) (Sta.Le.refl S) rfl
theorem so__law_told {Φ : Dt → Prop} (hmu : S.Mu) (hp : r_ltold t ds Φ) : So K S S [] (t__law_told K t) (startD 3 ds) { rt := Φ } := by
  obtain ⟨x, rfl, rfl⟩ := hp
  have ix : ∀ {y z : Option Dt} {n : Nat}, n < 11 → (errL t x)[n]? = some (errD t x n) → ∀ {Cs : List Addr}, t.c n ∈ Cs → Ev K S S [some (.lst (errL t x)), y, z] (tKFld Cs (efld n) (tOp (rIx K) (tVar 0) (tC (.int n)))) (Eq x) := fun {_ _ n} hn h {Cs} hC => ev_kfld (C := t.c n) (ev_ixL (xs := errL t x) (ev_var rfl) ev_int (atI_nat (j := n) h)) hC
  refine so_setD (d := .lst [x, x, x, x, x]) (ev_told hmu fun k hk => ?_) ?_
  · simp only [List.mem_cons, List.not_mem_nil, or_false] at hk
    rcases hk with rfl | rfl | rfl | rfl | rfl <;> simp [E11.c]
  refine so_setD (d := .lst ([x, x, x, x, x] ++ [x, x, x, x])) (ev_op (ev_var rfl) (ev_lst (ea_cons (ix (n := 1) (by decide) rfl (by simp [E11.c])) (ea_cons (ix (n := 4) (by decide) rfl (by simp [E11.c])) (ea_cons (ix (n := 6) (by decide) rfl (by simp [E11.c])) (ea_cons (ix (n := 8) (by decide) rfl (by simp [E11.c])) ea_nil)))) (by show 4 ≤ sizeLine; decide)) (rv_catL (by show 5 + 4 ≤ sizeLine; decide))) ?_
  exact so_ret (ev_catX (xs := [x, x, x, x, x] ++ [x, x, x, x]) (ys := [x, x]) (ev_var rfl) (ev_lst (ea_cons (ix (n := 9) (by decide) rfl (by simp [E11.c])) (ea_cons (ix (n := 10) (by decide) rfl (by simp [E11.c])) ea_nil)) (by show 2 ≤ sizeLine; decide)) (by show 9 + 2 ≤ sizeLine; decide)) (Sta.Le.refl S) fun _ h => h
theorem so__law_kinds (T : IsE K t) (hp : r_lkinds t ds d) : So K S S [] (t__law_kinds K t) (startD 3 ds) (Pu d) := by
  obtain ⟨k, x, hk, rfl, rfl⟩ := hp
  have o : ∀ {y z : Option Dt} {j : Nat}, j < 11 → Ev K S S [some (errD t x k), y, z] (tCB (rIsiX K t.cs) (tCons (tVar 0) (tCons (tC (.ref (t.c j))) tNil))) (Eq (.bl (decide (k = j)))) := fun {_ _ j} hj => ev_isiX (C := t.c k) (f := efld k) (d := x) (ev_var rfl) (cs_mem t hk) (.own _) (T.own k hk j hj)
  have z3 : 3 ≤ sizeLine := by decide
  have z2 : 2 ≤ sizeLine := by decide
  refine so_setD (ev_lst (ea_cons (o (j := 0) (by decide)) (ea_cons (o (j := 1) (by decide)) (ea_cons (o (j := 2) (by decide)) ea_nil))) z3) ?_
  refine so_setD (ev_op (ev_var rfl) (ev_lst (ea_cons (o (j := 3) (by decide)) (ea_cons (o (j := 4) (by decide)) (ea_cons (o (j := 5) (by decide)) ea_nil))) z3) (rv_catL (by show 3 + 3 ≤ sizeLine; decide))) ?_
  refine so_setD (ev_op (ev_var rfl) (ev_lst (ea_cons (o (j := 6) (by decide)) (ea_cons (o (j := 7) (by decide)) (ea_cons (o (j := 8) (by decide)) ea_nil))) z3) (rv_catL (by show 6 + 3 ≤ sizeLine; decide))) ?_
  refine so_setD (ev_op (ev_var rfl) (ev_lst (ea_cons (o (j := 9) (by decide)) (ea_cons (o (j := 10) (by decide)) ea_nil)) z2) (rv_catL (by show 9 + 2 ≤ sizeLine; decide))) ?_
  refine so_setD (d := .lst [.bl (decide (k < 10)), .bl (decide (k < 10))]) (ev_lst (ea_cons (ev_isiX (C := t.c k) (f := efld k) (d := x) (ev_var rfl) (cs_mem t hk) (.own _) (T.fr k hk)) (ea_cons (ev_isiX (C := t.c k) (f := efld k) (d := x) (ev_var rfl) (cs_mem t hk) (.ty _) (T.ve k hk)) ea_nil)) z2) ?_
  exact so_retD (ev_tup (ea_cons (ev_var rfl) (ea_cons (ev_op (ev_var rfl) (ev_lst (ea_cons (ev_isiX (C := t.c k) (f := efld k) (d := x) (ev_var rfl) (cs_mem t hk) (.own _) (T.st k hk)) (ea_cons (ev_isiX (C := t.c k) (f := efld k) (d := x) (ev_var rfl) (cs_mem t hk) (.ty _) (T.re k hk)) ea_nil)) z2) (rv_catL (by show 2 + 2 ≤ sizeLine; decide))) ea_nil)) z2) (Sta.Le.refl S) rfl
end
end Bf
namespace Bf
open PySem PySem.Spec PyProof.Rows L2
/-! ## The law of made errors: the law itself -/
abbrev r3_law01 (K : PySem.W.Frag) (t : E11) : TS := (tSeq (tAsg (tCall (p__law_kinds K t) [] E0 (tCons (tVar 6) tNil)) (gTup K 2 (gCons (gName 7) (gCons (gName 8) gNil))))
    (tIfS (tOr (tTest (tOp (rNeD K) (tVar 7) (tLc (iRng1 (tCons (tC (.int 11)) tNil)) (gName 9) tYes (tOp rEq (tVar 9) (tVar 5)) [9]))) (tTest (tOp (rNeD K) (tVar 8) (tOp (rCatS K) (tOp rRep (tLst (tCons (tOp rLtI (tVar 5) (tC (.int 10))) tNil)) (tC (.int 2))) (tOp rRep (tLst (tCons (tOp rEq (tVar 5) (tC (.int 10))) tNil)) (tC (.int 2))))))) (tRet (tC (.bl false))) tNext))
abbrev r2_law01 (K : PySem.W.Frag) (t : E11) : TS := (tSeq (tIfS (tTest (tOp rNe (tCB (rReprL K) (tCons (tCall (p__law_told K t) [] E0 (tCons (tVar 4) tNil)) tNil)) (tCB (rReprL K) (tCons (tOp rRepX (tLst (tCons (tVar 3) tNil)) (tC (.int 11))) tNil)))) (tRet (tC (.bl false))) tNext)
    (tFor (iEnum K (tCons (tVar 4) tNil)) (gTup K 2 (gCons (gName 5) (gCons (gName 6) gNil))) (r3_law01 K t)))
abbrev r1_law01 (K : PySem.W.Frag) (t : E11) : TS := (tSeq (tAsg (tCall (p__law_pick K) [] E0 (tCons (tVar 1) (tCons (tCall (p__law_things K) [] E0 tNil) tNil))) (gName 3))
    (tFor (iTup K (tTup (tCons (tCall (p__law_made K t) [] E0 (tCons (tVar 3) tNil)) (tCons (tCall (p__law_named K t) [] E0 (tCons (tVar 3) tNil)) tNil)))) (gName 4) (r2_law01 K t)))
abbrev r_law01 (K : PySem.W.Frag) (t : E11) : TS := (tSeq (tFor (iRng1 (tCons (tC (.int 5)) tNil)) (gName 2) (r1_law01 K t))
    (tRet (tC (.bl true))))
abbrev t_law01 (K : PySem.W.Frag) (t : E11) : TS := (tSeq (tAsg (tCall (p__law_begin K) [] E0 (tCons (tVar 0) tNil)) (gName 1))
    (r_law01 K t))
theorem kinds_cmp : ∀ i, i < 11 → cmpOk (.lst (kindsD i)) = true ∧ cmpOk (.lst (famD i)) = true := by decide +kernel
theorem things_shw : ∀ x ∈ thingsD, x = .dic ∨ shwOk (.lst (List.replicate 11 x)) := by
  have sh : ∀ y : Dt, (cmpOk (.lst (List.replicate 11 y)) && (py (.lst (List.replicate 11 y))).showable && decide ((py (.lst (List.replicate 11 y))).shown.length ≤ sizeLine)) = true → shwOk (.lst (List.replicate 11 y)) := fun y h => by
    simp only [Bool.and_eq_true, decide_eq_true_eq] at h
    exact ⟨h.1.1, h.1.2, h.2⟩
  intro x hx
  simp only [thingsD, List.mem_cons, List.not_mem_nil, or_false] at hx
  rcases hx with rfl | rfl | rfl | rfl | rfl | rfl | rfl | rfl | rfl | rfl | rfl | rfl | rfl | rfl | rfl
  all_goals first
    | exact .inl rfl
    | exact .inr (sh _ (by decide +kernel))
theorem kinds_at (i : Nat) : (List.range 11).map (fun j : Nat => Dt.bl (decide ((j : Int) = (i : Int)))) = kindsD i := by
  unfold kindsD
  refine List.map_congr_left fun j _ => ?_
  congr 1
  rw [decide_eq_decide]
  omega
section
variable {K : PySem.W.Frag} {S S1 : Sta} {ρ : List (Option Dt)} {a : Addr} {c : CT} {cs : List Int} {t : E11} {P : Po}
theorem so3_law01 {x : Dt} {i : Nat} {x0 x1 x2 x3 x4 x7 x8 x9 : Option Dt} (hmu : S.Mu) (hi : i < 11) (hP : ∀ x7 x8 x9, P.nx [x0, x1, x2, x3, x4, some (.int i), some (errD t x i), x7, x8, x9]) :
    So K S S [] (r3_law01 K t) [x0, x1, x2, x3, x4, some (.int i), some (errD t x i), x7, x8, x9] P := by
  refine so_unp (is := [7, 8]) (xs := [.lst (kindsD i), .lst (famD i)]) (ev_callR (R := r_lkinds t) (ea_cons (ev_var rfl) ea_nil) rfl ⟨i, x, hi, rfl, rfl⟩) rfl rfl rfl ?_
  obtain ⟨k1, k2⟩ := kinds_cmp i hi
  refine so_if0F (et_orF ((et_test (ev_op (ev_var (d := .lst (kindsD i)) rfl) ((ev_lcRE (n := 11) (f := fun j => .bl (decide ((j : Int) = (i : Int)))) hmu (ea_cons ev_int ea_nil) (by decide) List.mem_cons_self (fun _ _ => rfl) fun j hj => ev_op (ev_var rfl) (ev_var rfl) rv_eqI).to (by rw [kinds_at])) (rv_neD k1 k1))).to (by rw [cmp_refl k1]; rfl)) ((et_test (ev_op (ev_var (d := .lst (famD i)) rfl) ((ev_op (ev_repL (n := 2) (ea_cons (ev_op (ev_var rfl) ev_int rv_lt) ea_nil) (by simp) ev_int (by decide)) (ev_repL (n := 2) (ea_cons (ev_op (ev_var rfl) ev_int rv_eqI) ea_nil) (by simp) ev_int (by decide)) (rv_catL (by show 2 + 2 ≤ sizeLine; decide))).to ?_) (rv_neD k2 k2))).to (by rw [cmp_refl k2]; rfl))) (so_next (Sta.Le.refl _) (hP _ _ _))
  have e1 : decide ((i : Int) < 10) = decide (i < 10) := by rw [decide_eq_decide]; omega
  have e2 : decide ((i : Int) = 10) = decide (i = 10) := by rw [decide_eq_decide]; omega
  rw [e1, e2]
  rfl
theorem so2_law01 {x : Dt} {x0 x1 x2 x5 x6 x7 x8 x9 : Option Dt} (hmu : S.Mu) (hx : x ∈ thingsD) (hP : ∀ x5 x6 x7 x8 x9, P.nx [x0, x1, x2, some x, some (.lst (errL t x)), x5, x6, x7, x8, x9]) :
    So K S S [] (r2_law01 K t) [x0, x1, x2, some x, some (.lst (errL t x)), x5, x6, x7, x8, x9] P := by
  obtain ⟨z, hz⟩ : ∃ z : Str, ∀ p, nsys p → RvC K S (rReprL K) [.lat p (List.replicate 11 x)] (Eq (.str z)) := by
    rcases things_shw x hx with rfl | h
    · exact ⟨_, fun p np => rc_reprDs (n := 11) (by decide) np⟩
    · exact ⟨_, fun p _ => rc_reprL h⟩
  refine so_ifF ((et_test (ev_op (ev_reprN (ev_callPr (R := r_ltold t) (ea_cons (ev_var rfl) ea_nil) rfl ⟨x, rfl, rfl⟩) hz) (ev_reprN ((ev_repX (n := 11) (xs := [x]) (ea_cons (ev_var rfl) ea_nil) (by simp) ev_int (by decide)).weak fun d h => h) hz) rv_neS)).to (by simp)) (so_skip ?_)
  refine so_forE2 (xs := errL t x) (ev_var rfl) (fun i ρ' => ∃ x5 x6 x7 x8 x9, ρ' = [x0, x1, x2, some x, some (.lst (errL t x)), x5, x6, x7, x8, x9]) ⟨_, _, _, _, _, rfl⟩ (fun i y ρ' hy hJ => ?_) fun ρ' hJ => ?_
  · obtain ⟨x5, x6, x7, x8, x9, rfl⟩ := hJ
    have hi : i < 11 := (List.getElem?_eq_some_iff.mp hy).1
    have : y = errD t x i := by
      match i, hi with
      | 0, _ => cases hy; rfl
      | 1, _ => cases hy; rfl
      | 2, _ => cases hy; rfl
      | 3, _ => cases hy; rfl
      | 4, _ => cases hy; rfl
      | 5, _ => cases hy; rfl
      | 6, _ => cases hy; rfl
      | 7, _ => cases hy; rfl
      | 8, _ => cases hy; rfl
      | 9, _ => cases hy; rfl
      | 10, _ => cases hy; rfl
    subst this
    exact so3_law01 hmu hi fun _ _ _ => ⟨_, _, _, _, _, rfl⟩
  · obtain ⟨x5, x6, x7, x8, x9, rfl⟩ := hJ
    exact hP _ _ _ _ _
theorem so1_law01 {x0 : Option Dt} {ti : Nat} {x3 x4 x5 x6 x7 x8 x9 : Option Dt} (hc : cs ≠ []) (ht : ti < 5) (hP : ∀ x3 x4 x5 x6 x7 x8 x9, P.nx [x0, some (.raw (.ref a)), some (.int ti), x3, x4, x5, x6, x7, x8, x9]) :
    So K (DW K a c cs ti) (DW K a c cs (ti + 1)) [] (r1_law01 K t) [x0, some (.raw (.ref a)), some (.int ti), x3, x4, x5, x6, x7, x8, x9] P := by
  refine so_set (S1 := DW K a c cs (ti + 1)) (Φ := fun d => d ∈ thingsD) (ev__law_pick (n := ti) (xs := thingsD) (ea_cons (ev_var rfl) (ea_cons (ev_callR (R := r_lthings) ea_nil rfl ⟨rfl, rfl⟩) ea_nil)) hc (by omega) (by simp [thingsD]) (by decide)) fun x hx => ?_
  refine so_forT (xs := [.lst (errL t x), .lst (errL t x)]) (ev_tup (ea_cons (ev_callR (R := r_lmade t) (ea_cons (ev_var rfl) ea_nil) rfl ⟨x, rfl, rfl⟩) (ea_cons (ev_callR (R := r_lmade t) (ea_cons (ev_var rfl) ea_nil) rfl ⟨x, rfl, rfl⟩) ea_nil)) (by show 2 ≤ sizeLine; decide)) (fun i ρ' => ∃ x4 x5 x6 x7 x8 x9, ρ' = [x0, some (.raw (.ref a)), some (.int ti), some x, x4, x5, x6, x7, x8, x9]) ⟨_, _, _, _, _, _, rfl⟩ (fun i y ρ' hy hJ => ?_) fun ρ' hJ => ?_
  · obtain ⟨x4, x5, x6, x7, x8, x9, rfl⟩ := hJ
    have : y = .lst (errL t x) := by
      match i, hy with
      | 0, hy => cases hy; rfl
      | 1, hy => cases hy; rfl
      | i + 2, hy => simp at hy
    subst this
    exact so2_law01 dw_mu hx fun _ _ _ _ _ => ⟨_, _, _, _, _, _, rfl⟩
  · obtain ⟨x4, x5, x6, x7, x8, x9, rfl⟩ := hJ
    exact hP _ _ _ _ _ _ _
theorem so_law01 {x0 : Option Dt} (hc : cs ≠ []) : So K (DW K a c cs 0) (DW K a c cs 10) [] (r_law01 K t) [x0, some (.raw (.ref a)), none, none, none, none, none, none, none, none] { rt := Eq (.bl true) } := by
  refine so_seqG (S1 := DW K a c cs 10) (M := fun ρ' => ∃ x2 x3 x4 x5 x6 x7 x8 x9, ρ' = [x0, some (.raw (.ref a)), x2, x3, x4, x5, x6, x7, x8, x9]) (Sta.Le.refl _) (so_forR (n := 5) (Z := fun i => DW K a c cs i) (ea_cons ev_int ea_nil) (by decide) (fun i hi => dw_le (by omega)) (fun i hi => dw_le (by omega)) (fun i ρ' => ∃ x2 x3 x4 x5 x6 x7 x8 x9, ρ' = [x0, some (.raw (.ref a)), x2, x3, x4, x5, x6, x7, x8, x9]) ⟨_, _, _, _, _, _, _, _, rfl⟩ (fun ti ρ' hi hJ => ?_) fun _ h => h) fun ρ' hM => ?_
  · obtain ⟨x2, x3, x4, x5, x6, x7, x8, x9, rfl⟩ := hJ
    exact so1_law01 hc hi fun _ _ _ _ _ _ _ => ⟨_, _, _, _, _, _, _, _, rfl⟩
  · obtain ⟨x2, x3, x4, x5, x6, x7, x8, x9, rfl⟩ := hM
    exact so_retD ev_bl (Sta.Le.refl _) rfl
end
end Bf
namespace Bf
open PySem PySem.Spec PyProof.Rows L2
/-! ### the text -/
def topS (i : Nat) : Stmt := PySem.Challenge.pw_beamframes_k01_errors_made.main.body.getD i (.Pass ⟨0, 0, 0, 0⟩)
abbrev s__law_begin : Stmt := topS 15
abbrev s__law_next : Stmt := topS 16
abbrev s__law_pick : Stmt := topS 17
abbrev s__law_things : Stmt := topS 18
abbrev s__law_made : Stmt := topS 19
abbrev s__law_named : Stmt := topS 20
abbrev s__law_told : Stmt := topS 21
abbrev s__law_kinds : Stmt := topS 22
abbrev s_law : Stmt := topS 23
theorem sc__law_begin : FnScope ["script"] ["script"] (defScope s__law_begin) := ⟨rfl, rfl, rfl, by decide +kernel, rfl, by decide +kernel, by decide +kernel⟩
theorem sc__law_next : FnScope ["draw", "many", "cell", "cells", "number", "k"] ["draw", "many"] (defScope s__law_next) := ⟨rfl, rfl, rfl, by decide +kernel, rfl, by decide +kernel, by decide +kernel⟩
theorem sc__law_pick : FnScope ["draw", "some"] ["draw", "some"] (defScope s__law_pick) := ⟨rfl, rfl, rfl, by decide +kernel, rfl, by decide +kernel, by decide +kernel⟩
theorem sc__law_things : FnScope [] [] (defScope s__law_things) := ⟨rfl, rfl, rfl, by decide +kernel, rfl, by decide +kernel, by decide +kernel⟩
theorem sc__law_made : FnScope ["some", "made"] ["some"] (defScope s__law_made) := ⟨rfl, rfl, rfl, by decide +kernel, rfl, by decide +kernel, by decide +kernel⟩
theorem sc__law_named : FnScope ["some", "made"] ["some"] (defScope s__law_named) := ⟨rfl, rfl, rfl, by decide +kernel, rfl, by decide +kernel, by decide +kernel⟩
theorem sc__law_told : FnScope ["made", "found", "k"] ["made"] (defScope s__law_told) := ⟨rfl, rfl, rfl, by decide +kernel, rfl, by decide +kernel, by decide +kernel⟩
theorem sc__law_kinds : FnScope ["error", "kinds", "families"] ["error"] (defScope s__law_kinds) := ⟨rfl, rfl, rfl, by decide +kernel, rfl, by decide +kernel, by decide +kernel⟩
theorem sc_law : FnScope ["script", "draw", "turn", "some", "made", "at", "error", "kinds", "families", "k"] ["script"] (defScope s_law) := ⟨rfl, rfl, rfl, by decide +kernel, rfl, by decide +kernel, by decide +kernel⟩
structure Adr where
  a__law_begin : Addr
  d__law_begin : FuncData
  a__law_next : Addr
  d__law_next : FuncData
  a__law_pick : Addr
  d__law_pick : FuncData
  a__law_things : Addr
  d__law_things : FuncData
  a__law_made : Addr
  d__law_made : FuncData
  a__law_named : Addr
  d__law_named : FuncData
  a__law_told : Addr
  d__law_told : FuncData
  a__law_kinds : Addr
  d__law_kinds : FuncData
  a_law : Addr
  d_law : FuncData
  c_BadRatio : Addr
  i_BadRatio : Addr
  c_BadTable : Addr
  i_BadTable : Addr
  c_BadWord : Addr
  i_BadWord : Addr
  c_BadBurst : Addr
  i_BadBurst : Addr
  c_BadReceiver : Addr
  i_BadReceiver : Addr
  c_BadNumber : Addr
  i_BadNumber : Addr
  c_BadPaper : Addr
  i_BadPaper : Addr
  c_BadStyle : Addr
  i_BadStyle : Addr
  c_BadRow : Addr
  i_BadRow : Addr
  c_BadText : Addr
  i_BadText : Addr
  c_NothingToUndo : Addr
  i_NothingToUndo : Addr
  c_FrameError : Addr
  c_StateError : Addr
structure Txt (K : PySem.W.Frag) (mg : Str → Option Value) (A : Adr) : Prop where
  b_BadRatio : ErrCls "ValueError" "ValueError.__new__" "ValueError.__init__" PySem.HandSPX.veTail PySem.HandSPX.refsVE PySem.Challenge.pw_beamframes_k01_errors_made K mg "BadRatio" "given" A.c_BadRatio A.i_BadRatio
  h_BadRatio : KeepC K "given" A.c_BadRatio
  i_BadRatio : IsiC K A.c_BadRatio
  y_BadRatio_BadRatio : PySem.W.kitOne K (.ref A.c_BadRatio) (.ref A.c_BadRatio) = some true
  y_BadRatio_BadTable : PySem.W.kitOne K (.ref A.c_BadRatio) (.ref A.c_BadTable) = some false
  y_BadRatio_BadWord : PySem.W.kitOne K (.ref A.c_BadRatio) (.ref A.c_BadWord) = some false
  y_BadRatio_BadBurst : PySem.W.kitOne K (.ref A.c_BadRatio) (.ref A.c_BadBurst) = some false
  y_BadRatio_BadReceiver : PySem.W.kitOne K (.ref A.c_BadRatio) (.ref A.c_BadReceiver) = some false
  y_BadRatio_BadNumber : PySem.W.kitOne K (.ref A.c_BadRatio) (.ref A.c_BadNumber) = some false
  y_BadRatio_BadPaper : PySem.W.kitOne K (.ref A.c_BadRatio) (.ref A.c_BadPaper) = some false
  y_BadRatio_BadStyle : PySem.W.kitOne K (.ref A.c_BadRatio) (.ref A.c_BadStyle) = some false
  y_BadRatio_BadRow : PySem.W.kitOne K (.ref A.c_BadRatio) (.ref A.c_BadRow) = some false
  y_BadRatio_BadText : PySem.W.kitOne K (.ref A.c_BadRatio) (.ref A.c_BadText) = some false
  y_BadRatio_NothingToUndo : PySem.W.kitOne K (.ref A.c_BadRatio) (.ref A.c_NothingToUndo) = some false
  y_BadRatio_FrameError : PySem.W.kitOne K (.ref A.c_BadRatio) (.ref A.c_FrameError) = some true
  y_BadRatio_StateError : PySem.W.kitOne K (.ref A.c_BadRatio) (.ref A.c_StateError) = some false
  y_BadRatio_ValueError : PySem.W.kitOne K (.ref A.c_BadRatio) (.type "ValueError") = some true
  y_BadRatio_RuntimeError : PySem.W.kitOne K (.ref A.c_BadRatio) (.type "RuntimeError") = some false
  b_BadTable : ErrCls "ValueError" "ValueError.__new__" "ValueError.__init__" PySem.HandSPX.veTail PySem.HandSPX.refsVE PySem.Challenge.pw_beamframes_k01_errors_made K mg "BadTable" "part" A.c_BadTable A.i_BadTable
  h_BadTable : KeepC K "part" A.c_BadTable
  i_BadTable : IsiC K A.c_BadTable
  y_BadTable_BadRatio : PySem.W.kitOne K (.ref A.c_BadTable) (.ref A.c_BadRatio) = some false
  y_BadTable_BadTable : PySem.W.kitOne K (.ref A.c_BadTable) (.ref A.c_BadTable) = some true
  y_BadTable_BadWord : PySem.W.kitOne K (.ref A.c_BadTable) (.ref A.c_BadWord) = some false
  y_BadTable_BadBurst : PySem.W.kitOne K (.ref A.c_BadTable) (.ref A.c_BadBurst) = some false
  y_BadTable_BadReceiver : PySem.W.kitOne K (.ref A.c_BadTable) (.ref A.c_BadReceiver) = some false
  y_BadTable_BadNumber : PySem.W.kitOne K (.ref A.c_BadTable) (.ref A.c_BadNumber) = some false
  y_BadTable_BadPaper : PySem.W.kitOne K (.ref A.c_BadTable) (.ref A.c_BadPaper) = some false
  y_BadTable_BadStyle : PySem.W.kitOne K (.ref A.c_BadTable) (.ref A.c_BadStyle) = some false
  y_BadTable_BadRow : PySem.W.kitOne K (.ref A.c_BadTable) (.ref A.c_BadRow) = some false
  y_BadTable_BadText : PySem.W.kitOne K (.ref A.c_BadTable) (.ref A.c_BadText) = some false
  y_BadTable_NothingToUndo : PySem.W.kitOne K (.ref A.c_BadTable) (.ref A.c_NothingToUndo) = some false
  y_BadTable_FrameError : PySem.W.kitOne K (.ref A.c_BadTable) (.ref A.c_FrameError) = some true
  y_BadTable_StateError : PySem.W.kitOne K (.ref A.c_BadTable) (.ref A.c_StateError) = some false
  y_BadTable_ValueError : PySem.W.kitOne K (.ref A.c_BadTable) (.type "ValueError") = some true
  y_BadTable_RuntimeError : PySem.W.kitOne K (.ref A.c_BadTable) (.type "RuntimeError") = some false
  b_BadWord : ErrCls "ValueError" "ValueError.__new__" "ValueError.__init__" PySem.HandSPX.veTail PySem.HandSPX.refsVE PySem.Challenge.pw_beamframes_k01_errors_made K mg "BadWord" "given" A.c_BadWord A.i_BadWord
  h_BadWord : KeepC K "given" A.c_BadWord
  i_BadWord : IsiC K A.c_BadWord
  y_BadWord_BadRatio : PySem.W.kitOne K (.ref A.c_BadWord) (.ref A.c_BadRatio) = some false
  y_BadWord_BadTable : PySem.W.kitOne K (.ref A.c_BadWord) (.ref A.c_BadTable) = some false
  y_BadWord_BadWord : PySem.W.kitOne K (.ref A.c_BadWord) (.ref A.c_BadWord) = some true
  y_BadWord_BadBurst : PySem.W.kitOne K (.ref A.c_BadWord) (.ref A.c_BadBurst) = some false
  y_BadWord_BadReceiver : PySem.W.kitOne K (.ref A.c_BadWord) (.ref A.c_BadReceiver) = some false
  y_BadWord_BadNumber : PySem.W.kitOne K (.ref A.c_BadWord) (.ref A.c_BadNumber) = some false
  y_BadWord_BadPaper : PySem.W.kitOne K (.ref A.c_BadWord) (.ref A.c_BadPaper) = some false
  y_BadWord_BadStyle : PySem.W.kitOne K (.ref A.c_BadWord) (.ref A.c_BadStyle) = some false
  y_BadWord_BadRow : PySem.W.kitOne K (.ref A.c_BadWord) (.ref A.c_BadRow) = some false
  y_BadWord_BadText : PySem.W.kitOne K (.ref A.c_BadWord) (.ref A.c_BadText) = some false
  y_BadWord_NothingToUndo : PySem.W.kitOne K (.ref A.c_BadWord) (.ref A.c_NothingToUndo) = some false
  y_BadWord_FrameError : PySem.W.kitOne K (.ref A.c_BadWord) (.ref A.c_FrameError) = some true
  y_BadWord_StateError : PySem.W.kitOne K (.ref A.c_BadWord) (.ref A.c_StateError) = some false
  y_BadWord_ValueError : PySem.W.kitOne K (.ref A.c_BadWord) (.type "ValueError") = some true
  y_BadWord_RuntimeError : PySem.W.kitOne K (.ref A.c_BadWord) (.type "RuntimeError") = some false
  b_BadBurst : ErrCls "ValueError" "ValueError.__new__" "ValueError.__init__" PySem.HandSPX.veTail PySem.HandSPX.refsVE PySem.Challenge.pw_beamframes_k01_errors_made K mg "BadBurst" "given" A.c_BadBurst A.i_BadBurst
  h_BadBurst : KeepC K "given" A.c_BadBurst
  i_BadBurst : IsiC K A.c_BadBurst
  y_BadBurst_BadRatio : PySem.W.kitOne K (.ref A.c_BadBurst) (.ref A.c_BadRatio) = some false
  y_BadBurst_BadTable : PySem.W.kitOne K (.ref A.c_BadBurst) (.ref A.c_BadTable) = some false
  y_BadBurst_BadWord : PySem.W.kitOne K (.ref A.c_BadBurst) (.ref A.c_BadWord) = some false
  y_BadBurst_BadBurst : PySem.W.kitOne K (.ref A.c_BadBurst) (.ref A.c_BadBurst) = some true
  y_BadBurst_BadReceiver : PySem.W.kitOne K (.ref A.c_BadBurst) (.ref A.c_BadReceiver) = some false
  y_BadBurst_BadNumber : PySem.W.kitOne K (.ref A.c_BadBurst) (.ref A.c_BadNumber) = some false
  y_BadBurst_BadPaper : PySem.W.kitOne K (.ref A.c_BadBurst) (.ref A.c_BadPaper) = some false
  y_BadBurst_BadStyle : PySem.W.kitOne K (.ref A.c_BadBurst) (.ref A.c_BadStyle) = some false
  y_BadBurst_BadRow : PySem.W.kitOne K (.ref A.c_BadBurst) (.ref A.c_BadRow) = some false
  y_BadBurst_BadText : PySem.W.kitOne K (.ref A.c_BadBurst) (.ref A.c_BadText) = some false
  y_BadBurst_NothingToUndo : PySem.W.kitOne K (.ref A.c_BadBurst) (.ref A.c_NothingToUndo) = some false
  y_BadBurst_FrameError : PySem.W.kitOne K (.ref A.c_BadBurst) (.ref A.c_FrameError) = some true
  y_BadBurst_StateError : PySem.W.kitOne K (.ref A.c_BadBurst) (.ref A.c_StateError) = some false
  y_BadBurst_ValueError : PySem.W.kitOne K (.ref A.c_BadBurst) (.type "ValueError") = some true
  y_BadBurst_RuntimeError : PySem.W.kitOne K (.ref A.c_BadBurst) (.type "RuntimeError") = some false
  b_BadReceiver : ErrCls "ValueError" "ValueError.__new__" "ValueError.__init__" PySem.HandSPX.veTail PySem.HandSPX.refsVE PySem.Challenge.pw_beamframes_k01_errors_made K mg "BadReceiver" "place" A.c_BadReceiver A.i_BadReceiver
  h_BadReceiver : KeepC K "place" A.c_BadReceiver
  i_BadReceiver : IsiC K A.c_BadReceiver
  y_BadReceiver_BadRatio : PySem.W.kitOne K (.ref A.c_BadReceiver) (.ref A.c_BadRatio) = some false
  y_BadReceiver_BadTable : PySem.W.kitOne K (.ref A.c_BadReceiver) (.ref A.c_BadTable) = some false
  y_BadReceiver_BadWord : PySem.W.kitOne K (.ref A.c_BadReceiver) (.ref A.c_BadWord) = some false
  y_BadReceiver_BadBurst : PySem.W.kitOne K (.ref A.c_BadReceiver) (.ref A.c_BadBurst) = some false
  y_BadReceiver_BadReceiver : PySem.W.kitOne K (.ref A.c_BadReceiver) (.ref A.c_BadReceiver) = some true
  y_BadReceiver_BadNumber : PySem.W.kitOne K (.ref A.c_BadReceiver) (.ref A.c_BadNumber) = some false
  y_BadReceiver_BadPaper : PySem.W.kitOne K (.ref A.c_BadReceiver) (.ref A.c_BadPaper) = some false
  y_BadReceiver_BadStyle : PySem.W.kitOne K (.ref A.c_BadReceiver) (.ref A.c_BadStyle) = some false
  y_BadReceiver_BadRow : PySem.W.kitOne K (.ref A.c_BadReceiver) (.ref A.c_BadRow) = some false
  y_BadReceiver_BadText : PySem.W.kitOne K (.ref A.c_BadReceiver) (.ref A.c_BadText) = some false
  y_BadReceiver_NothingToUndo : PySem.W.kitOne K (.ref A.c_BadReceiver) (.ref A.c_NothingToUndo) = some false
  y_BadReceiver_FrameError : PySem.W.kitOne K (.ref A.c_BadReceiver) (.ref A.c_FrameError) = some true
  y_BadReceiver_StateError : PySem.W.kitOne K (.ref A.c_BadReceiver) (.ref A.c_StateError) = some false
  y_BadReceiver_ValueError : PySem.W.kitOne K (.ref A.c_BadReceiver) (.type "ValueError") = some true
  y_BadReceiver_RuntimeError : PySem.W.kitOne K (.ref A.c_BadReceiver) (.type "RuntimeError") = some false
  b_BadNumber : ErrCls "ValueError" "ValueError.__new__" "ValueError.__init__" PySem.HandSPX.veTail PySem.HandSPX.refsVE PySem.Challenge.pw_beamframes_k01_errors_made K mg "BadNumber" "given" A.c_BadNumber A.i_BadNumber
  h_BadNumber : KeepC K "given" A.c_BadNumber
  i_BadNumber : IsiC K A.c_BadNumber
  y_BadNumber_BadRatio : PySem.W.kitOne K (.ref A.c_BadNumber) (.ref A.c_BadRatio) = some false
  y_BadNumber_BadTable : PySem.W.kitOne K (.ref A.c_BadNumber) (.ref A.c_BadTable) = some false
  y_BadNumber_BadWord : PySem.W.kitOne K (.ref A.c_BadNumber) (.ref A.c_BadWord) = some false
  y_BadNumber_BadBurst : PySem.W.kitOne K (.ref A.c_BadNumber) (.ref A.c_BadBurst) = some false
  y_BadNumber_BadReceiver : PySem.W.kitOne K (.ref A.c_BadNumber) (.ref A.c_BadReceiver) = some false
  y_BadNumber_BadNumber : PySem.W.kitOne K (.ref A.c_BadNumber) (.ref A.c_BadNumber) = some true
  y_BadNumber_BadPaper : PySem.W.kitOne K (.ref A.c_BadNumber) (.ref A.c_BadPaper) = some false
  y_BadNumber_BadStyle : PySem.W.kitOne K (.ref A.c_BadNumber) (.ref A.c_BadStyle) = some false
  y_BadNumber_BadRow : PySem.W.kitOne K (.ref A.c_BadNumber) (.ref A.c_BadRow) = some false
  y_BadNumber_BadText : PySem.W.kitOne K (.ref A.c_BadNumber) (.ref A.c_BadText) = some false
  y_BadNumber_NothingToUndo : PySem.W.kitOne K (.ref A.c_BadNumber) (.ref A.c_NothingToUndo) = some false
  y_BadNumber_FrameError : PySem.W.kitOne K (.ref A.c_BadNumber) (.ref A.c_FrameError) = some true
  y_BadNumber_StateError : PySem.W.kitOne K (.ref A.c_BadNumber) (.ref A.c_StateError) = some false
  y_BadNumber_ValueError : PySem.W.kitOne K (.ref A.c_BadNumber) (.type "ValueError") = some true
  y_BadNumber_RuntimeError : PySem.W.kitOne K (.ref A.c_BadNumber) (.type "RuntimeError") = some false
  b_BadPaper : ErrCls "ValueError" "ValueError.__new__" "ValueError.__init__" PySem.HandSPX.veTail PySem.HandSPX.refsVE PySem.Challenge.pw_beamframes_k01_errors_made K mg "BadPaper" "part" A.c_BadPaper A.i_BadPaper
  h_BadPaper : KeepC K "part" A.c_BadPaper
  i_BadPaper : IsiC K A.c_BadPaper
  y_BadPaper_BadRatio : PySem.W.kitOne K (.ref A.c_BadPaper) (.ref A.c_BadRatio) = some false
  y_BadPaper_BadTable : PySem.W.kitOne K (.ref A.c_BadPaper) (.ref A.c_BadTable) = some false
  y_BadPaper_BadWord : PySem.W.kitOne K (.ref A.c_BadPaper) (.ref A.c_BadWord) = some false
  y_BadPaper_BadBurst : PySem.W.kitOne K (.ref A.c_BadPaper) (.ref A.c_BadBurst) = some false
  y_BadPaper_BadReceiver : PySem.W.kitOne K (.ref A.c_BadPaper) (.ref A.c_BadReceiver) = some false
  y_BadPaper_BadNumber : PySem.W.kitOne K (.ref A.c_BadPaper) (.ref A.c_BadNumber) = some false
  y_BadPaper_BadPaper : PySem.W.kitOne K (.ref A.c_BadPaper) (.ref A.c_BadPaper) = some true
  y_BadPaper_BadStyle : PySem.W.kitOne K (.ref A.c_BadPaper) (.ref A.c_BadStyle) = some false
  y_BadPaper_BadRow : PySem.W.kitOne K (.ref A.c_BadPaper) (.ref A.c_BadRow) = some false
  y_BadPaper_BadText : PySem.W.kitOne K (.ref A.c_BadPaper) (.ref A.c_BadText) = some false
  y_BadPaper_NothingToUndo : PySem.W.kitOne K (.ref A.c_BadPaper) (.ref A.c_NothingToUndo) = some false
  y_BadPaper_FrameError : PySem.W.kitOne K (.ref A.c_BadPaper) (.ref A.c_FrameError) = some true
  y_BadPaper_StateError : PySem.W.kitOne K (.ref A.c_BadPaper) (.ref A.c_StateError) = some false
  y_BadPaper_ValueError : PySem.W.kitOne K (.ref A.c_BadPaper) (.type "ValueError") = some true
  y_BadPaper_RuntimeError : PySem.W.kitOne K (.ref A.c_BadPaper) (.type "RuntimeError") = some false
  b_BadStyle : ErrCls "ValueError" "ValueError.__new__" "ValueError.__init__" PySem.HandSPX.veTail PySem.HandSPX.refsVE PySem.Challenge.pw_beamframes_k01_errors_made K mg "BadStyle" "given" A.c_BadStyle A.i_BadStyle
  h_BadStyle : KeepC K "given" A.c_BadStyle
  i_BadStyle : IsiC K A.c_BadStyle
  y_BadStyle_BadRatio : PySem.W.kitOne K (.ref A.c_BadStyle) (.ref A.c_BadRatio) = some false
  y_BadStyle_BadTable : PySem.W.kitOne K (.ref A.c_BadStyle) (.ref A.c_BadTable) = some false
  y_BadStyle_BadWord : PySem.W.kitOne K (.ref A.c_BadStyle) (.ref A.c_BadWord) = some false
  y_BadStyle_BadBurst : PySem.W.kitOne K (.ref A.c_BadStyle) (.ref A.c_BadBurst) = some false
  y_BadStyle_BadReceiver : PySem.W.kitOne K (.ref A.c_BadStyle) (.ref A.c_BadReceiver) = some false
  y_BadStyle_BadNumber : PySem.W.kitOne K (.ref A.c_BadStyle) (.ref A.c_BadNumber) = some false
  y_BadStyle_BadPaper : PySem.W.kitOne K (.ref A.c_BadStyle) (.ref A.c_BadPaper) = some false
  y_BadStyle_BadStyle : PySem.W.kitOne K (.ref A.c_BadStyle) (.ref A.c_BadStyle) = some true
  y_BadStyle_BadRow : PySem.W.kitOne K (.ref A.c_BadStyle) (.ref A.c_BadRow) = some false
  y_BadStyle_BadText : PySem.W.kitOne K (.ref A.c_BadStyle) (.ref A.c_BadText) = some false
  y_BadStyle_NothingToUndo : PySem.W.kitOne K (.ref A.c_BadStyle) (.ref A.c_NothingToUndo) = some false
  y_BadStyle_FrameError : PySem.W.kitOne K (.ref A.c_BadStyle) (.ref A.c_FrameError) = some true
  y_BadStyle_StateError : PySem.W.kitOne K (.ref A.c_BadStyle) (.ref A.c_StateError) = some false
  y_BadStyle_ValueError : PySem.W.kitOne K (.ref A.c_BadStyle) (.type "ValueError") = some true
  y_BadStyle_RuntimeError : PySem.W.kitOne K (.ref A.c_BadStyle) (.type "RuntimeError") = some false
  b_BadRow : ErrCls "ValueError" "ValueError.__new__" "ValueError.__init__" PySem.HandSPX.veTail PySem.HandSPX.refsVE PySem.Challenge.pw_beamframes_k01_errors_made K mg "BadRow" "moment" A.c_BadRow A.i_BadRow
  h_BadRow : KeepC K "moment" A.c_BadRow
  i_BadRow : IsiC K A.c_BadRow
  y_BadRow_BadRatio : PySem.W.kitOne K (.ref A.c_BadRow) (.ref A.c_BadRatio) = some false
  y_BadRow_BadTable : PySem.W.kitOne K (.ref A.c_BadRow) (.ref A.c_BadTable) = some false
  y_BadRow_BadWord : PySem.W.kitOne K (.ref A.c_BadRow) (.ref A.c_BadWord) = some false
  y_BadRow_BadBurst : PySem.W.kitOne K (.ref A.c_BadRow) (.ref A.c_BadBurst) = some false
  y_BadRow_BadReceiver : PySem.W.kitOne K (.ref A.c_BadRow) (.ref A.c_BadReceiver) = some false
  y_BadRow_BadNumber : PySem.W.kitOne K (.ref A.c_BadRow) (.ref A.c_BadNumber) = some false
  y_BadRow_BadPaper : PySem.W.kitOne K (.ref A.c_BadRow) (.ref A.c_BadPaper) = some false
  y_BadRow_BadStyle : PySem.W.kitOne K (.ref A.c_BadRow) (.ref A.c_BadStyle) = some false
  y_BadRow_BadRow : PySem.W.kitOne K (.ref A.c_BadRow) (.ref A.c_BadRow) = some true
  y_BadRow_BadText : PySem.W.kitOne K (.ref A.c_BadRow) (.ref A.c_BadText) = some false
  y_BadRow_NothingToUndo : PySem.W.kitOne K (.ref A.c_BadRow) (.ref A.c_NothingToUndo) = some false
  y_BadRow_FrameError : PySem.W.kitOne K (.ref A.c_BadRow) (.ref A.c_FrameError) = some true
  y_BadRow_StateError : PySem.W.kitOne K (.ref A.c_BadRow) (.ref A.c_StateError) = some false
  y_BadRow_ValueError : PySem.W.kitOne K (.ref A.c_BadRow) (.type "ValueError") = some true
  y_BadRow_RuntimeError : PySem.W.kitOne K (.ref A.c_BadRow) (.type "RuntimeError") = some false
  b_BadText : ErrCls "ValueError" "ValueError.__new__" "ValueError.__init__" PySem.HandSPX.veTail PySem.HandSPX.refsVE PySem.Challenge.pw_beamframes_k01_errors_made K mg "BadText" "word" A.c_BadText A.i_BadText
  h_BadText : KeepC K "word" A.c_BadText
  i_BadText : IsiC K A.c_BadText
  y_BadText_BadRatio : PySem.W.kitOne K (.ref A.c_BadText) (.ref A.c_BadRatio) = some false
  y_BadText_BadTable : PySem.W.kitOne K (.ref A.c_BadText) (.ref A.c_BadTable) = some false
  y_BadText_BadWord : PySem.W.kitOne K (.ref A.c_BadText) (.ref A.c_BadWord) = some false
  y_BadText_BadBurst : PySem.W.kitOne K (.ref A.c_BadText) (.ref A.c_BadBurst) = some false
  y_BadText_BadReceiver : PySem.W.kitOne K (.ref A.c_BadText) (.ref A.c_BadReceiver) = some false
  y_BadText_BadNumber : PySem.W.kitOne K (.ref A.c_BadText) (.ref A.c_BadNumber) = some false
  y_BadText_BadPaper : PySem.W.kitOne K (.ref A.c_BadText) (.ref A.c_BadPaper) = some false
  y_BadText_BadStyle : PySem.W.kitOne K (.ref A.c_BadText) (.ref A.c_BadStyle) = some false
  y_BadText_BadRow : PySem.W.kitOne K (.ref A.c_BadText) (.ref A.c_BadRow) = some false
  y_BadText_BadText : PySem.W.kitOne K (.ref A.c_BadText) (.ref A.c_BadText) = some true
  y_BadText_NothingToUndo : PySem.W.kitOne K (.ref A.c_BadText) (.ref A.c_NothingToUndo) = some false
  y_BadText_FrameError : PySem.W.kitOne K (.ref A.c_BadText) (.ref A.c_FrameError) = some true
  y_BadText_StateError : PySem.W.kitOne K (.ref A.c_BadText) (.ref A.c_StateError) = some false
  y_BadText_ValueError : PySem.W.kitOne K (.ref A.c_BadText) (.type "ValueError") = some true
  y_BadText_RuntimeError : PySem.W.kitOne K (.ref A.c_BadText) (.type "RuntimeError") = some false
  b_NothingToUndo : ErrCls "RuntimeError" "RuntimeError.__new__" "RuntimeError.__init__" reTail refsRE PySem.Challenge.pw_beamframes_k01_errors_made K mg "NothingToUndo" "count" A.c_NothingToUndo A.i_NothingToUndo
  h_NothingToUndo : KeepC K "count" A.c_NothingToUndo
  i_NothingToUndo : IsiC K A.c_NothingToUndo
  y_NothingToUndo_BadRatio : PySem.W.kitOne K (.ref A.c_NothingToUndo) (.ref A.c_BadRatio) = some false
  y_NothingToUndo_BadTable : PySem.W.kitOne K (.ref A.c_NothingToUndo) (.ref A.c_BadTable) = some false
  y_NothingToUndo_BadWord : PySem.W.kitOne K (.ref A.c_NothingToUndo) (.ref A.c_BadWord) = some false
  y_NothingToUndo_BadBurst : PySem.W.kitOne K (.ref A.c_NothingToUndo) (.ref A.c_BadBurst) = some false
  y_NothingToUndo_BadReceiver : PySem.W.kitOne K (.ref A.c_NothingToUndo) (.ref A.c_BadReceiver) = some false
  y_NothingToUndo_BadNumber : PySem.W.kitOne K (.ref A.c_NothingToUndo) (.ref A.c_BadNumber) = some false
  y_NothingToUndo_BadPaper : PySem.W.kitOne K (.ref A.c_NothingToUndo) (.ref A.c_BadPaper) = some false
  y_NothingToUndo_BadStyle : PySem.W.kitOne K (.ref A.c_NothingToUndo) (.ref A.c_BadStyle) = some false
  y_NothingToUndo_BadRow : PySem.W.kitOne K (.ref A.c_NothingToUndo) (.ref A.c_BadRow) = some false
  y_NothingToUndo_BadText : PySem.W.kitOne K (.ref A.c_NothingToUndo) (.ref A.c_BadText) = some false
  y_NothingToUndo_NothingToUndo : PySem.W.kitOne K (.ref A.c_NothingToUndo) (.ref A.c_NothingToUndo) = some true
  y_NothingToUndo_FrameError : PySem.W.kitOne K (.ref A.c_NothingToUndo) (.ref A.c_FrameError) = some false
  y_NothingToUndo_StateError : PySem.W.kitOne K (.ref A.c_NothingToUndo) (.ref A.c_StateError) = some true
  y_NothingToUndo_ValueError : PySem.W.kitOne K (.ref A.c_NothingToUndo) (.type "ValueError") = some false
  y_NothingToUndo_RuntimeError : PySem.W.kitOne K (.ref A.c_NothingToUndo) (.type "RuntimeError") = some true
  p_FrameError : mg "FrameError" = some (.ref A.c_FrameError)
  p_StateError : mg "StateError" = some (.ref A.c_StateError)
  f__law_begin : Cal K mg "_law_begin" s__law_begin ["script"] A.a__law_begin A.d__law_begin
  f__law_next : Cal K mg "_law_next" s__law_next ["draw", "many"] A.a__law_next A.d__law_next
  f__law_pick : Cal K mg "_law_pick" s__law_pick ["draw", "some"] A.a__law_pick A.d__law_pick
  f__law_things : Cal K mg "_law_things" s__law_things [] A.a__law_things A.d__law_things
  f__law_made : Cal K mg "_law_made" s__law_made ["some"] A.a__law_made A.d__law_made
  f__law_named : Cal K mg "_law_named" s__law_named ["some"] A.a__law_named A.d__law_named
  f__law_told : Cal K mg "_law_told" s__law_told ["made"] A.a__law_told A.d__law_told
  f__law_kinds : Cal K mg "_law_kinds" s__law_kinds ["error"] A.a__law_kinds A.d__law_kinds
  f_law : Cal K mg "law" s_law ["script"] A.a_law A.d_law
  m_RuntimeError : mg "RuntimeError" = none
  m_ValueError : mg "ValueError" = none
  m_enumerate : mg "enumerate" = none
  m_isinstance : mg "isinstance" = none
  m_len : mg "len" = none
  m_range : mg "range" = none
  m_repr : mg "repr" = none
abbrev PG : Program := PySem.Challenge.pw_beamframes_k01_errors_made
section
variable {P : Program} {w : World} {K : PySem.W.Frag} {mg : Str → Option Value} {base : Heap} {A : Adr}
theorem ok__law_begin (T : Txt K mg A) : GOk PG w K mg base 1 A.a__law_begin A.d__law_begin ["script"] (p__law_begin K) := by
  refine okG T.f__law_begin.fn sc__law_begin (fun vs H Q E h => ?_) fun cdv AA out s H vs Q E hr hg h => ⟨t__law_begin K, ?_, ?_⟩
  · obtain ⟨s, ns, rfl, _⟩ := h
    rfl
  · exact (pss_one (ps_ret (pe_disp (pps_cons pe_str (pe_op op_catS (pv 0) (pe_lst (pa_cons pe_int pa_nil))) (pps_cons pe_str pe_int (pps_cons pe_str pe_int (pps_cons pe_str pe_int pps_nil)))) (by rfl) (by rfl) (fun z => by cases z) (by decide))))
  · obtain ⟨s, ns, rfl, hs, hl, q⟩ := h
    exact rd__law_begin rfl hs hl q
theorem ok__law_next (T : Txt K mg A) : GOk PG w K mg base 1 A.a__law_next A.d__law_next ["draw", "many"] (p__law_next K) := by
  refine okD T.f__law_next.fn sc__law_next rfl (fun cdv AA out s H E hr hg => ⟨t__law_next K, ?_, fun a c cs n ds hc hn hl hp => so__law_next hc hn hp⟩)
  exact (pss_cons (ps_if (pt_cmpR op_gt (pe_dget (hu_of hr) (pv 0) pe_str (fun _ _ => rfl)) pe_int (nomark _)) (pss_cons (ps_asg (pe_tup (pa_cons (pe_dget (hu_of hr) (pv 0) pe_str (fun _ _ => rfl)) (pa_cons (pe_op op_fdivW (pe_dget (hu_of hr) (pv 0) pe_str (fun _ _ => rfl)) (pv 1)) pa_nil))) (pg_tup rfl (pgs_cons (pg_name (i := 2) sc__law_next.nd rfl (Or.inl rfl)) (pgs_cons (pg_sub (pv 0) pe_str (set_dict (hu_of hr))) pgs_nil))))
      (pss_one (ps_ret (pe_op op_mod (pv 2) (pv 1))))) pss_nil)
      (pss_cons (ps_set (i := 3) sc__law_next.nd rfl (Or.inl rfl) (pe_dget (hu_of hr) (pv 0) pe_str (fun _ _ => rfl)))
      (pss_cons (ps_set (i := 2) sc__law_next.nd rfl (Or.inl rfl) (pe_ix ix_seq (pv 3) (pe_op op_mod (pe_dget (hu_of hr) (pv 0) pe_str (fun _ _ => rfl)) (pe_callB call_len_seq (by rfl) T.m_len (by first | exact PySem.boot_len | exact PyProof.Rows.boot_len | decide +kernel) (pa_cons (pv 3) pa_nil))) (fun _ _ => rfl)))
      (pss_cons (ps_asg (pe_op op_add (pe_dget (hu_of hr) (pv 0) pe_str (fun _ _ => rfl)) pe_int) (pg_sub (pv 0) pe_str (set_dict (hu_of hr))))
      (pss_cons (ps_if (PW.pt (pw_and (pt_cmpR op_ge (pv 2) (pe_op op_pow pe_int pe_int) (nomark _)) (pw_and1 (pt_cmpR op_le (pe_dget (hu_of hr) (pv 0) pe_str (fun _ _ => rfl)) (pe_callB call_len_seq (by rfl) T.m_len (by first | exact PySem.boot_len | exact PyProof.Rows.boot_len | decide +kernel) (pa_cons (pv 3) pa_nil)) (nomark _))))) (pss_cons (ps_asg (pe_op op_fdivW (pv 2) (pv 1)) (pg_sub (pv 0) pe_str (set_dict (hu_of hr))))
      (pss_one (ps_ret (pe_op op_mod (pv 2) (pv 1))))) pss_nil)
      (pss_cons (ps_asg (pe_op op_add (pe_dget (hu_of hr) (pv 0) pe_str (fun _ _ => rfl)) pe_int) (pg_sub (pv 0) pe_str (set_dict (hu_of hr))))
      (pss_cons (ps_set (i := 4) sc__law_next.nd rfl (Or.inl rfl) (pe_op op_add (pe_op op_mod (pv 2) pe_int) (pe_op op_mulW (pe_op op_mulW pe_int (pe_dget (hu_of hr) (pv 0) pe_str (fun _ _ => rfl))) (pe_dget (hu_of hr) (pv 0) pe_str (fun _ _ => rfl)))))
      (pss_cons (ps_for PassesOwn.never rfl (pi_tup (pe_tup (pa_cons (pe_dget (hu_of hr) (pv 0) pe_str (fun _ _ => rfl)) (pa_cons (pe_dget (hu_of hr) (pv 0) pe_str (fun _ _ => rfl)) pa_nil)))) (pg_name (i := 5) sc__law_next.nd rfl (Or.inl rfl)) (pss_cons (ps_set (i := 4) sc__law_next.nd rfl (Or.inl rfl) (pe_op op_mod (pe_op op_mulW (pe_op op_add (pe_op op_add (pv 4) (pe_op op_mulW pe_int (pv 5))) pe_int) pe_int) pe_int))
      (pss_one (ps_set (i := 4) sc__law_next.nd rfl (Or.inl rfl) (pe_op op_mod (pe_op op_mulW (pv 4) (pe_op op_add pe_int (pe_op op_mulW pe_int (pe_op op_mod (pv 5) pe_int)))) pe_int)))))
      (pss_one (ps_ret (pe_op op_mod (pe_op op_fdivW (pv 4) pe_int) (pv 1))))))))))))
theorem ok__law_things (T : Txt K mg A) : GOk PG w K mg base 1 A.a__law_things A.d__law_things [] (p__law_things K) := by
  refine okR T.f__law_things.fn sc__law_things (fun cdv AA out s H E hr hg => ⟨t__law_things K, ?_, fun S hmu ds d hl hp => so__law_things hp⟩)
  exact (pss_one (ps_ret (pe_lst (pa_cons pe_int (pa_cons (pe_un un_neg pe_int) (pa_cons pe_int (pa_cons pe_bl (pa_cons pe_non (pa_cons pe_str (pa_cons pe_str (pa_cons (pe_tup pa_nil) (pa_cons (pe_tup (pa_cons pe_int (pa_cons pe_int pa_nil))) (pa_cons (pe_lst pa_nil) (pa_cons (pe_lst (pa_cons pe_int pa_nil)) (pa_cons pe_dnewK (pa_cons (pe_tup (pa_cons pe_str (pa_cons pe_int pa_nil))) (pa_cons (pe_op op_pow pe_int pe_int) (pa_cons pe_str pa_nil))))))))))))))))))
theorem ok__law_made (T : Txt K mg A) : GOk PG w K mg base 1 A.a__law_made A.d__law_made ["some"] (p__law_made K ⟨A.c_BadRatio, A.c_BadTable, A.c_BadWord, A.c_BadBurst, A.c_BadReceiver, A.c_BadNumber, A.c_BadPaper, A.c_BadStyle, A.c_BadRow, A.c_BadText, A.c_NothingToUndo, A.c_FrameError, A.c_StateError⟩) := by
  refine okR T.f__law_made.fn sc__law_made (fun cdv AA out s H E hr hg => ⟨t__law_made K ⟨A.c_BadRatio, A.c_BadTable, A.c_BadWord, A.c_BadBurst, A.c_BadReceiver, A.c_BadNumber, A.c_BadPaper, A.c_BadStyle, A.c_BadRow, A.c_BadText, A.c_NothingToUndo, A.c_FrameError, A.c_StateError⟩, ?_, fun S hmu ds d hl hp => so__law_made hp⟩)
  exact (pss_cons (ps_set (i := 1) sc__law_made.nd rfl (Or.inl rfl) (pe_lst (pa_cons (pe_mkE T.b_BadRatio hr (pa_cons (pv 0) pa_nil)) (pa_cons (pe_mkE T.b_BadTable hr (pa_cons (pv 0) pa_nil)) (pa_cons (pe_mkE T.b_BadWord hr (pa_cons (pv 0) pa_nil)) (pa_cons (pe_mkE T.b_BadBurst hr (pa_cons (pv 0) pa_nil)) (pa_cons (pe_mkE T.b_BadReceiver hr (pa_cons (pv 0) pa_nil)) (pa_cons (pe_mkE T.b_BadNumber hr (pa_cons (pv 0) pa_nil)) pa_nil))))))))
      (pss_one (ps_ret (pe_op op_catS (pv 1) (pe_lst (pa_cons (pe_mkE T.b_BadPaper hr (pa_cons (pv 0) pa_nil)) (pa_cons (pe_mkE T.b_BadStyle hr (pa_cons (pv 0) pa_nil)) (pa_cons (pe_mkE T.b_BadRow hr (pa_cons (pv 0) pa_nil)) (pa_cons (pe_mkE T.b_BadText hr (pa_cons (pv 0) pa_nil)) (pa_cons (pe_mkE T.b_NothingToUndo hr (pa_cons (pv 0) pa_nil)) pa_nil))))))))))
theorem ok__law_named (T : Txt K mg A) : GOk PG w K mg base 1 A.a__law_named A.d__law_named ["some"] (p__law_named K ⟨A.c_BadRatio, A.c_BadTable, A.c_BadWord, A.c_BadBurst, A.c_BadReceiver, A.c_BadNumber, A.c_BadPaper, A.c_BadStyle, A.c_BadRow, A.c_BadText, A.c_NothingToUndo, A.c_FrameError, A.c_StateError⟩) := by
  refine okR T.f__law_named.fn sc__law_named (fun cdv AA out s H E hr hg => ⟨t__law_named K ⟨A.c_BadRatio, A.c_BadTable, A.c_BadWord, A.c_BadBurst, A.c_BadReceiver, A.c_BadNumber, A.c_BadPaper, A.c_BadStyle, A.c_BadRow, A.c_BadText, A.c_NothingToUndo, A.c_FrameError, A.c_StateError⟩, ?_, fun S hmu ds d hl hp => so__law_named hp⟩)
  exact (pss_cons (ps_set (i := 1) sc__law_named.nd rfl (Or.inl rfl) (pe_lst (pa_cons (pe_mkEw T.b_BadRatio hr (pk_cons (pv 0) pk_nil)) (pa_cons (pe_mkEw T.b_BadTable hr (pk_cons (pv 0) pk_nil)) (pa_cons (pe_mkEw T.b_BadWord hr (pk_cons (pv 0) pk_nil)) (pa_cons (pe_mkEw T.b_BadBurst hr (pk_cons (pv 0) pk_nil)) pa_nil))))))
      (pss_cons (ps_set (i := 1) sc__law_named.nd rfl (Or.inl rfl) (pe_op op_catS (pv 1) (pe_lst (pa_cons (pe_mkEw T.b_BadReceiver hr (pk_cons (pv 0) pk_nil)) (pa_cons (pe_mkEw T.b_BadNumber hr (pk_cons (pv 0) pk_nil)) (pa_cons (pe_mkEw T.b_BadPaper hr (pk_cons (pv 0) pk_nil)) (pa_cons (pe_mkEw T.b_BadStyle hr (pk_cons (pv 0) pk_nil)) pa_nil)))))))
      (pss_one (ps_ret (pe_op op_catS (pv 1) (pe_lst (pa_cons (pe_mkEw T.b_BadRow hr (pk_cons (pv 0) pk_nil)) (pa_cons (pe_mkEw T.b_BadText hr (pk_cons (pv 0) pk_nil)) (pa_cons (pe_mkEw T.b_NothingToUndo hr (pk_cons (pv 0) pk_nil)) pa_nil)))))))))
theorem ok__law_told (T : Txt K mg A) : GOk PG w K mg base 1 A.a__law_told A.d__law_told ["made"] (p__law_told K ⟨A.c_BadRatio, A.c_BadTable, A.c_BadWord, A.c_BadBurst, A.c_BadReceiver, A.c_BadNumber, A.c_BadPaper, A.c_BadStyle, A.c_BadRow, A.c_BadText, A.c_NothingToUndo, A.c_FrameError, A.c_StateError⟩) := by
  refine okPr T.f__law_told.fn sc__law_told (fun cdv AA out s H E hr hg => ⟨t__law_told K ⟨A.c_BadRatio, A.c_BadTable, A.c_BadWord, A.c_BadBurst, A.c_BadReceiver, A.c_BadNumber, A.c_BadPaper, A.c_BadStyle, A.c_BadRow, A.c_BadText, A.c_NothingToUndo, A.c_FrameError, A.c_StateError⟩, ?_, fun S hmu ds Φ hl hp => so__law_told hmu hp⟩)
  exact (pss_cons (ps_setLc (i := 1) (own := [("k", 2)]) (g := (gName 2)) (tt := tYes) (te := (tKFld [A.c_BadRatio, A.c_BadWord, A.c_BadBurst, A.c_BadNumber, A.c_BadStyle] "given" (tOp (rIx K) (tVar 0) (tVar 2)))) rfl sc__law_told.nd rfl rfl (sw_true rfl rfl rfl (by decide +kernel)) (pi_tup (pe_tup (pa_cons pe_int (pa_cons pe_int (pa_cons pe_int (pa_cons pe_int (pa_cons pe_int pa_nil))))))) (blkOk_by (own := [("k", 2)]) (N := ["made", "found", "k"]) (sc := defScope s__law_told) (by decide +kernel))  (fun _ _ _ _ _ => (pg_name (i := 2) sc__law_told.nd rfl (Or.inl rfl))) (fun _ _ _ _ _ => pts_nil)  (fun _ _ _ _ _ => (pe_kfld (Cs := [A.c_BadRatio, A.c_BadWord, A.c_BadBurst, A.c_BadNumber, A.c_BadStyle]) (fun C hC => by simp only [List.mem_cons, List.not_mem_nil, or_false] at hC; rcases hC with rfl | rfl | rfl | rfl | rfl <;> first | exact T.h_BadRatio | exact T.h_BadWord | exact T.h_BadBurst | exact T.h_BadNumber | exact T.h_BadStyle) (pe_ix ix_seq (pv 0) (pv 2) (fun _ _ => rfl)))))
      (pss_cons (ps_set (i := 1) sc__law_told.nd rfl (Or.inl rfl) (pe_op op_catS (pv 1) (pe_lst (pa_cons (pe_kfld (Cs := [A.c_BadTable, A.c_BadPaper]) (fun C hC => by simp only [List.mem_cons, List.not_mem_nil, or_false] at hC; rcases hC with rfl | rfl <;> first | exact T.h_BadTable | exact T.h_BadPaper) (pe_ix ix_seq (pv 0) pe_int (fun _ _ => rfl))) (pa_cons (pe_kfld (Cs := [A.c_BadReceiver]) (fun C hC => by simp only [List.mem_cons, List.not_mem_nil, or_false] at hC; subst hC; exact T.h_BadReceiver) (pe_ix ix_seq (pv 0) pe_int (fun _ _ => rfl))) (pa_cons (pe_kfld (Cs := [A.c_BadTable, A.c_BadPaper]) (fun C hC => by simp only [List.mem_cons, List.not_mem_nil, or_false] at hC; rcases hC with rfl | rfl <;> first | exact T.h_BadTable | exact T.h_BadPaper) (pe_ix ix_seq (pv 0) pe_int (fun _ _ => rfl))) (pa_cons (pe_kfld (Cs := [A.c_BadRow]) (fun C hC => by simp only [List.mem_cons, List.not_mem_nil, or_false] at hC; subst hC; exact T.h_BadRow) (pe_ix ix_seq (pv 0) pe_int (fun _ _ => rfl))) pa_nil)))))))
      (pss_one (ps_ret (pe_op op_catX (pv 1) (pe_lst (pa_cons (pe_kfld (Cs := [A.c_BadText]) (fun C hC => by simp only [List.mem_cons, List.not_mem_nil, or_false] at hC; subst hC; exact T.h_BadText) (pe_ix ix_seq (pv 0) pe_int (fun _ _ => rfl))) (pa_cons (pe_kfld (Cs := [A.c_NothingToUndo]) (fun C hC => by simp only [List.mem_cons, List.not_mem_nil, or_false] at hC; subst hC; exact T.h_NothingToUndo) (pe_ix ix_seq (pv 0) pe_int (fun _ _ => rfl))) pa_nil))))))))
theorem isE_own (T : Txt K mg A) (k : Nat) (hk : k < 11) (j : Nat) (hj : j < 11) : PySem.W.kitOne K (.ref ((⟨A.c_BadRatio, A.c_BadTable, A.c_BadWord, A.c_BadBurst, A.c_BadReceiver, A.c_BadNumber, A.c_BadPaper, A.c_BadStyle, A.c_BadRow, A.c_BadText, A.c_NothingToUndo, A.c_FrameError, A.c_StateError⟩ : E11).c k)) (.ref ((⟨A.c_BadRatio, A.c_BadTable, A.c_BadWord, A.c_BadBurst, A.c_BadReceiver, A.c_BadNumber, A.c_BadPaper, A.c_BadStyle, A.c_BadRow, A.c_BadText, A.c_NothingToUndo, A.c_FrameError, A.c_StateError⟩ : E11).c j)) = some (decide (k = j)) := by
  match k, hk, j, hj with
  | 0, _, 0, _ => exact T.y_BadRatio_BadRatio
  | 0, _, 1, _ => exact T.y_BadRatio_BadTable
  | 0, _, 2, _ => exact T.y_BadRatio_BadWord
  | 0, _, 3, _ => exact T.y_BadRatio_BadBurst
  | 0, _, 4, _ => exact T.y_BadRatio_BadReceiver
  | 0, _, 5, _ => exact T.y_BadRatio_BadNumber
  | 0, _, 6, _ => exact T.y_BadRatio_BadPaper
  | 0, _, 7, _ => exact T.y_BadRatio_BadStyle
  | 0, _, 8, _ => exact T.y_BadRatio_BadRow
  | 0, _, 9, _ => exact T.y_BadRatio_BadText
  | 0, _, 10, _ => exact T.y_BadRatio_NothingToUndo
  | 1, _, 0, _ => exact T.y_BadTable_BadRatio
  | 1, _, 1, _ => exact T.y_BadTable_BadTable
  | 1, _, 2, _ => exact T.y_BadTable_BadWord
  | 1, _, 3, _ => exact T.y_BadTable_BadBurst
  | 1, _, 4, _ => exact T.y_BadTable_BadReceiver
  | 1, _, 5, _ => exact T.y_BadTable_BadNumber
  | 1, _, 6, _ => exact T.y_BadTable_BadPaper
  | 1, _, 7, _ => exact T.y_BadTable_BadStyle
  | 1, _, 8, _ => exact T.y_BadTable_BadRow
  | 1, _, 9, _ => exact T.y_BadTable_BadText
  | 1, _, 10, _ => exact T.y_BadTable_NothingToUndo
  | 2, _, 0, _ => exact T.y_BadWord_BadRatio
  | 2, _, 1, _ => exact T.y_BadWord_BadTable
  | 2, _, 2, _ => exact T.y_BadWord_BadWord
  | 2, _, 3, _ => exact T.y_BadWord_BadBurst
  | 2, _, 4, _ => exact T.y_BadWord_BadReceiver
  | 2, _, 5, _ => exact T.y_BadWord_BadNumber
  | 2, _, 6, _ => exact T.y_BadWord_BadPaper
  | 2, _, 7, _ => exact T.y_BadWord_BadStyle
  | 2, _, 8, _ => exact T.y_BadWord_BadRow
  | 2, _, 9, _ => exact T.y_BadWord_BadText
  | 2, _, 10, _ => exact T.y_BadWord_NothingToUndo
  | 3, _, 0, _ => exact T.y_BadBurst_BadRatio
  | 3, _, 1, _ => exact T.y_BadBurst_BadTable
  | 3, _, 2, _ => exact T.y_BadBurst_BadWord
  | 3, _, 3, _ => exact T.y_BadBurst_BadBurst
  | 3, _, 4, _ => exact T.y_BadBurst_BadReceiver
  | 3, _, 5, _ => exact T.y_BadBurst_BadNumber
  | 3, _, 6, _ => exact T.y_BadBurst_BadPaper
  | 3, _, 7, _ => exact T.y_BadBurst_BadStyle
  | 3, _, 8, _ => exact T.y_BadBurst_BadRow
  | 3, _, 9, _ => exact T.y_BadBurst_BadText
  | 3, _, 10, _ => exact T.y_BadBurst_NothingToUndo
  | 4, _, 0, _ => exact T.y_BadReceiver_BadRatio
  | 4, _, 1, _ => exact T.y_BadReceiver_BadTable
  | 4, _, 2, _ => exact T.y_BadReceiver_BadWord
  | 4, _, 3, _ => exact T.y_BadReceiver_BadBurst
  | 4, _, 4, _ => exact T.y_BadReceiver_BadReceiver
  | 4, _, 5, _ => exact T.y_BadReceiver_BadNumber
  | 4, _, 6, _ => exact T.y_BadReceiver_BadPaper
  | 4, _, 7, _ => exact T.y_BadReceiver_BadStyle
  | 4, _, 8, _ => exact T.y_BadReceiver_BadRow
  | 4, _, 9, _ => exact T.y_BadReceiver_BadText
  | 4, _, 10, _ => exact T.y_BadReceiver_NothingToUndo
  | 5, _, 0, _ => exact T.y_BadNumber_BadRatio
  | 5, _, 1, _ => exact T.y_BadNumber_BadTable
  | 5, _, 2, _ => exact T.y_BadNumber_BadWord
  | 5, _, 3, _ => exact T.y_BadNumber_BadBurst
  | 5, _, 4, _ => exact T.y_BadNumber_BadReceiver
  | 5, _, 5, _ => exact T.y_BadNumber_BadNumber
  | 5, _, 6, _ => exact T.y_BadNumber_BadPaper
  | 5, _, 7, _ => exact T.y_BadNumber_BadStyle
  | 5, _, 8, _ => exact T.y_BadNumber_BadRow
  | 5, _, 9, _ => exact T.y_BadNumber_BadText
  | 5, _, 10, _ => exact T.y_BadNumber_NothingToUndo
  | 6, _, 0, _ => exact T.y_BadPaper_BadRatio
  | 6, _, 1, _ => exact T.y_BadPaper_BadTable
  | 6, _, 2, _ => exact T.y_BadPaper_BadWord
  | 6, _, 3, _ => exact T.y_BadPaper_BadBurst
  | 6, _, 4, _ => exact T.y_BadPaper_BadReceiver
  | 6, _, 5, _ => exact T.y_BadPaper_BadNumber
  | 6, _, 6, _ => exact T.y_BadPaper_BadPaper
  | 6, _, 7, _ => exact T.y_BadPaper_BadStyle
  | 6, _, 8, _ => exact T.y_BadPaper_BadRow
  | 6, _, 9, _ => exact T.y_BadPaper_BadText
  | 6, _, 10, _ => exact T.y_BadPaper_NothingToUndo
  | 7, _, 0, _ => exact T.y_BadStyle_BadRatio
  | 7, _, 1, _ => exact T.y_BadStyle_BadTable
  | 7, _, 2, _ => exact T.y_BadStyle_BadWord
  | 7, _, 3, _ => exact T.y_BadStyle_BadBurst
  | 7, _, 4, _ => exact T.y_BadStyle_BadReceiver
  | 7, _, 5, _ => exact T.y_BadStyle_BadNumber
  | 7, _, 6, _ => exact T.y_BadStyle_BadPaper
  | 7, _, 7, _ => exact T.y_BadStyle_BadStyle
  | 7, _, 8, _ => exact T.y_BadStyle_BadRow
  | 7, _, 9, _ => exact T.y_BadStyle_BadText
  | 7, _, 10, _ => exact T.y_BadStyle_NothingToUndo
  | 8, _, 0, _ => exact T.y_BadRow_BadRatio
  | 8, _, 1, _ => exact T.y_BadRow_BadTable
  | 8, _, 2, _ => exact T.y_BadRow_BadWord
  | 8, _, 3, _ => exact T.y_BadRow_BadBurst
  | 8, _, 4, _ => exact T.y_BadRow_BadReceiver
  | 8, _, 5, _ => exact T.y_BadRow_BadNumber
  | 8, _, 6, _ => exact T.y_BadRow_BadPaper
  | 8, _, 7, _ => exact T.y_BadRow_BadStyle
  | 8, _, 8, _ => exact T.y_BadRow_BadRow
  | 8, _, 9, _ => exact T.y_BadRow_BadText
  | 8, _, 10, _ => exact T.y_BadRow_NothingToUndo
  | 9, _, 0, _ => exact T.y_BadText_BadRatio
  | 9, _, 1, _ => exact T.y_BadText_BadTable
  | 9, _, 2, _ => exact T.y_BadText_BadWord
  | 9, _, 3, _ => exact T.y_BadText_BadBurst
  | 9, _, 4, _ => exact T.y_BadText_BadReceiver
  | 9, _, 5, _ => exact T.y_BadText_BadNumber
  | 9, _, 6, _ => exact T.y_BadText_BadPaper
  | 9, _, 7, _ => exact T.y_BadText_BadStyle
  | 9, _, 8, _ => exact T.y_BadText_BadRow
  | 9, _, 9, _ => exact T.y_BadText_BadText
  | 9, _, 10, _ => exact T.y_BadText_NothingToUndo
  | 10, _, 0, _ => exact T.y_NothingToUndo_BadRatio
  | 10, _, 1, _ => exact T.y_NothingToUndo_BadTable
  | 10, _, 2, _ => exact T.y_NothingToUndo_BadWord
  | 10, _, 3, _ => exact T.y_NothingToUndo_BadBurst
  | 10, _, 4, _ => exact T.y_NothingToUndo_BadReceiver
  | 10, _, 5, _ => exact T.y_NothingToUndo_BadNumber
  | 10, _, 6, _ => exact T.y_NothingToUndo_BadPaper
  | 10, _, 7, _ => exact T.y_NothingToUndo_BadStyle
  | 10, _, 8, _ => exact T.y_NothingToUndo_BadRow
  | 10, _, 9, _ => exact T.y_NothingToUndo_BadText
  | 10, _, 10, _ => exact T.y_NothingToUndo_NothingToUndo
theorem isE_fr (T : Txt K mg A) (k : Nat) (hk : k < 11) : PySem.W.kitOne K (.ref ((⟨A.c_BadRatio, A.c_BadTable, A.c_BadWord, A.c_BadBurst, A.c_BadReceiver, A.c_BadNumber, A.c_BadPaper, A.c_BadStyle, A.c_BadRow, A.c_BadText, A.c_NothingToUndo, A.c_FrameError, A.c_StateError⟩ : E11).c k)) (.ref A.c_FrameError) = some (decide (k < 10)) := by
  match k, hk with
  | 0, _ => exact T.y_BadRatio_FrameError
  | 1, _ => exact T.y_BadTable_FrameError
  | 2, _ => exact T.y_BadWord_FrameError
  | 3, _ => exact T.y_BadBurst_FrameError
  | 4, _ => exact T.y_BadReceiver_FrameError
  | 5, _ => exact T.y_BadNumber_FrameError
  | 6, _ => exact T.y_BadPaper_FrameError
  | 7, _ => exact T.y_BadStyle_FrameError
  | 8, _ => exact T.y_BadRow_FrameError
  | 9, _ => exact T.y_BadText_FrameError
  | 10, _ => exact T.y_NothingToUndo_FrameError
theorem isE_ve (T : Txt K mg A) (k : Nat) (hk : k < 11) : PySem.W.kitOne K (.ref ((⟨A.c_BadRatio, A.c_BadTable, A.c_BadWord, A.c_BadBurst, A.c_BadReceiver, A.c_BadNumber, A.c_BadPaper, A.c_BadStyle, A.c_BadRow, A.c_BadText, A.c_NothingToUndo, A.c_FrameError, A.c_StateError⟩ : E11).c k)) (.type "ValueError") = some (decide (k < 10)) := by
  match k, hk with
  | 0, _ => exact T.y_BadRatio_ValueError
  | 1, _ => exact T.y_BadTable_ValueError
  | 2, _ => exact T.y_BadWord_ValueError
  | 3, _ => exact T.y_BadBurst_ValueError
  | 4, _ => exact T.y_BadReceiver_ValueError
  | 5, _ => exact T.y_BadNumber_ValueError
  | 6, _ => exact T.y_BadPaper_ValueError
  | 7, _ => exact T.y_BadStyle_ValueError
  | 8, _ => exact T.y_BadRow_ValueError
  | 9, _ => exact T.y_BadText_ValueError
  | 10, _ => exact T.y_NothingToUndo_ValueError
theorem isE_st (T : Txt K mg A) (k : Nat) (hk : k < 11) : PySem.W.kitOne K (.ref ((⟨A.c_BadRatio, A.c_BadTable, A.c_BadWord, A.c_BadBurst, A.c_BadReceiver, A.c_BadNumber, A.c_BadPaper, A.c_BadStyle, A.c_BadRow, A.c_BadText, A.c_NothingToUndo, A.c_FrameError, A.c_StateError⟩ : E11).c k)) (.ref A.c_StateError) = some (decide (k = 10)) := by
  match k, hk with
  | 0, _ => exact T.y_BadRatio_StateError
  | 1, _ => exact T.y_BadTable_StateError
  | 2, _ => exact T.y_BadWord_StateError
  | 3, _ => exact T.y_BadBurst_StateError
  | 4, _ => exact T.y_BadReceiver_StateError
  | 5, _ => exact T.y_BadNumber_StateError
  | 6, _ => exact T.y_BadPaper_StateError
  | 7, _ => exact T.y_BadStyle_StateError
  | 8, _ => exact T.y_BadRow_StateError
  | 9, _ => exact T.y_BadText_StateError
  | 10, _ => exact T.y_NothingToUndo_StateError
theorem isE_re (T : Txt K mg A) (k : Nat) (hk : k < 11) : PySem.W.kitOne K (.ref ((⟨A.c_BadRatio, A.c_BadTable, A.c_BadWord, A.c_BadBurst, A.c_BadReceiver, A.c_BadNumber, A.c_BadPaper, A.c_BadStyle, A.c_BadRow, A.c_BadText, A.c_NothingToUndo, A.c_FrameError, A.c_StateError⟩ : E11).c k)) (.type "RuntimeError") = some (decide (k = 10)) := by
  match k, hk with
  | 0, _ => exact T.y_BadRatio_RuntimeError
  | 1, _ => exact T.y_BadTable_RuntimeError
  | 2, _ => exact T.y_BadWord_RuntimeError
  | 3, _ => exact T.y_BadBurst_RuntimeError
  | 4, _ => exact T.y_BadReceiver_RuntimeError
  | 5, _ => exact T.y_BadNumber_RuntimeError
  | 6, _ => exact T.y_BadPaper_RuntimeError
  | 7, _ => exact T.y_BadStyle_RuntimeError
  | 8, _ => exact T.y_BadRow_RuntimeError
  | 9, _ => exact T.y_BadText_RuntimeError
  | 10, _ => exact T.y_NothingToUndo_RuntimeError
theorem isE (T : Txt K mg A) : IsE K ⟨A.c_BadRatio, A.c_BadTable, A.c_BadWord, A.c_BadBurst, A.c_BadReceiver, A.c_BadNumber, A.c_BadPaper, A.c_BadStyle, A.c_BadRow, A.c_BadText, A.c_NothingToUndo, A.c_FrameError, A.c_StateError⟩ := ⟨isE_own T, isE_fr T, isE_ve T, isE_st T, isE_re T⟩
theorem ok__law_kinds (T : Txt K mg A) : GOk PG w K mg base 1 A.a__law_kinds A.d__law_kinds ["error"] (p__law_kinds K ⟨A.c_BadRatio, A.c_BadTable, A.c_BadWord, A.c_BadBurst, A.c_BadReceiver, A.c_BadNumber, A.c_BadPaper, A.c_BadStyle, A.c_BadRow, A.c_BadText, A.c_NothingToUndo, A.c_FrameError, A.c_StateError⟩) := by
  refine okR T.f__law_kinds.fn sc__law_kinds (fun cdv AA out s H E hr hg => ⟨t__law_kinds K ⟨A.c_BadRatio, A.c_BadTable, A.c_BadWord, A.c_BadBurst, A.c_BadReceiver, A.c_BadNumber, A.c_BadPaper, A.c_BadStyle, A.c_BadRow, A.c_BadText, A.c_NothingToUndo, A.c_FrameError, A.c_StateError⟩, ?_, fun S hmu ds d hl hp => so__law_kinds (isE T) hp⟩)
  exact (pss_cons (ps_set (i := 1) sc__law_kinds.nd rfl (Or.inl rfl) (pe_lst (pa_cons (pe_callB (call_isiX (Cs := [A.c_BadRatio, A.c_BadTable, A.c_BadWord, A.c_BadBurst, A.c_BadReceiver, A.c_BadNumber, A.c_BadPaper, A.c_BadStyle, A.c_BadRow, A.c_BadText, A.c_NothingToUndo]) (fun C hC => by simp only [List.mem_cons, List.not_mem_nil, or_false] at hC; rcases hC with rfl | rfl | rfl | rfl | rfl | rfl | rfl | rfl | rfl | rfl | rfl <;> first | exact T.i_BadRatio | exact T.i_BadTable | exact T.i_BadWord | exact T.i_BadBurst | exact T.i_BadReceiver | exact T.i_BadNumber | exact T.i_BadPaper | exact T.i_BadStyle | exact T.i_BadRow | exact T.i_BadText | exact T.i_NothingToUndo)) (by rfl) T.m_isinstance (by first | exact PySem.boot_isinstance | exact PyProof.Rows.boot_isinstance | decide +kernel) (pa_cons (pv 0) (pa_cons (pe_gc rfl ⟨_, T.b_BadRatio.gC, rfl⟩) pa_nil))) (pa_cons (pe_callB (call_isiX (Cs := [A.c_BadRatio, A.c_BadTable, A.c_BadWord, A.c_BadBurst, A.c_BadReceiver, A.c_BadNumber, A.c_BadPaper, A.c_BadStyle, A.c_BadRow, A.c_BadText, A.c_NothingToUndo]) (fun C hC => by simp only [List.mem_cons, List.not_mem_nil, or_false] at hC; rcases hC with rfl | rfl | rfl | rfl | rfl | rfl | rfl | rfl | rfl | rfl | rfl <;> first | exact T.i_BadRatio | exact T.i_BadTable | exact T.i_BadWord | exact T.i_BadBurst | exact T.i_BadReceiver | exact T.i_BadNumber | exact T.i_BadPaper | exact T.i_BadStyle | exact T.i_BadRow | exact T.i_BadText | exact T.i_NothingToUndo)) (by rfl) T.m_isinstance (by first | exact PySem.boot_isinstance | exact PyProof.Rows.boot_isinstance | decide +kernel) (pa_cons (pv 0) (pa_cons (pe_gc rfl ⟨_, T.b_BadTable.gC, rfl⟩) pa_nil))) (pa_cons (pe_callB (call_isiX (Cs := [A.c_BadRatio, A.c_BadTable, A.c_BadWord, A.c_BadBurst, A.c_BadReceiver, A.c_BadNumber, A.c_BadPaper, A.c_BadStyle, A.c_BadRow, A.c_BadText, A.c_NothingToUndo]) (fun C hC => by simp only [List.mem_cons, List.not_mem_nil, or_false] at hC; rcases hC with rfl | rfl | rfl | rfl | rfl | rfl | rfl | rfl | rfl | rfl | rfl <;> first | exact T.i_BadRatio | exact T.i_BadTable | exact T.i_BadWord | exact T.i_BadBurst | exact T.i_BadReceiver | exact T.i_BadNumber | exact T.i_BadPaper | exact T.i_BadStyle | exact T.i_BadRow | exact T.i_BadText | exact T.i_NothingToUndo)) (by rfl) T.m_isinstance (by first | exact PySem.boot_isinstance | exact PyProof.Rows.boot_isinstance | decide +kernel) (pa_cons (pv 0) (pa_cons (pe_gc rfl ⟨_, T.b_BadWord.gC, rfl⟩) pa_nil))) pa_nil)))))
      (pss_cons (ps_set (i := 1) sc__law_kinds.nd rfl (Or.inl rfl) (pe_op op_catS (pv 1) (pe_lst (pa_cons (pe_callB (call_isiX (Cs := [A.c_BadRatio, A.c_BadTable, A.c_BadWord, A.c_BadBurst, A.c_BadReceiver, A.c_BadNumber, A.c_BadPaper, A.c_BadStyle, A.c_BadRow, A.c_BadText, A.c_NothingToUndo]) (fun C hC => by simp only [List.mem_cons, List.not_mem_nil, or_false] at hC; rcases hC with rfl | rfl | rfl | rfl | rfl | rfl | rfl | rfl | rfl | rfl | rfl <;> first | exact T.i_BadRatio | exact T.i_BadTable | exact T.i_BadWord | exact T.i_BadBurst | exact T.i_BadReceiver | exact T.i_BadNumber | exact T.i_BadPaper | exact T.i_BadStyle | exact T.i_BadRow | exact T.i_BadText | exact T.i_NothingToUndo)) (by rfl) T.m_isinstance (by first | exact PySem.boot_isinstance | exact PyProof.Rows.boot_isinstance | decide +kernel) (pa_cons (pv 0) (pa_cons (pe_gc rfl ⟨_, T.b_BadBurst.gC, rfl⟩) pa_nil))) (pa_cons (pe_callB (call_isiX (Cs := [A.c_BadRatio, A.c_BadTable, A.c_BadWord, A.c_BadBurst, A.c_BadReceiver, A.c_BadNumber, A.c_BadPaper, A.c_BadStyle, A.c_BadRow, A.c_BadText, A.c_NothingToUndo]) (fun C hC => by simp only [List.mem_cons, List.not_mem_nil, or_false] at hC; rcases hC with rfl | rfl | rfl | rfl | rfl | rfl | rfl | rfl | rfl | rfl | rfl <;> first | exact T.i_BadRatio | exact T.i_BadTable | exact T.i_BadWord | exact T.i_BadBurst | exact T.i_BadReceiver | exact T.i_BadNumber | exact T.i_BadPaper | exact T.i_BadStyle | exact T.i_BadRow | exact T.i_BadText | exact T.i_NothingToUndo)) (by rfl) T.m_isinstance (by first | exact PySem.boot_isinstance | exact PyProof.Rows.boot_isinstance | decide +kernel) (pa_cons (pv 0) (pa_cons (pe_gc rfl ⟨_, T.b_BadReceiver.gC, rfl⟩) pa_nil))) (pa_cons (pe_callB (call_isiX (Cs := [A.c_BadRatio, A.c_BadTable, A.c_BadWord, A.c_BadBurst, A.c_BadReceiver, A.c_BadNumber, A.c_BadPaper, A.c_BadStyle, A.c_BadRow, A.c_BadText, A.c_NothingToUndo]) (fun C hC => by simp only [List.mem_cons, List.not_mem_nil, or_false] at hC; rcases hC with rfl | rfl | rfl | rfl | rfl | rfl | rfl | rfl | rfl | rfl | rfl <;> first | exact T.i_BadRatio | exact T.i_BadTable | exact T.i_BadWord | exact T.i_BadBurst | exact T.i_BadReceiver | exact T.i_BadNumber | exact T.i_BadPaper | exact T.i_BadStyle | exact T.i_BadRow | exact T.i_BadText | exact T.i_NothingToUndo)) (by rfl) T.m_isinstance (by first | exact PySem.boot_isinstance | exact PyProof.Rows.boot_isinstance | decide +kernel) (pa_cons (pv 0) (pa_cons (pe_gc rfl ⟨_, T.b_BadNumber.gC, rfl⟩) pa_nil))) pa_nil))))))
      (pss_cons (ps_set (i := 1) sc__law_kinds.nd rfl (Or.inl rfl) (pe_op op_catS (pv 1) (pe_lst (pa_cons (pe_callB (call_isiX (Cs := [A.c_BadRatio, A.c_BadTable, A.c_BadWord, A.c_BadBurst, A.c_BadReceiver, A.c_BadNumber, A.c_BadPaper, A.c_BadStyle, A.c_BadRow, A.c_BadText, A.c_NothingToUndo]) (fun C hC => by simp only [List.mem_cons, List.not_mem_nil, or_false] at hC; rcases hC with rfl | rfl | rfl | rfl | rfl | rfl | rfl | rfl | rfl | rfl | rfl <;> first | exact T.i_BadRatio | exact T.i_BadTable | exact T.i_BadWord | exact T.i_BadBurst | exact T.i_BadReceiver | exact T.i_BadNumber | exact T.i_BadPaper | exact T.i_BadStyle | exact T.i_BadRow | exact T.i_BadText | exact T.i_NothingToUndo)) (by rfl) T.m_isinstance (by first | exact PySem.boot_isinstance | exact PyProof.Rows.boot_isinstance | decide +kernel) (pa_cons (pv 0) (pa_cons (pe_gc rfl ⟨_, T.b_BadPaper.gC, rfl⟩) pa_nil))) (pa_cons (pe_callB (call_isiX (Cs := [A.c_BadRatio, A.c_BadTable, A.c_BadWord, A.c_BadBurst, A.c_BadReceiver, A.c_BadNumber, A.c_BadPaper, A.c_BadStyle, A.c_BadRow, A.c_BadText, A.c_NothingToUndo]) (fun C hC => by simp only [List.mem_cons, List.not_mem_nil, or_false] at hC; rcases hC with rfl | rfl | rfl | rfl | rfl | rfl | rfl | rfl | rfl | rfl | rfl <;> first | exact T.i_BadRatio | exact T.i_BadTable | exact T.i_BadWord | exact T.i_BadBurst | exact T.i_BadReceiver | exact T.i_BadNumber | exact T.i_BadPaper | exact T.i_BadStyle | exact T.i_BadRow | exact T.i_BadText | exact T.i_NothingToUndo)) (by rfl) T.m_isinstance (by first | exact PySem.boot_isinstance | exact PyProof.Rows.boot_isinstance | decide +kernel) (pa_cons (pv 0) (pa_cons (pe_gc rfl ⟨_, T.b_BadStyle.gC, rfl⟩) pa_nil))) (pa_cons (pe_callB (call_isiX (Cs := [A.c_BadRatio, A.c_BadTable, A.c_BadWord, A.c_BadBurst, A.c_BadReceiver, A.c_BadNumber, A.c_BadPaper, A.c_BadStyle, A.c_BadRow, A.c_BadText, A.c_NothingToUndo]) (fun C hC => by simp only [List.mem_cons, List.not_mem_nil, or_false] at hC; rcases hC with rfl | rfl | rfl | rfl | rfl | rfl | rfl | rfl | rfl | rfl | rfl <;> first | exact T.i_BadRatio | exact T.i_BadTable | exact T.i_BadWord | exact T.i_BadBurst | exact T.i_BadReceiver | exact T.i_BadNumber | exact T.i_BadPaper | exact T.i_BadStyle | exact T.i_BadRow | exact T.i_BadText | exact T.i_NothingToUndo)) (by rfl) T.m_isinstance (by first | exact PySem.boot_isinstance | exact PyProof.Rows.boot_isinstance | decide +kernel) (pa_cons (pv 0) (pa_cons (pe_gc rfl ⟨_, T.b_BadRow.gC, rfl⟩) pa_nil))) pa_nil))))))
      (pss_cons (ps_set (i := 1) sc__law_kinds.nd rfl (Or.inl rfl) (pe_op op_catS (pv 1) (pe_lst (pa_cons (pe_callB (call_isiX (Cs := [A.c_BadRatio, A.c_BadTable, A.c_BadWord, A.c_BadBurst, A.c_BadReceiver, A.c_BadNumber, A.c_BadPaper, A.c_BadStyle, A.c_BadRow, A.c_BadText, A.c_NothingToUndo]) (fun C hC => by simp only [List.mem_cons, List.not_mem_nil, or_false] at hC; rcases hC with rfl | rfl | rfl | rfl | rfl | rfl | rfl | rfl | rfl | rfl | rfl <;> first | exact T.i_BadRatio | exact T.i_BadTable | exact T.i_BadWord | exact T.i_BadBurst | exact T.i_BadReceiver | exact T.i_BadNumber | exact T.i_BadPaper | exact T.i_BadStyle | exact T.i_BadRow | exact T.i_BadText | exact T.i_NothingToUndo)) (by rfl) T.m_isinstance (by first | exact PySem.boot_isinstance | exact PyProof.Rows.boot_isinstance | decide +kernel) (pa_cons (pv 0) (pa_cons (pe_gc rfl ⟨_, T.b_BadText.gC, rfl⟩) pa_nil))) (pa_cons (pe_callB (call_isiX (Cs := [A.c_BadRatio, A.c_BadTable, A.c_BadWord, A.c_BadBurst, A.c_BadReceiver, A.c_BadNumber, A.c_BadPaper, A.c_BadStyle, A.c_BadRow, A.c_BadText, A.c_NothingToUndo]) (fun C hC => by simp only [List.mem_cons, List.not_mem_nil, or_false] at hC; rcases hC with rfl | rfl | rfl | rfl | rfl | rfl | rfl | rfl | rfl | rfl | rfl <;> first | exact T.i_BadRatio | exact T.i_BadTable | exact T.i_BadWord | exact T.i_BadBurst | exact T.i_BadReceiver | exact T.i_BadNumber | exact T.i_BadPaper | exact T.i_BadStyle | exact T.i_BadRow | exact T.i_BadText | exact T.i_NothingToUndo)) (by rfl) T.m_isinstance (by first | exact PySem.boot_isinstance | exact PyProof.Rows.boot_isinstance | decide +kernel) (pa_cons (pv 0) (pa_cons (pe_gc rfl ⟨_, T.b_NothingToUndo.gC, rfl⟩) pa_nil))) pa_nil)))))
      (pss_cons (ps_set (i := 2) sc__law_kinds.nd rfl (Or.inl rfl) (pe_lst (pa_cons (pe_callB (call_isiX (Cs := [A.c_BadRatio, A.c_BadTable, A.c_BadWord, A.c_BadBurst, A.c_BadReceiver, A.c_BadNumber, A.c_BadPaper, A.c_BadStyle, A.c_BadRow, A.c_BadText, A.c_NothingToUndo]) (fun C hC => by simp only [List.mem_cons, List.not_mem_nil, or_false] at hC; rcases hC with rfl | rfl | rfl | rfl | rfl | rfl | rfl | rfl | rfl | rfl | rfl <;> first | exact T.i_BadRatio | exact T.i_BadTable | exact T.i_BadWord | exact T.i_BadBurst | exact T.i_BadReceiver | exact T.i_BadNumber | exact T.i_BadPaper | exact T.i_BadStyle | exact T.i_BadRow | exact T.i_BadText | exact T.i_NothingToUndo)) (by rfl) T.m_isinstance (by first | exact PySem.boot_isinstance | exact PyProof.Rows.boot_isinstance | decide +kernel) (pa_cons (pv 0) (pa_cons (pe_gc rfl ⟨_, T.p_FrameError, rfl⟩) pa_nil))) (pa_cons (pe_callB (call_isiX (Cs := [A.c_BadRatio, A.c_BadTable, A.c_BadWord, A.c_BadBurst, A.c_BadReceiver, A.c_BadNumber, A.c_BadPaper, A.c_BadStyle, A.c_BadRow, A.c_BadText, A.c_NothingToUndo]) (fun C hC => by simp only [List.mem_cons, List.not_mem_nil, or_false] at hC; rcases hC with rfl | rfl | rfl | rfl | rfl | rfl | rfl | rfl | rfl | rfl | rfl <;> first | exact T.i_BadRatio | exact T.i_BadTable | exact T.i_BadWord | exact T.i_BadBurst | exact T.i_BadReceiver | exact T.i_BadNumber | exact T.i_BadPaper | exact T.i_BadStyle | exact T.i_BadRow | exact T.i_BadText | exact T.i_NothingToUndo)) (by rfl) T.m_isinstance (by first | exact PySem.boot_isinstance | exact PyProof.Rows.boot_isinstance | decide +kernel) (pa_cons (pv 0) (pa_cons (pe_bltn (v := .ty "ValueError") (by rfl) T.m_ValueError (by first | exact PySem.boot_ValueError | decide +kernel) rfl) pa_nil))) pa_nil))))
      (pss_one (ps_ret (pe_tup (pa_cons (pv 1) (pa_cons (pe_op op_catS (pv 2) (pe_lst (pa_cons (pe_callB (call_isiX (Cs := [A.c_BadRatio, A.c_BadTable, A.c_BadWord, A.c_BadBurst, A.c_BadReceiver, A.c_BadNumber, A.c_BadPaper, A.c_BadStyle, A.c_BadRow, A.c_BadText, A.c_NothingToUndo]) (fun C hC => by simp only [List.mem_cons, List.not_mem_nil, or_false] at hC; rcases hC with rfl | rfl | rfl | rfl | rfl | rfl | rfl | rfl | rfl | rfl | rfl <;> first | exact T.i_BadRatio | exact T.i_BadTable | exact T.i_BadWord | exact T.i_BadBurst | exact T.i_BadReceiver | exact T.i_BadNumber | exact T.i_BadPaper | exact T.i_BadStyle | exact T.i_BadRow | exact T.i_BadText | exact T.i_NothingToUndo)) (by rfl) T.m_isinstance (by first | exact PySem.boot_isinstance | exact PyProof.Rows.boot_isinstance | decide +kernel) (pa_cons (pv 0) (pa_cons (pe_gc rfl ⟨_, T.p_StateError, rfl⟩) pa_nil))) (pa_cons (pe_callB (call_isiX (Cs := [A.c_BadRatio, A.c_BadTable, A.c_BadWord, A.c_BadBurst, A.c_BadReceiver, A.c_BadNumber, A.c_BadPaper, A.c_BadStyle, A.c_BadRow, A.c_BadText, A.c_NothingToUndo]) (fun C hC => by simp only [List.mem_cons, List.not_mem_nil, or_false] at hC; rcases hC with rfl | rfl | rfl | rfl | rfl | rfl | rfl | rfl | rfl | rfl | rfl <;> first | exact T.i_BadRatio | exact T.i_BadTable | exact T.i_BadWord | exact T.i_BadBurst | exact T.i_BadReceiver | exact T.i_BadNumber | exact T.i_BadPaper | exact T.i_BadStyle | exact T.i_BadRow | exact T.i_BadText | exact T.i_NothingToUndo)) (by rfl) T.m_isinstance (by first | exact PySem.boot_isinstance | exact PyProof.Rows.boot_isinstance | decide +kernel) (pa_cons (pv 0) (pa_cons (pe_bltn (v := .ty "RuntimeError") (by rfl) T.m_RuntimeError (by first | exact PySem.boot_RuntimeError | decide +kernel) rfl) pa_nil))) pa_nil)))) pa_nil))))))))))
theorem ok__law_pick (T : Txt K mg A) : GOk PG w K mg base 2 A.a__law_pick A.d__law_pick ["draw", "some"] (p__law_pick K) := by
  refine okD T.f__law_pick.fn sc__law_pick rfl (fun cdv AA out s H E hr hg => ⟨t__law_pick K, ?_, fun a c cs n ds hc hn hl hp => so__law_pick hc hn hp⟩)
  exact (pss_one (ps_ret (pe_ix ix_seq (pv 1) (pe_g (G := (ok__law_next T)) (hb := T.f__law_next.bp) (hm := T.f__law_next.gl) (hk := T.f__law_next.fn.kp) (hr := hr.mono (by decide)) (hgd := hg) (hx := passL) (ha := (pa_cons (pv 0) (pa_cons (pe_callB call_len_seq (by rfl) T.m_len (by first | exact PySem.boot_len | exact PyProof.Rows.boot_len | decide +kernel) (pa_cons (pv 1) pa_nil)) pa_nil)))) (fun _ _ => rfl))))
theorem ok_law (T : Txt K mg A) : GOk PG w K mg base 3 A.a_law A.d_law ["script"] (spLaw K) := by
  refine okG T.f_law.fn sc_law (fun vs H Q E h => ?_) fun cdv AA out s H vs Q E hr hg h => ⟨t_law01 K ⟨A.c_BadRatio, A.c_BadTable, A.c_BadWord, A.c_BadBurst, A.c_BadReceiver, A.c_BadNumber, A.c_BadPaper, A.c_BadStyle, A.c_BadRow, A.c_BadText, A.c_NothingToUndo, A.c_FrameError, A.c_StateError⟩, ?_, ?_⟩
  · obtain ⟨s, ns, rfl, _⟩ := h
    rfl
  · exact PSs.nox (pss_cons (ps_set (i := 1) sc_law.nd rfl (Or.inl rfl) (pe_g (G := (ok__law_begin T)) (hb := T.f__law_begin.bp) (hm := T.f__law_begin.gl) (hk := T.f__law_begin.fn.kp) (hr := hr.mono (by decide)) (hgd := hg) (hx := passL) (ha := (pa_cons (pv 0) pa_nil))))
      (pss_cons (ps_for PassesOwn.never rfl (pi_range1 rfl T.m_range (pa_cons pe_int pa_nil)) (pg_name (i := 2) sc_law.nd rfl (Or.inl rfl)) (pss_cons (ps_set (i := 3) sc_law.nd rfl (Or.inl rfl) (pe_g (G := (ok__law_pick T)) (hb := T.f__law_pick.bp) (hm := T.f__law_pick.gl) (hk := T.f__law_pick.fn.kp) (hr := hr.mono (by decide)) (hgd := hg) (hx := passL) (ha := (pa_cons (pv 1) (pa_cons (pe_g0 (G := (ok__law_things T)) (hb := T.f__law_things.bp) (hm := T.f__law_things.gl) (hk := T.f__law_things.fn.kp) (hr := hr.mono (by decide)) (hgd := hg) (hx := passL)) pa_nil)))))
      (pss_one (ps_for PassesOwn.never rfl (pi_tup (pe_tup (pa_cons (pe_g (G := (ok__law_made T)) (hb := T.f__law_made.bp) (hm := T.f__law_made.gl) (hk := T.f__law_made.fn.kp) (hr := hr.mono (by decide)) (hgd := hg) (hx := passL) (ha := (pa_cons (pv 3) pa_nil))) (pa_cons (pe_g (G := (ok__law_named T)) (hb := T.f__law_named.bp) (hm := T.f__law_named.gl) (hk := T.f__law_named.fn.kp) (hr := hr.mono (by decide)) (hgd := hg) (hx := passL) (ha := (pa_cons (pv 3) pa_nil))) pa_nil)))) (pg_name (i := 4) sc_law.nd rfl (Or.inl rfl)) (pss_cons (ps_if (pt_cmpR op_ne (pe_callB (call_reprL hg (lt70 hr)) (by rfl) T.m_repr (by first | exact PySem.boot_repr | exact PyProof.Rows.boot_repr | decide +kernel) (pa_cons (pe_g (G := (ok__law_told T)) (hb := T.f__law_told.bp) (hm := T.f__law_told.gl) (hk := T.f__law_told.fn.kp) (hr := hr.mono (by decide)) (hgd := hg) (hx := passL) (ha := (pa_cons (pv 4) pa_nil))) pa_nil)) (pe_callB (call_reprL hg (lt70 hr)) (by rfl) T.m_repr (by first | exact PySem.boot_repr | exact PyProof.Rows.boot_repr | decide +kernel) (pa_cons (pe_op op_repX (pe_lst (pa_cons (pv 3) pa_nil)) pe_int) pa_nil)) (nomark _)) (pss_one (ps_ret pe_bl)) pss_nil)
      (pss_one (ps_for PassesOwn.never rfl (pi_enum rfl T.m_enumerate (pa_cons (pv 4) pa_nil)) (pg_tup rfl (pgs_cons (pg_name (i := 5) sc_law.nd rfl (Or.inr rfl)) (pgs_cons (pg_name (i := 6) sc_law.nd rfl (Or.inl rfl)) pgs_nil))) (pss_cons (ps_asg (pe_g (G := (ok__law_kinds T)) (hb := T.f__law_kinds.bp) (hm := T.f__law_kinds.gl) (hk := T.f__law_kinds.fn.kp) (hr := hr.mono (by decide)) (hgd := hg) (hx := passL) (ha := (pa_cons (pv 6) pa_nil))) (pg_tup rfl (pgs_cons (pg_name (i := 7) sc_law.nd rfl (Or.inl rfl)) (pgs_cons (pg_name (i := 8) sc_law.nd rfl (Or.inl rfl)) pgs_nil))))
      (pss_one (ps_if (PW.pt (pw_or (pt_cmpR (op_neD hr.units) (pv 7) (pe_lc (own := [("k", 9)]) (g := (gName 9)) (tt := tYes) (te := (tOp rEq (tVar 9) (tVar 5))) rfl sc_law.nd (pi_range1 rfl T.m_range (pa_cons pe_int pa_nil)) (blkOk_by (own := [("k", 9)]) (N := ["script", "draw", "turn", "some", "made", "at", "error", "kinds", "families", "k"]) (sc := defScope s_law) (by decide +kernel))  (fun _ _ _ _ _ => (pg_name (i := 9) sc_law.nd rfl (Or.inl rfl))) (fun _ _ _ _ _ => pts_nil)  (fun _ _ _ _ _ => (pe_cmpR op_eq (pv 9) (pv 5) (nomark _)))) (nomark _)) (pw_or1 (pt_cmpR (op_neD hr.units) (pv 8) (pe_op op_catS (pe_op op_rep (pe_lst (pa_cons (pe_cmpR op_lt (pv 5) pe_int (nomark _)) pa_nil)) pe_int) (pe_op op_rep (pe_lst (pa_cons (pe_cmpR op_eq (pv 5) pe_int (nomark _)) pa_nil)) pe_int)) (nomark _))))) (pss_one (ps_ret pe_bl)) pss_nil))))))))))
      (pss_one (ps_ret pe_bl))))
  · obtain ⟨s, ns, rfl, hs, hl, q⟩ := h
    refine ⟨.ref s, rfl, s, ns, rfl, hs, hl, fun p c H' g i => ?_⟩
    have i0 := dw_of (n := 0) (Int.le_refl 0) (Int.le_refl 0) (Int.le_refl 0) (Int.le_refl 0) (Int.le_refl 0) H' i
    refine so_law01 (t := ⟨A.c_BadRatio, A.c_BadTable, A.c_BadWord, A.c_BadBurst, A.c_BadReceiver, A.c_BadNumber, A.c_BadPaper, A.c_BadStyle, A.c_BadRow, A.c_BadText, A.c_NothingToUndo, A.c_FrameError, A.c_StateError⟩) (x0 := some (.raw (.ref s))) (by simp) _ _ H' H' ⟨Gr.refl H', dw_le (by decide) H' i0, fun _ z => nomatch z⟩ i0 ((slots_start (N := ["script", "draw", "turn", "some", "made", "at", "error", "kinds", "families", "k"]) (.cons (.raw (.ref s)) .nil)).set (v := .ref p) (.raw (.ref p)) 1) ⟨fun _ _ _ _ _ _ z => z.elim, fun v d H2 g2 i2 r e => ?_, fun _ _ _ _ _ _ z => z.elim, fun _ _ _ _ _ _ z => z.elim⟩
    cases e
    obtain rfl := r.blI
    exact q H2
end
end Bf
namespace Bf
open PySem PySem.Spec PyProof.Rows L2
open PySem.W PySem.Calls PySem.HandSPX in
theorem all_mk {l : PySem.W.OpenLaw} {w : World} {K : PySem.W.Frag} {h : Heap} {mg : Str → Option Value} {fa : Addr} (X : K.In h) (G : h.Ns mainGlobals mg) (hfa : mg "law" = some (.ref fa)) (hl : l.prog = PySem.Challenge.pw_beamframes_k01_errors_made)
    {f1 f2 f3 f4 f5 f6 f7 f8 f9 : Addr}
    {od1 an1 : Option Addr} {sl1 : Array (Option Value)} {oc1 kV1 dc1 pm1 cd1 ct1 : Value}
    (a1 : PySem.W.nsIn K mainGlobals "_law_begin" = some (some (.ref f1))) (l1 : K.lookup f1 = some ⟨oc1, od1, .func (PySem.W.fnOf "_law_begin" "_law_begin" (defArgs s__law_begin) (defBody s__law_begin) (defScope s__law_begin) .none kV1 dc1 pm1 an1 cd1 ct1), sl1⟩) (c1 : PySem.W.codeIn K cd1 "_law_begin" = true) (k1 : PySem.W.keepIn K (.ref f1) = true)
    {od2 an2 : Option Addr} {sl2 : Array (Option Value)} {oc2 kV2 dc2 pm2 cd2 ct2 : Value}
    (a2 : PySem.W.nsIn K mainGlobals "_law_next" = some (some (.ref f2))) (l2 : K.lookup f2 = some ⟨oc2, od2, .func (PySem.W.fnOf "_law_next" "_law_next" (defArgs s__law_next) (defBody s__law_next) (defScope s__law_next) .none kV2 dc2 pm2 an2 cd2 ct2), sl2⟩) (c2 : PySem.W.codeIn K cd2 "_law_next" = true) (k2 : PySem.W.keepIn K (.ref f2) = true)
    {od3 an3 : Option Addr} {sl3 : Array (Option Value)} {oc3 kV3 dc3 pm3 cd3 ct3 : Value}
    (a3 : PySem.W.nsIn K mainGlobals "_law_pick" = some (some (.ref f3))) (l3 : K.lookup f3 = some ⟨oc3, od3, .func (PySem.W.fnOf "_law_pick" "_law_pick" (defArgs s__law_pick) (defBody s__law_pick) (defScope s__law_pick) .none kV3 dc3 pm3 an3 cd3 ct3), sl3⟩) (c3 : PySem.W.codeIn K cd3 "_law_pick" = true) (k3 : PySem.W.keepIn K (.ref f3) = true)
    {od4 an4 : Option Addr} {sl4 : Array (Option Value)} {oc4 kV4 dc4 pm4 cd4 ct4 : Value}
    (a4 : PySem.W.nsIn K mainGlobals "_law_things" = some (some (.ref f4))) (l4 : K.lookup f4 = some ⟨oc4, od4, .func (PySem.W.fnOf "_law_things" "_law_things" (defArgs s__law_things) (defBody s__law_things) (defScope s__law_things) .none kV4 dc4 pm4 an4 cd4 ct4), sl4⟩) (c4 : PySem.W.codeIn K cd4 "_law_things" = true) (k4 : PySem.W.keepIn K (.ref f4) = true)
    {od5 an5 : Option Addr} {sl5 : Array (Option Value)} {oc5 kV5 dc5 pm5 cd5 ct5 : Value}
    (a5 : PySem.W.nsIn K mainGlobals "_law_made" = some (some (.ref f5))) (l5 : K.lookup f5 = some ⟨oc5, od5, .func (PySem.W.fnOf "_law_made" "_law_made" (defArgs s__law_made) (defBody s__law_made) (defScope s__law_made) .none kV5 dc5 pm5 an5 cd5 ct5), sl5⟩) (c5 : PySem.W.codeIn K cd5 "_law_made" = true) (k5 : PySem.W.keepIn K (.ref f5) = true)
    {od6 an6 : Option Addr} {sl6 : Array (Option Value)} {oc6 kV6 dc6 pm6 cd6 ct6 : Value}
    (a6 : PySem.W.nsIn K mainGlobals "_law_named" = some (some (.ref f6))) (l6 : K.lookup f6 = some ⟨oc6, od6, .func (PySem.W.fnOf "_law_named" "_law_named" (defArgs s__law_named) (defBody s__law_named) (defScope s__law_named) .none kV6 dc6 pm6 an6 cd6 ct6), sl6⟩) (c6 : PySem.W.codeIn K cd6 "_law_named" = true) (k6 : PySem.W.keepIn K (.ref f6) = true)
    {od7 an7 : Option Addr} {sl7 : Array (Option Value)} {oc7 kV7 dc7 pm7 cd7 ct7 : Value}
    (a7 : PySem.W.nsIn K mainGlobals "_law_told" = some (some (.ref f7))) (l7 : K.lookup f7 = some ⟨oc7, od7, .func (PySem.W.fnOf "_law_told" "_law_told" (defArgs s__law_told) (defBody s__law_told) (defScope s__law_told) .none kV7 dc7 pm7 an7 cd7 ct7), sl7⟩) (c7 : PySem.W.codeIn K cd7 "_law_told" = true) (k7 : PySem.W.keepIn K (.ref f7) = true)
    {od8 an8 : Option Addr} {sl8 : Array (Option Value)} {oc8 kV8 dc8 pm8 cd8 ct8 : Value}
    (a8 : PySem.W.nsIn K mainGlobals "_law_kinds" = some (some (.ref f8))) (l8 : K.lookup f8 = some ⟨oc8, od8, .func (PySem.W.fnOf "_law_kinds" "_law_kinds" (defArgs s__law_kinds) (defBody s__law_kinds) (defScope s__law_kinds) .none kV8 dc8 pm8 an8 cd8 ct8), sl8⟩) (c8 : PySem.W.codeIn K cd8 "_law_kinds" = true) (k8 : PySem.W.keepIn K (.ref f8) = true)
    {od9 an9 : Option Addr} {sl9 : Array (Option Value)} {oc9 kV9 dc9 pm9 cd9 ct9 : Value}
    (a9 : PySem.W.nsIn K mainGlobals "law" = some (some (.ref f9))) (l9 : K.lookup f9 = some ⟨oc9, od9, .func (PySem.W.fnOf "law" "law" (defArgs s_law) (defBody s_law) (defScope s_law) .none kV9 dc9 pm9 an9 cd9 ct9), sl9⟩) (c9 : PySem.W.codeIn K cd9 "law" = true) (k9 : PySem.W.keepIn K (.ref f9) = true)
    (z1 : PySem.W.nsIn K mainGlobals "RuntimeError" = some none)
    (z2 : PySem.W.nsIn K mainGlobals "ValueError" = some none)
    (z3 : PySem.W.nsIn K mainGlobals "enumerate" = some none)
    (z4 : PySem.W.nsIn K mainGlobals "isinstance" = some none)
    (z5 : PySem.W.nsIn K mainGlobals "len" = some none)
    (z6 : PySem.W.nsIn K mainGlobals "range" = some none)
    (z7 : PySem.W.nsIn K mainGlobals "repr" = some none)
    {C1 fI1 cc1 cda1 B1_1 xN1 : Addr} {xnm1 xqn1 fl1 : Str} {xbs1 : List Value} {xsn1 : List Str} {xsub1 : List Value} {xab1 : Bool} {xcol1 : Option Bool} {xdd1 : Option Addr} {xm10 xm11 xm12 xm13 xm15 : Option Value}
    {xoc1 xcl1 xkl1 xdo1 xpm1 xct1 : Value} {xod1 xcd1 xkd1 xan1 : Option Addr} {xos1 xcs1 xks1 : Array (Option Value)} {xvs1 : Array Value} {xtf1 : Tok}
    (xa1 : PySem.W.nsIn K mainGlobals "BadRatio" = some (some (.ref C1))) (xb1 : K.lookup C1 = some (excClassObj xnm1 xqn1 C1 xN1 xbs1 [.ref B1_1, .type "ValueError", .type "Exception", .type "BaseException", .type "object"] true xsn1 xsub1 xab1 xcol1 xdd1 xm10 xm11 xm12 xm13 xm15 "ValueError.__new__"))
    (xc1 : PySem.W.findIn K (.ref C1) "__setattr__" = some (some (.builtin "object.__setattr__"))) (xd1 : PySem.W.findIn K (.ref C1) "__getattribute__" = some (some (.builtin "BaseException.__getattribute__"))) (xe1 : PySem.W.findIn K (.ref C1) "__getattr__" = some none) (xf1 : PySem.W.findIn K (.ref C1) "given" = some none)
    (xg1 : PySem.W.findIn K (.ref C1) "__init__" = some (some (.ref fI1))) (xh1 : PySem.W.typeIn K (.ref fI1) = some (.type "function"))
    (xi1 : K.lookup fI1 = some ⟨xoc1, xod1, .func (fnX "__init__" "BadRatio.__init__" (xA "given" ⟨8, 17, 8, 21⟩ ⟨8, 23, 8, 28⟩) (xB "given" "this is no ratio that may stand here" (fun n => match n with | 1 => ⟨9, 8, 9, 13⟩ | 2 => ⟨9, 8, 9, 15⟩ | 3 => ⟨9, 8, 9, 24⟩ | 4 => ⟨9, 25, 9, 63⟩ | 5 => ⟨9, 8, 9, 64⟩ | 6 => ⟨9, 8, 9, 64⟩ | 7 => ⟨10, 8, 10, 12⟩ | 8 => ⟨10, 8, 10, 18⟩ | 9 => ⟨10, 21, 10, 26⟩ | 10 => ⟨10, 8, 10, 26⟩ | _ => ⟨0, 0, 0, 0⟩)) (xS "given") [("__class__", cc1)] .none .none xdo1 xpm1 xan1 (.ref cda1) xct1), xos1⟩)
    (xj1 : PySem.W.codeIn K (.ref cda1) "BadRatio.__init__" = true) (xk1 : K.lookup cc1 = some ⟨xcl1, xcd1, .cell (some (.ref C1)), xcs1⟩) (xl1 : K.lookup cda1 = some ⟨xkl1, xkd1, .fields xvs1, xks1⟩) (xw1 : xvs1[2]? = some (.str fl1 xtf1)) (xx1 : ((PySem.Challenge.pw_beamframes_k01_errors_made.main.file : Str) == fl1) = true)
    (xo1 : PySem.W.keepIn K (.ref C1) = true) (xp1 : PySem.W.subIn K (.ref C1) (.type "BaseException") = some true) (xq1 : PySem.W.typeIn K (.ref C1) = some (.type "type")) (xr1 : PySem.W.hasDictIn K C1 = true) (xs1 : PySem.W.isClsIn K C1 = true) (xt1 : PySem.W.subIn K (.ref C1) (.ref C1) = some true)
    (xu1 : PySem.W.subIn K (.ref C1) (.type "ValueError") = some true) (xv1 : PySem.W.mroIn K C1 (.ref C1) = some true) (xy1 : ks_superIn K C1 C1 "__init__" = some (some (.builtin "ValueError.__init__"))) (xz1 : PySem.W.nsIn K cStatics "thirdparty.any" = some none)
    {C2 fI2 cc2 cda2 B2_1 xN2 : Addr} {xnm2 xqn2 fl2 : Str} {xbs2 : List Value} {xsn2 : List Str} {xsub2 : List Value} {xab2 : Bool} {xcol2 : Option Bool} {xdd2 : Option Addr} {xm20 xm21 xm22 xm23 xm25 : Option Value}
    {xoc2 xcl2 xkl2 xdo2 xpm2 xct2 : Value} {xod2 xcd2 xkd2 xan2 : Option Addr} {xos2 xcs2 xks2 : Array (Option Value)} {xvs2 : Array Value} {xtf2 : Tok}
    (xa2 : PySem.W.nsIn K mainGlobals "BadTable" = some (some (.ref C2))) (xb2 : K.lookup C2 = some (excClassObj xnm2 xqn2 C2 xN2 xbs2 [.ref B2_1, .type "ValueError", .type "Exception", .type "BaseException", .type "object"] true xsn2 xsub2 xab2 xcol2 xdd2 xm20 xm21 xm22 xm23 xm25 "ValueError.__new__"))
    (xc2 : PySem.W.findIn K (.ref C2) "__setattr__" = some (some (.builtin "object.__setattr__"))) (xd2 : PySem.W.findIn K (.ref C2) "__getattribute__" = some (some (.builtin "BaseException.__getattribute__"))) (xe2 : PySem.W.findIn K (.ref C2) "__getattr__" = some none) (xf2 : PySem.W.findIn K (.ref C2) "part" = some none)
    (xg2 : PySem.W.findIn K (.ref C2) "__init__" = some (some (.ref fI2))) (xh2 : PySem.W.typeIn K (.ref fI2) = some (.type "function"))
    (xi2 : K.lookup fI2 = some ⟨xoc2, xod2, .func (fnX "__init__" "BadTable.__init__" (xA "part" ⟨13, 17, 13, 21⟩ ⟨13, 23, 13, 27⟩) (xB "part" "a part of the table is not as described" (fun n => match n with | 1 => ⟨14, 8, 14, 13⟩ | 2 => ⟨14, 8, 14, 15⟩ | 3 => ⟨14, 8, 14, 24⟩ | 4 => ⟨14, 25, 14, 66⟩ | 5 => ⟨14, 8, 14, 67⟩ | 6 => ⟨14, 8, 14, 67⟩ | 7 => ⟨15, 8, 15, 12⟩ | 8 => ⟨15, 8, 15, 17⟩ | 9 => ⟨15, 20, 15, 24⟩ | 10 => ⟨15, 8, 15, 24⟩ | _ => ⟨0, 0, 0, 0⟩)) (xS "part") [("__class__", cc2)] .none .none xdo2 xpm2 xan2 (.ref cda2) xct2), xos2⟩)
    (xj2 : PySem.W.codeIn K (.ref cda2) "BadTable.__init__" = true) (xk2 : K.lookup cc2 = some ⟨xcl2, xcd2, .cell (some (.ref C2)), xcs2⟩) (xl2 : K.lookup cda2 = some ⟨xkl2, xkd2, .fields xvs2, xks2⟩) (xw2 : xvs2[2]? = some (.str fl2 xtf2)) (xx2 : ((PySem.Challenge.pw_beamframes_k01_errors_made.main.file : Str) == fl2) = true)
    (xo2 : PySem.W.keepIn K (.ref C2) = true) (xp2 : PySem.W.subIn K (.ref C2) (.type "BaseException") = some true) (xq2 : PySem.W.typeIn K (.ref C2) = some (.type "type")) (xr2 : PySem.W.hasDictIn K C2 = true) (xs2 : PySem.W.isClsIn K C2 = true) (xt2 : PySem.W.subIn K (.ref C2) (.ref C2) = some true)
    (xu2 : PySem.W.subIn K (.ref C2) (.type "ValueError") = some true) (xv2 : PySem.W.mroIn K C2 (.ref C2) = some true) (xy2 : ks_superIn K C2 C2 "__init__" = some (some (.builtin "ValueError.__init__"))) (xz2 : PySem.W.nsIn K cStatics "thirdparty.any" = some none)
    {C3 fI3 cc3 cda3 B3_1 xN3 : Addr} {xnm3 xqn3 fl3 : Str} {xbs3 : List Value} {xsn3 : List Str} {xsub3 : List Value} {xab3 : Bool} {xcol3 : Option Bool} {xdd3 : Option Addr} {xm30 xm31 xm32 xm33 xm35 : Option Value}
    {xoc3 xcl3 xkl3 xdo3 xpm3 xct3 : Value} {xod3 xcd3 xkd3 xan3 : Option Addr} {xos3 xcs3 xks3 : Array (Option Value)} {xvs3 : Array Value} {xtf3 : Tok}
    (xa3 : PySem.W.nsIn K mainGlobals "BadWord" = some (some (.ref C3))) (xb3 : K.lookup C3 = some (excClassObj xnm3 xqn3 C3 xN3 xbs3 [.ref B3_1, .type "ValueError", .type "Exception", .type "BaseException", .type "object"] true xsn3 xsub3 xab3 xcol3 xdd3 xm30 xm31 xm32 xm33 xm35 "ValueError.__new__"))
    (xc3 : PySem.W.findIn K (.ref C3) "__setattr__" = some (some (.builtin "object.__setattr__"))) (xd3 : PySem.W.findIn K (.ref C3) "__getattribute__" = some (some (.builtin "BaseException.__getattribute__"))) (xe3 : PySem.W.findIn K (.ref C3) "__getattr__" = some none) (xf3 : PySem.W.findIn K (.ref C3) "given" = some none)
    (xg3 : PySem.W.findIn K (.ref C3) "__init__" = some (some (.ref fI3))) (xh3 : PySem.W.typeIn K (.ref fI3) = some (.type "function"))
    (xi3 : K.lookup fI3 = some ⟨xoc3, xod3, .func (fnX "__init__" "BadWord.__init__" (xA "given" ⟨18, 17, 18, 21⟩ ⟨18, 23, 18, 28⟩) (xB "given" "this is no word for the table" (fun n => match n with | 1 => ⟨19, 8, 19, 13⟩ | 2 => ⟨19, 8, 19, 15⟩ | 3 => ⟨19, 8, 19, 24⟩ | 4 => ⟨19, 25, 19, 56⟩ | 5 => ⟨19, 8, 19, 57⟩ | 6 => ⟨19, 8, 19, 57⟩ | 7 => ⟨20, 8, 20, 12⟩ | 8 => ⟨20, 8, 20, 18⟩ | 9 => ⟨20, 21, 20, 26⟩ | 10 => ⟨20, 8, 20, 26⟩ | _ => ⟨0, 0, 0, 0⟩)) (xS "given") [("__class__", cc3)] .none .none xdo3 xpm3 xan3 (.ref cda3) xct3), xos3⟩)
    (xj3 : PySem.W.codeIn K (.ref cda3) "BadWord.__init__" = true) (xk3 : K.lookup cc3 = some ⟨xcl3, xcd3, .cell (some (.ref C3)), xcs3⟩) (xl3 : K.lookup cda3 = some ⟨xkl3, xkd3, .fields xvs3, xks3⟩) (xw3 : xvs3[2]? = some (.str fl3 xtf3)) (xx3 : ((PySem.Challenge.pw_beamframes_k01_errors_made.main.file : Str) == fl3) = true)
    (xo3 : PySem.W.keepIn K (.ref C3) = true) (xp3 : PySem.W.subIn K (.ref C3) (.type "BaseException") = some true) (xq3 : PySem.W.typeIn K (.ref C3) = some (.type "type")) (xr3 : PySem.W.hasDictIn K C3 = true) (xs3 : PySem.W.isClsIn K C3 = true) (xt3 : PySem.W.subIn K (.ref C3) (.ref C3) = some true)
    (xu3 : PySem.W.subIn K (.ref C3) (.type "ValueError") = some true) (xv3 : PySem.W.mroIn K C3 (.ref C3) = some true) (xy3 : ks_superIn K C3 C3 "__init__" = some (some (.builtin "ValueError.__init__"))) (xz3 : PySem.W.nsIn K cStatics "thirdparty.any" = some none)
    {C4 fI4 cc4 cda4 B4_1 xN4 : Addr} {xnm4 xqn4 fl4 : Str} {xbs4 : List Value} {xsn4 : List Str} {xsub4 : List Value} {xab4 : Bool} {xcol4 : Option Bool} {xdd4 : Option Addr} {xm40 xm41 xm42 xm43 xm45 : Option Value}
    {xoc4 xcl4 xkl4 xdo4 xpm4 xct4 : Value} {xod4 xcd4 xkd4 xan4 : Option Addr} {xos4 xcs4 xks4 : Array (Option Value)} {xvs4 : Array Value} {xtf4 : Tok}
    (xa4 : PySem.W.nsIn K mainGlobals "BadBurst" = some (some (.ref C4))) (xb4 : K.lookup C4 = some (excClassObj xnm4 xqn4 C4 xN4 xbs4 [.ref B4_1, .type "ValueError", .type "Exception", .type "BaseException", .type "object"] true xsn4 xsub4 xab4 xcol4 xdd4 xm40 xm41 xm42 xm43 xm45 "ValueError.__new__"))
    (xc4 : PySem.W.findIn K (.ref C4) "__setattr__" = some (some (.builtin "object.__setattr__"))) (xd4 : PySem.W.findIn K (.ref C4) "__getattribute__" = some (some (.builtin "BaseException.__getattribute__"))) (xe4 : PySem.W.findIn K (.ref C4) "__getattr__" = some none) (xf4 : PySem.W.findIn K (.ref C4) "given" = some none)
    (xg4 : PySem.W.findIn K (.ref C4) "__init__" = some (some (.ref fI4))) (xh4 : PySem.W.typeIn K (.ref fI4) = some (.type "function"))
    (xi4 : K.lookup fI4 = some ⟨xoc4, xod4, .func (fnX "__init__" "BadBurst.__init__" (xA "given" ⟨23, 17, 23, 21⟩ ⟨23, 23, 23, 28⟩) (xB "given" "this is no burst" (fun n => match n with | 1 => ⟨24, 8, 24, 13⟩ | 2 => ⟨24, 8, 24, 15⟩ | 3 => ⟨24, 8, 24, 24⟩ | 4 => ⟨24, 25, 24, 43⟩ | 5 => ⟨24, 8, 24, 44⟩ | 6 => ⟨24, 8, 24, 44⟩ | 7 => ⟨25, 8, 25, 12⟩ | 8 => ⟨25, 8, 25, 18⟩ | 9 => ⟨25, 21, 25, 26⟩ | 10 => ⟨25, 8, 25, 26⟩ | _ => ⟨0, 0, 0, 0⟩)) (xS "given") [("__class__", cc4)] .none .none xdo4 xpm4 xan4 (.ref cda4) xct4), xos4⟩)
    (xj4 : PySem.W.codeIn K (.ref cda4) "BadBurst.__init__" = true) (xk4 : K.lookup cc4 = some ⟨xcl4, xcd4, .cell (some (.ref C4)), xcs4⟩) (xl4 : K.lookup cda4 = some ⟨xkl4, xkd4, .fields xvs4, xks4⟩) (xw4 : xvs4[2]? = some (.str fl4 xtf4)) (xx4 : ((PySem.Challenge.pw_beamframes_k01_errors_made.main.file : Str) == fl4) = true)
    (xo4 : PySem.W.keepIn K (.ref C4) = true) (xp4 : PySem.W.subIn K (.ref C4) (.type "BaseException") = some true) (xq4 : PySem.W.typeIn K (.ref C4) = some (.type "type")) (xr4 : PySem.W.hasDictIn K C4 = true) (xs4 : PySem.W.isClsIn K C4 = true) (xt4 : PySem.W.subIn K (.ref C4) (.ref C4) = some true)
    (xu4 : PySem.W.subIn K (.ref C4) (.type "ValueError") = some true) (xv4 : PySem.W.mroIn K C4 (.ref C4) = some true) (xy4 : ks_superIn K C4 C4 "__init__" = some (some (.builtin "ValueError.__init__"))) (xz4 : PySem.W.nsIn K cStatics "thirdparty.any" = some none)
    {C5 fI5 cc5 cda5 B5_1 xN5 : Addr} {xnm5 xqn5 fl5 : Str} {xbs5 : List Value} {xsn5 : List Str} {xsub5 : List Value} {xab5 : Bool} {xcol5 : Option Bool} {xdd5 : Option Addr} {xm50 xm51 xm52 xm53 xm55 : Option Value}
    {xoc5 xcl5 xkl5 xdo5 xpm5 xct5 : Value} {xod5 xcd5 xkd5 xan5 : Option Addr} {xos5 xcs5 xks5 : Array (Option Value)} {xvs5 : Array Value} {xtf5 : Tok}
    (xa5 : PySem.W.nsIn K mainGlobals "BadReceiver" = some (some (.ref C5))) (xb5 : K.lookup C5 = some (excClassObj xnm5 xqn5 C5 xN5 xbs5 [.ref B5_1, .type "ValueError", .type "Exception", .type "BaseException", .type "object"] true xsn5 xsub5 xab5 xcol5 xdd5 xm50 xm51 xm52 xm53 xm55 "ValueError.__new__"))
    (xc5 : PySem.W.findIn K (.ref C5) "__setattr__" = some (some (.builtin "object.__setattr__"))) (xd5 : PySem.W.findIn K (.ref C5) "__getattribute__" = some (some (.builtin "BaseException.__getattribute__"))) (xe5 : PySem.W.findIn K (.ref C5) "__getattr__" = some none) (xf5 : PySem.W.findIn K (.ref C5) "place" = some none)
    (xg5 : PySem.W.findIn K (.ref C5) "__init__" = some (some (.ref fI5))) (xh5 : PySem.W.typeIn K (.ref fI5) = some (.type "function"))
    (xi5 : K.lookup fI5 = some ⟨xoc5, xod5, .func (fnX "__init__" "BadReceiver.__init__" (xA "place" ⟨28, 17, 28, 21⟩ ⟨28, 23, 28, 28⟩) (xB "place" "the receiver is not as described" (fun n => match n with | 1 => ⟨29, 8, 29, 13⟩ | 2 => ⟨29, 8, 29, 15⟩ | 3 => ⟨29, 8, 29, 24⟩ | 4 => ⟨29, 25, 29, 59⟩ | 5 => ⟨29, 8, 29, 60⟩ | 6 => ⟨29, 8, 29, 60⟩ | 7 => ⟨30, 8, 30, 12⟩ | 8 => ⟨30, 8, 30, 18⟩ | 9 => ⟨30, 21, 30, 26⟩ | 10 => ⟨30, 8, 30, 26⟩ | _ => ⟨0, 0, 0, 0⟩)) (xS "place") [("__class__", cc5)] .none .none xdo5 xpm5 xan5 (.ref cda5) xct5), xos5⟩)
    (xj5 : PySem.W.codeIn K (.ref cda5) "BadReceiver.__init__" = true) (xk5 : K.lookup cc5 = some ⟨xcl5, xcd5, .cell (some (.ref C5)), xcs5⟩) (xl5 : K.lookup cda5 = some ⟨xkl5, xkd5, .fields xvs5, xks5⟩) (xw5 : xvs5[2]? = some (.str fl5 xtf5)) (xx5 : ((PySem.Challenge.pw_beamframes_k01_errors_made.main.file : Str) == fl5) = true)
    (xo5 : PySem.W.keepIn K (.ref C5) = true) (xp5 : PySem.W.subIn K (.ref C5) (.type "BaseException") = some true) (xq5 : PySem.W.typeIn K (.ref C5) = some (.type "type")) (xr5 : PySem.W.hasDictIn K C5 = true) (xs5 : PySem.W.isClsIn K C5 = true) (xt5 : PySem.W.subIn K (.ref C5) (.ref C5) = some true)
    (xu5 : PySem.W.subIn K (.ref C5) (.type "ValueError") = some true) (xv5 : PySem.W.mroIn K C5 (.ref C5) = some true) (xy5 : ks_superIn K C5 C5 "__init__" = some (some (.builtin "ValueError.__init__"))) (xz5 : PySem.W.nsIn K cStatics "thirdparty.any" = some none)
    {C6 fI6 cc6 cda6 B6_1 xN6 : Addr} {xnm6 xqn6 fl6 : Str} {xbs6 : List Value} {xsn6 : List Str} {xsub6 : List Value} {xab6 : Bool} {xcol6 : Option Bool} {xdd6 : Option Addr} {xm60 xm61 xm62 xm63 xm65 : Option Value}
    {xoc6 xcl6 xkl6 xdo6 xpm6 xct6 : Value} {xod6 xcd6 xkd6 xan6 : Option Addr} {xos6 xcs6 xks6 : Array (Option Value)} {xvs6 : Array Value} {xtf6 : Tok}
    (xa6 : PySem.W.nsIn K mainGlobals "BadNumber" = some (some (.ref C6))) (xb6 : K.lookup C6 = some (excClassObj xnm6 xqn6 C6 xN6 xbs6 [.ref B6_1, .type "ValueError", .type "Exception", .type "BaseException", .type "object"] true xsn6 xsub6 xab6 xcol6 xdd6 xm60 xm61 xm62 xm63 xm65 "ValueError.__new__"))
    (xc6 : PySem.W.findIn K (.ref C6) "__setattr__" = some (some (.builtin "object.__setattr__"))) (xd6 : PySem.W.findIn K (.ref C6) "__getattribute__" = some (some (.builtin "BaseException.__getattribute__"))) (xe6 : PySem.W.findIn K (.ref C6) "__getattr__" = some none) (xf6 : PySem.W.findIn K (.ref C6) "given" = some none)
    (xg6 : PySem.W.findIn K (.ref C6) "__init__" = some (some (.ref fI6))) (xh6 : PySem.W.typeIn K (.ref fI6) = some (.type "function"))
    (xi6 : K.lookup fI6 = some ⟨xoc6, xod6, .func (fnX "__init__" "BadNumber.__init__" (xA "given" ⟨33, 17, 33, 21⟩ ⟨33, 23, 33, 28⟩) (xB "given" "this is no number that may stand here" (fun n => match n with | 1 => ⟨34, 8, 34, 13⟩ | 2 => ⟨34, 8, 34, 15⟩ | 3 => ⟨34, 8, 34, 24⟩ | 4 => ⟨34, 25, 34, 64⟩ | 5 => ⟨34, 8, 34, 65⟩ | 6 => ⟨34, 8, 34, 65⟩ | 7 => ⟨35, 8, 35, 12⟩ | 8 => ⟨35, 8, 35, 18⟩ | 9 => ⟨35, 21, 35, 26⟩ | 10 => ⟨35, 8, 35, 26⟩ | _ => ⟨0, 0, 0, 0⟩)) (xS "given") [("__class__", cc6)] .none .none xdo6 xpm6 xan6 (.ref cda6) xct6), xos6⟩)
    (xj6 : PySem.W.codeIn K (.ref cda6) "BadNumber.__init__" = true) (xk6 : K.lookup cc6 = some ⟨xcl6, xcd6, .cell (some (.ref C6)), xcs6⟩) (xl6 : K.lookup cda6 = some ⟨xkl6, xkd6, .fields xvs6, xks6⟩) (xw6 : xvs6[2]? = some (.str fl6 xtf6)) (xx6 : ((PySem.Challenge.pw_beamframes_k01_errors_made.main.file : Str) == fl6) = true)
    (xo6 : PySem.W.keepIn K (.ref C6) = true) (xp6 : PySem.W.subIn K (.ref C6) (.type "BaseException") = some true) (xq6 : PySem.W.typeIn K (.ref C6) = some (.type "type")) (xr6 : PySem.W.hasDictIn K C6 = true) (xs6 : PySem.W.isClsIn K C6 = true) (xt6 : PySem.W.subIn K (.ref C6) (.ref C6) = some true)
    (xu6 : PySem.W.subIn K (.ref C6) (.type "ValueError") = some true) (xv6 : PySem.W.mroIn K C6 (.ref C6) = some true) (xy6 : ks_superIn K C6 C6 "__init__" = some (some (.builtin "ValueError.__init__"))) (xz6 : PySem.W.nsIn K cStatics "thirdparty.any" = some none)
    {C7 fI7 cc7 cda7 B7_1 xN7 : Addr} {xnm7 xqn7 fl7 : Str} {xbs7 : List Value} {xsn7 : List Str} {xsub7 : List Value} {xab7 : Bool} {xcol7 : Option Bool} {xdd7 : Option Addr} {xm70 xm71 xm72 xm73 xm75 : Option Value}
    {xoc7 xcl7 xkl7 xdo7 xpm7 xct7 : Value} {xod7 xcd7 xkd7 xan7 : Option Addr} {xos7 xcs7 xks7 : Array (Option Value)} {xvs7 : Array Value} {xtf7 : Tok}
    (xa7 : PySem.W.nsIn K mainGlobals "BadPaper" = some (some (.ref C7))) (xb7 : K.lookup C7 = some (excClassObj xnm7 xqn7 C7 xN7 xbs7 [.ref B7_1, .type "ValueError", .type "Exception", .type "BaseException", .type "object"] true xsn7 xsub7 xab7 xcol7 xdd7 xm70 xm71 xm72 xm73 xm75 "ValueError.__new__"))
    (xc7 : PySem.W.findIn K (.ref C7) "__setattr__" = some (some (.builtin "object.__setattr__"))) (xd7 : PySem.W.findIn K (.ref C7) "__getattribute__" = some (some (.builtin "BaseException.__getattribute__"))) (xe7 : PySem.W.findIn K (.ref C7) "__getattr__" = some none) (xf7 : PySem.W.findIn K (.ref C7) "part" = some none)
    (xg7 : PySem.W.findIn K (.ref C7) "__init__" = some (some (.ref fI7))) (xh7 : PySem.W.typeIn K (.ref fI7) = some (.type "function"))
    (xi7 : K.lookup fI7 = some ⟨xoc7, xod7, .func (fnX "__init__" "BadPaper.__init__" (xA "part" ⟨38, 17, 38, 21⟩ ⟨38, 23, 38, 27⟩) (xB "part" "a part of the paper does not hold" (fun n => match n with | 1 => ⟨39, 8, 39, 13⟩ | 2 => ⟨39, 8, 39, 15⟩ | 3 => ⟨39, 8, 39, 24⟩ | 4 => ⟨39, 25, 39, 60⟩ | 5 => ⟨39, 8, 39, 61⟩ | 6 => ⟨39, 8, 39, 61⟩ | 7 => ⟨40, 8, 40, 12⟩ | 8 => ⟨40, 8, 40, 17⟩ | 9 => ⟨40, 20, 40, 24⟩ | 10 => ⟨40, 8, 40, 24⟩ | _ => ⟨0, 0, 0, 0⟩)) (xS "part") [("__class__", cc7)] .none .none xdo7 xpm7 xan7 (.ref cda7) xct7), xos7⟩)
    (xj7 : PySem.W.codeIn K (.ref cda7) "BadPaper.__init__" = true) (xk7 : K.lookup cc7 = some ⟨xcl7, xcd7, .cell (some (.ref C7)), xcs7⟩) (xl7 : K.lookup cda7 = some ⟨xkl7, xkd7, .fields xvs7, xks7⟩) (xw7 : xvs7[2]? = some (.str fl7 xtf7)) (xx7 : ((PySem.Challenge.pw_beamframes_k01_errors_made.main.file : Str) == fl7) = true)
    (xo7 : PySem.W.keepIn K (.ref C7) = true) (xp7 : PySem.W.subIn K (.ref C7) (.type "BaseException") = some true) (xq7 : PySem.W.typeIn K (.ref C7) = some (.type "type")) (xr7 : PySem.W.hasDictIn K C7 = true) (xs7 : PySem.W.isClsIn K C7 = true) (xt7 : PySem.W.subIn K (.ref C7) (.ref C7) = some true)
    (xu7 : PySem.W.subIn K (.ref C7) (.type "ValueError") = some true) (xv7 : PySem.W.mroIn K C7 (.ref C7) = some true) (xy7 : ks_superIn K C7 C7 "__init__" = some (some (.builtin "ValueError.__init__"))) (xz7 : PySem.W.nsIn K cStatics "thirdparty.any" = some none)
    {C8 fI8 cc8 cda8 B8_1 xN8 : Addr} {xnm8 xqn8 fl8 : Str} {xbs8 : List Value} {xsn8 : List Str} {xsub8 : List Value} {xab8 : Bool} {xcol8 : Option Bool} {xdd8 : Option Addr} {xm80 xm81 xm82 xm83 xm85 : Option Value}
    {xoc8 xcl8 xkl8 xdo8 xpm8 xct8 : Value} {xod8 xcd8 xkd8 xan8 : Option Addr} {xos8 xcs8 xks8 : Array (Option Value)} {xvs8 : Array Value} {xtf8 : Tok}
    (xa8 : PySem.W.nsIn K mainGlobals "BadStyle" = some (some (.ref C8))) (xb8 : K.lookup C8 = some (excClassObj xnm8 xqn8 C8 xN8 xbs8 [.ref B8_1, .type "ValueError", .type "Exception", .type "BaseException", .type "object"] true xsn8 xsub8 xab8 xcol8 xdd8 xm80 xm81 xm82 xm83 xm85 "ValueError.__new__"))
    (xc8 : PySem.W.findIn K (.ref C8) "__setattr__" = some (some (.builtin "object.__setattr__"))) (xd8 : PySem.W.findIn K (.ref C8) "__getattribute__" = some (some (.builtin "BaseException.__getattribute__"))) (xe8 : PySem.W.findIn K (.ref C8) "__getattr__" = some none) (xf8 : PySem.W.findIn K (.ref C8) "given" = some none)
    (xg8 : PySem.W.findIn K (.ref C8) "__init__" = some (some (.ref fI8))) (xh8 : PySem.W.typeIn K (.ref fI8) = some (.type "function"))
    (xi8 : K.lookup fI8 = some ⟨xoc8, xod8, .func (fnX "__init__" "BadStyle.__init__" (xA "given" ⟨43, 17, 43, 21⟩ ⟨43, 23, 43, 28⟩) (xB "given" "this is no style" (fun n => match n with | 1 => ⟨44, 8, 44, 13⟩ | 2 => ⟨44, 8, 44, 15⟩ | 3 => ⟨44, 8, 44, 24⟩ | 4 => ⟨44, 25, 44, 43⟩ | 5 => ⟨44, 8, 44, 44⟩ | 6 => ⟨44, 8, 44, 44⟩ | 7 => ⟨45, 8, 45, 12⟩ | 8 => ⟨45, 8, 45, 18⟩ | 9 => ⟨45, 21, 45, 26⟩ | 10 => ⟨45, 8, 45, 26⟩ | _ => ⟨0, 0, 0, 0⟩)) (xS "given") [("__class__", cc8)] .none .none xdo8 xpm8 xan8 (.ref cda8) xct8), xos8⟩)
    (xj8 : PySem.W.codeIn K (.ref cda8) "BadStyle.__init__" = true) (xk8 : K.lookup cc8 = some ⟨xcl8, xcd8, .cell (some (.ref C8)), xcs8⟩) (xl8 : K.lookup cda8 = some ⟨xkl8, xkd8, .fields xvs8, xks8⟩) (xw8 : xvs8[2]? = some (.str fl8 xtf8)) (xx8 : ((PySem.Challenge.pw_beamframes_k01_errors_made.main.file : Str) == fl8) = true)
    (xo8 : PySem.W.keepIn K (.ref C8) = true) (xp8 : PySem.W.subIn K (.ref C8) (.type "BaseException") = some true) (xq8 : PySem.W.typeIn K (.ref C8) = some (.type "type")) (xr8 : PySem.W.hasDictIn K C8 = true) (xs8 : PySem.W.isClsIn K C8 = true) (xt8 : PySem.W.subIn K (.ref C8) (.ref C8) = some true)
    (xu8 : PySem.W.subIn K (.ref C8) (.type "ValueError") = some true) (xv8 : PySem.W.mroIn K C8 (.ref C8) = some true) (xy8 : ks_superIn K C8 C8 "__init__" = some (some (.builtin "ValueError.__init__"))) (xz8 : PySem.W.nsIn K cStatics "thirdparty.any" = some none)
    {C9 fI9 cc9 cda9 B9_1 xN9 : Addr} {xnm9 xqn9 fl9 : Str} {xbs9 : List Value} {xsn9 : List Str} {xsub9 : List Value} {xab9 : Bool} {xcol9 : Option Bool} {xdd9 : Option Addr} {xm90 xm91 xm92 xm93 xm95 : Option Value}
    {xoc9 xcl9 xkl9 xdo9 xpm9 xct9 : Value} {xod9 xcd9 xkd9 xan9 : Option Addr} {xos9 xcs9 xks9 : Array (Option Value)} {xvs9 : Array Value} {xtf9 : Tok}
    (xa9 : PySem.W.nsIn K mainGlobals "BadRow" = some (some (.ref C9))) (xb9 : K.lookup C9 = some (excClassObj xnm9 xqn9 C9 xN9 xbs9 [.ref B9_1, .type "ValueError", .type "Exception", .type "BaseException", .type "object"] true xsn9 xsub9 xab9 xcol9 xdd9 xm90 xm91 xm92 xm93 xm95 "ValueError.__new__"))
    (xc9 : PySem.W.findIn K (.ref C9) "__setattr__" = some (some (.builtin "object.__setattr__"))) (xd9 : PySem.W.findIn K (.ref C9) "__getattribute__" = some (some (.builtin "BaseException.__getattribute__"))) (xe9 : PySem.W.findIn K (.ref C9) "__getattr__" = some none) (xf9 : PySem.W.findIn K (.ref C9) "moment" = some none)
    (xg9 : PySem.W.findIn K (.ref C9) "__init__" = some (some (.ref fI9))) (xh9 : PySem.W.typeIn K (.ref fI9) = some (.type "function"))
    (xi9 : K.lookup fI9 = some ⟨xoc9, xod9, .func (fnX "__init__" "BadRow.__init__" (xA "moment" ⟨48, 17, 48, 21⟩ ⟨48, 23, 48, 29⟩) (xB "moment" "the row is not as described" (fun n => match n with | 1 => ⟨49, 8, 49, 13⟩ | 2 => ⟨49, 8, 49, 15⟩ | 3 => ⟨49, 8, 49, 24⟩ | 4 => ⟨49, 25, 49, 54⟩ | 5 => ⟨49, 8, 49, 55⟩ | 6 => ⟨49, 8, 49, 55⟩ | 7 => ⟨50, 8, 50, 12⟩ | 8 => ⟨50, 8, 50, 19⟩ | 9 => ⟨50, 22, 50, 28⟩ | 10 => ⟨50, 8, 50, 28⟩ | _ => ⟨0, 0, 0, 0⟩)) (xS "moment") [("__class__", cc9)] .none .none xdo9 xpm9 xan9 (.ref cda9) xct9), xos9⟩)
    (xj9 : PySem.W.codeIn K (.ref cda9) "BadRow.__init__" = true) (xk9 : K.lookup cc9 = some ⟨xcl9, xcd9, .cell (some (.ref C9)), xcs9⟩) (xl9 : K.lookup cda9 = some ⟨xkl9, xkd9, .fields xvs9, xks9⟩) (xw9 : xvs9[2]? = some (.str fl9 xtf9)) (xx9 : ((PySem.Challenge.pw_beamframes_k01_errors_made.main.file : Str) == fl9) = true)
    (xo9 : PySem.W.keepIn K (.ref C9) = true) (xp9 : PySem.W.subIn K (.ref C9) (.type "BaseException") = some true) (xq9 : PySem.W.typeIn K (.ref C9) = some (.type "type")) (xr9 : PySem.W.hasDictIn K C9 = true) (xs9 : PySem.W.isClsIn K C9 = true) (xt9 : PySem.W.subIn K (.ref C9) (.ref C9) = some true)
    (xu9 : PySem.W.subIn K (.ref C9) (.type "ValueError") = some true) (xv9 : PySem.W.mroIn K C9 (.ref C9) = some true) (xy9 : ks_superIn K C9 C9 "__init__" = some (some (.builtin "ValueError.__init__"))) (xz9 : PySem.W.nsIn K cStatics "thirdparty.any" = some none)
    {C10 fI10 cc10 cda10 B10_1 xN10 : Addr} {xnm10 xqn10 fl10 : Str} {xbs10 : List Value} {xsn10 : List Str} {xsub10 : List Value} {xab10 : Bool} {xcol10 : Option Bool} {xdd10 : Option Addr} {xm100 xm101 xm102 xm103 xm105 : Option Value}
    {xoc10 xcl10 xkl10 xdo10 xpm10 xct10 : Value} {xod10 xcd10 xkd10 xan10 : Option Addr} {xos10 xcs10 xks10 : Array (Option Value)} {xvs10 : Array Value} {xtf10 : Tok}
    (xa10 : PySem.W.nsIn K mainGlobals "BadText" = some (some (.ref C10))) (xb10 : K.lookup C10 = some (excClassObj xnm10 xqn10 C10 xN10 xbs10 [.ref B10_1, .type "ValueError", .type "Exception", .type "BaseException", .type "object"] true xsn10 xsub10 xab10 xcol10 xdd10 xm100 xm101 xm102 xm103 xm105 "ValueError.__new__"))
    (xc10 : PySem.W.findIn K (.ref C10) "__setattr__" = some (some (.builtin "object.__setattr__"))) (xd10 : PySem.W.findIn K (.ref C10) "__getattribute__" = some (some (.builtin "BaseException.__getattribute__"))) (xe10 : PySem.W.findIn K (.ref C10) "__getattr__" = some none) (xf10 : PySem.W.findIn K (.ref C10) "word" = some none)
    (xg10 : PySem.W.findIn K (.ref C10) "__init__" = some (some (.ref fI10))) (xh10 : PySem.W.typeIn K (.ref fI10) = some (.type "function"))
    (xi10 : K.lookup fI10 = some ⟨xoc10, xod10, .func (fnX "__init__" "BadText.__init__" (xA "word" ⟨53, 17, 53, 21⟩ ⟨53, 23, 53, 27⟩) (xB "word" "a word of the text cannot stand there, or is missing" (fun n => match n with | 1 => ⟨54, 8, 54, 13⟩ | 2 => ⟨54, 8, 54, 15⟩ | 3 => ⟨54, 8, 54, 24⟩ | 4 => ⟨54, 25, 54, 79⟩ | 5 => ⟨54, 8, 54, 80⟩ | 6 => ⟨54, 8, 54, 80⟩ | 7 => ⟨55, 8, 55, 12⟩ | 8 => ⟨55, 8, 55, 17⟩ | 9 => ⟨55, 20, 55, 24⟩ | 10 => ⟨55, 8, 55, 24⟩ | _ => ⟨0, 0, 0, 0⟩)) (xS "word") [("__class__", cc10)] .none .none xdo10 xpm10 xan10 (.ref cda10) xct10), xos10⟩)
    (xj10 : PySem.W.codeIn K (.ref cda10) "BadText.__init__" = true) (xk10 : K.lookup cc10 = some ⟨xcl10, xcd10, .cell (some (.ref C10)), xcs10⟩) (xl10 : K.lookup cda10 = some ⟨xkl10, xkd10, .fields xvs10, xks10⟩) (xw10 : xvs10[2]? = some (.str fl10 xtf10)) (xx10 : ((PySem.Challenge.pw_beamframes_k01_errors_made.main.file : Str) == fl10) = true)
    (xo10 : PySem.W.keepIn K (.ref C10) = true) (xp10 : PySem.W.subIn K (.ref C10) (.type "BaseException") = some true) (xq10 : PySem.W.typeIn K (.ref C10) = some (.type "type")) (xr10 : PySem.W.hasDictIn K C10 = true) (xs10 : PySem.W.isClsIn K C10 = true) (xt10 : PySem.W.subIn K (.ref C10) (.ref C10) = some true)
    (xu10 : PySem.W.subIn K (.ref C10) (.type "ValueError") = some true) (xv10 : PySem.W.mroIn K C10 (.ref C10) = some true) (xy10 : ks_superIn K C10 C10 "__init__" = some (some (.builtin "ValueError.__init__"))) (xz10 : PySem.W.nsIn K cStatics "thirdparty.any" = some none)
    {C11 fI11 cc11 cda11 B11_1 xN11 : Addr} {xnm11 xqn11 fl11 : Str} {xbs11 : List Value} {xsn11 : List Str} {xsub11 : List Value} {xab11 : Bool} {xcol11 : Option Bool} {xdd11 : Option Addr} {xm110 xm111 xm112 xm113 xm115 : Option Value}
    {xoc11 xcl11 xkl11 xdo11 xpm11 xct11 : Value} {xod11 xcd11 xkd11 xan11 : Option Addr} {xos11 xcs11 xks11 : Array (Option Value)} {xvs11 : Array Value} {xtf11 : Tok}
    (xa11 : PySem.W.nsIn K mainGlobals "NothingToUndo" = some (some (.ref C11))) (xb11 : K.lookup C11 = some (excClassObj xnm11 xqn11 C11 xN11 xbs11 [.ref B11_1, .type "RuntimeError", .type "Exception", .type "BaseException", .type "object"] true xsn11 xsub11 xab11 xcol11 xdd11 xm110 xm111 xm112 xm113 xm115 "RuntimeError.__new__"))
    (xc11 : PySem.W.findIn K (.ref C11) "__setattr__" = some (some (.builtin "object.__setattr__"))) (xd11 : PySem.W.findIn K (.ref C11) "__getattribute__" = some (some (.builtin "BaseException.__getattribute__"))) (xe11 : PySem.W.findIn K (.ref C11) "__getattr__" = some none) (xf11 : PySem.W.findIn K (.ref C11) "count" = some none)
    (xg11 : PySem.W.findIn K (.ref C11) "__init__" = some (some (.ref fI11))) (xh11 : PySem.W.typeIn K (.ref fI11) = some (.type "function"))
    (xi11 : K.lookup fI11 = some ⟨xoc11, xod11, .func (fnX "__init__" "NothingToUndo.__init__" (xA "count" ⟨58, 17, 58, 21⟩ ⟨58, 23, 58, 28⟩) (xB "count" "there are not as many changes to take back" (fun n => match n with | 1 => ⟨59, 8, 59, 13⟩ | 2 => ⟨59, 8, 59, 15⟩ | 3 => ⟨59, 8, 59, 24⟩ | 4 => ⟨59, 25, 59, 69⟩ | 5 => ⟨59, 8, 59, 70⟩ | 6 => ⟨59, 8, 59, 70⟩ | 7 => ⟨60, 8, 60, 12⟩ | 8 => ⟨60, 8, 60, 18⟩ | 9 => ⟨60, 21, 60, 26⟩ | 10 => ⟨60, 8, 60, 26⟩ | _ => ⟨0, 0, 0, 0⟩)) (xS "count") [("__class__", cc11)] .none .none xdo11 xpm11 xan11 (.ref cda11) xct11), xos11⟩)
    (xj11 : PySem.W.codeIn K (.ref cda11) "NothingToUndo.__init__" = true) (xk11 : K.lookup cc11 = some ⟨xcl11, xcd11, .cell (some (.ref C11)), xcs11⟩) (xl11 : K.lookup cda11 = some ⟨xkl11, xkd11, .fields xvs11, xks11⟩) (xw11 : xvs11[2]? = some (.str fl11 xtf11)) (xx11 : ((PySem.Challenge.pw_beamframes_k01_errors_made.main.file : Str) == fl11) = true)
    (xo11 : PySem.W.keepIn K (.ref C11) = true) (xp11 : PySem.W.subIn K (.ref C11) (.type "BaseException") = some true) (xq11 : PySem.W.typeIn K (.ref C11) = some (.type "type")) (xr11 : PySem.W.hasDictIn K C11 = true) (xs11 : PySem.W.isClsIn K C11 = true) (xt11 : PySem.W.subIn K (.ref C11) (.ref C11) = some true)
    (xu11 : PySem.W.subIn K (.ref C11) (.type "RuntimeError") = some true) (xv11 : PySem.W.mroIn K C11 (.ref C11) = some true) (xy11 : ks_superIn K C11 C11 "__init__" = some (some (.builtin "RuntimeError.__init__"))) (xz11 : PySem.W.nsIn K cStatics "thirdparty.any" = some none)
    (zsup : PySem.W.nsIn K mainGlobals "super" = some none)
    {CF1 : Addr}
    (xpl1 : PySem.W.nsIn K mainGlobals "FrameError" = some (some (.ref CF1)))
    {CF2 : Addr}
    (xpl2 : PySem.W.nsIn K mainGlobals "StateError" = some (some (.ref CF2)))
    (xca_1 : PySem.W.findIn K (.ref C1) "__class__" = some (some (.builtin "object.__class__")))
    (xob_1 : PySem.W.mroIn K C1 (.type "object") = some true)
    (xca_2 : PySem.W.findIn K (.ref C2) "__class__" = some (some (.builtin "object.__class__")))
    (xob_2 : PySem.W.mroIn K C2 (.type "object") = some true)
    (xca_3 : PySem.W.findIn K (.ref C3) "__class__" = some (some (.builtin "object.__class__")))
    (xob_3 : PySem.W.mroIn K C3 (.type "object") = some true)
    (xca_4 : PySem.W.findIn K (.ref C4) "__class__" = some (some (.builtin "object.__class__")))
    (xob_4 : PySem.W.mroIn K C4 (.type "object") = some true)
    (xca_5 : PySem.W.findIn K (.ref C5) "__class__" = some (some (.builtin "object.__class__")))
    (xob_5 : PySem.W.mroIn K C5 (.type "object") = some true)
    (xca_6 : PySem.W.findIn K (.ref C6) "__class__" = some (some (.builtin "object.__class__")))
    (xob_6 : PySem.W.mroIn K C6 (.type "object") = some true)
    (xca_7 : PySem.W.findIn K (.ref C7) "__class__" = some (some (.builtin "object.__class__")))
    (xob_7 : PySem.W.mroIn K C7 (.type "object") = some true)
    (xca_8 : PySem.W.findIn K (.ref C8) "__class__" = some (some (.builtin "object.__class__")))
    (xob_8 : PySem.W.mroIn K C8 (.type "object") = some true)
    (xca_9 : PySem.W.findIn K (.ref C9) "__class__" = some (some (.builtin "object.__class__")))
    (xob_9 : PySem.W.mroIn K C9 (.type "object") = some true)
    (xca_10 : PySem.W.findIn K (.ref C10) "__class__" = some (some (.builtin "object.__class__")))
    (xob_10 : PySem.W.mroIn K C10 (.type "object") = some true)
    (xca_11 : PySem.W.findIn K (.ref C11) "__class__" = some (some (.builtin "object.__class__")))
    (xob_11 : PySem.W.mroIn K C11 (.type "object") = some true)
    (xisg1 : PySem.W.specialIn K (.builtin "object.__class__") "__get__" = some (some (.builtin "getset_descriptor.__get__")))
    (xisg2 : PySem.W.takesIn K (.builtin "object.__class__") = some true)
    (xy_1_0 : PySem.W.kitOne K (.ref C1) (.ref C1) = some true)
    (xy_1_1 : PySem.W.kitOne K (.ref C1) (.ref C2) = some false)
    (xy_1_2 : PySem.W.kitOne K (.ref C1) (.ref C3) = some false)
    (xy_1_3 : PySem.W.kitOne K (.ref C1) (.ref C4) = some false)
    (xy_1_4 : PySem.W.kitOne K (.ref C1) (.ref C5) = some false)
    (xy_1_5 : PySem.W.kitOne K (.ref C1) (.ref C6) = some false)
    (xy_1_6 : PySem.W.kitOne K (.ref C1) (.ref C7) = some false)
    (xy_1_7 : PySem.W.kitOne K (.ref C1) (.ref C8) = some false)
    (xy_1_8 : PySem.W.kitOne K (.ref C1) (.ref C9) = some false)
    (xy_1_9 : PySem.W.kitOne K (.ref C1) (.ref C10) = some false)
    (xy_1_10 : PySem.W.kitOne K (.ref C1) (.ref C11) = some false)
    (xy_1_11 : PySem.W.kitOne K (.ref C1) (.ref CF1) = some true)
    (xy_1_12 : PySem.W.kitOne K (.ref C1) (.ref CF2) = some false)
    (xy_1_13 : PySem.W.kitOne K (.ref C1) (.type "ValueError") = some true)
    (xy_1_14 : PySem.W.kitOne K (.ref C1) (.type "RuntimeError") = some false)
    (xy_2_0 : PySem.W.kitOne K (.ref C2) (.ref C1) = some false)
    (xy_2_1 : PySem.W.kitOne K (.ref C2) (.ref C2) = some true)
    (xy_2_2 : PySem.W.kitOne K (.ref C2) (.ref C3) = some false)
    (xy_2_3 : PySem.W.kitOne K (.ref C2) (.ref C4) = some false)
    (xy_2_4 : PySem.W.kitOne K (.ref C2) (.ref C5) = some false)
    (xy_2_5 : PySem.W.kitOne K (.ref C2) (.ref C6) = some false)
    (xy_2_6 : PySem.W.kitOne K (.ref C2) (.ref C7) = some false)
    (xy_2_7 : PySem.W.kitOne K (.ref C2) (.ref C8) = some false)
    (xy_2_8 : PySem.W.kitOne K (.ref C2) (.ref C9) = some false)
    (xy_2_9 : PySem.W.kitOne K (.ref C2) (.ref C10) = some false)
    (xy_2_10 : PySem.W.kitOne K (.ref C2) (.ref C11) = some false)
    (xy_2_11 : PySem.W.kitOne K (.ref C2) (.ref CF1) = some true)
    (xy_2_12 : PySem.W.kitOne K (.ref C2) (.ref CF2) = some false)
    (xy_2_13 : PySem.W.kitOne K (.ref C2) (.type "ValueError") = some true)
    (xy_2_14 : PySem.W.kitOne K (.ref C2) (.type "RuntimeError") = some false)
    (xy_3_0 : PySem.W.kitOne K (.ref C3) (.ref C1) = some false)
    (xy_3_1 : PySem.W.kitOne K (.ref C3) (.ref C2) = some false)
    (xy_3_2 : PySem.W.kitOne K (.ref C3) (.ref C3) = some true)
    (xy_3_3 : PySem.W.kitOne K (.ref C3) (.ref C4) = some false)
    (xy_3_4 : PySem.W.kitOne K (.ref C3) (.ref C5) = some false)
    (xy_3_5 : PySem.W.kitOne K (.ref C3) (.ref C6) = some false)
    (xy_3_6 : PySem.W.kitOne K (.ref C3) (.ref C7) = some false)
    (xy_3_7 : PySem.W.kitOne K (.ref C3) (.ref C8) = some false)
    (xy_3_8 : PySem.W.kitOne K (.ref C3) (.ref C9) = some false)
    (xy_3_9 : PySem.W.kitOne K (.ref C3) (.ref C10) = some false)
    (xy_3_10 : PySem.W.kitOne K (.ref C3) (.ref C11) = some false)
    (xy_3_11 : PySem.W.kitOne K (.ref C3) (.ref CF1) = some true)
    (xy_3_12 : PySem.W.kitOne K (.ref C3) (.ref CF2) = some false)
    (xy_3_13 : PySem.W.kitOne K (.ref C3) (.type "ValueError") = some true)
    (xy_3_14 : PySem.W.kitOne K (.ref C3) (.type "RuntimeError") = some false)
    (xy_4_0 : PySem.W.kitOne K (.ref C4) (.ref C1) = some false)
    (xy_4_1 : PySem.W.kitOne K (.ref C4) (.ref C2) = some false)
    (xy_4_2 : PySem.W.kitOne K (.ref C4) (.ref C3) = some false)
    (xy_4_3 : PySem.W.kitOne K (.ref C4) (.ref C4) = some true)
    (xy_4_4 : PySem.W.kitOne K (.ref C4) (.ref C5) = some false)
    (xy_4_5 : PySem.W.kitOne K (.ref C4) (.ref C6) = some false)
    (xy_4_6 : PySem.W.kitOne K (.ref C4) (.ref C7) = some false)
    (xy_4_7 : PySem.W.kitOne K (.ref C4) (.ref C8) = some false)
    (xy_4_8 : PySem.W.kitOne K (.ref C4) (.ref C9) = some false)
    (xy_4_9 : PySem.W.kitOne K (.ref C4) (.ref C10) = some false)
    (xy_4_10 : PySem.W.kitOne K (.ref C4) (.ref C11) = some false)
    (xy_4_11 : PySem.W.kitOne K (.ref C4) (.ref CF1) = some true)
    (xy_4_12 : PySem.W.kitOne K (.ref C4) (.ref CF2) = some false)
    (xy_4_13 : PySem.W.kitOne K (.ref C4) (.type "ValueError") = some true)
    (xy_4_14 : PySem.W.kitOne K (.ref C4) (.type "RuntimeError") = some false)
    (xy_5_0 : PySem.W.kitOne K (.ref C5) (.ref C1) = some false)
    (xy_5_1 : PySem.W.kitOne K (.ref C5) (.ref C2) = some false)
    (xy_5_2 : PySem.W.kitOne K (.ref C5) (.ref C3) = some false)
    (xy_5_3 : PySem.W.kitOne K (.ref C5) (.ref C4) = some false)
    (xy_5_4 : PySem.W.kitOne K (.ref C5) (.ref C5) = some true)
    (xy_5_5 : PySem.W.kitOne K (.ref C5) (.ref C6) = some false)
    (xy_5_6 : PySem.W.kitOne K (.ref C5) (.ref C7) = some false)
    (xy_5_7 : PySem.W.kitOne K (.ref C5) (.ref C8) = some false)
    (xy_5_8 : PySem.W.kitOne K (.ref C5) (.ref C9) = some false)
    (xy_5_9 : PySem.W.kitOne K (.ref C5) (.ref C10) = some false)
    (xy_5_10 : PySem.W.kitOne K (.ref C5) (.ref C11) = some false)
    (xy_5_11 : PySem.W.kitOne K (.ref C5) (.ref CF1) = some true)
    (xy_5_12 : PySem.W.kitOne K (.ref C5) (.ref CF2) = some false)
    (xy_5_13 : PySem.W.kitOne K (.ref C5) (.type "ValueError") = some true)
    (xy_5_14 : PySem.W.kitOne K (.ref C5) (.type "RuntimeError") = some false)
    (xy_6_0 : PySem.W.kitOne K (.ref C6) (.ref C1) = some false)
    (xy_6_1 : PySem.W.kitOne K (.ref C6) (.ref C2) = some false)
    (xy_6_2 : PySem.W.kitOne K (.ref C6) (.ref C3) = some false)
    (xy_6_3 : PySem.W.kitOne K (.ref C6) (.ref C4) = some false)
    (xy_6_4 : PySem.W.kitOne K (.ref C6) (.ref C5) = some false)
    (xy_6_5 : PySem.W.kitOne K (.ref C6) (.ref C6) = some true)
    (xy_6_6 : PySem.W.kitOne K (.ref C6) (.ref C7) = some false)
    (xy_6_7 : PySem.W.kitOne K (.ref C6) (.ref C8) = some false)
    (xy_6_8 : PySem.W.kitOne K (.ref C6) (.ref C9) = some false)
    (xy_6_9 : PySem.W.kitOne K (.ref C6) (.ref C10) = some false)
    (xy_6_10 : PySem.W.kitOne K (.ref C6) (.ref C11) = some false)
    (xy_6_11 : PySem.W.kitOne K (.ref C6) (.ref CF1) = some true)
    (xy_6_12 : PySem.W.kitOne K (.ref C6) (.ref CF2) = some false)
    (xy_6_13 : PySem.W.kitOne K (.ref C6) (.type "ValueError") = some true)
    (xy_6_14 : PySem.W.kitOne K (.ref C6) (.type "RuntimeError") = some false)
    (xy_7_0 : PySem.W.kitOne K (.ref C7) (.ref C1) = some false)
    (xy_7_1 : PySem.W.kitOne K (.ref C7) (.ref C2) = some false)
    (xy_7_2 : PySem.W.kitOne K (.ref C7) (.ref C3) = some false)
    (xy_7_3 : PySem.W.kitOne K (.ref C7) (.ref C4) = some false)
    (xy_7_4 : PySem.W.kitOne K (.ref C7) (.ref C5) = some false)
    (xy_7_5 : PySem.W.kitOne K (.ref C7) (.ref C6) = some false)
    (xy_7_6 : PySem.W.kitOne K (.ref C7) (.ref C7) = some true)
    (xy_7_7 : PySem.W.kitOne K (.ref C7) (.ref C8) = some false)
    (xy_7_8 : PySem.W.kitOne K (.ref C7) (.ref C9) = some false)
    (xy_7_9 : PySem.W.kitOne K (.ref C7) (.ref C10) = some false)
    (xy_7_10 : PySem.W.kitOne K (.ref C7) (.ref C11) = some false)
    (xy_7_11 : PySem.W.kitOne K (.ref C7) (.ref CF1) = some true)
    (xy_7_12 : PySem.W.kitOne K (.ref C7) (.ref CF2) = some false)
    (xy_7_13 : PySem.W.kitOne K (.ref C7) (.type "ValueError") = some true)
    (xy_7_14 : PySem.W.kitOne K (.ref C7) (.type "RuntimeError") = some false)
    (xy_8_0 : PySem.W.kitOne K (.ref C8) (.ref C1) = some false)
    (xy_8_1 : PySem.W.kitOne K (.ref C8) (.ref C2) = some false)
    (xy_8_2 : PySem.W.kitOne K (.ref C8) (.ref C3) = some false)
    (xy_8_3 : PySem.W.kitOne K (.ref C8) (.ref C4) = some false)
    (xy_8_4 : PySem.W.kitOne K (.ref C8) (.ref C5) = some false)
    (xy_8_5 : PySem.W.kitOne K (.ref C8) (.ref C6) = some false)
    (xy_8_6 : PySem.W.kitOne K (.ref C8) (.ref C7) = some false)
    (xy_8_7 : PySem.W.kitOne K (.ref C8) (.ref C8) = some true)
    (xy_8_8 : PySem.W.kitOne K (.ref C8) (.ref C9) = some false)
    (xy_8_9 : PySem.W.kitOne K (.ref C8) (.ref C10) = some false)
    (xy_8_10 : PySem.W.kitOne K (.ref C8) (.ref C11) = some false)
    (xy_8_11 : PySem.W.kitOne K (.ref C8) (.ref CF1) = some true)
    (xy_8_12 : PySem.W.kitOne K (.ref C8) (.ref CF2) = some false)
    (xy_8_13 : PySem.W.kitOne K (.ref C8) (.type "ValueError") = some true)
    (xy_8_14 : PySem.W.kitOne K (.ref C8) (.type "RuntimeError") = some false)
    (xy_9_0 : PySem.W.kitOne K (.ref C9) (.ref C1) = some false)
    (xy_9_1 : PySem.W.kitOne K (.ref C9) (.ref C2) = some false)
    (xy_9_2 : PySem.W.kitOne K (.ref C9) (.ref C3) = some false)
    (xy_9_3 : PySem.W.kitOne K (.ref C9) (.ref C4) = some false)
    (xy_9_4 : PySem.W.kitOne K (.ref C9) (.ref C5) = some false)
    (xy_9_5 : PySem.W.kitOne K (.ref C9) (.ref C6) = some false)
    (xy_9_6 : PySem.W.kitOne K (.ref C9) (.ref C7) = some false)
    (xy_9_7 : PySem.W.kitOne K (.ref C9) (.ref C8) = some false)
    (xy_9_8 : PySem.W.kitOne K (.ref C9) (.ref C9) = some true)
    (xy_9_9 : PySem.W.kitOne K (.ref C9) (.ref C10) = some false)
    (xy_9_10 : PySem.W.kitOne K (.ref C9) (.ref C11) = some false)
    (xy_9_11 : PySem.W.kitOne K (.ref C9) (.ref CF1) = some true)
    (xy_9_12 : PySem.W.kitOne K (.ref C9) (.ref CF2) = some false)
    (xy_9_13 : PySem.W.kitOne K (.ref C9) (.type "ValueError") = some true)
    (xy_9_14 : PySem.W.kitOne K (.ref C9) (.type "RuntimeError") = some false)
    (xy_10_0 : PySem.W.kitOne K (.ref C10) (.ref C1) = some false)
    (xy_10_1 : PySem.W.kitOne K (.ref C10) (.ref C2) = some false)
    (xy_10_2 : PySem.W.kitOne K (.ref C10) (.ref C3) = some false)
    (xy_10_3 : PySem.W.kitOne K (.ref C10) (.ref C4) = some false)
    (xy_10_4 : PySem.W.kitOne K (.ref C10) (.ref C5) = some false)
    (xy_10_5 : PySem.W.kitOne K (.ref C10) (.ref C6) = some false)
    (xy_10_6 : PySem.W.kitOne K (.ref C10) (.ref C7) = some false)
    (xy_10_7 : PySem.W.kitOne K (.ref C10) (.ref C8) = some false)
    (xy_10_8 : PySem.W.kitOne K (.ref C10) (.ref C9) = some false)
    (xy_10_9 : PySem.W.kitOne K (.ref C10) (.ref C10) = some true)
    (xy_10_10 : PySem.W.kitOne K (.ref C10) (.ref C11) = some false)
    (xy_10_11 : PySem.W.kitOne K (.ref C10) (.ref CF1) = some true)
    (xy_10_12 : PySem.W.kitOne K (.ref C10) (.ref CF2) = some false)
    (xy_10_13 : PySem.W.kitOne K (.ref C10) (.type "ValueError") = some true)
    (xy_10_14 : PySem.W.kitOne K (.ref C10) (.type "RuntimeError") = some false)
    (xy_11_0 : PySem.W.kitOne K (.ref C11) (.ref C1) = some false)
    (xy_11_1 : PySem.W.kitOne K (.ref C11) (.ref C2) = some false)
    (xy_11_2 : PySem.W.kitOne K (.ref C11) (.ref C3) = some false)
    (xy_11_3 : PySem.W.kitOne K (.ref C11) (.ref C4) = some false)
    (xy_11_4 : PySem.W.kitOne K (.ref C11) (.ref C5) = some false)
    (xy_11_5 : PySem.W.kitOne K (.ref C11) (.ref C6) = some false)
    (xy_11_6 : PySem.W.kitOne K (.ref C11) (.ref C7) = some false)
    (xy_11_7 : PySem.W.kitOne K (.ref C11) (.ref C8) = some false)
    (xy_11_8 : PySem.W.kitOne K (.ref C11) (.ref C9) = some false)
    (xy_11_9 : PySem.W.kitOne K (.ref C11) (.ref C10) = some false)
    (xy_11_10 : PySem.W.kitOne K (.ref C11) (.ref C11) = some true)
    (xy_11_11 : PySem.W.kitOne K (.ref C11) (.ref CF1) = some false)
    (xy_11_12 : PySem.W.kitOne K (.ref C11) (.ref CF2) = some true)
    (xy_11_13 : PySem.W.kitOne K (.ref C11) (.type "ValueError") = some false)
    (xy_11_14 : PySem.W.kitOne K (.ref C11) (.type "RuntimeError") = some true)
    : ∃ fd : FuncData, (∀ (s : Shared) (v : Value), BindsTo s fd ⟨[v], []⟩ [("script", v)]) ∧ ∀ base : Heap, K.In base → base.Ns mainGlobals mg → GOk l.prog w K mg base 3 fa fd ["script"] (spLaw K) := by
  have e := hfa.symm.trans (PySem.W.mg_of X G a9)
  obtain rfl : f9 = fa := by cases e; rfl
  have T : Txt K mg ⟨f1, (PySem.W.fnOf "_law_begin" "_law_begin" (defArgs s__law_begin) (defBody s__law_begin) (defScope s__law_begin) .none kV1 dc1 pm1 an1 cd1 ct1), f2, (PySem.W.fnOf "_law_next" "_law_next" (defArgs s__law_next) (defBody s__law_next) (defScope s__law_next) .none kV2 dc2 pm2 an2 cd2 ct2), f3, (PySem.W.fnOf "_law_pick" "_law_pick" (defArgs s__law_pick) (defBody s__law_pick) (defScope s__law_pick) .none kV3 dc3 pm3 an3 cd3 ct3), f4, (PySem.W.fnOf "_law_things" "_law_things" (defArgs s__law_things) (defBody s__law_things) (defScope s__law_things) .none kV4 dc4 pm4 an4 cd4 ct4), f5, (PySem.W.fnOf "_law_made" "_law_made" (defArgs s__law_made) (defBody s__law_made) (defScope s__law_made) .none kV5 dc5 pm5 an5 cd5 ct5), f6, (PySem.W.fnOf "_law_named" "_law_named" (defArgs s__law_named) (defBody s__law_named) (defScope s__law_named) .none kV6 dc6 pm6 an6 cd6 ct6), f7, (PySem.W.fnOf "_law_told" "_law_told" (defArgs s__law_told) (defBody s__law_told) (defScope s__law_told) .none kV7 dc7 pm7 an7 cd7 ct7), f8, (PySem.W.fnOf "_law_kinds" "_law_kinds" (defArgs s__law_kinds) (defBody s__law_kinds) (defScope s__law_kinds) .none kV8 dc8 pm8 an8 cd8 ct8), f9, (PySem.W.fnOf "law" "law" (defArgs s_law) (defBody s_law) (defScope s_law) .none kV9 dc9 pm9 an9 cd9 ct9), C1, fI1, C2, fI2, C3, fI3, C4, fI4, C5, fI5, C6, fI6, C7, fI7, C8, fI8, C9, fI9, C10, fI10, C11, fI11, CF1, CF2⟩ := {
    b_BadRatio := { O := baseVE, T := { cls := ⟨_, _, _, _, _, _, _, _, _, _, _, _, _, _, _, xb1, rfl⟩, sa := xc1, noN := xf1, iC := xg1, tC := xh1, sup := xy1, sub := xu1, self := xv1, st := xz1, fn := ⟨_, _, _, _, _, _, _, _, _, _, _, _, _, _, _, _, _, (fun n => match n with | 1 => ⟨9, 8, 9, 13⟩ | 2 => ⟨9, 8, 9, 15⟩ | 3 => ⟨9, 8, 9, 24⟩ | 4 => ⟨9, 25, 9, 63⟩ | 5 => ⟨9, 8, 9, 64⟩ | 6 => ⟨9, 8, 9, 64⟩ | 7 => ⟨10, 8, 10, 12⟩ | 8 => ⟨10, 8, 10, 18⟩ | 9 => ⟨10, 21, 10, 26⟩ | 10 => ⟨10, 8, 10, 26⟩ | _ => ⟨0, 0, 0, 0⟩), _, _, _, _, _, xi1, xj1, xk1, xl1, xw1, xx1, (fun env => ⟨_, rfl⟩), (fun s a b => ⟨.of_eq rfl, .of_eq rfl⟩)⟩ }, gC := PySem.W.mg_of X G xa1, kC := xo1, ms := PySem.W.mg_none_of X G zsup, top := by rfl, fn := by decide }
    h_BadRatio := ⟨xd1, xe1, xp1, xr1, xf1⟩
    i_BadRatio := ⟨xs1, xd1, xe1, xp1, xca_1, xisg1, xisg2, xob_1⟩
    y_BadRatio_BadRatio := xy_1_0
    y_BadRatio_BadTable := xy_1_1
    y_BadRatio_BadWord := xy_1_2
    y_BadRatio_BadBurst := xy_1_3
    y_BadRatio_BadReceiver := xy_1_4
    y_BadRatio_BadNumber := xy_1_5
    y_BadRatio_BadPaper := xy_1_6
    y_BadRatio_BadStyle := xy_1_7
    y_BadRatio_BadRow := xy_1_8
    y_BadRatio_BadText := xy_1_9
    y_BadRatio_NothingToUndo := xy_1_10
    y_BadRatio_FrameError := xy_1_11
    y_BadRatio_StateError := xy_1_12
    y_BadRatio_ValueError := xy_1_13
    y_BadRatio_RuntimeError := xy_1_14
    b_BadTable := { O := baseVE, T := { cls := ⟨_, _, _, _, _, _, _, _, _, _, _, _, _, _, _, xb2, rfl⟩, sa := xc2, noN := xf2, iC := xg2, tC := xh2, sup := xy2, sub := xu2, self := xv2, st := xz2, fn := ⟨_, _, _, _, _, _, _, _, _, _, _, _, _, _, _, _, _, (fun n => match n with | 1 => ⟨14, 8, 14, 13⟩ | 2 => ⟨14, 8, 14, 15⟩ | 3 => ⟨14, 8, 14, 24⟩ | 4 => ⟨14, 25, 14, 66⟩ | 5 => ⟨14, 8, 14, 67⟩ | 6 => ⟨14, 8, 14, 67⟩ | 7 => ⟨15, 8, 15, 12⟩ | 8 => ⟨15, 8, 15, 17⟩ | 9 => ⟨15, 20, 15, 24⟩ | 10 => ⟨15, 8, 15, 24⟩ | _ => ⟨0, 0, 0, 0⟩), _, _, _, _, _, xi2, xj2, xk2, xl2, xw2, xx2, (fun env => ⟨_, rfl⟩), (fun s a b => ⟨.of_eq rfl, .of_eq rfl⟩)⟩ }, gC := PySem.W.mg_of X G xa2, kC := xo2, ms := PySem.W.mg_none_of X G zsup, top := by rfl, fn := by decide }
    h_BadTable := ⟨xd2, xe2, xp2, xr2, xf2⟩
    i_BadTable := ⟨xs2, xd2, xe2, xp2, xca_2, xisg1, xisg2, xob_2⟩
    y_BadTable_BadRatio := xy_2_0
    y_BadTable_BadTable := xy_2_1
    y_BadTable_BadWord := xy_2_2
    y_BadTable_BadBurst := xy_2_3
    y_BadTable_BadReceiver := xy_2_4
    y_BadTable_BadNumber := xy_2_5
    y_BadTable_BadPaper := xy_2_6
    y_BadTable_BadStyle := xy_2_7
    y_BadTable_BadRow := xy_2_8
    y_BadTable_BadText := xy_2_9
    y_BadTable_NothingToUndo := xy_2_10
    y_BadTable_FrameError := xy_2_11
    y_BadTable_StateError := xy_2_12
    y_BadTable_ValueError := xy_2_13
    y_BadTable_RuntimeError := xy_2_14
    b_BadWord := { O := baseVE, T := { cls := ⟨_, _, _, _, _, _, _, _, _, _, _, _, _, _, _, xb3, rfl⟩, sa := xc3, noN := xf3, iC := xg3, tC := xh3, sup := xy3, sub := xu3, self := xv3, st := xz3, fn := ⟨_, _, _, _, _, _, _, _, _, _, _, _, _, _, _, _, _, (fun n => match n with | 1 => ⟨19, 8, 19, 13⟩ | 2 => ⟨19, 8, 19, 15⟩ | 3 => ⟨19, 8, 19, 24⟩ | 4 => ⟨19, 25, 19, 56⟩ | 5 => ⟨19, 8, 19, 57⟩ | 6 => ⟨19, 8, 19, 57⟩ | 7 => ⟨20, 8, 20, 12⟩ | 8 => ⟨20, 8, 20, 18⟩ | 9 => ⟨20, 21, 20, 26⟩ | 10 => ⟨20, 8, 20, 26⟩ | _ => ⟨0, 0, 0, 0⟩), _, _, _, _, _, xi3, xj3, xk3, xl3, xw3, xx3, (fun env => ⟨_, rfl⟩), (fun s a b => ⟨.of_eq rfl, .of_eq rfl⟩)⟩ }, gC := PySem.W.mg_of X G xa3, kC := xo3, ms := PySem.W.mg_none_of X G zsup, top := by rfl, fn := by decide }
    h_BadWord := ⟨xd3, xe3, xp3, xr3, xf3⟩
    i_BadWord := ⟨xs3, xd3, xe3, xp3, xca_3, xisg1, xisg2, xob_3⟩
    y_BadWord_BadRatio := xy_3_0
    y_BadWord_BadTable := xy_3_1
    y_BadWord_BadWord := xy_3_2
    y_BadWord_BadBurst := xy_3_3
    y_BadWord_BadReceiver := xy_3_4
    y_BadWord_BadNumber := xy_3_5
    y_BadWord_BadPaper := xy_3_6
    y_BadWord_BadStyle := xy_3_7
    y_BadWord_BadRow := xy_3_8
    y_BadWord_BadText := xy_3_9
    y_BadWord_NothingToUndo := xy_3_10
    y_BadWord_FrameError := xy_3_11
    y_BadWord_StateError := xy_3_12
    y_BadWord_ValueError := xy_3_13
    y_BadWord_RuntimeError := xy_3_14
    b_BadBurst := { O := baseVE, T := { cls := ⟨_, _, _, _, _, _, _, _, _, _, _, _, _, _, _, xb4, rfl⟩, sa := xc4, noN := xf4, iC := xg4, tC := xh4, sup := xy4, sub := xu4, self := xv4, st := xz4, fn := ⟨_, _, _, _, _, _, _, _, _, _, _, _, _, _, _, _, _, (fun n => match n with | 1 => ⟨24, 8, 24, 13⟩ | 2 => ⟨24, 8, 24, 15⟩ | 3 => ⟨24, 8, 24, 24⟩ | 4 => ⟨24, 25, 24, 43⟩ | 5 => ⟨24, 8, 24, 44⟩ | 6 => ⟨24, 8, 24, 44⟩ | 7 => ⟨25, 8, 25, 12⟩ | 8 => ⟨25, 8, 25, 18⟩ | 9 => ⟨25, 21, 25, 26⟩ | 10 => ⟨25, 8, 25, 26⟩ | _ => ⟨0, 0, 0, 0⟩), _, _, _, _, _, xi4, xj4, xk4, xl4, xw4, xx4, (fun env => ⟨_, rfl⟩), (fun s a b => ⟨.of_eq rfl, .of_eq rfl⟩)⟩ }, gC := PySem.W.mg_of X G xa4, kC := xo4, ms := PySem.W.mg_none_of X G zsup, top := by rfl, fn := by decide }
    h_BadBurst := ⟨xd4, xe4, xp4, xr4, xf4⟩
    i_BadBurst := ⟨xs4, xd4, xe4, xp4, xca_4, xisg1, xisg2, xob_4⟩
    y_BadBurst_BadRatio := xy_4_0
    y_BadBurst_BadTable := xy_4_1
    y_BadBurst_BadWord := xy_4_2
    y_BadBurst_BadBurst := xy_4_3
    y_BadBurst_BadReceiver := xy_4_4
    y_BadBurst_BadNumber := xy_4_5
    y_BadBurst_BadPaper := xy_4_6
    y_BadBurst_BadStyle := xy_4_7
    y_BadBurst_BadRow := xy_4_8
    y_BadBurst_BadText := xy_4_9
    y_BadBurst_NothingToUndo := xy_4_10
    y_BadBurst_FrameError := xy_4_11
    y_BadBurst_StateError := xy_4_12
    y_BadBurst_ValueError := xy_4_13
    y_BadBurst_RuntimeError := xy_4_14
    b_BadReceiver := { O := baseVE, T := { cls := ⟨_, _, _, _, _, _, _, _, _, _, _, _, _, _, _, xb5, rfl⟩, sa := xc5, noN := xf5, iC := xg5, tC := xh5, sup := xy5, sub := xu5, self := xv5, st := xz5, fn := ⟨_, _, _, _, _, _, _, _, _, _, _, _, _, _, _, _, _, (fun n => match n with | 1 => ⟨29, 8, 29, 13⟩ | 2 => ⟨29, 8, 29, 15⟩ | 3 => ⟨29, 8, 29, 24⟩ | 4 => ⟨29, 25, 29, 59⟩ | 5 => ⟨29, 8, 29, 60⟩ | 6 => ⟨29, 8, 29, 60⟩ | 7 => ⟨30, 8, 30, 12⟩ | 8 => ⟨30, 8, 30, 18⟩ | 9 => ⟨30, 21, 30, 26⟩ | 10 => ⟨30, 8, 30, 26⟩ | _ => ⟨0, 0, 0, 0⟩), _, _, _, _, _, xi5, xj5, xk5, xl5, xw5, xx5, (fun env => ⟨_, rfl⟩), (fun s a b => ⟨.of_eq rfl, .of_eq rfl⟩)⟩ }, gC := PySem.W.mg_of X G xa5, kC := xo5, ms := PySem.W.mg_none_of X G zsup, top := by rfl, fn := by decide }
    h_BadReceiver := ⟨xd5, xe5, xp5, xr5, xf5⟩
    i_BadReceiver := ⟨xs5, xd5, xe5, xp5, xca_5, xisg1, xisg2, xob_5⟩
    y_BadReceiver_BadRatio := xy_5_0
    y_BadReceiver_BadTable := xy_5_1
    y_BadReceiver_BadWord := xy_5_2
    y_BadReceiver_BadBurst := xy_5_3
    y_BadReceiver_BadReceiver := xy_5_4
    y_BadReceiver_BadNumber := xy_5_5
    y_BadReceiver_BadPaper := xy_5_6
    y_BadReceiver_BadStyle := xy_5_7
    y_BadReceiver_BadRow := xy_5_8
    y_BadReceiver_BadText := xy_5_9
    y_BadReceiver_NothingToUndo := xy_5_10
    y_BadReceiver_FrameError := xy_5_11
    y_BadReceiver_StateError := xy_5_12
    y_BadReceiver_ValueError := xy_5_13
    y_BadReceiver_RuntimeError := xy_5_14
    b_BadNumber := { O := baseVE, T := { cls := ⟨_, _, _, _, _, _, _, _, _, _, _, _, _, _, _, xb6, rfl⟩, sa := xc6, noN := xf6, iC := xg6, tC := xh6, sup := xy6, sub := xu6, self := xv6, st := xz6, fn := ⟨_, _, _, _, _, _, _, _, _, _, _, _, _, _, _, _, _, (fun n => match n with | 1 => ⟨34, 8, 34, 13⟩ | 2 => ⟨34, 8, 34, 15⟩ | 3 => ⟨34, 8, 34, 24⟩ | 4 => ⟨34, 25, 34, 64⟩ | 5 => ⟨34, 8, 34, 65⟩ | 6 => ⟨34, 8, 34, 65⟩ | 7 => ⟨35, 8, 35, 12⟩ | 8 => ⟨35, 8, 35, 18⟩ | 9 => ⟨35, 21, 35, 26⟩ | 10 => ⟨35, 8, 35, 26⟩ | _ => ⟨0, 0, 0, 0⟩), _, _, _, _, _, xi6, xj6, xk6, xl6, xw6, xx6, (fun env => ⟨_, rfl⟩), (fun s a b => ⟨.of_eq rfl, .of_eq rfl⟩)⟩ }, gC := PySem.W.mg_of X G xa6, kC := xo6, ms := PySem.W.mg_none_of X G zsup, top := by rfl, fn := by decide }
    h_BadNumber := ⟨xd6, xe6, xp6, xr6, xf6⟩
    i_BadNumber := ⟨xs6, xd6, xe6, xp6, xca_6, xisg1, xisg2, xob_6⟩
    y_BadNumber_BadRatio := xy_6_0
    y_BadNumber_BadTable := xy_6_1
    y_BadNumber_BadWord := xy_6_2
    y_BadNumber_BadBurst := xy_6_3
    y_BadNumber_BadReceiver := xy_6_4
    y_BadNumber_BadNumber := xy_6_5
    y_BadNumber_BadPaper := xy_6_6
    y_BadNumber_BadStyle := xy_6_7
    y_BadNumber_BadRow := xy_6_8
    y_BadNumber_BadText := xy_6_9
    y_BadNumber_NothingToUndo := xy_6_10
    y_BadNumber_FrameError := xy_6_11
    y_BadNumber_StateError := xy_6_12
    y_BadNumber_ValueError := xy_6_13
    y_BadNumber_RuntimeError := xy_6_14
    b_BadPaper := { O := baseVE, T := { cls := ⟨_, _, _, _, _, _, _, _, _, _, _, _, _, _, _, xb7, rfl⟩, sa := xc7, noN := xf7, iC := xg7, tC := xh7, sup := xy7, sub := xu7, self := xv7, st := xz7, fn := ⟨_, _, _, _, _, _, _, _, _, _, _, _, _, _, _, _, _, (fun n => match n with | 1 => ⟨39, 8, 39, 13⟩ | 2 => ⟨39, 8, 39, 15⟩ | 3 => ⟨39, 8, 39, 24⟩ | 4 => ⟨39, 25, 39, 60⟩ | 5 => ⟨39, 8, 39, 61⟩ | 6 => ⟨39, 8, 39, 61⟩ | 7 => ⟨40, 8, 40, 12⟩ | 8 => ⟨40, 8, 40, 17⟩ | 9 => ⟨40, 20, 40, 24⟩ | 10 => ⟨40, 8, 40, 24⟩ | _ => ⟨0, 0, 0, 0⟩), _, _, _, _, _, xi7, xj7, xk7, xl7, xw7, xx7, (fun env => ⟨_, rfl⟩), (fun s a b => ⟨.of_eq rfl, .of_eq rfl⟩)⟩ }, gC := PySem.W.mg_of X G xa7, kC := xo7, ms := PySem.W.mg_none_of X G zsup, top := by rfl, fn := by decide }
    h_BadPaper := ⟨xd7, xe7, xp7, xr7, xf7⟩
    i_BadPaper := ⟨xs7, xd7, xe7, xp7, xca_7, xisg1, xisg2, xob_7⟩
    y_BadPaper_BadRatio := xy_7_0
    y_BadPaper_BadTable := xy_7_1
    y_BadPaper_BadWord := xy_7_2
    y_BadPaper_BadBurst := xy_7_3
    y_BadPaper_BadReceiver := xy_7_4
    y_BadPaper_BadNumber := xy_7_5
    y_BadPaper_BadPaper := xy_7_6
    y_BadPaper_BadStyle := xy_7_7
    y_BadPaper_BadRow := xy_7_8
    y_BadPaper_BadText := xy_7_9
    y_BadPaper_NothingToUndo := xy_7_10
    y_BadPaper_FrameError := xy_7_11
    y_BadPaper_StateError := xy_7_12
    y_BadPaper_ValueError := xy_7_13
    y_BadPaper_RuntimeError := xy_7_14
    b_BadStyle := { O := baseVE, T := { cls := ⟨_, _, _, _, _, _, _, _, _, _, _, _, _, _, _, xb8, rfl⟩, sa := xc8, noN := xf8, iC := xg8, tC := xh8, sup := xy8, sub := xu8, self := xv8, st := xz8, fn := ⟨_, _, _, _, _, _, _, _, _, _, _, _, _, _, _, _, _, (fun n => match n with | 1 => ⟨44, 8, 44, 13⟩ | 2 => ⟨44, 8, 44, 15⟩ | 3 => ⟨44, 8, 44, 24⟩ | 4 => ⟨44, 25, 44, 43⟩ | 5 => ⟨44, 8, 44, 44⟩ | 6 => ⟨44, 8, 44, 44⟩ | 7 => ⟨45, 8, 45, 12⟩ | 8 => ⟨45, 8, 45, 18⟩ | 9 => ⟨45, 21, 45, 26⟩ | 10 => ⟨45, 8, 45, 26⟩ | _ => ⟨0, 0, 0, 0⟩), _, _, _, _, _, xi8, xj8, xk8, xl8, xw8, xx8, (fun env => ⟨_, rfl⟩), (fun s a b => ⟨.of_eq rfl, .of_eq rfl⟩)⟩ }, gC := PySem.W.mg_of X G xa8, kC := xo8, ms := PySem.W.mg_none_of X G zsup, top := by rfl, fn := by decide }
    h_BadStyle := ⟨xd8, xe8, xp8, xr8, xf8⟩
    i_BadStyle := ⟨xs8, xd8, xe8, xp8, xca_8, xisg1, xisg2, xob_8⟩
    y_BadStyle_BadRatio := xy_8_0
    y_BadStyle_BadTable := xy_8_1
    y_BadStyle_BadWord := xy_8_2
    y_BadStyle_BadBurst := xy_8_3
    y_BadStyle_BadReceiver := xy_8_4
    y_BadStyle_BadNumber := xy_8_5
    y_BadStyle_BadPaper := xy_8_6
    y_BadStyle_BadStyle := xy_8_7
    y_BadStyle_BadRow := xy_8_8
    y_BadStyle_BadText := xy_8_9
    y_BadStyle_NothingToUndo := xy_8_10
    y_BadStyle_FrameError := xy_8_11
    y_BadStyle_StateError := xy_8_12
    y_BadStyle_ValueError := xy_8_13
    y_BadStyle_RuntimeError := xy_8_14
    b_BadRow := { O := baseVE, T := { cls := ⟨_, _, _, _, _, _, _, _, _, _, _, _, _, _, _, xb9, rfl⟩, sa := xc9, noN := xf9, iC := xg9, tC := xh9, sup := xy9, sub := xu9, self := xv9, st := xz9, fn := ⟨_, _, _, _, _, _, _, _, _, _, _, _, _, _, _, _, _, (fun n => match n with | 1 => ⟨49, 8, 49, 13⟩ | 2 => ⟨49, 8, 49, 15⟩ | 3 => ⟨49, 8, 49, 24⟩ | 4 => ⟨49, 25, 49, 54⟩ | 5 => ⟨49, 8, 49, 55⟩ | 6 => ⟨49, 8, 49, 55⟩ | 7 => ⟨50, 8, 50, 12⟩ | 8 => ⟨50, 8, 50, 19⟩ | 9 => ⟨50, 22, 50, 28⟩ | 10 => ⟨50, 8, 50, 28⟩ | _ => ⟨0, 0, 0, 0⟩), _, _, _, _, _, xi9, xj9, xk9, xl9, xw9, xx9, (fun env => ⟨_, rfl⟩), (fun s a b => ⟨.of_eq rfl, .of_eq rfl⟩)⟩ }, gC := PySem.W.mg_of X G xa9, kC := xo9, ms := PySem.W.mg_none_of X G zsup, top := by rfl, fn := by decide }
    h_BadRow := ⟨xd9, xe9, xp9, xr9, xf9⟩
    i_BadRow := ⟨xs9, xd9, xe9, xp9, xca_9, xisg1, xisg2, xob_9⟩
    y_BadRow_BadRatio := xy_9_0
    y_BadRow_BadTable := xy_9_1
    y_BadRow_BadWord := xy_9_2
    y_BadRow_BadBurst := xy_9_3
    y_BadRow_BadReceiver := xy_9_4
    y_BadRow_BadNumber := xy_9_5
    y_BadRow_BadPaper := xy_9_6
    y_BadRow_BadStyle := xy_9_7
    y_BadRow_BadRow := xy_9_8
    y_BadRow_BadText := xy_9_9
    y_BadRow_NothingToUndo := xy_9_10
    y_BadRow_FrameError := xy_9_11
    y_BadRow_StateError := xy_9_12
    y_BadRow_ValueError := xy_9_13
    y_BadRow_RuntimeError := xy_9_14
    b_BadText := { O := baseVE, T := { cls := ⟨_, _, _, _, _, _, _, _, _, _, _, _, _, _, _, xb10, rfl⟩, sa := xc10, noN := xf10, iC := xg10, tC := xh10, sup := xy10, sub := xu10, self := xv10, st := xz10, fn := ⟨_, _, _, _, _, _, _, _, _, _, _, _, _, _, _, _, _, (fun n => match n with | 1 => ⟨54, 8, 54, 13⟩ | 2 => ⟨54, 8, 54, 15⟩ | 3 => ⟨54, 8, 54, 24⟩ | 4 => ⟨54, 25, 54, 79⟩ | 5 => ⟨54, 8, 54, 80⟩ | 6 => ⟨54, 8, 54, 80⟩ | 7 => ⟨55, 8, 55, 12⟩ | 8 => ⟨55, 8, 55, 17⟩ | 9 => ⟨55, 20, 55, 24⟩ | 10 => ⟨55, 8, 55, 24⟩ | _ => ⟨0, 0, 0, 0⟩), _, _, _, _, _, xi10, xj10, xk10, xl10, xw10, xx10, (fun env => ⟨_, rfl⟩), (fun s a b => ⟨.of_eq rfl, .of_eq rfl⟩)⟩ }, gC := PySem.W.mg_of X G xa10, kC := xo10, ms := PySem.W.mg_none_of X G zsup, top := by rfl, fn := by decide }
    h_BadText := ⟨xd10, xe10, xp10, xr10, xf10⟩
    i_BadText := ⟨xs10, xd10, xe10, xp10, xca_10, xisg1, xisg2, xob_10⟩
    y_BadText_BadRatio := xy_10_0
    y_BadText_BadTable := xy_10_1
    y_BadText_BadWord := xy_10_2
    y_BadText_BadBurst := xy_10_3
    y_BadText_BadReceiver := xy_10_4
    y_BadText_BadNumber := xy_10_5
    y_BadText_BadPaper := xy_10_6
    y_BadText_BadStyle := xy_10_7
    y_BadText_BadRow := xy_10_8
    y_BadText_BadText := xy_10_9
    y_BadText_NothingToUndo := xy_10_10
    y_BadText_FrameError := xy_10_11
    y_BadText_StateError := xy_10_12
    y_BadText_ValueError := xy_10_13
    y_BadText_RuntimeError := xy_10_14
    b_NothingToUndo := { O := baseRE, T := { cls := ⟨_, _, _, _, _, _, _, _, _, _, _, _, _, _, _, xb11, rfl⟩, sa := xc11, noN := xf11, iC := xg11, tC := xh11, sup := xy11, sub := xu11, self := xv11, st := xz11, fn := ⟨_, _, _, _, _, _, _, _, _, _, _, _, _, _, _, _, _, (fun n => match n with | 1 => ⟨59, 8, 59, 13⟩ | 2 => ⟨59, 8, 59, 15⟩ | 3 => ⟨59, 8, 59, 24⟩ | 4 => ⟨59, 25, 59, 69⟩ | 5 => ⟨59, 8, 59, 70⟩ | 6 => ⟨59, 8, 59, 70⟩ | 7 => ⟨60, 8, 60, 12⟩ | 8 => ⟨60, 8, 60, 18⟩ | 9 => ⟨60, 21, 60, 26⟩ | 10 => ⟨60, 8, 60, 26⟩ | _ => ⟨0, 0, 0, 0⟩), _, _, _, _, _, xi11, xj11, xk11, xl11, xw11, xx11, (fun env => ⟨_, rfl⟩), (fun s a b => ⟨.of_eq rfl, .of_eq rfl⟩)⟩ }, gC := PySem.W.mg_of X G xa11, kC := xo11, ms := PySem.W.mg_none_of X G zsup, top := by rfl, fn := by decide }
    h_NothingToUndo := ⟨xd11, xe11, xp11, xr11, xf11⟩
    i_NothingToUndo := ⟨xs11, xd11, xe11, xp11, xca_11, xisg1, xisg2, xob_11⟩
    y_NothingToUndo_BadRatio := xy_11_0
    y_NothingToUndo_BadTable := xy_11_1
    y_NothingToUndo_BadWord := xy_11_2
    y_NothingToUndo_BadBurst := xy_11_3
    y_NothingToUndo_BadReceiver := xy_11_4
    y_NothingToUndo_BadNumber := xy_11_5
    y_NothingToUndo_BadPaper := xy_11_6
    y_NothingToUndo_BadStyle := xy_11_7
    y_NothingToUndo_BadRow := xy_11_8
    y_NothingToUndo_BadText := xy_11_9
    y_NothingToUndo_NothingToUndo := xy_11_10
    y_NothingToUndo_FrameError := xy_11_11
    y_NothingToUndo_StateError := xy_11_12
    y_NothingToUndo_ValueError := xy_11_13
    y_NothingToUndo_RuntimeError := xy_11_14
    f__law_begin := ⟨fun_mk (st := s__law_begin) l1 c1 k1, PySem.W.mg_of X G a1, fun s us hl => match us, hl with | [_], _ => .of_eq rfl⟩
    f__law_next := ⟨fun_mk (st := s__law_next) l2 c2 k2, PySem.W.mg_of X G a2, fun s us hl => match us, hl with | [_, _], _ => .of_eq rfl⟩
    f__law_pick := ⟨fun_mk (st := s__law_pick) l3 c3 k3, PySem.W.mg_of X G a3, fun s us hl => match us, hl with | [_, _], _ => .of_eq rfl⟩
    f__law_things := ⟨fun_mk (st := s__law_things) l4 c4 k4, PySem.W.mg_of X G a4, fun s us hl => match us, hl with | [], _ => .of_eq rfl⟩
    f__law_made := ⟨fun_mk (st := s__law_made) l5 c5 k5, PySem.W.mg_of X G a5, fun s us hl => match us, hl with | [_], _ => .of_eq rfl⟩
    f__law_named := ⟨fun_mk (st := s__law_named) l6 c6 k6, PySem.W.mg_of X G a6, fun s us hl => match us, hl with | [_], _ => .of_eq rfl⟩
    f__law_told := ⟨fun_mk (st := s__law_told) l7 c7 k7, PySem.W.mg_of X G a7, fun s us hl => match us, hl with | [_], _ => .of_eq rfl⟩
    f__law_kinds := ⟨fun_mk (st := s__law_kinds) l8 c8 k8, PySem.W.mg_of X G a8, fun s us hl => match us, hl with | [_], _ => .of_eq rfl⟩
    f_law := ⟨fun_mk (st := s_law) l9 c9 k9, PySem.W.mg_of X G a9, fun s us hl => match us, hl with | [_], _ => .of_eq rfl⟩
    p_FrameError := PySem.W.mg_of X G xpl1
    p_StateError := PySem.W.mg_of X G xpl2
    m_RuntimeError := PySem.W.mg_none_of X G z1
    m_ValueError := PySem.W.mg_none_of X G z2
    m_enumerate := PySem.W.mg_none_of X G z3
    m_isinstance := PySem.W.mg_none_of X G z4
    m_len := PySem.W.mg_none_of X G z5
    m_range := PySem.W.mg_none_of X G z6
    m_repr := PySem.W.mg_none_of X G z7
  }
  refine ⟨(PySem.W.fnOf "law" "law" (defArgs s_law) (defBody s_law) (defScope s_law) .none kV9 dc9 pm9 an9 cd9 ct9), fun s v => .of_eq rfl, fun base _ _ => ?_⟩
  rw [hl]
  exact ok_law T
end Bf
theorem PySem.W.Fast.tw17852263112427559551 : True := trivial
theorem PySem.W.Fast.tw13733600264253683523 : True := trivial
theorem PySem.W.Fast.tw214873004076614967 : True := trivial
theorem PySem.W.Fast.tw2317583698107801886 : True := trivial
theorem PySem.W.Fast.tw6368875135090744081 : True := trivial
theorem PySem.W.Fast.tw5357216619592381851 : True := trivial
theorem PySem.W.Fast.tw385624790909153292 : True := trivial
theorem PySem.W.Fast.tw8494101919052953325 : True := trivial
theorem PySem.W.Fast.tw12783646251040621028 : True := trivial
theorem PySem.W.Fast.tw513354876054850127 : True := trivial
theorem PySem.W.Fast.tw10727898587125454059 : True := trivial
theorem PySem.W.Fast.tw10804275569406594826 : True := trivial
theorem PySem.W.Fast.tw6773552081965300408 : True := trivial
theorem PySem.W.Fast.tw1066211398316746891 : True := trivial
theorem PySem.W.Fast.tw4330715272954225609 : True := trivial
theorem PySem.W.Fast.tw1902847033844487164 : True := trivial
theorem PySem.W.Fast.tw5070031718337587923 : True := trivial
theorem PySem.W.Fast.tw5611729653549459139 : True := trivial
theorem PySem.W.Fast.tw11334163660372027375 : True := trivial
theorem PySem.W.Fast.tw7868412701332448664 : True := trivial
theorem PySem.W.Fast.tw17378380175165651505 : True := trivial
theorem PySem.W.Fast.tw11362228470846930151 : True := trivial
theorem PySem.W.Fast.tw8739071534670068018 : True := trivial
theorem PySem.W.Fast.tw15627517713144424891 : True := trivial
theorem PySem.W.Fast.tw3135174733894957450 : True := trivial
theorem PySem.W.Fast.tw10064312664248111810 : True := trivial
theorem PySem.W.Fast.tw2865745853438492788 : True := trivial
theorem PySem.W.Fast.tw7712490267851834850 : True := trivial
theorem PySem.W.Fast.tw17350644564198309271 : True := trivial
theorem PySem.W.Fast.tw12986414535511882788 : True := trivial
theorem PySem.W.Fast.tw10030046232032858450 : True := trivial
theorem PySem.W.Fast.tw10736574922125247069 : True := trivial
theorem PySem.W.Fast.tw8191342197816104425 : True := trivial
theorem PySem.W.Fast.tw16401791607775913930 : True := trivial
theorem PySem.W.Fast.tw8134415185011169992 : True := trivial
theorem PySem.W.Fast.tw17367114196538504911 : True := trivial
theorem PySem.W.Fast.tw5454420859974887761 : True := trivial
theorem PySem.W.Fast.tw6259588969185769490 : True := trivial
theorem PySem.W.Fast.tw11511887188846594927 : True := trivial
theorem PySem.W.Fast.tw11617102664353546570 : True := trivial
theorem PySem.W.Fast.tw17318610230156029033 : True := trivial
theorem PySem.W.Fast.tw11188470998457710701 : True := trivial
theorem PySem.W.Fast.tw5398964409631383901 : True := trivial
theorem PySem.W.Fast.tw4800983633583390322 : True := trivial
theorem PySem.W.Fast.tw1462529932577291792 : True := trivial
theorem PySem.W.Fast.tw16986977494634828327 : True := trivial
theorem PySem.W.Fast.tw14100761869770899952 : True := trivial
theorem PySem.W.Fast.tw17772612146927763224 : True := trivial
theorem PySem.W.Fast.tw7842650724086405103 : True := trivial
theorem PySem.W.Fast.tw2157522292179865031 : True := trivial
theorem PySem.W.Fast.tw7809197344374869655 : True := trivial
theorem PySem.W.Fast.tw4131898252774038731 : True := trivial
theorem PySem.W.Fast.tw15733306880059610551 : True := trivial
theorem PySem.W.Fast.tw16591550699972415562 : True := trivial
theorem PySem.W.Fast.tw14255295978359601114 : True := trivial
theorem PySem.W.Fast.tw4613724006498166711 : True := trivial
theorem PySem.W.Fast.tw14546572811821890770 : True := trivial
theorem PySem.W.Fast.tw12023466941523023293 : True := trivial
theorem PySem.W.Fast.tw5817030966903844905 : True := trivial
theorem PySem.W.Fast.tw7719549485822071170 : True := trivial
theorem PySem.W.Fast.tw7647413539554955494 : True := trivial
theorem PySem.W.Fast.tw17547443441832765305 : True := trivial
theorem PySem.W.Fast.tw15010653714918052546 : True := trivial
theorem PySem.W.Fast.tw16665294097529340231 : True := trivial
theorem PySem.W.Fast.tw10454380819028027067 : True := trivial
theorem PySem.W.Fast.tw11112741052902487476 : True := trivial
theorem PySem.W.Fast.tw9339417924162071097 : True := trivial
theorem PySem.W.Fast.tw13482634146562129446 : True := trivial
theorem PySem.W.Fast.tw16359234807530646853 : True := trivial
theorem PySem.W.Fast.tw6306336973465404698 : True := trivial
theorem PySem.W.Fast.tw14007402788241725052 : True := trivial
theorem PySem.W.Fast.tw3480273196651749686 : True := trivial
theorem PySem.W.Fast.tw10953674988129409848 : True := trivial
theorem PySem.W.Fast.tw16513900984192674285 : True := trivial
theorem PySem.W.Fast.tw6593342572760305044 : True := trivial
theorem PySem.W.Fast.tw4513293306360431441 : True := trivial
theorem PySem.W.Fast.tw4149875402219126284 : True := trivial
theorem PySem.W.Fast.tw9514384867406114896 : True := trivial
theorem PySem.W.Fast.tw8862949147398116164 : True := trivial
theorem PySem.W.Fast.tw8250936945783406158 : True := trivial
theorem PySem.W.Fast.tw4306483794620176879 : True := trivial
theorem PySem.W.Fast.tw13126209315355515948 : True := trivial
theorem PySem.W.Fast.tw2639664079847621342 : True := trivial
theorem PySem.W.Fast.tw2797030015495309869 : True := trivial
theorem PySem.W.Fast.tw14273003464977154577 : True := trivial
theorem PySem.W.Fast.tw18220422330167970317 : True := trivial
theorem PySem.W.Fast.tw17667463839804239150 : True := trivial
theorem PySem.W.Fast.tw1705408755281410750 : True := trivial
theorem PySem.W.Fast.tw2517741389383743339 : True := trivial
theorem PySem.W.Fast.tw4951774915552332949 : True := trivial
theorem PySem.W.Fast.tw8580212176159638782 : True := trivial
theorem PySem.W.Fast.tw16794780240317205019 : True := trivial
theorem PySem.W.Fast.tw7444272209126707252 : True := trivial
theorem PySem.W.Fast.tw14001746871129822656 : True := trivial
theorem PySem.W.Fast.tw10234182210057470313 : True := trivial
theorem PySem.W.Fast.tw8922055783823251433 : True := trivial
theorem PySem.W.Fast.tw4780587004202913148 : True := trivial
theorem PySem.W.Fast.tw4120199635852894239 : True := trivial
theorem PySem.W.Fast.tw15147904731967001648 : True := trivial
theorem PySem.W.Fast.tw8247815538889355444 : True := trivial
theorem PySem.W.Fast.tw2883681220395965175 : True := trivial
theorem PySem.W.Fast.tw4353608425677622796 : True := trivial
theorem PySem.W.Fast.tw5248575732324815751 : True := trivial
theorem PySem.W.Fast.tw494172759616513822 : True := trivial
theorem PySem.W.Fast.tw11136813114251172578 : True := trivial
theorem PySem.W.Fast.tw6730423798411439134 : True := trivial
theorem PySem.W.Fast.tw14664901677185582112 : True := trivial
theorem PySem.W.Fast.tw7830722222250484328 : True := trivial
theorem PySem.W.Fast.tw6283667058362098185 : True := trivial
theorem PySem.W.Fast.tw14613204735266931089 : True := trivial
theorem PySem.W.Fast.tw16802941000520002249 : True := trivial
theorem PySem.W.Fast.tw9593041406502813340 : True := trivial
theorem PySem.W.Fast.tw6444055869242594723 : True := trivial
theorem PySem.W.Fast.tw6356432580789534450 : True := trivial
theorem PySem.W.Fast.tw6435485415332227359 : True := trivial
theorem PySem.W.Fast.tw5600411527841810102 : True := trivial
theorem PySem.W.Fast.tw4621100069104192520 : True := trivial
theorem PySem.W.Fast.tw9720568335410479988 : True := trivial
theorem PySem.W.Fast.tw15260672883951531469 : True := trivial
theorem PySem.W.Fast.tw5421468177996530069 : True := trivial
theorem PySem.W.Fast.tw1064059927152893628 : True := trivial
theorem PySem.W.Fast.tw4352576195304916506 : True := trivial
theorem PySem.W.Fast.tw14000096796079139988 : True := trivial
theorem PySem.W.Fast.tw11077179458678447992 : True := trivial
theorem PySem.W.Fast.tw13854487321218195397 : True := trivial
theorem PySem.W.Fast.tw874737018532604786 : True := trivial
theorem PySem.W.Fast.tw7665577218104488613 : True := trivial
theorem PySem.W.Fast.tw9741818248935633331 : True := trivial
theorem PySem.W.Fast.tw6566019149002359669 : True := trivial
theorem PySem.W.Fast.tw99088929589055742 : True := trivial
theorem PySem.W.Fast.tw3541197237455645264 : True := trivial
theorem PySem.W.Fast.tw14620486130142277496 : True := trivial
theorem PySem.W.Fast.tw9430584585622280335 : True := trivial
theorem PySem.W.Fast.tw9325088435345216495 : True := trivial
theorem PySem.W.Fast.tw11237895803401629705 : True := trivial
theorem PySem.W.Fast.tw14141737729459438243 : True := trivial
theorem PySem.W.Fast.tw7431693398028378192 : True := trivial
theorem PySem.W.Fast.tw5405376258639478449 : True := trivial
theorem PySem.W.Fast.tw16396364224793658608 : True := trivial
theorem PySem.W.Fast.tw3950100738337033129 : True := trivial
theorem PySem.W.Fast.tw16998780157119447694 : True := trivial
theorem PySem.W.Fast.tw844642284366826090 : True := trivial
theorem PySem.W.Fast.tw606340922144437834 : True := trivial
theorem PySem.W.Fast.tw10724076018008067309 : True := trivial
theorem PySem.W.Fast.tw9155750995733927659 : True := trivial
theorem PySem.W.Fast.tw7835824757907894264 : True := trivial
theorem PySem.W.Fast.tw12996649657635214568 : True := trivial
theorem PySem.W.Fast.tw10142371350520525043 : True := trivial
theorem PySem.W.Fast.tw4186531687585481867 : True := trivial
theorem PySem.W.Fast.tw11101655146295126363 : True := trivial
theorem PySem.W.Fast.tw16547029936891250733 : True := trivial
theorem PySem.W.Fast.tw15133248705022126570 : True := trivial
theorem PySem.W.Fast.tw6445985519251657605 : True := trivial
theorem PySem.W.Fast.tw4955236844854403905 : True := trivial
theorem PySem.W.Fast.tw6674101591778874091 : True := trivial
theorem PySem.W.Fast.tw1711639058430217121 : True := trivial
theorem PySem.W.Fast.tw14719280810267070441 : True := trivial
theorem PySem.W.Fast.tw6046460272433594311 : True := trivial
theorem PySem.W.Fast.tw6657396578069141898 : True := trivial
theorem PySem.W.Fast.tw18149125788949645892 : True := trivial
theorem PySem.W.Fast.tw3510851788893308126 : True := trivial
theorem PySem.W.Fast.tw2888308738498965226 : True := trivial
theorem PySem.W.Fast.tw18034278584594376669 : True := trivial
theorem PySem.W.Fast.tw10349036664960036457 : True := trivial
theorem PySem.W.Fast.tw6405283333049229578 : True := trivial
theorem PySem.W.Fast.tw15692257902082265089 : True := trivial
theorem PySem.W.Fast.tw16241445844349856885 : True := trivial
theorem PySem.W.Fast.tw4003453015562624357 : True := trivial
theorem PySem.W.Fast.tw7666451585963794026 : True := trivial
theorem PySem.W.Fast.tw16545354336272339473 : True := trivial
theorem PySem.W.Fast.tw8057941003799720216 : True := trivial
theorem PySem.W.Fast.tw4628153727234911269 : True := trivial
theorem PySem.W.Fast.tw15206006321135242251 : True := trivial
theorem PySem.W.Fast.tw17445210997755004659 : True := trivial
theorem PySem.W.Fast.tw5742185624421419679 : True := trivial
theorem PySem.W.Fast.tw2784684235796639509 : True := trivial
theorem PySem.W.Fast.tw14568118572182302811 : True := trivial
theorem PySem.W.Fast.tw8408824438333629176 : True := trivial
theorem PySem.W.Fast.tw13421667382224590491 : True := trivial
theorem PySem.W.Fast.tw14431923557236783304 : True := trivial
theorem PySem.W.Fast.tw4682204413417338506 : True := trivial
theorem PySem.W.Fast.tw7534577215398731808 : True := trivial
theorem PySem.W.Fast.tw2794494664883169732 : True := trivial
theorem PySem.W.Fast.tw9954059145901152763 : True := trivial
theorem PySem.W.Fast.tw13551245821071406415 : True := trivial
theorem PySem.W.Fast.tw7156196016562890366 : True := trivial
theorem PySem.W.Fast.tw5877096891805571172 : True := trivial
theorem PySem.W.Fast.tw1375644495861485027 : True := trivial
theorem PySem.W.Fast.tw2063291192900661444 : True := trivial
theorem PySem.W.Fast.tw8125611000198292328 : True := trivial
theorem PySem.W.Fast.tw8681924410584758334 : True := trivial
theorem PySem.W.Fast.tw16231886865369799891 : True := trivial
theorem PySem.W.Fast.tw5416417552970703199 : True := trivial
theorem PySem.W.Fast.tw1242711843288976921 : True := trivial
theorem PySem.W.Fast.tw5486586921717180790 : True := trivial
theorem PySem.W.Fast.tw1414511664729223052 : True := trivial
theorem PySem.W.Fast.tw12756229522691184507 : True := trivial
theorem PySem.W.Fast.tw1511946138797353034 : True := trivial
theorem PySem.W.Fast.tw320905115764744256 : True := trivial
theorem PySem.W.Fast.tw8710484934803654444 : True := trivial
theorem PySem.W.Fast.tw9271038210827357741 : True := trivial
theorem PySem.W.Fast.tw4585277712803798037 : True := trivial
theorem PySem.W.Fast.tw14328932820640364611 : True := trivial
theorem PySem.W.Fast.tw9921795023944606853 : True := trivial
theorem PySem.W.Fast.tw5394135426976807024 : True := trivial
theorem PySem.W.Fast.tw355649022244792239 : True := trivial
theorem PySem.W.Fast.tw9842814268843921918 : True := trivial
theorem PySem.W.Fast.tw13713006511085868657 : True := trivial
theorem PySem.W.Fast.tw9567610293877347385 : True := trivial
theorem PySem.W.Fast.tw6183798348353619447 : True := trivial
theorem PySem.W.Fast.tw5070574212290010347 : True := trivial
theorem PySem.W.Fast.tw11236288724949875538 : True := trivial
theorem PySem.W.Fast.tw10072774237571565546 : True := trivial
theorem PySem.W.Fast.tw5516702316943997674 : True := trivial
theorem PySem.W.Fast.tw13711599030791749840 : True := trivial
theorem PySem.W.Fast.tw12922791104095865548 : True := trivial
theorem PySem.W.Fast.tw9638321778315984268 : True := trivial
theorem PySem.W.Fast.tw11623142358481189962 : True := trivial
theorem PySem.W.Fast.tw15093929297580519734 : True := trivial
theorem PySem.W.Fast.tw15959530250968246044 : True := trivial
theorem PySem.W.Fast.tw2809921979520395967 : True := trivial
theorem PySem.W.Fast.tw550921925034498889 : True := trivial
theorem PySem.W.Fast.tw14020149767398748779 : True := trivial
theorem PySem.W.Fast.tw1156683284008460275 : True := trivial
theorem PySem.W.Fast.tw6257445378194460243 : True := trivial
theorem PySem.W.Fast.tw8279757313741948452 : True := trivial
theorem PySem.W.Fast.tw11751256541509374531 : True := trivial
theorem PySem.W.Fast.tw5179162515322112228 : True := trivial
theorem PySem.W.Fast.tw17635286385086309600 : True := trivial
theorem PySem.W.Fast.tw4206630669043308163 : True := trivial
theorem PySem.W.Fast.tw11187369483911045869 : True := trivial
theorem PySem.W.Fast.tw13088354275407494018 : True := trivial
theorem PySem.W.Fast.tw10773533168318899745 : True := trivial
theorem PySem.W.Fast.tw18032851749050696591 : True := trivial
theorem PySem.W.Fast.tw13735077590808361214 : True := trivial
theorem PySem.W.Fast.tw14606273957131020136 : True := trivial
theorem PySem.W.Fast.tw17866111906819644083 : True := trivial
theorem PySem.W.Fast.tw13851237388874324393 : True := trivial
theorem PySem.W.Fast.tw184843906660144894 : True := trivial
theorem PySem.W.Fast.tw1512395463592672072 : True := trivial
theorem PySem.W.Fast.tw12089864087791498454 : True := trivial
theorem PySem.W.Fast.tw3710388309290764351 : True := trivial
theorem PySem.W.Fast.tw18154803589192514559 : True := trivial
theorem PySem.W.Fast.tw1445722843783958842 : True := trivial
theorem PySem.W.Fast.tw2539975441058033771 : True := trivial
theorem PySem.W.Fast.tw6209348092199110552 : True := trivial
theorem PySem.W.Fast.tw9511571517172774073 : True := trivial
theorem PySem.W.Fast.tw15455810467487242852 : True := trivial
theorem PySem.W.Fast.tw3775568143068846203 : True := trivial
theorem PySem.W.Fast.tw12718674699154073827 : True := trivial
theorem PySem.W.Fast.tw5225584815865209470 : True := trivial
theorem PySem.W.Fast.tw13058245378087763064 : True := trivial
theorem PySem.W.Fast.tw4527836595878404707 : True := trivial
theorem PySem.W.Fast.tw8237605826952815011 : True := trivial
theorem PySem.W.Fast.tw12541225640721305508 : True := trivial
theorem PySem.W.Fast.tw4055023200736580209 : True := trivial
theorem PySem.W.Fast.tw5554589546689980208 : True := trivial
theorem PySem.W.Fast.tw1622980970210751336 : True := trivial
theorem PySem.W.Fast.tw12090373670576265874 : True := trivial
theorem PySem.W.Fast.tw294050672112997850 : True := trivial
theorem PySem.W.Fast.tw3575868200732123451 : True := trivial
theorem PySem.W.Fast.tw3023276707119837962 : True := trivial
theorem PySem.W.Fast.tw16698984187625015649 : True := trivial
theorem PySem.W.Fast.tw12569399245129392419 : True := trivial
theorem PySem.W.Fast.tw6896506734409746958 : True := trivial
theorem PySem.W.Fast.tw2193509983766920396 : True := trivial
theorem PySem.W.Fast.tw9701251305394346163 : True := trivial
theorem PySem.W.Fast.tw5581608554799834887 : True := trivial
theorem PySem.W.Fast.tw1643826555460660609 : True := trivial
theorem PySem.W.Fast.tw16215182542848991252 : True := trivial
theorem PySem.W.Fast.tw13385113108325195898 : True := trivial
theorem PySem.W.Fast.tw3096974041814486409 : True := trivial
theorem PySem.W.Fast.tw952276144764373186 : True := trivial
theorem PySem.W.Fast.tw2369967539584122412 : True := trivial
theorem PySem.W.Fast.tw17488306865642917035 : True := trivial
theorem PySem.W.Fast.tw18378192168143158763 : True := trivial
theorem PySem.W.Fast.tw6473136446463407090 : True := trivial
theorem PySem.W.Fast.tw13424273821778948691 : True := trivial
theorem PySem.W.Fast.tw16838233945672131749 : True := trivial
theorem PySem.W.Fast.tw15580328702085052638 : True := trivial
theorem PySem.W.Fast.tw14516253155562714008 : True := trivial
theorem PySem.W.Fast.tw16403673620270477253 : True := trivial
theorem PySem.W.Fast.tw18352474158844894795 : True := trivial
theorem PySem.W.Fast.tw7612019127502420566 : True := trivial
theorem PySem.W.Fast.tw8952848986966674560 : True := trivial
theorem PySem.W.Fast.tw5021345948820304076 : True := trivial
theorem PySem.W.Fast.tw5107178216324061287 : True := trivial
theorem PySem.W.Fast.tw11501487183684989399 : True := trivial
theorem PySem.W.Fast.tw7249175827131496154 : True := trivial
theorem PySem.W.Fast.tw17978988198123622254 : True := trivial
theorem PySem.W.Fast.tw3794453351541629014 : True := trivial
theorem PySem.W.Fast.tw5230722155612352788 : True := trivial
theorem PySem.W.Fast.tw12733241202176584745 : True := trivial
theorem PySem.W.Fast.tw13257678823089961380 : True := trivial
theorem PySem.W.Fast.tw16377888452072129943 : True := trivial
theorem PySem.W.Fast.tw1595065657461134854 : True := trivial
theorem PySem.W.Fast.tw15274377963631360901 : True := trivial
theorem PySem.W.Fast.tw3662369134862320563 : True := trivial
theorem PySem.W.Fast.tw15106901873404809854 : True := trivial
theorem PySem.W.Fast.tw2339247889736168412 : True := trivial
theorem PySem.W.Fast.tw10216642678342559332 : True := trivial
theorem PySem.W.Fast.tw945823609275123430 : True := trivial
theorem PySem.W.Fast.tw14657364459403483907 : True := trivial
theorem PySem.W.Fast.tw8503917074422659903 : True := trivial
theorem PySem.W.Fast.tw12571752585409819277 : True := trivial
theorem PySem.W.Fast.tw6450801658633417132 : True := trivial
theorem PySem.W.Fast.tw13999588099559158651 : True := trivial
theorem PySem.W.Fast.tw7655043004125446104 : True := trivial
theorem PySem.W.Fast.tw9223953552605635711 : True := trivial
theorem PySem.W.Fast.tw15085661282620801187 : True := trivial
theorem PySem.W.Fast.tw4263257480648446265 : True := trivial
theorem PySem.W.Fast.tw5402091015036985287 : True := trivial
theorem PySem.W.Fast.tw1232661128672534458 : True := trivial
theorem PySem.W.Fast.tw11787943802670499155 : True := trivial
theorem PySem.W.Fast.tw10687892704698549412 : True := trivial
theorem PySem.W.Fast.tw10039220487648730855 : True := trivial
theorem PySem.W.Fast.tw146183005031803864 : True := trivial
theorem PySem.W.Fast.tw4114293703828619042 : True := trivial
theorem PySem.W.Fast.tw11956755982564335871 : True := trivial
theorem PySem.W.Fast.tw2687162258424671442 : True := trivial
theorem PySem.W.Fast.tw1736034069783115220 : True := trivial
theorem PySem.W.Fast.tw17751700675523730367 : True := trivial
theorem PySem.W.Fast.tw6988495408541655389 : True := trivial
theorem PySem.W.Fast.tw18440532740864500453 : True := trivial
theorem PySem.W.Fast.tw14374581364417059492 : True := trivial
theorem PySem.W.Fast.tw4569734886570381686 : True := trivial
theorem PySem.W.Fast.tw2866412786141739578 : True := trivial
theorem PySem.W.Fast.tw16116871484110825651 : True := trivial
theorem PySem.W.Fast.tw14662170310227735505 : True := trivial
theorem PySem.W.Fast.tw2791700841159622497 : True := trivial
theorem PySem.W.Fast.tw9995677042699653451 : True := trivial
theorem PySem.W.Fast.tw192842040313475562 : True := trivial
theorem PySem.W.Fast.tw7032586635497144136 : True := trivial
theorem PySem.W.Fast.tw10886197483728063421 : True := trivial
theorem PySem.W.Fast.tw11202725081383944514 : True := trivial
theorem PySem.W.Fast.tw5108093375670774052 : True := trivial
theorem PySem.W.Fast.tw487844435757291406 : True := trivial
theorem PySem.W.Fast.tw8547003764525027289 : True := trivial
theorem PySem.W.Fast.tw10869037896753255935 : True := trivial
theorem PySem.W.Fast.tw2097898634838488612 : True := trivial
theorem PySem.W.Fast.tw1498557293082167483 : True := trivial
theorem PySem.W.Fast.tw2740144239144485622 : True := trivial
theorem PySem.W.Fast.tw6727005578091551156 : True := trivial
theorem PySem.W.Fast.tw16969886088854381785 : True := trivial
theorem PySem.W.Fast.tw18033609245469725799 : True := trivial
theorem PySem.W.Fast.tw1223883584696375950 : True := trivial
theorem PySem.W.Fast.tw5762067797507848979 : True := trivial
theorem PySem.W.Fast.tw17313914637000274434 : True := trivial
theorem PySem.W.Fast.tw17769487795245868714 : True := trivial
theorem PySem.W.Fast.tw15793106815363215076 : True := trivial
theorem PySem.W.Fast.tw12350079370298189051 : True := trivial
theorem PySem.W.Fast.tw73477139270704059 : True := trivial
theorem PySem.W.Fast.tw17399412807206878089 : True := trivial
theorem PySem.W.Fast.tw17936932911923956787 : True := trivial
theorem PySem.W.Fast.tw383767667463052306 : True := trivial
theorem PySem.W.Fast.tw1655512452287188324 : True := trivial
theorem PySem.W.Fast.tw13043296525294439782 : True := trivial
theorem PySem.W.Fast.tw14761051935299245986 : True := trivial
theorem PySem.W.Fast.tw7888471130203936051 : True := trivial
theorem PySem.W.Fast.tw17676800413736738351 : True := trivial
theorem PySem.W.Fast.tw10645504676761886053 : True := trivial
theorem PySem.W.Fast.tw12020262992431299904 : True := trivial
theorem PySem.W.Fast.tw18189912367924483008 : True := trivial
theorem PySem.W.Fast.tw15908277468932900128 : True := trivial
theorem PySem.W.Fast.tw4549603620914939215 : True := trivial
theorem PySem.W.Fast.tw2733159788442962111 : True := trivial
theorem PySem.W.Fast.tw17239523362695543643 : True := trivial
theorem PySem.W.Fast.tw8902881463540739914 : True := trivial
theorem PySem.W.Fast.tw4441000254134526661 : True := trivial
theorem PySem.W.Fast.tw10576088031042465131 : True := trivial
theorem PySem.W.Fast.tw8566138429787906386 : True := trivial
theorem PySem.W.Fast.tw8297175118953781763 : True := trivial
theorem PySem.W.Fast.tw12928296138133276213 : True := trivial
theorem PySem.W.Fast.tw9872226565537088465 : True := trivial
open PySem PySem.W PyProof.Rows
set_option maxHeartbeats 0 in
theorem PySem.Challenge.cw_beamframes_k01_errors_made_holds : PySem.Challenge.rw_beamframes_k01_errors_made.Holds := by
  w_on; o_law; k_head; (case hw => w_witness2)
  k_fill
  refine Bf.walk_g (l := PySem.Challenge.rw_beamframes_k01_errors_made) (n := 63) (k := 3) (x := "script") (sp := Bf.spLaw) rfl (by decide) rfl ⟨rfl, by decide, by decide⟩ (fun w h Y => PySem.W.kIn_of Y) ?F (fun _ _ a ns hl _ hS => ⟨a, ns, rfl, hS, hl, fun _ => rfl⟩)
  case F =>
    intro w mg fa h KX G hmg
    refine' Bf.all_mk KX G hmg rfl ?a1 ?l1 ?c1 ?k1 ?a2 ?l2 ?c2 ?k2 ?a3 ?l3 ?c3 ?k3 ?a4 ?l4 ?c4 ?k4 ?a5 ?l5 ?c5 ?k5 ?a6 ?l6 ?c6 ?k6 ?a7 ?l7 ?c7 ?k7 ?a8 ?l8 ?c8 ?k8 ?a9 ?l9 ?c9 ?k9 ?z1 ?z2 ?z3 ?z4 ?z5 ?z6 ?z7 ?xa1 ?xb1 ?xc1 ?xd1 ?xe1 ?xf1 ?xg1 ?xh1 ?xi1 ?xj1 ?xk1 ?xl1 ?xw1 ?xx1 ?xo1 ?xp1 ?xq1 ?xr1 ?xs1 ?xt1 ?xu1 ?xv1 ?xy1 ?xz1 ?xa2 ?xb2 ?xc2 ?xd2 ?xe2 ?xf2 ?xg2 ?xh2 ?xi2 ?xj2 ?xk2 ?xl2 ?xw2 ?xx2 ?xo2 ?xp2 ?xq2 ?xr2 ?xs2 ?xt2 ?xu2 ?xv2 ?xy2 ?xz2 ?xa3 ?xb3 ?xc3 ?xd3 ?xe3 ?xf3 ?xg3 ?xh3 ?xi3 ?xj3 ?xk3 ?xl3 ?xw3 ?xx3 ?xo3 ?xp3 ?xq3 ?xr3 ?xs3 ?xt3 ?xu3 ?xv3 ?xy3 ?xz3 ?xa4 ?xb4 ?xc4 ?xd4 ?xe4 ?xf4 ?xg4 ?xh4 ?xi4 ?xj4 ?xk4 ?xl4 ?xw4 ?xx4 ?xo4 ?xp4 ?xq4 ?xr4 ?xs4 ?xt4 ?xu4 ?xv4 ?xy4 ?xz4 ?xa5 ?xb5 ?xc5 ?xd5 ?xe5 ?xf5 ?xg5 ?xh5 ?xi5 ?xj5 ?xk5 ?xl5 ?xw5 ?xx5 ?xo5 ?xp5 ?xq5 ?xr5 ?xs5 ?xt5 ?xu5 ?xv5 ?xy5 ?xz5 ?xa6 ?xb6 ?xc6 ?xd6 ?xe6 ?xf6 ?xg6 ?xh6 ?xi6 ?xj6 ?xk6 ?xl6 ?xw6 ?xx6 ?xo6 ?xp6 ?xq6 ?xr6 ?xs6 ?xt6 ?xu6 ?xv6 ?xy6 ?xz6 ?xa7 ?xb7 ?xc7 ?xd7 ?xe7 ?xf7 ?xg7 ?xh7 ?xi7 ?xj7 ?xk7 ?xl7 ?xw7 ?xx7 ?xo7 ?xp7 ?xq7 ?xr7 ?xs7 ?xt7 ?xu7 ?xv7 ?xy7 ?xz7 ?xa8 ?xb8 ?xc8 ?xd8 ?xe8 ?xf8 ?xg8 ?xh8 ?xi8 ?xj8 ?xk8 ?xl8 ?xw8 ?xx8 ?xo8 ?xp8 ?xq8 ?xr8 ?xs8 ?xt8 ?xu8 ?xv8 ?xy8 ?xz8 ?xa9 ?xb9 ?xc9 ?xd9 ?xe9 ?xf9 ?xg9 ?xh9 ?xi9 ?xj9 ?xk9 ?xl9 ?xw9 ?xx9 ?xo9 ?xp9 ?xq9 ?xr9 ?xs9 ?xt9 ?xu9 ?xv9 ?xy9 ?xz9 ?xa10 ?xb10 ?xc10 ?xd10 ?xe10 ?xf10 ?xg10 ?xh10 ?xi10 ?xj10 ?xk10 ?xl10 ?xw10 ?xx10 ?xo10 ?xp10 ?xq10 ?xr10 ?xs10 ?xt10 ?xu10 ?xv10 ?xy10 ?xz10 ?xa11 ?xb11 ?xc11 ?xd11 ?xe11 ?xf11 ?xg11 ?xh11 ?xi11 ?xj11 ?xk11 ?xl11 ?xw11 ?xx11 ?xo11 ?xp11 ?xq11 ?xr11 ?xs11 ?xt11 ?xu11 ?xv11 ?xy11 ?xz11 ?zsup ?xpl1 ?xpl2 ?xca_1 ?xob_1 ?xca_2 ?xob_2 ?xca_3 ?xob_3 ?xca_4 ?xob_4 ?xca_5 ?xob_5 ?xca_6 ?xob_6 ?xca_7 ?xob_7 ?xca_8 ?xob_8 ?xca_9 ?xob_9 ?xca_10 ?xob_10 ?xca_11 ?xob_11 ?xisg1 ?xisg2 ?xy_1_0 ?xy_1_1 ?xy_1_2 ?xy_1_3 ?xy_1_4 ?xy_1_5 ?xy_1_6 ?xy_1_7 ?xy_1_8 ?xy_1_9 ?xy_1_10 ?xy_1_11 ?xy_1_12 ?xy_1_13 ?xy_1_14 ?xy_2_0 ?xy_2_1 ?xy_2_2 ?xy_2_3 ?xy_2_4 ?xy_2_5 ?xy_2_6 ?xy_2_7 ?xy_2_8 ?xy_2_9 ?xy_2_10 ?xy_2_11 ?xy_2_12 ?xy_2_13 ?xy_2_14 ?xy_3_0 ?xy_3_1 ?xy_3_2 ?xy_3_3 ?xy_3_4 ?xy_3_5 ?xy_3_6 ?xy_3_7 ?xy_3_8 ?xy_3_9 ?xy_3_10 ?xy_3_11 ?xy_3_12 ?xy_3_13 ?xy_3_14 ?xy_4_0 ?xy_4_1 ?xy_4_2 ?xy_4_3 ?xy_4_4 ?xy_4_5 ?xy_4_6 ?xy_4_7 ?xy_4_8 ?xy_4_9 ?xy_4_10 ?xy_4_11 ?xy_4_12 ?xy_4_13 ?xy_4_14 ?xy_5_0 ?xy_5_1 ?xy_5_2 ?xy_5_3 ?xy_5_4 ?xy_5_5 ?xy_5_6 ?xy_5_7 ?xy_5_8 ?xy_5_9 ?xy_5_10 ?xy_5_11 ?xy_5_12 ?xy_5_13 ?xy_5_14 ?xy_6_0 ?xy_6_1 ?xy_6_2 ?xy_6_3 ?xy_6_4 ?xy_6_5 ?xy_6_6 ?xy_6_7 ?xy_6_8 ?xy_6_9 ?xy_6_10 ?xy_6_11 ?xy_6_12 ?xy_6_13 ?xy_6_14 ?xy_7_0 ?xy_7_1 ?xy_7_2 ?xy_7_3 ?xy_7_4 ?xy_7_5 ?xy_7_6 ?xy_7_7 ?xy_7_8 ?xy_7_9 ?xy_7_10 ?xy_7_11 ?xy_7_12 ?xy_7_13 ?xy_7_14 ?xy_8_0 ?xy_8_1 ?xy_8_2 ?xy_8_3 ?xy_8_4 ?xy_8_5 ?xy_8_6 ?xy_8_7 ?xy_8_8 ?xy_8_9 ?xy_8_10 ?xy_8_11 ?xy_8_12 ?xy_8_13 ?xy_8_14 ?xy_9_0 ?xy_9_1 ?xy_9_2 ?xy_9_3 ?xy_9_4 ?xy_9_5 ?xy_9_6 ?xy_9_7 ?xy_9_8 ?xy_9_9 ?xy_9_10 ?xy_9_11 ?xy_9_12 ?xy_9_13 ?xy_9_14 ?xy_10_0 ?xy_10_1 ?xy_10_2 ?xy_10_3 ?xy_10_4 ?xy_10_5 ?xy_10_6 ?xy_10_7 ?xy_10_8 ?xy_10_9 ?xy_10_10 ?xy_10_11 ?xy_10_12 ?xy_10_13 ?xy_10_14 ?xy_11_0 ?xy_11_1 ?xy_11_2 ?xy_11_3 ?xy_11_4 ?xy_11_5 ?xy_11_6 ?xy_11_7 ?xy_11_8 ?xy_11_9 ?xy_11_10 ?xy_11_11 ?xy_11_12 ?xy_11_13 ?xy_11_14
    (case a1 => k_is); (case l1 => k_is); (case c1 => k_is); (case k1 => k_is); (case a2 => k_is); (case l2 => k_is)
    (case c2 => k_is); (case k2 => k_is); (case a3 => k_is); (case l3 => k_is); (case c3 => k_is); (case k3 => k_is)
    (case a4 => k_is); (case l4 => k_is); (case c4 => k_is); (case k4 => k_is); (case a5 => k_is); (case l5 => k_is)
    (case c5 => k_is); (case k5 => k_is); (case a6 => k_is); (case l6 => k_is); (case c6 => k_is); (case k6 => k_is)
    (case a7 => k_is); (case l7 => k_is); (case c7 => k_is); (case k7 => k_is); (case a8 => k_is); (case l8 => k_is)
    (case c8 => k_is); (case k8 => k_is); (case a9 => k_is); (case l9 => k_is); (case c9 => k_is); (case k9 => k_is)
    (case z1 => k_is); (case z2 => k_is); (case z3 => k_is); (case z4 => k_is); (case z5 => k_is); (case z6 => k_is)
    (case z7 => k_is); (case xa1 => first | k_is | rfl | decide +kernel); (case xb1 => first | k_is | rfl | decide +kernel); (case xc1 => first | k_is | rfl | decide +kernel); (case xd1 => first | k_is | rfl | decide +kernel); (case xe1 => first | k_is | rfl | decide +kernel)
    (case xf1 => first | k_is | rfl | decide +kernel); (case xg1 => first | k_is | rfl | decide +kernel); (case xh1 => first | k_is | rfl | decide +kernel); (case xi1 => first | k_is | rfl | decide +kernel); (case xj1 => first | k_is | rfl | decide +kernel); (case xk1 => first | k_is | rfl | decide +kernel)
    (case xl1 => first | k_is | rfl | decide +kernel); (case xw1 => first | k_is | rfl | decide +kernel); (case xx1 => first | k_is | rfl | decide +kernel); (case xo1 => first | k_is | rfl | decide +kernel); (case xp1 => first | k_is | rfl | decide +kernel); (case xq1 => first | k_is | rfl | decide +kernel)
    (case xr1 => first | k_is | rfl | decide +kernel); (case xs1 => first | k_is | rfl | decide +kernel); (case xt1 => first | k_is | rfl | decide +kernel); (case xu1 => first | k_is | rfl | decide +kernel); (case xv1 => first | k_is | rfl | decide +kernel); (case xy1 => first | k_is | rfl | decide +kernel)
    (case xz1 => first | k_is | rfl | decide +kernel); (case xa2 => first | k_is | rfl | decide +kernel); (case xb2 => first | k_is | rfl | decide +kernel); (case xc2 => first | k_is | rfl | decide +kernel); (case xd2 => first | k_is | rfl | decide +kernel); (case xe2 => first | k_is | rfl | decide +kernel)
    (case xf2 => first | k_is | rfl | decide +kernel); (case xg2 => first | k_is | rfl | decide +kernel); (case xh2 => first | k_is | rfl | decide +kernel); (case xi2 => first | k_is | rfl | decide +kernel); (case xj2 => first | k_is | rfl | decide +kernel); (case xk2 => first | k_is | rfl | decide +kernel)
    (case xl2 => first | k_is | rfl | decide +kernel); (case xw2 => first | k_is | rfl | decide +kernel); (case xx2 => first | k_is | rfl | decide +kernel); (case xo2 => first | k_is | rfl | decide +kernel); (case xp2 => first | k_is | rfl | decide +kernel); (case xq2 => first | k_is | rfl | decide +kernel)
    (case xr2 => first | k_is | rfl | decide +kernel); (case xs2 => first | k_is | rfl | decide +kernel); (case xt2 => first | k_is | rfl | decide +kernel); (case xu2 => first | k_is | rfl | decide +kernel); (case xv2 => first | k_is | rfl | decide +kernel); (case xy2 => first | k_is | rfl | decide +kernel)
    (case xz2 => first | k_is | rfl | decide +kernel); (case xa3 => first | k_is | rfl | decide +kernel); (case xb3 => first | k_is | rfl | decide +kernel); (case xc3 => first | k_is | rfl | decide +kernel); (case xd3 => first | k_is | rfl | decide +kernel); (case xe3 => first | k_is | rfl | decide +kernel)
    (case xf3 => first | k_is | rfl | decide +kernel); (case xg3 => first | k_is | rfl | decide +kernel); (case xh3 => first | k_is | rfl | decide +kernel); (case xi3 => first | k_is | rfl | decide +kernel); (case xj3 => first | k_is | rfl | decide +kernel); (case xk3 => first | k_is | rfl | decide +kernel)
    (case xl3 => first | k_is | rfl | decide +kernel); (case xw3 => first | k_is | rfl | decide +kernel); (case xx3 => first | k_is | rfl | decide +kernel); (case xo3 => first | k_is | rfl | decide +kernel); (case xp3 => first | k_is | rfl | decide +kernel); (case xq3 => first | k_is | rfl | decide +kernel)
    (case xr3 => first | k_is | rfl | decide +kernel); (case xs3 => first | k_is | rfl | decide +kernel); (case xt3 => first | k_is | rfl | decide +kernel); (case xu3 => first | k_is | rfl | decide +kernel); (case xv3 => first | k_is | rfl | decide +kernel); (case xy3 => first | k_is | rfl | decide +kernel)
    (case xz3 => first | k_is | rfl | decide +kernel); (case xa4 => first | k_is | rfl | decide +kernel); (case xb4 => first | k_is | rfl | decide +kernel); (case xc4 => first | k_is | rfl | decide +kernel); (case xd4 => first | k_is | rfl | decide +kernel); (case xe4 => first | k_is | rfl | decide +kernel)
    (case xf4 => first | k_is | rfl | decide +kernel); (case xg4 => first | k_is | rfl | decide +kernel); (case xh4 => first | k_is | rfl | decide +kernel); (case xi4 => first | k_is | rfl | decide +kernel); (case xj4 => first | k_is | rfl | decide +kernel); (case xk4 => first | k_is | rfl | decide +kernel)
    (case xl4 => first | k_is | rfl | decide +kernel); (case xw4 => first | k_is | rfl | decide +kernel); (case xx4 => first | k_is | rfl | decide +kernel); (case xo4 => first | k_is | rfl | decide +kernel); (case xp4 => first | k_is | rfl | decide +kernel); (case xq4 => first | k_is | rfl | decide +kernel)
    (case xr4 => first | k_is | rfl | decide +kernel); (case xs4 => first | k_is | rfl | decide +kernel); (case xt4 => first | k_is | rfl | decide +kernel); (case xu4 => first | k_is | rfl | decide +kernel); (case xv4 => first | k_is | rfl | decide +kernel); (case xy4 => first | k_is | rfl | decide +kernel)
    (case xz4 => first | k_is | rfl | decide +kernel); (case xa5 => first | k_is | rfl | decide +kernel); (case xb5 => first | k_is | rfl | decide +kernel); (case xc5 => first | k_is | rfl | decide +kernel); (case xd5 => first | k_is | rfl | decide +kernel); (case xe5 => first | k_is | rfl | decide +kernel)
    (case xf5 => first | k_is | rfl | decide +kernel); (case xg5 => first | k_is | rfl | decide +kernel); (case xh5 => first | k_is | rfl | decide +kernel); (case xi5 => first | k_is | rfl | decide +kernel); (case xj5 => first | k_is | rfl | decide +kernel); (case xk5 => first | k_is | rfl | decide +kernel)
    (case xl5 => first | k_is | rfl | decide +kernel); (case xw5 => first | k_is | rfl | decide +kernel); (case xx5 => first | k_is | rfl | decide +kernel); (case xo5 => first | k_is | rfl | decide +kernel); (case xp5 => first | k_is | rfl | decide +kernel); (case xq5 => first | k_is | rfl | decide +kernel)
    (case xr5 => first | k_is | rfl | decide +kernel); (case xs5 => first | k_is | rfl | decide +kernel); (case xt5 => first | k_is | rfl | decide +kernel); (case xu5 => first | k_is | rfl | decide +kernel); (case xv5 => first | k_is | rfl | decide +kernel); (case xy5 => first | k_is | rfl | decide +kernel)
    (case xz5 => first | k_is | rfl | decide +kernel); (case xa6 => first | k_is | rfl | decide +kernel); (case xb6 => first | k_is | rfl | decide +kernel); (case xc6 => first | k_is | rfl | decide +kernel); (case xd6 => first | k_is | rfl | decide +kernel); (case xe6 => first | k_is | rfl | decide +kernel)
    (case xf6 => first | k_is | rfl | decide +kernel); (case xg6 => first | k_is | rfl | decide +kernel); (case xh6 => first | k_is | rfl | decide +kernel); (case xi6 => first | k_is | rfl | decide +kernel); (case xj6 => first | k_is | rfl | decide +kernel); (case xk6 => first | k_is | rfl | decide +kernel)
    (case xl6 => first | k_is | rfl | decide +kernel); (case xw6 => first | k_is | rfl | decide +kernel); (case xx6 => first | k_is | rfl | decide +kernel); (case xo6 => first | k_is | rfl | decide +kernel); (case xp6 => first | k_is | rfl | decide +kernel); (case xq6 => first | k_is | rfl | decide +kernel)
    (case xr6 => first | k_is | rfl | decide +kernel); (case xs6 => first | k_is | rfl | decide +kernel); (case xt6 => first | k_is | rfl | decide +kernel); (case xu6 => first | k_is | rfl | decide +kernel); (case xv6 => first | k_is | rfl | decide +kernel); (case xy6 => first | k_is | rfl | decide +kernel)
    (case xz6 => first | k_is | rfl | decide +kernel); (case xa7 => first | k_is | rfl | decide +kernel); (case xb7 => first | k_is | rfl | decide +kernel); (case xc7 => first | k_is | rfl | decide +kernel); (case xd7 => first | k_is | rfl | decide +kernel); (case xe7 => first | k_is | rfl | decide +kernel)
    (case xf7 => first | k_is | rfl | decide +kernel); (case xg7 => first | k_is | rfl | decide +kernel); (case xh7 => first | k_is | rfl | decide +kernel); (case xi7 => first | k_is | rfl | decide +kernel); (case xj7 => first | k_is | rfl | decide +kernel); (case xk7 => first | k_is | rfl | decide +kernel)
    (case xl7 => first | k_is | rfl | decide +kernel); (case xw7 => first | k_is | rfl | decide +kernel); (case xx7 => first | k_is | rfl | decide +kernel); (case xo7 => first | k_is | rfl | decide +kernel); (case xp7 => first | k_is | rfl | decide +kernel); (case xq7 => first | k_is | rfl | decide +kernel)
    (case xr7 => first | k_is | rfl | decide +kernel); (case xs7 => first | k_is | rfl | decide +kernel); (case xt7 => first | k_is | rfl | decide +kernel); (case xu7 => first | k_is | rfl | decide +kernel); (case xv7 => first | k_is | rfl | decide +kernel); (case xy7 => first | k_is | rfl | decide +kernel)
    (case xz7 => first | k_is | rfl | decide +kernel); (case xa8 => first | k_is | rfl | decide +kernel); (case xb8 => first | k_is | rfl | decide +kernel); (case xc8 => first | k_is | rfl | decide +kernel); (case xd8 => first | k_is | rfl | decide +kernel); (case xe8 => first | k_is | rfl | decide +kernel)
    (case xf8 => first | k_is | rfl | decide +kernel); (case xg8 => first | k_is | rfl | decide +kernel); (case xh8 => first | k_is | rfl | decide +kernel); (case xi8 => first | k_is | rfl | decide +kernel); (case xj8 => first | k_is | rfl | decide +kernel); (case xk8 => first | k_is | rfl | decide +kernel)
    (case xl8 => first | k_is | rfl | decide +kernel); (case xw8 => first | k_is | rfl | decide +kernel); (case xx8 => first | k_is | rfl | decide +kernel); (case xo8 => first | k_is | rfl | decide +kernel); (case xp8 => first | k_is | rfl | decide +kernel); (case xq8 => first | k_is | rfl | decide +kernel)
    (case xr8 => first | k_is | rfl | decide +kernel); (case xs8 => first | k_is | rfl | decide +kernel); (case xt8 => first | k_is | rfl | decide +kernel); (case xu8 => first | k_is | rfl | decide +kernel); (case xv8 => first | k_is | rfl | decide +kernel); (case xy8 => first | k_is | rfl | decide +kernel)
    (case xz8 => first | k_is | rfl | decide +kernel); (case xa9 => first | k_is | rfl | decide +kernel); (case xb9 => first | k_is | rfl | decide +kernel); (case xc9 => first | k_is | rfl | decide +kernel); (case xd9 => first | k_is | rfl | decide +kernel); (case xe9 => first | k_is | rfl | decide +kernel)
    (case xf9 => first | k_is | rfl | decide +kernel); (case xg9 => first | k_is | rfl | decide +kernel); (case xh9 => first | k_is | rfl | decide +kernel); (case xi9 => first | k_is | rfl | decide +kernel); (case xj9 => first | k_is | rfl | decide +kernel); (case xk9 => first | k_is | rfl | decide +kernel)
    (case xl9 => first | k_is | rfl | decide +kernel); (case xw9 => first | k_is | rfl | decide +kernel); (case xx9 => first | k_is | rfl | decide +kernel); (case xo9 => first | k_is | rfl | decide +kernel); (case xp9 => first | k_is | rfl | decide +kernel); (case xq9 => first | k_is | rfl | decide +kernel)
    (case xr9 => first | k_is | rfl | decide +kernel); (case xs9 => first | k_is | rfl | decide +kernel); (case xt9 => first | k_is | rfl | decide +kernel); (case xu9 => first | k_is | rfl | decide +kernel); (case xv9 => first | k_is | rfl | decide +kernel); (case xy9 => first | k_is | rfl | decide +kernel)
    (case xz9 => first | k_is | rfl | decide +kernel); (case xa10 => first | k_is | rfl | decide +kernel); (case xb10 => first | k_is | rfl | decide +kernel); (case xc10 => first | k_is | rfl | decide +kernel); (case xd10 => first | k_is | rfl | decide +kernel); (case xe10 => first | k_is | rfl | decide +kernel)
    (case xf10 => first | k_is | rfl | decide +kernel); (case xg10 => first | k_is | rfl | decide +kernel); (case xh10 => first | k_is | rfl | decide +kernel); (case xi10 => first | k_is | rfl | decide +kernel); (case xj10 => first | k_is | rfl | decide +kernel); (case xk10 => first | k_is | rfl | decide +kernel)
    (case xl10 => first | k_is | rfl | decide +kernel); (case xw10 => first | k_is | rfl | decide +kernel); (case xx10 => first | k_is | rfl | decide +kernel); (case xo10 => first | k_is | rfl | decide +kernel); (case xp10 => first | k_is | rfl | decide +kernel); (case xq10 => first | k_is | rfl | decide +kernel)
    (case xr10 => first | k_is | rfl | decide +kernel); (case xs10 => first | k_is | rfl | decide +kernel); (case xt10 => first | k_is | rfl | decide +kernel); (case xu10 => first | k_is | rfl | decide +kernel); (case xv10 => first | k_is | rfl | decide +kernel); (case xy10 => first | k_is | rfl | decide +kernel)
    (case xz10 => first | k_is | rfl | decide +kernel); (case xa11 => first | k_is | rfl | decide +kernel); (case xb11 => first | k_is | rfl | decide +kernel); (case xc11 => first | k_is | rfl | decide +kernel); (case xd11 => first | k_is | rfl | decide +kernel); (case xe11 => first | k_is | rfl | decide +kernel)
    (case xf11 => first | k_is | rfl | decide +kernel); (case xg11 => first | k_is | rfl | decide +kernel); (case xh11 => first | k_is | rfl | decide +kernel); (case xi11 => first | k_is | rfl | decide +kernel); (case xj11 => first | k_is | rfl | decide +kernel); (case xk11 => first | k_is | rfl | decide +kernel)
    (case xl11 => first | k_is | rfl | decide +kernel); (case xw11 => first | k_is | rfl | decide +kernel); (case xx11 => first | k_is | rfl | decide +kernel); (case xo11 => first | k_is | rfl | decide +kernel); (case xp11 => first | k_is | rfl | decide +kernel); (case xq11 => first | k_is | rfl | decide +kernel)
    (case xr11 => first | k_is | rfl | decide +kernel); (case xs11 => first | k_is | rfl | decide +kernel); (case xt11 => first | k_is | rfl | decide +kernel); (case xu11 => first | k_is | rfl | decide +kernel); (case xv11 => first | k_is | rfl | decide +kernel); (case xy11 => first | k_is | rfl | decide +kernel)
    (case xz11 => first | k_is | rfl | decide +kernel); (case zsup => k_is); (case xpl1 => first | k_is | rfl | decide +kernel); (case xpl2 => first | k_is | rfl | decide +kernel); (case xca_1 => first | k_is | rfl | decide +kernel); (case xob_1 => first | k_is | rfl | decide +kernel)
    (case xca_2 => first | k_is | rfl | decide +kernel); (case xob_2 => first | k_is | rfl | decide +kernel); (case xca_3 => first | k_is | rfl | decide +kernel); (case xob_3 => first | k_is | rfl | decide +kernel); (case xca_4 => first | k_is | rfl | decide +kernel); (case xob_4 => first | k_is | rfl | decide +kernel)
    (case xca_5 => first | k_is | rfl | decide +kernel); (case xob_5 => first | k_is | rfl | decide +kernel); (case xca_6 => first | k_is | rfl | decide +kernel); (case xob_6 => first | k_is | rfl | decide +kernel); (case xca_7 => first | k_is | rfl | decide +kernel); (case xob_7 => first | k_is | rfl | decide +kernel)
    (case xca_8 => first | k_is | rfl | decide +kernel); (case xob_8 => first | k_is | rfl | decide +kernel); (case xca_9 => first | k_is | rfl | decide +kernel); (case xob_9 => first | k_is | rfl | decide +kernel); (case xca_10 => first | k_is | rfl | decide +kernel); (case xob_10 => first | k_is | rfl | decide +kernel)
    (case xca_11 => first | k_is | rfl | decide +kernel); (case xob_11 => first | k_is | rfl | decide +kernel); (case xisg1 => first | k_is | rfl | decide +kernel); (case xisg2 => first | k_is | rfl | decide +kernel); (case xy_1_0 => first | k_is | rfl | decide +kernel); (case xy_1_1 => first | k_is | rfl | decide +kernel)
    (case xy_1_2 => first | k_is | rfl | decide +kernel); (case xy_1_3 => first | k_is | rfl | decide +kernel); (case xy_1_4 => first | k_is | rfl | decide +kernel); (case xy_1_5 => first | k_is | rfl | decide +kernel); (case xy_1_6 => first | k_is | rfl | decide +kernel); (case xy_1_7 => first | k_is | rfl | decide +kernel)
    (case xy_1_8 => first | k_is | rfl | decide +kernel); (case xy_1_9 => first | k_is | rfl | decide +kernel); (case xy_1_10 => first | k_is | rfl | decide +kernel); (case xy_1_11 => first | k_is | rfl | decide +kernel); (case xy_1_12 => first | k_is | rfl | decide +kernel); (case xy_1_13 => first | k_is | rfl | decide +kernel)
    (case xy_1_14 => first | k_is | rfl | decide +kernel); (case xy_2_0 => first | k_is | rfl | decide +kernel); (case xy_2_1 => first | k_is | rfl | decide +kernel); (case xy_2_2 => first | k_is | rfl | decide +kernel); (case xy_2_3 => first | k_is | rfl | decide +kernel); (case xy_2_4 => first | k_is | rfl | decide +kernel)
    (case xy_2_5 => first | k_is | rfl | decide +kernel); (case xy_2_6 => first | k_is | rfl | decide +kernel); (case xy_2_7 => first | k_is | rfl | decide +kernel); (case xy_2_8 => first | k_is | rfl | decide +kernel); (case xy_2_9 => first | k_is | rfl | decide +kernel); (case xy_2_10 => first | k_is | rfl | decide +kernel)
    (case xy_2_11 => first | k_is | rfl | decide +kernel); (case xy_2_12 => first | k_is | rfl | decide +kernel); (case xy_2_13 => first | k_is | rfl | decide +kernel); (case xy_2_14 => first | k_is | rfl | decide +kernel); (case xy_3_0 => first | k_is | rfl | decide +kernel); (case xy_3_1 => first | k_is | rfl | decide +kernel)
    (case xy_3_2 => first | k_is | rfl | decide +kernel); (case xy_3_3 => first | k_is | rfl | decide +kernel); (case xy_3_4 => first | k_is | rfl | decide +kernel); (case xy_3_5 => first | k_is | rfl | decide +kernel); (case xy_3_6 => first | k_is | rfl | decide +kernel); (case xy_3_7 => first | k_is | rfl | decide +kernel)
    (case xy_3_8 => first | k_is | rfl | decide +kernel); (case xy_3_9 => first | k_is | rfl | decide +kernel); (case xy_3_10 => first | k_is | rfl | decide +kernel); (case xy_3_11 => first | k_is | rfl | decide +kernel); (case xy_3_12 => first | k_is | rfl | decide +kernel); (case xy_3_13 => first | k_is | rfl | decide +kernel)
    (case xy_3_14 => first | k_is | rfl | decide +kernel); (case xy_4_0 => first | k_is | rfl | decide +kernel); (case xy_4_1 => first | k_is | rfl | decide +kernel); (case xy_4_2 => first | k_is | rfl | decide +kernel); (case xy_4_3 => first | k_is | rfl | decide +kernel); (case xy_4_4 => first | k_is | rfl | decide +kernel)
    (case xy_4_5 => first | k_is | rfl | decide +kernel); (case xy_4_6 => first | k_is | rfl | decide +kernel); (case xy_4_7 => first | k_is | rfl | decide +kernel); (case xy_4_8 => first | k_is | rfl | decide +kernel); (case xy_4_9 => first | k_is | rfl | decide +kernel); (case xy_4_10 => first | k_is | rfl | decide +kernel)
    (case xy_4_11 => first | k_is | rfl | decide +kernel); (case xy_4_12 => first | k_is | rfl | decide +kernel); (case xy_4_13 => first | k_is | rfl | decide +kernel); (case xy_4_14 => first | k_is | rfl | decide +kernel); (case xy_5_0 => first | k_is | rfl | decide +kernel); (case xy_5_1 => first | k_is | rfl | decide +kernel)
    (case xy_5_2 => first | k_is | rfl | decide +kernel); (case xy_5_3 => first | k_is | rfl | decide +kernel); (case xy_5_4 => first | k_is | rfl | decide +kernel); (case xy_5_5 => first | k_is | rfl | decide +kernel); (case xy_5_6 => first | k_is | rfl | decide +kernel); (case xy_5_7 => first | k_is | rfl | decide +kernel)
    (case xy_5_8 => first | k_is | rfl | decide +kernel); (case xy_5_9 => first | k_is | rfl | decide +kernel); (case xy_5_10 => first | k_is | rfl | decide +kernel); (case xy_5_11 => first | k_is | rfl | decide +kernel); (case xy_5_12 => first | k_is | rfl | decide +kernel); (case xy_5_13 => first | k_is | rfl | decide +kernel)
    (case xy_5_14 => first | k_is | rfl | decide +kernel); (case xy_6_0 => first | k_is | rfl | decide +kernel); (case xy_6_1 => first | k_is | rfl | decide +kernel); (case xy_6_2 => first | k_is | rfl | decide +kernel); (case xy_6_3 => first | k_is | rfl | decide +kernel); (case xy_6_4 => first | k_is | rfl | decide +kernel)
    (case xy_6_5 => first | k_is | rfl | decide +kernel); (case xy_6_6 => first | k_is | rfl | decide +kernel); (case xy_6_7 => first | k_is | rfl | decide +kernel); (case xy_6_8 => first | k_is | rfl | decide +kernel); (case xy_6_9 => first | k_is | rfl | decide +kernel); (case xy_6_10 => first | k_is | rfl | decide +kernel)
    (case xy_6_11 => first | k_is | rfl | decide +kernel); (case xy_6_12 => first | k_is | rfl | decide +kernel); (case xy_6_13 => first | k_is | rfl | decide +kernel); (case xy_6_14 => first | k_is | rfl | decide +kernel); (case xy_7_0 => first | k_is | rfl | decide +kernel); (case xy_7_1 => first | k_is | rfl | decide +kernel)
    (case xy_7_2 => first | k_is | rfl | decide +kernel); (case xy_7_3 => first | k_is | rfl | decide +kernel); (case xy_7_4 => first | k_is | rfl | decide +kernel); (case xy_7_5 => first | k_is | rfl | decide +kernel); (case xy_7_6 => first | k_is | rfl | decide +kernel); (case xy_7_7 => first | k_is | rfl | decide +kernel)
    (case xy_7_8 => first | k_is | rfl | decide +kernel); (case xy_7_9 => first | k_is | rfl | decide +kernel); (case xy_7_10 => first | k_is | rfl | decide +kernel); (case xy_7_11 => first | k_is | rfl | decide +kernel); (case xy_7_12 => first | k_is | rfl | decide +kernel); (case xy_7_13 => first | k_is | rfl | decide +kernel)
    (case xy_7_14 => first | k_is | rfl | decide +kernel); (case xy_8_0 => first | k_is | rfl | decide +kernel); (case xy_8_1 => first | k_is | rfl | decide +kernel); (case xy_8_2 => first | k_is | rfl | decide +kernel); (case xy_8_3 => first | k_is | rfl | decide +kernel); (case xy_8_4 => first | k_is | rfl | decide +kernel)
    (case xy_8_5 => first | k_is | rfl | decide +kernel); (case xy_8_6 => first | k_is | rfl | decide +kernel); (case xy_8_7 => first | k_is | rfl | decide +kernel); (case xy_8_8 => first | k_is | rfl | decide +kernel); (case xy_8_9 => first | k_is | rfl | decide +kernel); (case xy_8_10 => first | k_is | rfl | decide +kernel)
    (case xy_8_11 => first | k_is | rfl | decide +kernel); (case xy_8_12 => first | k_is | rfl | decide +kernel); (case xy_8_13 => first | k_is | rfl | decide +kernel); (case xy_8_14 => first | k_is | rfl | decide +kernel); (case xy_9_0 => first | k_is | rfl | decide +kernel); (case xy_9_1 => first | k_is | rfl | decide +kernel)
    (case xy_9_2 => first | k_is | rfl | decide +kernel); (case xy_9_3 => first | k_is | rfl | decide +kernel); (case xy_9_4 => first | k_is | rfl | decide +kernel); (case xy_9_5 => first | k_is | rfl | decide +kernel); (case xy_9_6 => first | k_is | rfl | decide +kernel); (case xy_9_7 => first | k_is | rfl | decide +kernel)
    (case xy_9_8 => first | k_is | rfl | decide +kernel); (case xy_9_9 => first | k_is | rfl | decide +kernel); (case xy_9_10 => first | k_is | rfl | decide +kernel); (case xy_9_11 => first | k_is | rfl | decide +kernel); (case xy_9_12 => first | k_is | rfl | decide +kernel); (case xy_9_13 => first | k_is | rfl | decide +kernel)
    (case xy_9_14 => first | k_is | rfl | decide +kernel); (case xy_10_0 => first | k_is | rfl | decide +kernel); (case xy_10_1 => first | k_is | rfl | decide +kernel); (case xy_10_2 => first | k_is | rfl | decide +kernel); (case xy_10_3 => first | k_is | rfl | decide +kernel); (case xy_10_4 => first | k_is | rfl | decide +kernel)
    (case xy_10_5 => first | k_is | rfl | decide +kernel); (case xy_10_6 => first | k_is | rfl | decide +kernel); (case xy_10_7 => first | k_is | rfl | decide +kernel); (case xy_10_8 => first | k_is | rfl | decide +kernel); (case xy_10_9 => first | k_is | rfl | decide +kernel); (case xy_10_10 => first | k_is | rfl | decide +kernel)
    (case xy_10_11 => first | k_is | rfl | decide +kernel); (case xy_10_12 => first | k_is | rfl | decide +kernel); (case xy_10_13 => first | k_is | rfl | decide +kernel); (case xy_10_14 => first | k_is | rfl | decide +kernel); (case xy_11_0 => first | k_is | rfl | decide +kernel); (case xy_11_1 => first | k_is | rfl | decide +kernel)
    (case xy_11_2 => first | k_is | rfl | decide +kernel); (case xy_11_3 => first | k_is | rfl | decide +kernel); (case xy_11_4 => first | k_is | rfl | decide +kernel); (case xy_11_5 => first | k_is | rfl | decide +kernel); (case xy_11_6 => first | k_is | rfl | decide +kernel); (case xy_11_7 => first | k_is | rfl | decide +kernel)
    (case xy_11_8 => first | k_is | rfl | decide +kernel); (case xy_11_9 => first | k_is | rfl | decide +kernel); (case xy_11_10 => first | k_is | rfl | decide +kernel); (case xy_11_11 => first | k_is | rfl | decide +kernel); (case xy_11_12 => first | k_is | rfl | decide +kernel); (case xy_11_13 => first | k_is | rfl | decide +kernel)
    (case xy_11_14 => first | k_is | rfl | decide +kernel)
