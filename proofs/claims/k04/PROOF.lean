import PyProof.Rows.All
import Wide.All
import OpenK.AllK
import Wide.FinOn
import HandS.ForMost
import HandS.ForExc
import HandS.Star
import HandS.IsInst
import HandS.TupAny
import HandS.Style
import HandS.Wide
import HandS.RaiseMore
import HandS.Zip
import HandS.TupMul
import PySem.Challenge.RW_beamframes_k04_words
set_option Elab.async false
set_option linter.all false
set_option maxRecDepth 100000
set_option maxHeartbeats 4000000
/-! Data over the hand layer: a def's body read over plain data, the heap out of sight. -/
namespace Bf
open PySem PySem.Spec PyProof.Rows L2

/-! ### A. defs that are called where no guard runs (for repr) -/
structure GOk (P : Program) (w : World) (K : PySem.W.Frag) (mg : Str → Option Value) (base : Heap) (k : Nat) (f : Addr) (fd : FuncData) (ps : List Str) (sp : Sp) : Prop where
  len : ∀ vs H Q E, sp vs H Q E → vs.length = ps.length
  go : ∀ (A : Around) (out : List Env) (s : Shared) (H : Hp) (args : Args) (us : List Value) (vs : List V) (Q : VK) (E : XK),
    Room k A → A.guards = some [] → Env0 P w K mg base A out s H → BindsTo s fd args (ps.zip us) → Vals vs us → sp vs H Q E →
    codeAny (model P w) A (.call (.ref f) args) (CR (L2.CX P w) out P w H s Q E) s
section
variable {P : Program} {w : World} {K : PySem.W.Frag} {mg : Str → Option Value} {base : Heap}
theorem GOk.up {j k : Nat} {f : Addr} {fd : FuncData} {ps : List Str} {sp : Sp} (G : GOk P w K mg base j f fd ps sp) (h : j ≤ k) : GOk P w K mg base k f fd ps sp :=
  ⟨G.len, fun A out s H args us vs Q E r => G.go A out s H args us vs Q E (r.mono h)⟩
/-- a def by its body -/
theorem okG {x qual : Str} {st : Stmt} {f : Addr} {fd : FuncData} {N ps : List Str} {k : Nat} {sp : Sp} (F : Fun K x qual st f fd) (S : FnScope N ps (defScope st)) (len : ∀ vs H Q E, sp vs H Q E → vs.length = ps.length)
    (hb : ∀ (cdv : Value) (A : Around) (out : List Env) (s : Shared) (H : Hp) (vs : List V) (Q : VK) (E : XK), Room k (A.deeper (envOfC qual (defScope st) s.heap.objs.size f cdv)) → A.guards = some [] → sp vs H Q E →
      ∃ t, PSs (cxOf (L2.CX P w) P w K mg base N qual (defScope st) f cdv A out s H E) (defBody st) t ∧ t { nx := fun _ H' => Q .non H', rt := Q } (start N vs) H) :
    GOk P w K mg base (k + 1) f fd ps sp := by
  obtain ⟨oc, od, kV, doc, pm, an, cdv, ct, osl, rfl, lk, hcd⟩ := F.ex
  refine ⟨len, fun A out s H args us vs Q E hr hgd e0 hbi r hsp => ?_⟩
  refine StX.run_bnd lk hcd S hr e0 (G := fun xs H2 => xs = vs ∧ H2 = H) (fun A' Ex Q' h => ?_) fun s2 H2 xs ⟨ex, eH⟩ hr' => ?_
  · exact hbi _ _ _ _ (h s H vs us e0 Un.refl rfl (fun _ _ z => z) r (len _ _ _ _ hsp) ⟨rfl, rfl⟩)
  · subst ex eH
    exact hb cdv A out s2 _ _ Q E hr' hgd hsp
end
/-- how a def's arguments bind: all by place -/
def BPos (fd : FuncData) (ps : List Str) : Prop := ∀ (s : Shared) (us : List Value), us.length = ps.length → BindsTo s fd ⟨us, []⟩ (ps.zip us)
/-- all by name, in the order ks -/
def BKw (fd : FuncData) (ps ks : List Str) (g : List Value → List Value) : Prop := ∀ (s : Shared) (ws : List Value), ws.length = ks.length → BindsTo s fd ⟨[], ks.zip ws⟩ (ps.zip (g ws))
section
variable {X : Cx} {k : Nat} {f : Addr} {fd : FuncData} {ps ks : List Str} {sp : Sp} {E : XK} {x : Str} {p pos : Pos} {e : Expr} {es : List Expr} {kws : List Keyword} {t : TA}
theorem run_g {pins : List (Addr × Obj)} {σ : L2.St} {H : Hp} {s : Shared} {Q : VK} {args : Args} {us : List Value} {vs : List V} (G : GOk X.prog X.w X.K X.mg X.base k f fd ps sp) (hr : Room k X.A) (hgd : X.A.guards = some []) (hx : Passes (L2.CX X.prog X.w) X E)
    (I : Inv X pins σ H s) (hb : BindsTo s fd args (ps.zip us)) (r : Vals vs us) (h : sp vs H Q E) : wpAny (model X.prog X.w) X.A (call (.ref f) args.pos args.kw) (EP X pins σ Q) X.xe s := by
  refine wpAny_call (codeAny_mono (G.go X.A X.stack s H args us vs Q E hr hgd I.env0 hb r h) fun r' s' hq => ?_)
  match r', hq with
  | .error er, hq => exact hx pins σ H s er s' I hq
  | .ok (.ret u), hq => exact I.after hq
  | .ok .next, hq => exact hq.elim
  | .ok .brk, hq => exact hq.elim
  | .ok .cont, hq => exact hq.elim
/-- f(e, ..) -/
theorem pe_g (G : GOk X.prog X.w X.K X.mg X.base k f fd ps sp) (hb : BPos fd ps) (hm : X.mg x = some (.ref f)) (hk : PySem.W.keepIn X.K (.ref f) = true) (hr : Room k X.A) (hgd : X.A.guards = some []) (hx : Passes (L2.CX X.prog X.w) X E) (ha : PA X (e :: es) t)
    (hg : Gl X x := by rfl) (hdb : (x == ("__debug__" : Str)) = false := by decide) (he : starEach (e :: es) X.env = (false, eval e X.env) :: starEach es X.env := by rfl) (hpl : (backTo pos (starEach es X.env)).any (·.1) = false := by rfl) :
    PE X (.Call (.Name x p) (e :: es) [] pos) (tCall sp [] E t) := by
  refine ⟨fun pins s σ H Q I h => wpAny_Call_Name_kw (ld_glob I hg hm ?_ hdb)⟩
  refine PySem.W.callWith_K (h₀ := X.base) I.ok.mod.kin hk (thn (ha.run pos pins s σ H _ I h) fun us s1 ⟨vs, H1, I1, r, q⟩ => ⟨I1.kIn, ?_⟩) he hpl
  have q : sp (vs ++ []) H1 Q E := q
  rw [List.append_nil] at q
  exact run_g (args := ⟨us, []⟩) G hr hgd hx I1 (hb s1 us (r.length.symm.trans (G.len _ _ _ _ q))) r q
/-- f() -/
theorem pe_g0 (G : GOk X.prog X.w X.K X.mg X.base k f fd [] sp) (hb : BPos fd []) (hm : X.mg x = some (.ref f)) (hk : PySem.W.keepIn X.K (.ref f) = true) (hr : Room k X.A) (hgd : X.A.guards = some []) (hx : Passes (L2.CX X.prog X.w) X E)
    (hg : Gl X x := by rfl) (hdb : (x == ("__debug__" : Str)) = false := by decide) : PE X (.Call (.Name x p) [] [] pos) (tCall sp [] E tNil) := by
  refine ⟨fun pins s σ H Q I h => wpAny_Call_Name_kw (ld_glob I hg hm ?_ hdb)⟩
  exact PySem.W.callWith_K0 I.kIn hk (run_g (args := ⟨[], []⟩) G hr hgd hx I (hb s [] rfl) .nil h)
/-- f(k = v, ..), all by name: gV puts the values in the parameters' order -/
def tCallW (sp : Sp) (n : Nat) (gV : List V → List V) (E : XK) (t : TA) : TE := fun σ H Q => t σ H fun zs H1 => zs.length = n ∧ sp (gV zs) H1 Q E
theorem pe_gw {g : List Value → List Value} {gV : List V → List V} (G : GOk X.prog X.w X.K X.mg X.base k f fd ps sp) (hb : BKw fd ps ks g) (hgv : ∀ {vs us}, Vals vs us → vs.length = ks.length → Vals (gV vs) (g us)) (hm : X.mg x = some (.ref f)) (hk : PySem.W.keepIn X.K (.ref f) = true)
    (hr : Room k X.A) (hgd : X.A.guards = some []) (hx : Passes (L2.CX X.prog X.w) X E) (hkw : PK X kws t) (hg : Gl X x := by rfl)
    (hall : (backToKw pos (keywordEach kws X.env)).all (·.1.isSome) = true := by rfl) (hks : (backToKw pos (keywordEach kws X.env)).filterMap (·.1) = ks := by rfl) (hdb : (x == ("__debug__" : Str)) = false := by decide)
    (hpl : ((backTo pos (starEach [] X.env)).any (·.1) || (backToKw pos (keywordEach kws X.env)).any (·.1.isNone)) = false := by rfl) :
    PE X (.Call (.Name x p) [] kws pos) (tCallW sp ks.length gV E t) := by
  refine ⟨fun pins s σ H Q I h => wpAny_Call_Name_kw (ld_glob I hg hm ?_ hdb)⟩
  refine PySem.W.callWith_KW0 (h₀ := X.base) I.ok.mod.kin hk hall ?_ hpl
  refine thn (hkw.run pos pins s σ H _ I h) fun ws s2 ⟨zs, H2, I2, rz, ln, q2⟩ => ⟨I2.kIn, ?_⟩
  rw [hks]
  exact run_g (args := ⟨[], ks.zip ws⟩) G hr hgd hx I2 (hb s2 ws (rz.length.symm.trans ln)) (hgv rz ln) q2
end

/-! ### B. plain data -/
inductive Dt where
  | non | bl (b : Bool) | int (i : Int) | str (x : Str) | lst (xs : List Dt) | tup (xs : List Dt)
  /-- an empty dict -/
  | dic
  /-- an instance: its class, its fields -/
  | ins (C : Addr) (ns : List Str) (xs : List Dt)
  /-- any value, by itself -/
  | raw (v : V)
  /-- the list at p -/
  | lat (p : Addr) (xs : List Dt)
  /-- an error that was caught or made: its class, its field -/
  | err (C : Addr) (f : Str) (d : Dt)
  /-- a dict by its keys (tuples) and its values -/
  | dct (ks xs : List Dt)
/-- an error as an object: its class, its dict -/
def ErrO (cls : Value) (d : Option Addr) (a : Addr) : HO := .ext fun h => ∃ oe : Obj, h.get? a = some oe ∧ Zc cls d oe ∧ ∃ vs, oe.data = .fields vs

mutual
/-- hash(d), d without texts -/
def hKey : Dt → Int
  | .non => reduceHash 0xFCA86420
  | .bl b => hashInt (if b = true then 1 else 0)
  | .int i => hashInt i
  | .tup xs => reduceHash (Builtin.Tuple.tupleHashOf (hKeys xs))
  | _ => 0
def hKeys : List Dt → List Int
  | [] => []
  | x :: xs => hKey x :: hKeys xs
end
def ents : List Dt → List Addr → List Value → List DictEntry
  | k :: ks, a :: as, u :: us => ⟨hKey k, .ref a, u⟩ :: ents ks as us
  | _, _, _ => []
/-- a dict as an object: its keys (as data, and where they stand), its values -/
def DicO (ks : List Dt) (as : List Addr) (vs : List V) (d : Addr) : HO := .ext fun h => (d == sysModules) = false ∧ ∃ (o : Obj) (es : Array DictEntry) (ep : Nat) (us : List Value), h.get? d = some o ∧ o.ExactDict ∧ o.data = .dict es ep ∧ Vals vs us ∧ es.toList = ents ks as us
/-- dicts with ints and texts as keys that hold something are no data -/
def dob : HO → Bool
  | .dK (_ :: _) => false
  | _ => true
/-- data stay -/
def Gr (H H' : Hp) : Prop := ∀ a o, H a = some o → dob o = true → H' a = some o
theorem Gr.refl (H : Hp) : Gr H H := fun _ _ h _ => h
theorem Gr.trans {H H1 H2 : Hp} (a : Gr H H1) (b : Gr H1 H2) : Gr H H2 := fun c o h d => b c o (a c o h d) d
theorem _root_.L2.Same.gr {H H' : Hp} (s : Same H H') : Gr H H' := fun c o h _ => s c o h
theorem same_new {H : Hp} {p : Addr} {o : HO} (h : H p = none) : Same H (upd H p o) := fun b x e => by
  rw [upd_ne (ne_of_none e h)]
  exact e
theorem Gr.sqL {K : PySem.W.Frag} {H H' : Hp} {a : Addr} {xs : List V} (g : Gr H H') (h : SqL K H a xs) : SqL K H' a xs := by
  rcases h with (h | ⟨o, h⟩) | h
  · exact .inl (.inl (g _ _ h rfl))
  · exact .inl (.inr ⟨o, g _ _ h rfl⟩)
  · exact .inr h
theorem Gr.sqT {K : PySem.W.Frag} {H H' : Hp} {a : Addr} {xs : List V} (g : Gr H H') (h : SqT K H a xs) : SqT K H' a xs := by
  rcases h with (h | ⟨o, h⟩) | h
  · exact .inl (.inl (g _ _ h rfl))
  · exact .inl (.inr ⟨o, g _ _ h rfl⟩)
  · exact .inr h

mutual
inductive Rep (K : PySem.W.Frag) (H : Hp) : V → Dt → Prop
  | non : Rep K H .non .non
  | bl (b : Bool) : Rep K H (.bl b) (.bl b)
  | int (i : Int) : Rep K H (.int i) (.int i)
  | str (x : Str) : Rep K H (.str x) (.str x)
  | lst {a : Addr} {vs : List V} {ds : List Dt} : SqL K H a vs → RepA K H vs ds → Rep K H (.ref a) (.lst ds)
  | tup {a : Addr} {vs : List V} {ds : List Dt} : SqT K H a vs → RepA K H vs ds → Rep K H (.ref a) (.tup ds)
  | dic {a : Addr} : H a = some (.dK []) → Rep K H (.ref a) .dic
  | ins {a C dx : Addr} {ns : List Str} {vs : List V} {ds : List Dt} : H a = some (.ins C dx (ns.zip vs)) → RepA K H vs ds → Rep K H (.ref a) (.ins C ns ds)
  | raw (v : V) : Rep K H v (.raw v)
  | lat {p : Addr} {vs : List V} {ds : List Dt} : H p = some (.lst vs) → RepA K H vs ds → Rep K H (.ref p) (.lat p ds)
  | err {a C dd : Addr} {f : Str} {v : V} {d : Dt} : H a = some (ErrO (.ref C) (some dd) a) → H dd = some (.xd [(f, v)]) → Rep K H v d → Rep K H (.ref a) (.err C f d)
  | dct {a : Addr} {as : List Addr} {vs : List V} {ks ds : List Dt} : H a = some (DicO ks as vs a) → RepA K H (as.map V.ref) ks → RepA K H vs ds → Rep K H (.ref a) (.dct ks ds)
inductive RepA (K : PySem.W.Frag) (H : Hp) : List V → List Dt → Prop
  | nil : RepA K H [] []
  | cons {v : V} {vs : List V} {d : Dt} {ds : List Dt} : Rep K H v d → RepA K H vs ds → RepA K H (v :: vs) (d :: ds)
end
section
variable {K : PySem.W.Frag} {H H' : Hp}
mutual
theorem Rep.mono (g : Gr H H') : ∀ {v : V} {d : Dt}, Rep K H v d → Rep K H' v d
  | _, _, .non => .non
  | _, _, .bl b => .bl b
  | _, _, .int i => .int i
  | _, _, .str x => .str x
  | _, _, .lst h r => .lst (g.sqL h) (r.mono g)
  | _, _, .tup h r => .tup (g.sqT h) (r.mono g)
  | _, _, .dic h => .dic (g _ _ h rfl)
  | _, _, .ins h r => .ins (g _ _ h rfl) (r.mono g)
  | _, _, .raw v => .raw v
  | _, _, .lat h r => .lat (g _ _ h rfl) (r.mono g)
  | _, _, .err h1 h2 r => .err (g _ _ h1 rfl) (g _ _ h2 rfl) (r.mono g)
  | _, _, .dct h r1 r2 => .dct (g _ _ h rfl) (r1.mono g) (r2.mono g)
theorem RepA.mono (g : Gr H H') : ∀ {vs : List V} {ds : List Dt}, RepA K H vs ds → RepA K H' vs ds
  | _, _, .nil => .nil
  | _, _, .cons h r => .cons (h.mono g) (r.mono g)
end
theorem RepA.len : ∀ {vs : List V} {ds : List Dt}, RepA K H vs ds → vs.length = ds.length
  | _, _, .nil => rfl
  | _, _, .cons _ r => congrArg (· + 1) r.len
theorem RepA.at_ : ∀ {vs : List V} {ds : List Dt} {i : Nat} {d : Dt}, RepA K H vs ds → ds[i]? = some d → ∃ v, vs[i]? = some v ∧ Rep K H v d
  | _, _, _, _, .nil, h => by simp at h
  | _, _, 0, _, .cons r _, h => ⟨_, rfl, by simp at h; exact h ▸ r⟩
  | _, _, i + 1, d, .cons _ r, h => by
    obtain ⟨v, e, q⟩ := RepA.at_ (i := i) (d := d) r (by simpa using h)
    exact ⟨v, by simpa using e, q⟩
theorem RepA.ta : ∀ {vs : List V} {ds : List Dt} {i : Nat} {v : V}, RepA K H vs ds → vs[i]? = some v → ∃ d, ds[i]? = some d ∧ Rep K H v d
  | _, _, _, _, .nil, h => by simp at h
  | _, _, 0, _, .cons r _, h => ⟨_, rfl, by simp at h; exact h ▸ r⟩
  | _, _, i + 1, v, .cons _ r, h => by
    obtain ⟨d, e, q⟩ := RepA.ta (i := i) (v := v) r (by simpa using h)
    exact ⟨d, by simpa using e, q⟩
theorem RepA.app : ∀ {vs ws : List V} {ds es : List Dt}, RepA K H vs ds → RepA K H ws es → RepA K H (vs ++ ws) (ds ++ es)
  | _, _, _, _, .nil, s => s
  | _, _, _, _, .cons h r, s => .cons h (r.app s)
theorem RepA.take : ∀ {vs : List V} {ds : List Dt} (n : Nat), RepA K H vs ds → RepA K H (vs.take n) (ds.take n)
  | _, _, 0, _ => .nil
  | _, _, _ + 1, .nil => .nil
  | _, _, n + 1, .cons h r => .cons h (r.take n)
theorem RepA.drop : ∀ {vs : List V} {ds : List Dt} (n : Nat), RepA K H vs ds → RepA K H (vs.drop n) (ds.drop n)
  | _, _, 0, r => r
  | _, _, _ + 1, .nil => .nil
  | _, _, n + 1, .cons _ r => r.drop n
theorem RepA.bls : ∀ {vs : List V} {bs : List Bool}, RepA K H vs (bs.map Dt.bl) → vs = bs.map V.bl
  | _, [], .nil => rfl
  | _, _ :: _, .cons (.bl _) r => congrArg _ r.bls
theorem RepA.ints : ∀ {vs : List V} {ns : List Int}, RepA K H vs (ns.map Dt.int) → vs = ns.map V.int
  | _, [], .nil => rfl
  | _, _ :: _, .cons (.int _) r => congrArg _ r.ints
theorem Rep.tupI {v : V} {ds : List Dt} (h : Rep K H v (.tup ds)) : ∃ a vs, v = .ref a ∧ SqT K H a vs ∧ RepA K H vs ds := by
  cases h with
  | tup h r => exact ⟨_, _, rfl, h, r⟩
theorem Rep.latI {v : V} {p : Addr} {ds : List Dt} (h : Rep K H v (.lat p ds)) : v = .ref p ∧ ∃ vs, H p = some (.lst vs) ∧ RepA K H vs ds := by
  cases h with
  | lat h r => exact ⟨rfl, _, h, r⟩
theorem Rep.latL {v : V} {p : Addr} {ds : List Dt} (h : Rep K H v (.lat p ds)) : Rep K H v (.lst ds) := by
  obtain ⟨rfl, vs, h, r⟩ := h.latI
  exact .lst (SqL.of h) r
theorem Rep.lstI {v : V} {ds : List Dt} (h : Rep K H v (.lst ds)) : ∃ a vs, v = .ref a ∧ SqL K H a vs ∧ RepA K H vs ds := by
  cases h with
  | lst h r => exact ⟨_, _, rfl, h, r⟩
theorem Rep.intI {v : V} {i : Int} (h : Rep K H v (.int i)) : v = .int i := by cases h <;> rfl
theorem Rep.blI {v : V} {b : Bool} (h : Rep K H v (.bl b)) : v = .bl b := by cases h <;> rfl
theorem Rep.strI {v : V} {x : Str} (h : Rep K H v (.str x)) : v = .str x := by cases h <;> rfl
theorem Rep.rawI {v u : V} (h : Rep K H v (.raw u)) : v = u := by cases h <;> rfl
end

/-- what holds of the heap all along -/
structure Sta where
  I : Hp → Prop
  st : ∀ {H H' : Hp}, I H → Same H H' → I H'
/-- the slots' data -/
structure Slots (K : PySem.W.Frag) (H : Hp) (σ : L2.St) (ρ : List (Option Dt)) : Prop where
  len : σ.length = ρ.length
  val : ∀ (i : Nat) (d : Dt), ρ[i]? = some (some d) → ∃ v, σ[i]? = some (some v) ∧ Rep K H v d
section
variable {K : PySem.W.Frag} {H H' : Hp} {σ : L2.St} {ρ : List (Option Dt)}
theorem Slots.mono (s : Slots K H σ ρ) (g : Gr H H') : Slots K H' σ ρ := ⟨s.len, fun i d h => let ⟨v, e, r⟩ := s.val i d h; ⟨v, e, r.mono g⟩⟩
theorem Slots.set (s : Slots K H σ ρ) {v : V} {d : Dt} (r : Rep K H v d) (j : Nat) : Slots K H (σ.set j (some v)) (ρ.set j (some d)) := by
  refine ⟨by rw [List.length_set, List.length_set, s.len], fun i e h => ?_⟩
  by_cases hj : j = i
  · subst hj
    by_cases hl : j < ρ.length
    · rw [List.getElem?_set_self hl] at h
      cases h
      exact ⟨v, List.getElem?_set_self (by rw [s.len]; exact hl), r⟩
    · rw [List.getElem?_eq_none (by rw [List.length_set]; omega)] at h
      cases h
  · rw [List.getElem?_set_ne hj] at h
    obtain ⟨u, hu, q⟩ := s.val i e h
    exact ⟨u, by rw [List.getElem?_set_ne hj]; exact hu, q⟩
/-- a slot whose data are forgotten -/
theorem Slots.lose (s : Slots K H σ ρ) {ν : Option V} (j : Nat) : Slots K H (σ.set j ν) (ρ.set j none) := by
  refine ⟨by rw [List.length_set, List.length_set, s.len], fun i e h => ?_⟩
  by_cases hj : j = i
  · subst hj
    by_cases hl : j < ρ.length
    · rw [List.getElem?_set_self hl] at h
      cases h
    · rw [List.getElem?_eq_none (by rw [List.length_set]; omega)] at h
      cases h
  · rw [List.getElem?_set_ne hj] at h
    obtain ⟨u, hu, q⟩ := s.val i e h
    exact ⟨u, by rw [List.getElem?_set_ne hj]; exact hu, q⟩
def wipeD (ρ : List (Option Dt)) : List Nat → List (Option Dt)
  | [] => ρ
  | v :: vs => (wipeD ρ vs).set v none
theorem Slots.wipe (s : Slots K H σ ρ) : ∀ vs : List Nat, Slots K H (L2.wipe σ vs) (wipeD ρ vs)
  | [] => s
  | v :: vs => (s.wipe vs).lose v
end

/-! ### C. what an expression comes to -/
section
variable (K : PySem.W.Frag) (S S' : Sta)
def Ev (ρ : List (Option Dt)) (te : TE) (Φ : Dt → Prop) : Prop := ∀ (σ : L2.St) (H : Hp), S.I H → Slots K H σ ρ → ∀ Q : VK, (∀ v d H', Gr H H' → S'.I H' → Rep K H' v d → Φ d → Q v H') → te σ H Q
def EvT (ρ : List (Option Dt)) (tt : TT) (Φ : Bool → Prop) : Prop := ∀ (σ : L2.St) (H : Hp), S.I H → Slots K H σ ρ → ∀ Q : Bool → Hp → Prop, (∀ b H', Gr H H' → S'.I H' → Φ b → Q b H') → tt σ H Q
def EvA (ρ : List (Option Dt)) (ta : TA) (Φ : List Dt → Prop) : Prop := ∀ (σ : L2.St) (H : Hp), S.I H → Slots K H σ ρ → ∀ Q : List V → Hp → Prop, (∀ vs ds H', Gr H H' → S'.I H' → RepA K H' vs ds → Φ ds → Q vs H') → ta σ H Q
def EvO (ρ : List (Option Dt)) (to : TO) (Φ : Option Int → Prop) : Prop := ∀ (σ : L2.St) (H : Hp), S.I H → Slots K H σ ρ → ∀ Q : Option Int → Hp → Prop, (∀ o H', Gr H H' → S'.I H' → Φ o → Q o H') → to σ H Q
end
section
variable (K : PySem.W.Frag) (S : Sta)
/-- a two-place operation over data -/
def Rv2 (r : R2) (x y : Dt) (Φ : Dt → Prop) : Prop := ∀ (H : Hp) (v u : V), S.I H → Rep K H v x → Rep K H u y → ∀ Q : VK, (∀ v' d H', Gr H H' → S.I H' → Rep K H' v' d → Φ d → Q v' H') → r v u H Q
def RvC (r : List V → Hp → VK → Prop) (xs : List Dt) (Φ : Dt → Prop) : Prop := ∀ (H : Hp) (vs : List V), S.I H → RepA K H vs xs → ∀ Q : VK, (∀ v' d H', Gr H H' → S.I H' → Rep K H' v' d → Φ d → Q v' H') → r vs H Q
end
section
variable {K : PySem.W.Frag} {S S1 S2 S3 : Sta} {ρ : List (Option Dt)} {ta tb te : TE} {t u : TT} {Φ Ψ Θ : Dt → Prop} {x y z d : Dt}
theorem Ev.weak (h : Ev K S S1 ρ te Φ) (w : ∀ d, Φ d → Ψ d) : Ev K S S1 ρ te Ψ := fun σ H i s Q q => h σ H i s Q fun v d H' g i' r p => q v d H' g i' r (w d p)
theorem EvT.weak {Φ Ψ : Bool → Prop} (h : EvT K S S1 ρ t Φ) (w : ∀ d, Φ d → Ψ d) : EvT K S S1 ρ t Ψ := fun σ H i s Q q => h σ H i s Q fun v H' g i' p => q v H' g i' (w v p)
theorem Ev.to (h : Ev K S S1 ρ te (Eq x)) (e : x = y) : Ev K S S1 ρ te (Eq y) := e ▸ h
theorem EvT.to {a b : Bool} (h : EvT K S S1 ρ t (Eq a)) (e : a = b) : EvT K S S1 ρ t (Eq b) := e ▸ h
theorem ev_var {i : Nat} (h : ρ[i]? = some (some d)) : Ev K S S ρ (tVar i) (Eq d) := fun σ H hi s Q q => by
  obtain ⟨v, e, r⟩ := s.val i d h
  exact ⟨v, e, q v d H (Gr.refl H) hi r rfl⟩
theorem ev_lat {p : Addr} {xs : List Dt} (h : Ev K S S1 ρ te (Eq (.lat p xs))) : Ev K S S1 ρ te (Eq (.lst xs)) := fun σ H i s Q q => h σ H i s Q fun v d H' g i' r e => q v _ H' g i' ((show Dt.lat p xs = d from e) ▸ r).latL rfl
theorem ev_int {i : Int} : Ev K S S ρ (tC (.int i)) (Eq (.int i)) := fun σ H hi s Q q => q _ _ H (Gr.refl H) hi (.int i) rfl
theorem ev_bl {b : Bool} : Ev K S S ρ (tC (.bl b)) (Eq (.bl b)) := fun σ H hi s Q q => q _ _ H (Gr.refl H) hi (.bl b) rfl
theorem ev_non : Ev K S S ρ (tC .non) (Eq .non) := fun σ H hi s Q q => q _ _ H (Gr.refl H) hi .non rfl
theorem ev_str {x : Str} : Ev K S S ρ (tC (.str x)) (Eq (.str x)) := fun σ H hi s Q q => q _ _ H (Gr.refl H) hi (.str x) rfl
theorem ev_raw {v : V} : Ev K S S ρ (tC v) (Eq (.raw v)) := fun σ H hi s Q q => q _ _ H (Gr.refl H) hi (.raw v) rfl
theorem ev_opP {r : R2} (ha : Ev K S S1 ρ ta Φ) (hb : Ev K S1 S2 ρ tb Ψ) (hr : ∀ x y, Φ x → Ψ y → Rv2 K S2 r x y Θ) : Ev K S S2 ρ (tOp r ta tb) Θ := fun σ H i s Q q =>
  ha σ H i s _ fun v x H1 g1 i1 r1 p1 => hb σ H1 i1 (s.mono g1) _ fun u y H2 g2 i2 r2 p2 => hr x y p1 p2 H2 v u i2 (r1.mono g2) r2 Q fun v' d H3 g3 i3 r3 p3 => q v' d H3 ((g1.trans g2).trans g3) i3 r3 p3
theorem ev_op {r : R2} (ha : Ev K S S1 ρ ta (Eq x)) (hb : Ev K S1 S2 ρ tb (Eq y)) (hr : Rv2 K S2 r x y Θ) : Ev K S S2 ρ (tOp r ta tb) Θ := ev_opP ha hb fun _ _ e1 e2 => e1 ▸ e2 ▸ hr
theorem ev_un {r : V → Hp → VK → Prop} (ha : Ev K S S1 ρ ta (Eq x)) (hr : ∀ (H : Hp) (v : V), S1.I H → Rep K H v x → ∀ Q : VK, (∀ v' d H', Gr H H' → S1.I H' → Rep K H' v' d → Θ d → Q v' H') → r v H Q) : Ev K S S1 ρ (tUn r ta) Θ := fun σ H i s Q q =>
  ha σ H i s _ fun v x' H1 g1 i1 r1 p1 => hr H1 v i1 (p1 ▸ r1) Q fun v' d H3 g3 i3 r3 p3 => q v' d H3 (g1.trans g3) i3 r3 p3
/-! operations that hand back a plain value and leave the heap -/
theorem rv_at {r : R2} (h : ∀ H v u, S.I H → Rep K H v x → Rep K H u y → ∀ Q : VK, (∀ v', Rep K H v' z → Q v' H) → r v u H Q) : Rv2 K S r x y (Eq z) := fun H v u i r1 r2 Q q =>
  h H v u i r1 r2 Q fun v' r' => q v' z H (Gr.refl H) i r' rfl
theorem rv_I0 {g : Int → Int → V} {i j : Int} (hz : ∀ H, Rep K H (g i j) z) : Rv2 K S (rI0 g) (.int i) (.int j) (Eq z) := rv_at fun H v u _ r1 r2 Q q => ⟨i, j, r1.intI, r2.intI, q _ (hz H)⟩
theorem rv_I {C : Int → Int → Prop} {g : Int → Int → V} {i j : Int} (hc : C i j) (hz : ∀ H, Rep K H (g i j) z) : Rv2 K S (rI C g) (.int i) (.int j) (Eq z) := rv_at fun H v u _ r1 r2 Q q => ⟨i, j, r1.intI, r2.intI, hc, q _ (hz H)⟩
theorem rv_ii {g : Int → Int → Int} {i j : Int} : Rv2 K S (rI0 fun a b => .int (g a b)) (.int i) (.int j) (Eq (.int (g i j))) := rv_I0 fun _ => .int _
theorem rv_iic {C : Int → Int → Prop} {g : Int → Int → Int} {i j : Int} (hc : C i j) : Rv2 K S (rI C fun a b => .int (g a b)) (.int i) (.int j) (Eq (.int (g i j))) := rv_I hc fun _ => .int _
theorem rv_ib {g : Int → Int → Bool} {i j : Int} : Rv2 K S (rI0 fun a b => .bl (g a b)) (.int i) (.int j) (Eq (.bl (g i j))) := rv_I0 fun _ => .bl _
theorem rv_eqI {i j : Int} : Rv2 K S rEq (.int i) (.int j) (Eq (.bl (decide (i = j)))) := rv_at fun H v u _ r1 r2 Q q => by
  obtain rfl := r1.intI; obtain rfl := r2.intI
  exact ⟨rfl, by rw [show decide (V.int i = V.int j) = decide (i = j) by by_cases e : i = j <;> simp [e]]; exact q _ (.bl _)⟩
theorem rv_neI {i j : Int} : Rv2 K S rNe (.int i) (.int j) (Eq (.bl (!decide (i = j)))) := rv_at fun H v u _ r1 r2 Q q => by
  obtain rfl := r1.intI; obtain rfl := r2.intI
  exact ⟨rfl, by rw [show decide (V.int i = V.int j) = decide (i = j) by by_cases e : i = j <;> simp [e]]; exact q _ (.bl _)⟩
theorem rv_eqS {i j : Str} : Rv2 K S rEq (.str i) (.str j) (Eq (.bl (decide (i = j)))) := rv_at fun H v u _ r1 r2 Q q => by
  obtain rfl := r1.strI; obtain rfl := r2.strI
  exact ⟨rfl, by rw [show decide (V.str i = V.str j) = decide (i = j) by by_cases e : i = j <;> simp [e]]; exact q _ (.bl _)⟩
theorem rv_neS {i j : Str} : Rv2 K S rNe (.str i) (.str j) (Eq (.bl (!decide (i = j)))) := rv_at fun H v u _ r1 r2 Q q => by
  obtain rfl := r1.strI; obtain rfl := r2.strI
  exact ⟨rfl, by rw [show decide (V.str i = V.str j) = decide (i = j) by by_cases e : i = j <;> simp [e]]; exact q _ (.bl _)⟩
/-- is None -/
def Dt.isNon : Dt → Bool
  | .non => true
  | .raw .non => true
  | _ => false
theorem Rep.isNon {H : Hp} {v : V} (r : Rep K H v d) : decide (v = .non) = d.isNon := by
  cases r with
  | raw v => cases v <;> rfl
  | _ => rfl
theorem rv_isN : Rv2 K S (fun x y H Q => y = .non ∧ Q (.bl (decide (x = .non))) H) d .non (Eq (.bl d.isNon)) := rv_at fun H v u _ r1 r2 Q q => by
  refine ⟨by cases r2; rfl, ?_⟩
  rw [r1.isNon]
  exact q _ (.bl _)
theorem rv_notN : Rv2 K S (fun x y H Q => y = .non ∧ Q (.bl (!decide (x = .non))) H) d .non (Eq (.bl (!d.isNon))) := rv_at fun H v u _ r1 r2 Q q => by
  refine ⟨by cases r2; rfl, ?_⟩
  rw [r1.isNon]
  exact q _ (.bl _)
theorem rv_isB {a b : Bool} : Rv2 K S rIsB (.bl a) (.bl b) (Eq (.bl (decide (a = b)))) := rv_at fun H v u _ r1 r2 Q q => ⟨a, b, r1.blI, r2.blI, q _ (.bl _)⟩
theorem rv_notB {a b : Bool} : Rv2 K S rNotB (.bl a) (.bl b) (Eq (.bl (!decide (a = b)))) := rv_at fun H v u _ r1 r2 Q q => ⟨a, b, r1.blI, r2.blI, q _ (.bl _)⟩

/-! argument lists, displays -/
theorem ea_nil : EvA K S S ρ tNil (Eq []) := fun σ H i s Q q => q _ _ H (Gr.refl H) i .nil rfl
theorem ea_consP {tr : TA} {Φl : List Dt → Prop} (ha : Ev K S S1 ρ ta Φ) (hr : EvA K S1 S2 ρ tr Φl) : EvA K S S2 ρ (tCons ta tr) (fun l => ∃ d ds, l = d :: ds ∧ Φ d ∧ Φl ds) := fun σ H i s Q q =>
  ha σ H i s _ fun v d H1 g1 i1 r1 p1 => hr σ H1 i1 (s.mono g1) _ fun vs ds H2 g2 i2 r2 p2 => q _ _ H2 (g1.trans g2) i2 (.cons (r1.mono g2) r2) ⟨d, ds, rfl, p1, p2⟩
theorem ea_cons {tr : TA} {ds : List Dt} (ha : Ev K S S1 ρ ta (Eq d)) (hr : EvA K S1 S2 ρ tr (Eq ds)) : EvA K S S2 ρ (tCons ta tr) (Eq (d :: ds)) := fun σ H i s Q q =>
  ha σ H i s _ fun v d' H1 g1 i1 r1 p1 => hr σ H1 i1 (s.mono g1) _ fun vs ds' H2 g2 i2 r2 p2 => q _ _ H2 (g1.trans g2) i2 (.cons (p1 ▸ r1.mono g2) (p2 ▸ r2)) rfl
theorem ea_starT {tr : TA} {xs ds : List Dt} (ha : Ev K S S1 ρ ta (Eq (.tup xs))) (hr : EvA K S1 S2 ρ tr (Eq ds)) : EvA K S S2 ρ (StX.tStar K ta tr) (Eq (xs ++ ds)) := fun σ H i s Q q =>
  ha σ H i s _ fun v d' H1 g1 i1 r1 p1 => by
    subst p1
    obtain ⟨a, vs, rfl, h, ra⟩ := r1.tupI
    exact ⟨a, vs, rfl, .inl h, hr σ H1 i1 (s.mono g1) _ fun us ds' H2 g2 i2 r2 p2 => q _ _ H2 (g1.trans g2) i2 ((ra.mono g2).app (p2 ▸ r2)) rfl⟩
theorem ev_tupP {t : TA} {Φl : List Dt → Prop} (h : EvA K S S1 ρ t Φl) (hz : ∀ ds, Φl ds → ds.length ≤ sizeLine) : Ev K S S1 ρ (tTup t) (fun d => ∃ ds, d = .tup ds ∧ Φl ds) := fun σ H i s Q q =>
  h σ H i s _ fun vs ds H1 g1 i1 r1 p1 => ⟨by rw [r1.len]; exact hz ds p1, fun p hp => q _ _ _ (g1.trans (same_new hp).gr) (S1.st i1 (same_new hp)) (.tup (SqT.of upd_same) (r1.mono (same_new hp).gr)) ⟨ds, rfl, p1⟩⟩
theorem ev_lstP {t : TA} {Φl : List Dt → Prop} (h : EvA K S S1 ρ t Φl) (hz : ∀ ds, Φl ds → ds.length ≤ sizeLine) : Ev K S S1 ρ (tLst t) (fun d => ∃ ds, d = .lst ds ∧ Φl ds) := fun σ H i s Q q =>
  h σ H i s _ fun vs ds H1 g1 i1 r1 p1 => ⟨by rw [r1.len]; exact hz ds p1, fun p hp => q _ _ _ (g1.trans (same_new hp).gr) (S1.st i1 (same_new hp)) (.lst (SqL.of upd_same) (r1.mono (same_new hp).gr)) ⟨ds, rfl, p1⟩⟩
theorem ev_tup {t : TA} {ds : List Dt} (h : EvA K S S1 ρ t (Eq ds)) (hz : ds.length ≤ sizeLine) : Ev K S S1 ρ (tTup t) (Eq (.tup ds)) := (ev_tupP h fun _ e => e ▸ hz).weak fun _ ⟨_, e, e'⟩ => e ▸ e' ▸ rfl
theorem ev_lst {t : TA} {ds : List Dt} (h : EvA K S S1 ρ t (Eq ds)) (hz : ds.length ≤ sizeLine) : Ev K S S1 ρ (tLst t) (Eq (.lst ds)) := (ev_lstP h fun _ e => e ▸ hz).weak fun _ ⟨_, e, e'⟩ => e ▸ e' ▸ rfl
theorem ev_dic : Ev K S S ρ tDNewK (Eq .dic) := fun σ H i s Q q p hp => q _ _ _ (same_new hp).gr (S.st i (same_new hp)) (.dic upd_same) rfl

/-! calls -/
/-- a def over data: from ds (n of them, such that pre) it hands back f ds and leaves all else -/
def spF (K : PySem.W.Frag) (n : Nat) (pre : List Dt → Prop) (f : List Dt → Dt) : Sp := fun vs H Q _ => ∃ ds, RepA K H vs ds ∧ ds.length = n ∧ pre ds ∧ ∀ v H', Same H H' → Rep K H' v (f ds) → Q v H'
theorem ev_callF {t : TA} {ds : List Dt} {n : Nat} {pre : List Dt → Prop} {f : List Dt → Dt} {E : XK} (ha : EvA K S S1 ρ t (Eq ds)) (hn : ds.length = n) (hp : pre ds) : Ev K S S1 ρ (tCall (spF K n pre f) [] E t) (Eq (f ds)) := fun σ H i s Q q =>
  ha σ H i s _ fun vs ds' H1 g1 i1 r1 p1 => by
    subst p1
    rw [List.append_nil]
    exact ⟨ds, r1, hn, hp, fun v H2 sm r => q v _ H2 (g1.trans sm.gr) (S1.st i1 sm) r rfl⟩
theorem ev_callW {t : TA} {ds es : List Dt} {n m : Nat} {gV : List V → List V} {pre : List Dt → Prop} {f : List Dt → Dt} {E : XK} (ha : EvA K S S1 ρ t (Eq es)) (hm : es.length = m) (hg : ∀ H vs, RepA K H vs es → RepA K H (gV vs) ds) (hn : ds.length = n) (hp : pre ds) :
    Ev K S S1 ρ (tCallW (spF K n pre f) m gV E t) (Eq (f ds)) := fun σ H i s Q q =>
  ha σ H i s _ fun vs ds' H1 g1 i1 r1 p1 => by
    subst p1
    exact ⟨r1.len.trans hm, ds, hg _ _ r1, hn, hp, fun v H2 sm r => q v _ H2 (g1.trans sm.gr) (S1.st i1 sm) r rfl⟩
theorem ev_cbP {r : List V → Hp → VK → Prop} {t : TA} {Φl : List Dt → Prop} (ha : EvA K S S1 ρ t Φl) (hr : ∀ ds, Φl ds → RvC K S1 r ds Θ) : Ev K S S1 ρ (tCB r t) Θ := fun σ H i s Q q =>
  ha σ H i s _ fun vs ds' H1 g1 i1 r1 p1 => hr ds' p1 H1 vs i1 r1 Q fun v' d H3 g3 i3 r3 p3 => q v' d H3 (g1.trans g3) i3 r3 p3
theorem ev_cb {r : List V → Hp → VK → Prop} {t : TA} {ds : List Dt} (ha : EvA K S S1 ρ t (Eq ds)) (hr : RvC K S1 r ds Θ) : Ev K S S1 ρ (tCB r t) Θ := ev_cbP ha fun _ e => e ▸ hr
theorem rc_at {r : List V → Hp → VK → Prop} {xs : List Dt} (h : ∀ H vs, S.I H → RepA K H vs xs → ∀ Q : VK, (∀ v', Rep K H v' z → Q v' H) → r vs H Q) : RvC K S r xs (Eq z) := fun H vs i r1 Q q => h H vs i r1 Q fun v' r' => q v' z H (Gr.refl H) i r' rfl
theorem RepA.oneI {H : Hp} {vs : List V} (r : RepA K H vs [d]) : ∃ v, vs = [v] ∧ Rep K H v d := by
  cases r with
  | cons h r => cases r; exact ⟨_, rfl, h⟩
theorem RepA.twoI {H : Hp} {vs : List V} (r : RepA K H vs [x, y]) : ∃ v u, vs = [v, u] ∧ Rep K H v x ∧ Rep K H u y := by
  cases r with
  | cons h r => obtain ⟨u, rfl, q⟩ := r.oneI; exact ⟨_, _, rfl, h, q⟩
def rLen (K : PySem.W.Frag) : List V → Hp → VK → Prop := fun xs H Q => ∃ p ys, xs = [.ref p] ∧ (SqL K H p ys ∨ SqT K H p ys) ∧ Q (.int ys.length) H
theorem rc_lenT {xs : List Dt} : RvC K S (rLen K) [.tup xs] (Eq (.int xs.length)) := rc_at fun H vs i r Q q => by
  obtain ⟨v, rfl, r1⟩ := r.oneI
  obtain ⟨a, us, rfl, h, ra⟩ := r1.tupI
  exact ⟨a, us, rfl, .inr h, by rw [ra.len]; exact q _ (.int _)⟩
theorem rc_lenL {xs : List Dt} : RvC K S (rLen K) [.lst xs] (Eq (.int xs.length)) := rc_at fun H vs i r Q q => by
  obtain ⟨v, rfl, r1⟩ := r.oneI
  obtain ⟨a, us, rfl, h, ra⟩ := r1.lstI
  exact ⟨a, us, rfl, .inl h, by rw [ra.len]; exact q _ (.int _)⟩
theorem rc_all {bs : List Bool} : RvC K S (rAll K) [.lst (bs.map Dt.bl)] (Eq (.bl (bs.all id))) := rc_at fun H vs i r Q q => by
  obtain ⟨v, rfl, r1⟩ := r.oneI
  obtain ⟨a, us, rfl, h, ra⟩ := r1.lstI
  exact ⟨a, bs, rfl, by rw [← ra.bls]; exact h, q _ (.bl _)⟩

/-! subscripts, slices, joined tuples -/
theorem atI_rep {H : Hp} {vs : List V} {ds : List Dt} {i : Int} (r : RepA K H vs ds) (h : atI ds i = some d) : ∃ v, atI vs i = some v ∧ Rep K H v d := by
  unfold atI at h ⊢
  rw [r.len]
  cases e : ixN ds.length i with
  | none => rw [e] at h; cases h
  | some j =>
    rw [e] at h
    exact r.at_ h
theorem rv_ixT {xs : List Dt} {i : Int} (h : atI xs i = some d) : Rv2 K S (rIxT K) (.tup xs) (.int i) (Eq d) := rv_at fun H v u _ r1 r2 Q q => by
  obtain ⟨a, us, rfl, ht, ra⟩ := r1.tupI
  obtain rfl := r2.intI
  obtain ⟨v, e, rv⟩ := atI_rep ra h
  exact ⟨a, us, i, v, rfl, rfl, ht, e, q v rv⟩
theorem rv_ixL {xs : List Dt} {i : Int} (h : atI xs i = some d) : Rv2 K S (rIxL K) (.lst xs) (.int i) (Eq d) := rv_at fun H v u _ r1 r2 Q q => by
  obtain ⟨a, us, rfl, ht, ra⟩ := r1.lstI
  obtain rfl := r2.intI
  obtain ⟨v, e, rv⟩ := atI_rep ra h
  exact ⟨a, us, i, v, rfl, rfl, ht, e, q v rv⟩
theorem rv_ixSL {xs : List Dt} {i : Int} (h : atI xs i = some d) : Rv2 K S (rIx K) (.lst xs) (.int i) (Eq d) := fun H v u hi r1 r2 Q q => .inl (rv_ixL h H v u hi r1 r2 Q q)
theorem rv_ixST {xs : List Dt} {i : Int} (h : atI xs i = some d) : Rv2 K S (rIx K) (.tup xs) (.int i) (Eq d) := fun H v u hi r1 r2 Q q => .inr (.inl (rv_ixT h H v u hi r1 r2 Q q))
/-- a part of a sequence -/
def cutD (xs : List Dt) (lo hi : Option Int) : List Dt := (xs.drop (HT.sIx xs.length 0 lo)).take (HT.sIx xs.length xs.length hi - HT.sIx xs.length 0 lo)
theorem cut_rep {H : Hp} {vs : List V} {ds : List Dt} (r : RepA K H vs ds) (lo hi : Option Int) : RepA K H (cutV vs lo hi) (cutD ds lo hi) := by
  unfold cutV cutD
  rw [r.len]
  exact (r.drop _).take _
theorem eo_none : EvO K S S ρ tNoPart (Eq none) := fun σ H i s Q q => q _ H (Gr.refl H) i rfl
theorem eo_some {i : Int} (h : Ev K S S1 ρ te (Eq (.int i))) : EvO K S S1 ρ (tPart te) (Eq (some i)) := fun σ H hi s Q q => h σ H hi s _ fun v d H1 g1 i1 r1 p1 => by
  subst p1
  exact ⟨i, r1.intI, q _ H1 g1 i1 rfl⟩
theorem cutD_whole {xs : List Dt} {lo hi : Option Int} (h : HT.sIx xs.length 0 lo = 0 ∧ HT.sIx xs.length xs.length hi = xs.length) : cutD xs lo hi = xs := by
  unfold cutD
  rw [h.1, h.2, Nat.sub_zero, List.drop_zero, List.take_length]
theorem ev_slT {tl th : TO} {xs : List Dt} {lo hi : Option Int} (ha : Ev K S S1 ρ te (Eq (.tup xs))) (hl : EvO K S1 S2 ρ tl (Eq lo)) (hh : EvO K S2 S3 ρ th (Eq hi)) : Ev K S S3 ρ (tSl (rSlA K) te tl th) (Eq (.tup (cutD xs lo hi))) := fun σ H i s Q q =>
  ha σ H i s _ fun v d' H1 g1 i1 r1 p1 => hl σ H1 i1 (s.mono g1) _ fun l H2 g2 i2 p2 => hh σ H2 i2 (s.mono (g1.trans g2)) _ fun u H3 g3 i3 p3 => by
    subst p1 p2 p3
    obtain ⟨a, vs, rfl, h, ra⟩ := r1.tupI
    have g23 := g2.trans g3
    refine ⟨a, vs, rfl, g23.sqT h, fun hw => ?_, fun hw p hp => ?_⟩
    · rw [ra.len] at hw
      refine q _ _ H3 (g1.trans g23) i3 (.tup (g23.sqT h) ?_) rfl
      rw [cutD_whole hw]
      exact ra.mono g23
    · exact q _ _ _ ((g1.trans g23).trans (same_new hp).gr) (S3.st i3 (same_new hp)) (.tup (SqT.of upd_same) ((cut_rep (ra.mono g23) lo hi).mono (same_new hp).gr)) rfl
theorem ev_slL {tl th : TO} {xs : List Dt} {lo hi : Option Int} (ha : Ev K S S1 ρ te (Eq (.lst xs))) (hl : EvO K S1 S2 ρ tl (Eq lo)) (hh : EvO K S2 S3 ρ th (Eq hi)) : Ev K S S3 ρ (tSl (rSlL K) te tl th) (Eq (.lst (cutD xs lo hi))) := fun σ H i s Q q =>
  ha σ H i s _ fun v d' H1 g1 i1 r1 p1 => hl σ H1 i1 (s.mono g1) _ fun l H2 g2 i2 p2 => hh σ H2 i2 (s.mono (g1.trans g2)) _ fun u H3 g3 i3 p3 => by
    subst p1 p2 p3
    obtain ⟨a, vs, rfl, h, ra⟩ := r1.lstI
    have g23 := g2.trans g3
    exact ⟨a, vs, rfl, g23.sqL h, fun p hp => q _ _ _ ((g1.trans g23).trans (same_new hp).gr) (S3.st i3 (same_new hp)) (.lst (SqL.of upd_same) ((cut_rep (ra.mono g23) lo hi).mono (same_new hp).gr)) rfl⟩
theorem rv_catT {xs ys : List Dt} (hz : xs.length + ys.length ≤ sizeLine) : Rv2 K S (rCatA K) (.tup xs) (.tup ys) (Eq (.tup (xs ++ ys))) := fun H v u i r1 r2 Q q => by
  obtain ⟨a, vs, rfl, h1, ra⟩ := r1.tupI
  obtain ⟨b, us, rfl, h2, rb⟩ := r2.tupI
  refine ⟨a, b, vs, us, rfl, rfl, h1, h2, by rw [ra.len, rb.len]; exact hz, fun e => ?_, fun _ e => ?_, fun _ _ p hp => ?_⟩
  · subst e
    cases ra
    exact q _ _ H (Gr.refl H) i (.tup h2 rb) rfl
  · subst e
    cases rb
    exact q _ _ H (Gr.refl H) i (.tup h1 ra) (by rw [List.append_nil])
  · exact q _ _ _ (same_new hp).gr (S.st i (same_new hp)) (.tup (SqT.of upd_same) ((ra.app rb).mono (same_new hp).gr)) rfl

/-! choices -/
theorem ev_if {b : Bool} (ht : EvT K S S1 ρ t (Eq b)) (ha : b = true → Ev K S1 S2 ρ ta Φ) (hb : b = false → Ev K S1 S2 ρ tb Φ) : Ev K S S2 ρ (tIf t ta tb) Φ := fun σ H i s Q q =>
  ht σ H i s _ fun c H1 g1 i1 p1 => by
    subst p1
    cases b with
    | true => rw [if_pos rfl]; exact ha rfl σ H1 i1 (s.mono g1) Q fun v d H2 g2 => q v d H2 (g1.trans g2)
    | false => rw [if_neg Bool.false_ne_true]; exact hb rfl σ H1 i1 (s.mono g1) Q fun v d H2 g2 => q v d H2 (g1.trans g2)
theorem ev_and {a b : Bool} (ha : Ev K S S1 ρ ta (Eq (.bl a))) (hb : a = true → Ev K S1 S1 ρ tb (Eq (.bl b))) : Ev K S S1 ρ (tAndV ta tb) (Eq (.bl (a && b))) := fun σ H i s Q q =>
  ha σ H i s _ fun v d H1 g1 i1 r1 p1 => by
    subst p1
    refine ⟨a, r1.blI, ?_⟩
    cases a with
    | true => rw [if_pos rfl]; exact hb rfl σ H1 i1 (s.mono g1) Q fun v d H2 g2 => q v d H2 (g1.trans g2)
    | false => rw [if_neg Bool.false_ne_true]; exact q _ _ H1 g1 i1 (.bl _) rfl
theorem ev_or {a b : Bool} (ha : Ev K S S1 ρ ta (Eq (.bl a))) (hb : a = false → Ev K S1 S1 ρ tb (Eq (.bl b))) : Ev K S S1 ρ (tOrV ta tb) (Eq (.bl (a || b))) := fun σ H i s Q q =>
  ha σ H i s _ fun v d H1 g1 i1 r1 p1 => by
    subst p1
    refine ⟨a, r1.blI, ?_⟩
    cases a with
    | false => rw [if_neg Bool.false_ne_true]; exact hb rfl σ H1 i1 (s.mono g1) Q fun v d H2 g2 => q v d H2 (g1.trans g2)
    | true => rw [if_pos rfl]; exact q _ _ H1 g1 i1 (.bl _) rfl
theorem ev_not {a : Bool} (ha : Ev K S S1 ρ ta (Eq (.bl a))) : Ev K S S1 ρ (tNotV ta) (Eq (.bl (!a))) := fun σ H i s Q q =>
  ha σ H i s _ fun v d H1 g1 i1 r1 p1 => by
    subst p1
    exact ⟨a, r1.blI, q _ _ H1 g1 i1 (.bl _) rfl⟩
theorem et_B {a : Bool} (ha : Ev K S S1 ρ ta (Eq (.bl a))) : EvT K S S1 ρ (tB ta) (Eq a) := fun σ H i s Q q => ha σ H i s _ fun v d H1 g1 i1 r1 p1 => by
  subst p1
  exact ⟨a, r1.blI, q _ H1 g1 i1 rfl⟩
theorem et_test {a : Bool} (ha : Ev K S S1 ρ ta (Eq (.bl a))) : EvT K S S1 ρ (tTest ta) (Eq a) := fun σ H i s Q q => ha σ H i s _ fun v d H1 g1 i1 r1 p1 => by
  subst p1
  exact ⟨a, r1.blI, q _ H1 g1 i1 rfl⟩
theorem et_BP {Φb : Bool → Prop} (ha : Ev K S S1 ρ ta (fun d => ∃ b, d = .bl b ∧ Φb b)) : EvT K S S1 ρ (tB ta) Φb := fun σ H i s Q q => ha σ H i s _ fun v d H1 g1 i1 r1 p1 => by
  obtain ⟨b, rfl, p⟩ := p1
  exact ⟨b, r1.blI, q _ H1 g1 i1 p⟩
theorem et_testP {Φb : Bool → Prop} (ha : Ev K S S1 ρ ta (fun d => ∃ b, d = .bl b ∧ Φb b)) : EvT K S S1 ρ (tTest ta) Φb := fun σ H i s Q q => ha σ H i s _ fun v d H1 g1 i1 r1 p1 => by
  obtain ⟨b, rfl, p⟩ := p1
  exact ⟨b, r1.blI, q _ H1 g1 i1 p⟩
theorem et_and {a b : Bool} (ha : EvT K S S1 ρ t (Eq a)) (hb : a = true → EvT K S1 S1 ρ u (Eq b)) : EvT K S S1 ρ (tAnd t u) (Eq (a && b)) := fun σ H i s Q q => ha σ H i s _ fun c H1 g1 i1 p1 => by
  subst p1
  cases a with
  | true => rw [if_pos rfl]; exact hb rfl σ H1 i1 (s.mono g1) Q fun v H2 g2 => q v H2 (g1.trans g2)
  | false => rw [if_neg Bool.false_ne_true]; exact q _ H1 g1 i1 rfl
theorem et_or {a b : Bool} (ha : EvT K S S1 ρ t (Eq a)) (hb : a = false → EvT K S1 S1 ρ u (Eq b)) : EvT K S S1 ρ (tOr t u) (Eq (a || b)) := fun σ H i s Q q => ha σ H i s _ fun c H1 g1 i1 p1 => by
  subst p1
  cases a with
  | false => rw [if_neg Bool.false_ne_true]; exact hb rfl σ H1 i1 (s.mono g1) Q fun v H2 g2 => q v H2 (g1.trans g2)
  | true => rw [if_pos rfl]; exact q _ H1 g1 i1 rfl
theorem et_not {a : Bool} (ha : EvT K S S1 ρ t (Eq a)) : EvT K S S1 ρ (tNot t) (Eq (!a)) := fun σ H i s Q q => ha σ H i s _ fun c H1 g1 i1 p1 => by
  subst p1
  exact q _ H1 g1 i1 rfl
theorem et_yes : EvT K S S ρ tYes (Eq true) := fun σ H i s Q q => q _ H (Gr.refl H) i rfl
/-- a < b < c over ints -/
theorem ev_chain {g g' : Int → Int → Bool} {tc : TE} {i j l : Int} (ha : Ev K S S1 ρ ta (Eq (.int i))) (hb : Ev K S1 S2 ρ tb (Eq (.int j))) (hc : Ev K S2 S2 ρ tc (Eq (.int l))) :
    Ev K S S2 ρ (tChain (rI0 fun a b => .bl (g a b)) (rI0 fun a b => .bl (g' a b)) ta tb tc) (Eq (.bl (g i j && g' j l))) := fun σ H hi s Q q =>
  ha σ H hi s _ fun v d H1 g1 i1 r1 p1 => hb σ H1 i1 (s.mono g1) _ fun u d2 H2 g2 i2 r2 p2 => by
    subst p1 p2
    refine ⟨i, j, (r1.mono g2).intI, r2.intI, g i j, rfl, ?_⟩
    cases e : g i j with
    | true =>
      rw [if_pos rfl]
      exact hc σ H2 i2 (s.mono (g1.trans g2)) _ fun w d3 H3 g3 i3 r3 p3 => by
        subst p3
        exact ⟨j, l, (r2.mono g3).intI, r3.intI, q _ _ H3 ((g1.trans g2).trans g3) i3 (.bl _) (by rw [e, Bool.true_and])⟩
    | false =>
      rw [if_neg Bool.false_ne_true]
      exact q _ _ H2 (g1.trans g2) i2 (.bl _) (by rw [e, Bool.false_and])
end
end Bf
namespace Bf
open PySem PySem.Spec PyProof.Rows L2

/-! ### D. statements over data -/
structure Po where
  nx : List (Option Dt) → Prop := fun _ => False
  rt : Dt → Prop := fun _ => False
  bk : List (Option Dt) → Prop := fun _ => False
  ct : List (Option Dt) → Prop := fun _ => False
structure Ft (K : PySem.W.Frag) (S : Sta) (P : Po) (D : Ends) (H : Hp) : Prop where
  nx : ∀ (σ : L2.St) ρ H', Gr H H' → S.I H' → Slots K H' σ ρ → P.nx ρ → D.nx σ H'
  rt : ∀ v d H', Gr H H' → S.I H' → Rep K H' v d → P.rt d → D.rt v H'
  bk : ∀ (σ : L2.St) ρ H', Gr H H' → S.I H' → Slots K H' σ ρ → P.bk ρ → D.bk σ H'
  ct : ∀ (σ : L2.St) ρ H', Gr H H' → S.I H' → Slots K H' σ ρ → P.ct ρ → D.ct σ H'
/-- what holds at first holds at last -/
def Sta.Le (S SF : Sta) : Prop := ∀ H, S.I H → SF.I H
theorem Sta.Le.refl (S : Sta) : S.Le S := fun _ h => h
theorem Sta.Le.trans {S S1 S2 : Sta} (a : S.Le S1) (b : S1.Le S2) : S.Le S2 := fun H h => b H (a H h)
/-- from what holds at the base B on: the lists in L are newer than B and may be changed -/
structure Bs (SB : Sta) (L : List Addr) (B H : Hp) : Prop where
  gr : Gr B H
  i : SB.I B
  new : ∀ p ∈ L, B p = none
theorem Bs.up {SB : Sta} {L : List Addr} {B H H' : Hp} (b : Bs SB L B H) (g : Gr H H') : Bs SB L B H' := ⟨b.gr.trans g, b.i, b.new⟩
/-- S holds at first, SB at the base, SF at last -/
def Sg (K : PySem.W.Frag) (S SB SF : Sta) (L : List Addr) (ts : TS) (ρ : List (Option Dt)) (P : Po) : Prop := ∀ (D : Ends) (σ : L2.St) (B H : Hp), Bs SB L B H → S.I H → Slots K H σ ρ → Ft K SF P D B → ts D σ H
abbrev So (K : PySem.W.Frag) (S SF : Sta) (L : List Addr) (ts : TS) (ρ : List (Option Dt)) (P : Po) : Prop := Sg K S SF SF L ts ρ P
section
variable {K : PySem.W.Frag} {S S1 S2 SB SF : Sta} {L : List Addr} {ρ : List (Option Dt)} {P : Po} {ta tb te tl : TE} {c : TT} {t u w : TS} {Φ Ψ Θ : Dt → Prop} {x y z d : Dt} {D : Ends} {H H' : Hp}
theorem Ft.mono (f : Ft K SF P D H) (g : Gr H H') : Ft K SF P D H' := ⟨fun σ ρ H2 g2 => f.nx σ ρ H2 (g.trans g2), fun v d H2 g2 => f.rt v d H2 (g.trans g2), fun σ ρ H2 g2 => f.bk σ ρ H2 (g.trans g2), fun σ ρ H2 g2 => f.ct σ ρ H2 (g.trans g2)⟩
theorem Ft.le (f : Ft K SF P D H) (l : S.Le SF) : Ft K S P D H := ⟨fun σ ρ H2 g2 i2 => f.nx σ ρ H2 g2 (l _ i2), fun v d H2 g2 i2 => f.rt v d H2 g2 (l _ i2), fun σ ρ H2 g2 i2 => f.bk σ ρ H2 g2 (l _ i2), fun σ ρ H2 g2 i2 => f.ct σ ρ H2 g2 (l _ i2)⟩
theorem so_next (l : S.Le SF) (h : P.nx ρ) : Sg K S SB SF L tNext ρ P := fun D σ B H b i s f => f.nx σ ρ H b.gr (l _ i) s h
theorem so_break (l : S.Le SF) (h : P.bk ρ) : Sg K S SB SF L tBreak ρ P := fun D σ B H b i s f => f.bk σ ρ H b.gr (l _ i) s h
theorem so_cont (l : S.Le SF) (h : P.ct ρ) : Sg K S SB SF L tCont ρ P := fun D σ B H b i s f => f.ct σ ρ H b.gr (l _ i) s h
/-- a statement, then the rest -/
theorem so_seq {M : List (Option Dt) → Prop} (h1 : Sg K S SB SF L t ρ { P with nx := M }) (h2 : ∀ ρ', M ρ' → So K SF SF [] u ρ' P) : Sg K S SB SF L (tSeq t u) ρ P := fun D σ B H b i s f =>
  h1 { D with nx := u D } σ B H b i s ⟨fun σ' ρ' H' g i' s' m => h2 ρ' m D σ' H' H' ⟨Gr.refl H', i', fun _ z => nomatch z⟩ i' s' (f.mono g), f.rt, f.bk, f.ct⟩
/-- a statement that leaves what holds and the loose lists, in the middle -/
theorem so_mid {M : List (Option Dt) → Prop} (l : S.Le SF) (h1 : So K S S [] t ρ { P with nx := M }) (h2 : ∀ ρ', M ρ' → Sg K S SB SF L u ρ' P) : Sg K S SB SF L (tSeq t u) ρ P := fun D σ B H b i s f =>
  h1 { D with nx := u D } σ H H ⟨Gr.refl H, i, fun _ z => nomatch z⟩ i s ⟨fun σ' ρ' H' g i' s' m => h2 ρ' m D σ' B H' (b.up g) i' s' f, ((f.mono b.gr).le l).rt, ((f.mono b.gr).le l).bk, ((f.mono b.gr).le l).ct⟩
theorem so_le (l : S.Le S1) (h : Sg K S1 SB SF L t ρ P) : Sg K S SB SF L t ρ P := fun D σ B H b i s f => h D σ B H b (l _ i) s f
/-- a statement, then the rest, the loose lists kept -/
theorem so_seqG {M : List (Option Dt) → Prop} (l : S1.Le SF) (h1 : Sg K S SB S1 L t ρ { P with nx := M }) (h2 : ∀ ρ', M ρ' → Sg K S1 SB SF L u ρ' P) : Sg K S SB SF L (tSeq t u) ρ P := fun D σ B H b i s f =>
  h1 { D with nx := u D } σ B H b i s ⟨fun σ' ρ' H' g i' s' m => h2 ρ' m D σ' B H' ⟨g, b.i, b.new⟩ i' s' f, (f.le l).rt, (f.le l).bk, (f.le l).ct⟩
/-- nothing is loose any more -/
theorem so_fast (h : Sg K S SB SF [] t ρ P) : Sg K S SB SF L t ρ P := fun D σ B H b i s f => h D σ B H ⟨b.gr, b.i, fun _ z => nomatch z⟩ i s f
theorem so_skip (h : Sg K S SB SF L w ρ P) : Sg K S SB SF L (tSeq tNext w) ρ P := fun D σ B H b i s f => h D σ B H b i s f
theorem so_assoc (h : Sg K S SB SF L (tSeq t (tSeq u w)) ρ P) : Sg K S SB SF L (tSeq (tSeq t u) w) ρ P := fun D σ B H b i s f => h D σ B H b i s f
theorem so_brk1 (l : S.Le SF) (h : P.bk ρ) : Sg K S SB SF L (tSeq tBreak w) ρ P := fun D σ B H b i s f => f.bk σ ρ H b.gr (l _ i) s h
theorem so_cont1 (l : S.Le SF) (h : P.ct ρ) : Sg K S SB SF L (tSeq tCont w) ρ P := fun D σ B H b i s f => f.ct σ ρ H b.gr (l _ i) s h
theorem so_ret (h : Ev K S S1 ρ te Φ) (l : S1.Le SF) (q : ∀ d, Φ d → P.rt d) : Sg K S SB SF L (tRet te) ρ P := fun D σ B H b i s f => h σ H i s _ fun v d H1 g1 i1 r1 p1 => f.rt v d H1 (b.gr.trans g1) (l _ i1) r1 (q d p1)
theorem so_retD (h : Ev K S S1 ρ te (Eq d)) (l : S1.Le SF) (q : P.rt d) : Sg K S SB SF L (tRet te) ρ P := so_ret h l fun _ e => e ▸ q
theorem so_ret1 (h : Ev K S S1 ρ te Φ) (l : S1.Le SF) (q : ∀ d, Φ d → P.rt d) : Sg K S SB SF L (tSeq (tRet te) w) ρ P := fun D σ B H b i s f => h σ H i s _ fun v d H1 g1 i1 r1 p1 => f.rt v d H1 (b.gr.trans g1) (l _ i1) r1 (q d p1)
theorem so_ret1D (h : Ev K S S1 ρ te (Eq d)) (l : S1.Le SF) (q : P.rt d) : Sg K S SB SF L (tSeq (tRet te) w) ρ P := so_ret1 h l fun _ e => e ▸ q
theorem so_retN (l : S.Le SF) (q : P.rt .non) : Sg K S SB SF L tRetN ρ P := fun D σ B H b i s f => f.rt _ _ H b.gr (l _ i) .non q
/-- x = e -/
theorem so_set {j : Nat} (h : Ev K S S1 ρ te Φ) (q : ∀ d, Φ d → Sg K S1 SB SF L w (ρ.set j (some d)) P) : Sg K S SB SF L (tSeq (tAsg te (gName j)) w) ρ P := fun D σ B H b i s f =>
  h σ H i s _ fun v d H1 g1 i1 r1 p1 => q d p1 D _ B H1 (b.up g1) i1 ((s.mono g1).set r1 j) f
theorem so_setD {j : Nat} (h : Ev K S S1 ρ te (Eq d)) (q : Sg K S1 SB SF L w (ρ.set j (some d)) P) : Sg K S SB SF L (tSeq (tAsg te (gName j)) w) ρ P := so_set h fun _ e => e ▸ q
theorem so_set0 {j : Nat} (h : Ev K S S1 ρ te Φ) (l : S1.Le SF) (q : ∀ d, Φ d → P.nx (ρ.set j (some d))) : Sg K S SB SF L (tAsg te (gName j)) ρ P := fun D σ B H b i s f =>
  h σ H i s _ fun v d H1 g1 i1 r1 p1 => f.nx _ _ H1 (b.gr.trans g1) (l _ i1) ((s.mono g1).set r1 j) (q d p1)
theorem so_set0D {j : Nat} (h : Ev K S S1 ρ te (Eq d)) (l : S1.Le SF) (q : P.nx (ρ.set j (some d))) : Sg K S SB SF L (tAsg te (gName j)) ρ P := so_set0 h l fun _ e => e ▸ q
theorem so_drop (h : Ev K S S1 ρ te Φ) (q : Sg K S1 SB SF L w ρ P) : Sg K S SB SF L (tSeq (tDrop te) w) ρ P := fun D σ B H b i s f => h σ H i s _ fun v d H1 g1 i1 r1 p1 => q D σ B H1 (b.up g1) i1 (s.mono g1) f
theorem so_if {Φb : Bool → Prop} (h : EvT K S S1 ρ c Φb) (h1 : Φb true → Sg K S1 SB SF L (tSeq t w) ρ P) (h2 : Φb false → Sg K S1 SB SF L (tSeq u w) ρ P) : Sg K S SB SF L (tSeq (tIfS c t u) w) ρ P := fun D σ B H b i s f => h σ H i s _ fun k H1 g1 i1 p1 => by
  cases k with
  | true => rw [if_pos rfl]; exact h1 p1 D σ B H1 (b.up g1) i1 (s.mono g1) f
  | false => rw [if_neg Bool.false_ne_true]; exact h2 p1 D σ B H1 (b.up g1) i1 (s.mono g1) f
theorem so_if0 {Φb : Bool → Prop} (h : EvT K S S1 ρ c Φb) (h1 : Φb true → Sg K S1 SB SF L t ρ P) (h2 : Φb false → Sg K S1 SB SF L u ρ P) : Sg K S SB SF L (tIfS c t u) ρ P := fun D σ B H b i s f => h σ H i s _ fun k H1 g1 i1 p1 => by
  cases k with
  | true => rw [if_pos rfl]; exact h1 p1 D σ B H1 (b.up g1) i1 (s.mono g1) f
  | false => rw [if_neg Bool.false_ne_true]; exact h2 p1 D σ B H1 (b.up g1) i1 (s.mono g1) f
theorem so_ifD {k : Bool} (h : EvT K S S1 ρ c (Eq k)) (h1 : k = true → Sg K S1 SB SF L (tSeq t w) ρ P) (h2 : k = false → Sg K S1 SB SF L (tSeq u w) ρ P) : Sg K S SB SF L (tSeq (tIfS c t u) w) ρ P := so_if h h1 h2
theorem so_ifT (h : EvT K S S1 ρ c (Eq true)) (h1 : Sg K S1 SB SF L (tSeq t w) ρ P) : Sg K S SB SF L (tSeq (tIfS c t u) w) ρ P := so_if h (fun _ => h1) fun e => nomatch e
theorem so_ifF (h : EvT K S S1 ρ c (Eq false)) (h1 : Sg K S1 SB SF L (tSeq u w) ρ P) : Sg K S SB SF L (tSeq (tIfS c t u) w) ρ P := so_if h (fun e => nomatch e) fun _ => h1
theorem so_if0T (h : EvT K S S1 ρ c (Eq true)) (h1 : Sg K S1 SB SF L t ρ P) : Sg K S SB SF L (tIfS c t u) ρ P := so_if0 h (fun _ => h1) fun e => nomatch e
theorem so_if0F (h : EvT K S S1 ρ c (Eq false)) (h1 : Sg K S1 SB SF L u ρ P) : Sg K S SB SF L (tIfS c t u) ρ P := so_if0 h (fun e => nomatch e) fun _ => h1
theorem so_par {i j : Nat} {ta : TA} {Φl : List Dt → Prop} (h : EvA K S S1 ρ ta Φl) (hl : ∀ l, Φl l → l.length = 2) (q : ∀ a b, Φl [a, b] → Sg K S1 SB SF L w ((ρ.set i (some a)).set j (some b)) P) : Sg K S SB SF L (tSeq (tPar i j ta) w) ρ P := fun D σ B H b hi s f =>
  h σ H hi s _ fun vs ds H1 g1 i1 r1 p1 => by
    match ds, hl ds p1, r1, p1 with
    | [x, y], _, r1, p1 =>
      obtain ⟨v, u, rfl, ra, rb⟩ := r1.twoI
      exact ⟨v, u, rfl, q x y p1 D _ B H1 (b.up g1) i1 (((s.mono g1).set ra i).set rb j) f⟩
/-- a, b, .. = e -/
def gNames : List Nat → TGs
  | [] => gNil
  | i :: is => gCons (gName i) (gNames is)
def setAll (ρ : List (Option Dt)) : List Nat → List Dt → List (Option Dt)
  | i :: is, d :: ds => setAll (ρ.set i (some d)) is ds
  | _, _ => ρ
theorem names_run {Q : L2.St → Hp → Prop} : ∀ {is : List Nat} {vs : List V} {ds : List Dt} {σ : L2.St} {ρ : List (Option Dt)}, Slots K H σ ρ → RepA K H vs ds → ds.length = is.length → (∀ σ', Slots K H σ' (setAll ρ is ds) → Q σ' H) → gNames is vs σ H Q
  | [], _, _, σ, ρ, s, .nil, _, q => ⟨rfl, q σ s⟩
  | i :: is, _, _, σ, ρ, s, .cons (v := v) (vs := vs) (d := d) (ds := ds) r ra, hl, q => ⟨v, vs, rfl, names_run (is := is) (s.set r i) ra (by simpa using hl) q⟩
  | [], _, _, _, _, _, .cons _ _, hl, _ => by simp at hl
  | _ :: _, _, _, _, _, _, .nil, hl, _ => by simp at hl
theorem so_unp {n : Nat} {g : TGs} {is : List Nat} {xs : List Dt} (h : Ev K S S1 ρ te (Eq (.tup xs))) (hg : g = gNames is) (hn : xs.length = n) (hi : xs.length = is.length) (q : Sg K S1 SB SF L w (setAll ρ is xs) P) : Sg K S SB SF L (tSeq (tAsg te (gTup K n g)) w) ρ P := fun D σ B H b i s f =>
  h σ H i s _ fun v d H1 g1 i1 r1 p1 => by
    subst p1 hg
    obtain ⟨a, vs, rfl, ht, ra⟩ := r1.tupI
    exact ⟨a, vs, rfl, ht, ra.len.trans hn, names_run (s.mono g1) ra hi fun σ' s' => q D σ' B H1 (b.up g1) i1 s' f⟩

/-! loops -/
theorem so_forT {j : Nat} {xs : List Dt} (h : Ev K S S ρ tl (Eq (.tup xs))) (J : Nat → List (Option Dt) → Prop) (h0 : J 0 ρ)
    (hs : ∀ i x ρ', xs[i]? = some x → J i ρ' → So K S S [] t (ρ'.set j (some x)) { P with nx := J (i + 1), ct := J (i + 1), bk := P.nx }) (hd : ∀ ρ', J xs.length ρ' → P.nx ρ') : Sg K S SB S L (tFor (iTup K tl) (gName j) t) ρ P := fun D σ B H b i s f0 =>
  have f := f0.mono b.gr
  h σ H i s _ fun v d H1 g1 i1 r1 p1 => by
    subst p1
    obtain ⟨a, vs, rfl, ht, ra⟩ := r1.tupI
    refine ⟨a, rfl, ⟨vs, ht⟩, for_tup (K := K) (a := a) (xs := vs) (fun n σ' H' => Gr H1 H' ∧ S.I H' ∧ ∃ ρ', Slots K H' σ' ρ' ∧ J n ρ') ⟨Gr.refl H1, i1, ρ, s.mono g1, h0⟩ (fun n σ' H' _ p => p.1.sqT ht) (fun n x σ' H' hx p => ?_) fun σ' H' p => ?_⟩
    · obtain ⟨g2, i2, ρ', s2, jn⟩ := p
      obtain ⟨d, hd', rd⟩ := ra.ta hx
      refine hs n d ρ' hd' jn _ _ H' H' ⟨Gr.refl H', i2, fun _ z => nomatch z⟩ i2 (s2.set (rd.mono g2) j) ⟨fun σ3 ρ3 H3 g3 i3 s3 q => ⟨g2.trans g3, i3, ρ3, s3, q⟩, fun v3 d3 H3 g3 => f.rt v3 d3 H3 ((g1.trans g2).trans g3), fun σ3 ρ3 H3 g3 i3 s3 q => f.nx σ3 ρ3 H3 ((g1.trans g2).trans g3) i3 s3 q, fun σ3 ρ3 H3 g3 i3 s3 q => ⟨g2.trans g3, i3, ρ3, s3, q⟩⟩
    · obtain ⟨g2, i2, ρ', s2, jn⟩ := p
      rw [ra.len] at jn
      exact f.nx σ' ρ' H' (g1.trans g2) i2 s2 (hd ρ' jn)
theorem so_forL {j : Nat} {xs : List Dt} (h : Ev K S S ρ tl (Eq (.lst xs))) (J : Nat → List (Option Dt) → Prop) (h0 : J 0 ρ)
    (hs : ∀ i x ρ', xs[i]? = some x → J i ρ' → So K S S [] t (ρ'.set j (some x)) { P with nx := J (i + 1), ct := J (i + 1), bk := P.nx }) (hd : ∀ ρ', J xs.length ρ' → P.nx ρ') : Sg K S SB S L (tFor (iList K tl) (gName j) t) ρ P := fun D σ B H b i s f0 =>
  have f := f0.mono b.gr
  h σ H i s _ fun v d H1 g1 i1 r1 p1 => by
    subst p1
    obtain ⟨a, vs, rfl, ht, ra⟩ := r1.lstI
    refine ⟨a, rfl, ⟨vs, ht⟩, for_list (K := K) (a := a) (xs := vs) (fun n σ' H' => Gr H1 H' ∧ S.I H' ∧ ∃ ρ', Slots K H' σ' ρ' ∧ J n ρ') ⟨Gr.refl H1, i1, ρ, s.mono g1, h0⟩ (fun n σ' H' _ p => p.1.sqL ht) (fun n x σ' H' hx p => ?_) fun σ' H' p => ?_⟩
    · obtain ⟨g2, i2, ρ', s2, jn⟩ := p
      obtain ⟨d, hd', rd⟩ := ra.ta hx
      refine hs n d ρ' hd' jn _ _ H' H' ⟨Gr.refl H', i2, fun _ z => nomatch z⟩ i2 (s2.set (rd.mono g2) j) ⟨fun σ3 ρ3 H3 g3 i3 s3 q => ⟨g2.trans g3, i3, ρ3, s3, q⟩, fun v3 d3 H3 g3 => f.rt v3 d3 H3 ((g1.trans g2).trans g3), fun σ3 ρ3 H3 g3 i3 s3 q => f.nx σ3 ρ3 H3 ((g1.trans g2).trans g3) i3 s3 q, fun σ3 ρ3 H3 g3 i3 s3 q => ⟨g2.trans g3, i3, ρ3, s3, q⟩⟩
    · obtain ⟨g2, i2, ρ', s2, jn⟩ := p
      rw [ra.len] at jn
      exact f.nx σ' ρ' H' (g1.trans g2) i2 s2 (hd ρ' jn)
/-- for i in range(n): what holds may turn with each round (Z) -/
theorem so_forR {j n : Nat} {ta : TA} {Z : Nat → Sta} (h : EvA K S (Z 0) ρ ta (Eq [.int n])) (hn : n < 2 ^ 62) (hz : ∀ i, i ≤ n → (Z i).Le SF) (hup : ∀ i, i < n → (Z i).Le (Z (i + 1))) (J : Nat → List (Option Dt) → Prop) (h0 : J 0 ρ)
    (hs : ∀ (i : Nat) ρ', i < n → J i ρ' → So K (Z i) (Z (i + 1)) [] t (ρ'.set j (some (.int i))) { P with nx := J (i + 1), ct := J (i + 1), bk := P.nx }) (hd : ∀ ρ', J n ρ' → P.nx ρ') : Sg K S SB SF L (tFor (iRng1 ta) (gName j) t) ρ P := fun D σ B H b i s f0 =>
  have f := f0.mono b.gr
  h σ H i s _ fun vs ds H1 g1 i1 r1 p1 => by
    subst p1
    obtain ⟨v, rfl, rv⟩ := r1.oneI
    obtain rfl := rv.intI
    refine ⟨n, rfl, by omega, by omega, ?_⟩
    rw [Int.toNat_natCast]
    refine for_range (lo := 0) (n := n) (fun m σ' H' => Gr H1 H' ∧ (Z m).I H' ∧ ∃ ρ', Slots K H' σ' ρ' ∧ J m ρ') ⟨Gr.refl H1, i1, ρ, s.mono g1, h0⟩ (fun m σ' H' hm p => ?_) fun σ' H' p => ?_
    · obtain ⟨g2, i2, ρ', s2, jn⟩ := p
      rw [Int.zero_add]
      have l := hz (m + 1) hm
      exact hs m ρ' hm jn _ _ H' H' ⟨Gr.refl H', hup m hm _ i2, fun _ z => nomatch z⟩ i2 (s2.set (.int _) j) ⟨fun σ3 ρ3 H3 g3 i3 s3 q => ⟨g2.trans g3, i3, ρ3, s3, q⟩, fun v3 d3 H3 g3 i3 => f.rt v3 d3 H3 ((g1.trans g2).trans g3) (l _ i3), fun σ3 ρ3 H3 g3 i3 s3 q => f.nx σ3 ρ3 H3 ((g1.trans g2).trans g3) (l _ i3) s3 q, fun σ3 ρ3 H3 g3 i3 s3 q => ⟨g2.trans g3, i3, ρ3, s3, q⟩⟩
    · obtain ⟨g2, i2, ρ', s2, jn⟩ := p
      exact f.nx σ' ρ' H' (g1.trans g2) (hz n (Nat.le_refl n) _ i2) s2 (hd ρ' jn)
end

/-! ### E. comprehensions: the list that grows is none of the items' -/
mutual
def nol : Dt → Bool
  | .lst _ => false
  | .lat _ _ => false
  | .tup xs => nolA xs
  | .ins _ _ xs => nolA xs
  | .err _ _ d => nol d
  | .dct ks xs => nolA ks && nolA xs
  | _ => true
def nolA : List Dt → Bool
  | [] => true
  | x :: xs => nol x && nolA xs
end
section
variable {K : PySem.W.Frag} {H : Hp} {D : Addr} {acc : List V} {o : HO}
theorem upd_other {a : Addr} {u : HO} (hD : H D = some (.lst acc)) (ha : H a = some u) (hu : ∀ xs, u ≠ .lst xs) : upd H D o a = some u := by
  rw [upd_ne (fun e => by rw [e, hD] at ha; exact hu acc (Option.some.inj ha).symm)]
  exact ha
mutual
theorem Rep.off (hD : H D = some (.lst acc)) : ∀ {v : V} {d : Dt}, nol d = true → Rep K H v d → Rep K (upd H D o) v d
  | _, _, _, .non => .non
  | _, _, _, .bl b => .bl b
  | _, _, _, .int i => .int i
  | _, _, _, .str x => .str x
  | _, _, h, .lst _ _ => by simp [nol] at h
  | _, _, h, .tup q r => .tup (by
      rcases q with (q | ⟨o', q⟩) | q
      · exact .inl (.inl (upd_other hD q fun _ z => nomatch z))
      · exact .inl (.inr ⟨o', upd_other hD q fun _ z => nomatch z⟩)
      · exact .inr q) (r.off hD (by simpa [nol] using h))
  | _, _, _, .dic h => .dic (upd_other hD h fun _ z => nomatch z)
  | _, _, h, .ins q r => .ins (upd_other hD q fun _ z => nomatch z) (r.off hD (by simpa [nol] using h))
  | _, _, _, .raw v => .raw v
  | _, _, h, .lat _ _ => by simp [nol] at h
  | _, _, h, .err q1 q2 r => .err (upd_other hD q1 fun _ z => nomatch (show HO.ext _ = HO.lst _ from z)) (upd_other hD q2 fun _ z => nomatch z) (r.off hD (by simpa [nol] using h))
  | _, _, h, .dct q r1 r2 => .dct (upd_other hD q fun _ z => nomatch (show HO.ext _ = HO.lst _ from z)) (r1.off hD (Bool.and_eq_true_iff.mp (by simpa only [nol] using h)).1) (r2.off hD (Bool.and_eq_true_iff.mp (by simpa only [nol] using h)).2)
theorem RepA.off (hD : H D = some (.lst acc)) : ∀ {vs : List V} {ds : List Dt}, nolA ds = true → RepA K H vs ds → RepA K (upd H D o) vs ds
  | _, _, _, .nil => .nil
  | _, _, h, .cons q r => by
    simp only [nolA, Bool.and_eq_true] at h
    exact .cons (q.off hD h.1) (r.off hD h.2)
end
end
theorem nolA_app : ∀ {xs ys : List Dt}, nolA (xs ++ ys) = (nolA xs && nolA ys)
  | [], _ => by simp [nolA]
  | x :: xs, ys => by simp only [List.cons_append, nolA, nolA_app, Bool.and_assoc]
theorem nolA_all : ∀ {xs : List Dt}, nolA xs = true ↔ ∀ x ∈ xs, nol x = true
  | [] => by simp [nolA]
  | x :: xs => by simp [nolA, nolA_all]
theorem wipe_set (ν : Option V) (j : Nat) : ∀ (vs : List Nat) (σ : L2.St), (L2.wipe (σ.set j ν) vs).set j none = (L2.wipe σ vs).set j none
  | [], σ => by simp [L2.wipe, List.set_set]
  | v :: vs, σ => by
    show ((L2.wipe (σ.set j ν) vs).set v none).set j none = ((L2.wipe σ vs).set v none).set j none
    by_cases h : v = j
    · subst h
      rw [wipe_set ν v vs σ]
    · rw [List.set_comm _ _ h, wipe_set ν j vs σ, List.set_comm _ _ h]
theorem wipe_in (ν : Option V) (j : Nat) : ∀ (vs : List Nat) (σ : L2.St), j ∈ vs → L2.wipe (σ.set j ν) vs = L2.wipe σ vs
  | v :: vs, σ, h => by
    show (L2.wipe (σ.set j ν) vs).set v none = (L2.wipe σ vs).set v none
    by_cases e : v = j
    · subst e
      exact wipe_set ν v vs σ
    · rw [wipe_in ν j vs σ ((List.mem_cons.mp h).resolve_left (Ne.symm e))]
theorem wipe_comm (j : Nat) : ∀ (vs : List Nat) (σ : L2.St), L2.wipe (σ.set j none) vs = (L2.wipe σ vs).set j none
  | [], σ => rfl
  | v :: vs, σ => by
    show (L2.wipe (σ.set j none) vs).set v none = ((L2.wipe σ vs).set v none).set j none
    rw [wipe_comm j vs σ]
    by_cases e : v = j
    · subst e
      rfl
    · exact List.set_comm _ _ (Ne.symm e)
theorem wipe_twice : ∀ (vs : List Nat) (σ : L2.St), L2.wipe (L2.wipe σ vs) vs = L2.wipe σ vs
  | [], σ => rfl
  | v :: vs, σ => by
    show (L2.wipe ((L2.wipe σ vs).set v none) vs).set v none = (L2.wipe σ vs).set v none
    rw [wipe_set none v vs, wipe_twice vs σ]
theorem wipe_put (ν : Option V) {j : Nat} {vs : List Nat} (σ : L2.St) (h : j ∈ vs) : L2.wipe ((L2.wipe σ vs).set j ν) vs = L2.wipe σ vs := by
  rw [wipe_in ν j vs _ h, wipe_twice]
/-- a list may turn under what holds all along -/
def Sta.Mu (S : Sta) : Prop := ∀ {H1 H : Hp} {D : Addr} {o : HO}, S.I H1 → Gr H1 H → H1 D = none → S.I H → S.I (upd H D o)
theorem gr_off {H1 H : Hp} {D : Addr} {o : HO} (g : Gr H1 H) (h : H1 D = none) : Gr H1 (upd H D o) := fun a u e d => by
  rw [upd_ne (ne_of_none e h)]
  exact g a u e d
section
variable {K : PySem.W.Frag} {S S1 : Sta} {ρ : List (Option Dt)} {te tl : TE} {tt : TT} {vs : List Nat} {j : Nat}
/-- a comprehension over a source whose items are told; every item's data such that Φ i, or left out -/
theorem lc_turns {g : L2.St} {H1 : Hp} {D : Addr} {σ : L2.St} (hmu : ∀ {H2 : Hp} {o : HO}, Gr H1 H2 → S1.I H2 → S1.I (upd H2 D o)) (le : S.Le S1) (hD : H1 D = none) {Z : Nat → List Dt → Prop} {i : Nat} {acc : List V} {ds : List Dt} {x : V} {dx : Dt} {H : Hp} (hj : j ∈ vs)
    {p : Bool} {Φ : Dt → Prop} (s : Slots K H1 σ ρ) (gH : Gr H1 H) (iH : S.I H) (hH : H D = some (.lst acc)) (ra : RepA K H acc ds) (hnol : nolA ds = true) (rx : Rep K H x dx)
    (hz : ds.length < sizeLine) (ht : EvT K S S ((wipeD ρ vs).set j (some dx)) tt (Eq p)) (he : p = true → Ev K S S1 ((wipeD ρ vs).set j (some dx)) te (fun d => Φ d ∧ nol d = true))
    {Pv : Hp → Prop} (hy : p = true → ∀ H' acc' d, Φ d → nol d = true → Gr H1 H' → S1.I H' → H' D = some (.lst acc') → RepA K H' acc' (ds ++ [d]) → Pv H') (hn : p = false → ∀ H', Gr H1 H' → S1.I H' → H' D = some (.lst acc) → RepA K H' acc ds → Pv H') :
    gName j x (L2.wipe σ vs) H fun σ2 H2 => L2.wipe σ2 vs = L2.wipe σ vs ∧ tt σ2 H2 fun b H3 => if b = true then te σ2 H3 fun y H4 => ∃ acc, H4 D = some (.lst acc) ∧ acc.length < sizeLine ∧ Pv (upd H4 D (.lst (acc ++ [y]))) else Pv H3 := by
  refine ⟨wipe_put _ σ hj, ht _ H iH (((s.mono gH).wipe vs).set rx j) _ fun b H3 g3 i3 p3 => ?_⟩
  subst p3
  have hH3 : H3 D = some (.lst acc) := g3 _ _ hH rfl
  cases p with
  | false =>
    rw [if_neg Bool.false_ne_true]
    exact hn rfl H3 (gH.trans g3) (le _ i3) hH3 (ra.mono g3)
  | true =>
    rw [if_pos rfl]
    refine he rfl _ H3 i3 (((s.mono (gH.trans g3)).wipe vs).set (rx.mono g3) j) _ fun y d H4 g4 i4 r4 p4 => ?_
    have hH4 : H4 D = some (.lst acc) := g4 _ _ hH3 rfl
    have ra4 := ra.mono (g3.trans g4)
    refine ⟨acc, hH4, by rw [ra4.len]; exact hz, hy rfl _ (acc ++ [y]) d p4.1 p4.2 (gr_off ((gH.trans g3).trans g4) hD) (hmu ((gH.trans g3).trans g4) i4) upd_same ?_⟩
    exact (ra4.off hH4 hnol).app (.cons (r4.off hH4 p4.2) .nil)
/-- [te for x in a tuple if tt], the element a function of the item -/
theorem ev_lcT {xs : List Dt} {f : Dt → Dt} {p : Dt → Bool} (hmu : S.Mu) (h : Ev K S S ρ tl (Eq (.tup xs))) (hj : j ∈ vs) (hz : xs.length ≤ 100000) (ht : ∀ x ∈ xs, EvT K S S ((wipeD ρ vs).set j (some x)) tt (Eq (p x)))
    (he : ∀ x ∈ xs, p x = true → Ev K S S ((wipeD ρ vs).set j (some x)) te (Eq (f x))) (hf : ∀ x ∈ xs, p x = true → nol (f x) = true) : Ev K S S ρ (tLc (iTup K tl) (gName j) tt te vs) (Eq (.lst ((xs.filter p).map f))) := fun σ H i s Q q =>
  h σ H i s _ fun v d H1 g1 i1 r1 p1 => by
    subst p1
    obtain ⟨a, us, rfl, hT, ra⟩ := r1.tupI
    refine ⟨a, rfl, ⟨us, hT⟩, fun D hD => lc_tup (K := K) (a := a) (xs := us) (fun n H' => Gr H1 H' ∧ S.I H' ∧ ∃ acc, H' D = some (.lst acc) ∧ RepA K H' acc (((xs.take n).filter p).map f)) ⟨(same_new hD).gr, S.st i1 (same_new hD), [], upd_same, .nil⟩
      (fun n H' _ q' => q'.1.sqT hT) (fun n x H' hx q' => ?_) fun H' q' => ?_⟩
    · obtain ⟨g2, i2, acc, ha, rac⟩ := q'
      obtain ⟨dx, hdx, rdx⟩ := ra.ta hx
      have hmem : dx ∈ xs := List.mem_of_getElem? hdx
      have htake : xs.take (n + 1) = xs.take n ++ [dx] := by rw [List.take_add_one, hdx]; rfl
      have hnol : nolA (((xs.take n).filter p).map f) = true := nolA_all.mpr fun y hy => by
        obtain ⟨z, hz1, rfl⟩ := List.mem_map.mp hy
        obtain ⟨hz2, hz3⟩ := List.mem_filter.mp hz1
        exact hf z (List.mem_of_mem_take hz2) hz3
      refine lc_turns (g := σ) (Z := fun _ _ => True) (i := n) (acc := acc) (ds := ((xs.take n).filter p).map f) (dx := dx) (p := p dx) (Φ := Eq (f dx)) (S := S) (S1 := S) (fun g i => hmu i1 g hD i) (Sta.Le.refl S) hD hj (s.mono g1) g2 i2 ha rac hnol (rdx.mono g2) ?_ (ht dx hmem) (fun e => (he dx hmem e).weak fun d e2 => ⟨e2, e2 ▸ hf dx hmem e⟩) (fun e H2 acc' d e1 _ g3 i3 h3 r3 => ?_) fun e H2 g3 i3 h3 r3 => ?_
      · rw [List.length_map]
        refine Nat.lt_of_le_of_lt (List.length_filter_le _ _) ?_
        refine Nat.lt_of_le_of_lt (List.length_take_le _ _) (Nat.lt_of_le_of_lt (Nat.le_trans (Nat.le_of_lt ?_) hz) (by decide))
        have := (List.getElem?_eq_some_iff.mp hdx).1
        exact this
      · subst e1
        refine ⟨g3, i3, acc', h3, ?_⟩
        rw [htake, List.filter_append, List.map_append]
        simpa [List.filter_cons, e] using r3
      · refine ⟨g3, i3, acc, h3, ?_⟩
        rw [htake, List.filter_append, List.map_append]
        simpa [List.filter_cons, e] using r3
    · obtain ⟨g2, i2, acc, ha, rac⟩ := q'
      rw [ra.len, List.take_length] at rac
      exact q _ _ H' (g1.trans g2) i2 (.lst (SqL.of ha) rac) rfl
theorem ev_lcL {xs : List Dt} {f : Dt → Dt} {p : Dt → Bool} (hmu : S.Mu) (h : Ev K S S ρ tl (Eq (.lst xs))) (hj : j ∈ vs) (hz : xs.length ≤ 100000) (ht : ∀ x ∈ xs, EvT K S S ((wipeD ρ vs).set j (some x)) tt (Eq (p x)))
    (he : ∀ x ∈ xs, p x = true → Ev K S S ((wipeD ρ vs).set j (some x)) te (Eq (f x))) (hf : ∀ x ∈ xs, p x = true → nol (f x) = true) : Ev K S S ρ (tLc (iList K tl) (gName j) tt te vs) (Eq (.lst ((xs.filter p).map f))) := fun σ H i s Q q =>
  h σ H i s _ fun v d H1 g1 i1 r1 p1 => by
    subst p1
    obtain ⟨a, us, rfl, hT, ra⟩ := r1.lstI
    refine ⟨a, rfl, ⟨us, hT⟩, fun D hD => lc_list (K := K) (a := a) (xs := us) (fun n H' => Gr H1 H' ∧ S.I H' ∧ ∃ acc, H' D = some (.lst acc) ∧ RepA K H' acc (((xs.take n).filter p).map f)) ⟨(same_new hD).gr, S.st i1 (same_new hD), [], upd_same, .nil⟩
      (fun n H' _ q' => q'.1.sqL hT) (fun n x H' hx q' => ?_) fun H' q' => ?_⟩
    · obtain ⟨g2, i2, acc, ha, rac⟩ := q'
      obtain ⟨dx, hdx, rdx⟩ := ra.ta hx
      have hmem : dx ∈ xs := List.mem_of_getElem? hdx
      have htake : xs.take (n + 1) = xs.take n ++ [dx] := by rw [List.take_add_one, hdx]; rfl
      have hnol : nolA (((xs.take n).filter p).map f) = true := nolA_all.mpr fun y hy => by
        obtain ⟨z, hz1, rfl⟩ := List.mem_map.mp hy
        obtain ⟨hz2, hz3⟩ := List.mem_filter.mp hz1
        exact hf z (List.mem_of_mem_take hz2) hz3
      refine lc_turns (g := σ) (Z := fun _ _ => True) (i := n) (acc := acc) (ds := ((xs.take n).filter p).map f) (dx := dx) (p := p dx) (Φ := Eq (f dx)) (S := S) (S1 := S) (fun g i => hmu i1 g hD i) (Sta.Le.refl S) hD hj (s.mono g1) g2 i2 ha rac hnol (rdx.mono g2) ?_ (ht dx hmem) (fun e => (he dx hmem e).weak fun d e2 => ⟨e2, e2 ▸ hf dx hmem e⟩) (fun e H2 acc' d e1 _ g3 i3 h3 r3 => ?_) fun e H2 g3 i3 h3 r3 => ?_
      · rw [List.length_map]
        refine Nat.lt_of_le_of_lt (List.length_filter_le _ _) ?_
        refine Nat.lt_of_le_of_lt (List.length_take_le _ _) (Nat.lt_of_le_of_lt (Nat.le_trans (Nat.le_of_lt ?_) hz) (by decide))
        have := (List.getElem?_eq_some_iff.mp hdx).1
        exact this
      · subst e1
        refine ⟨g3, i3, acc', h3, ?_⟩
        rw [htake, List.filter_append, List.map_append]
        simpa [List.filter_cons, e] using r3
      · refine ⟨g3, i3, acc, h3, ?_⟩
        rw [htake, List.filter_append, List.map_append]
        simpa [List.filter_cons, e] using r3
    · obtain ⟨g2, i2, acc, ha, rac⟩ := q'
      rw [ra.len, List.take_length] at rac
      exact q _ _ H' (g1.trans g2) i2 (.lst (SqL.of ha) rac) rfl
/-- [te for x in range(n)], every element such that Φ; what holds may turn with each -/
theorem ev_lcRP {ta : TA} {n : Nat} {Φ : Dt → Prop} {Z : Nat → Sta} (hmu : ∀ {m m' : Nat} {H1 H : Hp} {D : Addr} {o : HO}, (Z m).I H1 → Gr H1 H → H1 D = none → (Z m').I H → (Z m').I (upd H D o)) (hle : ∀ m, (Z m).Le (Z (m + 1))) (h : EvA K S (Z 0) ρ ta (Eq [.int n])) (hn : n ≤ 100000) (hj : j ∈ vs)
    (he : ∀ i : Nat, i < n → Ev K (Z i) (Z (i + 1)) ((wipeD ρ vs).set j (some (.int i))) te (fun d => Φ d ∧ nol d = true)) :
    Ev K S (Z n) ρ (tLc (iRng1 ta) (gName j) tYes te vs) (fun d => ∃ ds, d = .lst ds ∧ ds.length = n ∧ nolA ds = true ∧ ∀ x ∈ ds, Φ x) := fun σ H i s Q q =>
  h σ H i s _ fun ws es H1 g1 i1 r1 p1 => by
    subst p1
    obtain ⟨v, rfl, rv⟩ := r1.oneI
    obtain rfl := rv.intI
    refine ⟨n, rfl, by omega, by omega, fun D hD => ?_⟩
    rw [Int.toNat_natCast]
    refine lc_range (lo := 0) (n := n) (fun m H' => Gr H1 H' ∧ (Z m).I H' ∧ ∃ acc ds, H' D = some (.lst acc) ∧ RepA K H' acc ds ∧ ds.length = m ∧ nolA ds = true ∧ ∀ x ∈ ds, Φ x) ⟨(same_new hD).gr, (Z 0).st i1 (same_new hD), [], [], upd_same, .nil, rfl, rfl, fun _ z => nomatch z⟩
      (fun m H' hm q' => ?_) fun H' q' => ?_
    · obtain ⟨g2, i2, acc, ds, ha, rac, hl, hno, hph⟩ := q'
      rw [Int.zero_add]
      refine lc_turns (g := σ) (Z := fun _ _ => True) (i := m) (acc := acc) (ds := ds) (dx := .int m) (p := true) (Φ := Φ) (S := Z m) (S1 := Z (m + 1)) (fun g i => hmu i1 g hD i) (hle m) hD hj (s.mono g1) g2 i2 ha rac hno (.int _) (Nat.lt_of_lt_of_le (by rw [hl]; exact Nat.lt_of_lt_of_le hm hn) (by decide)) et_yes (fun _ => he m hm) (fun e H2 acc' d e1 e2 g3 i3 h3 r3 => ?_) fun e => nomatch e
      refine ⟨g3, i3, acc', ds ++ [d], h3, r3, by rw [List.length_append, hl]; rfl, by rw [nolA_app, hno]; simp [nolA, e2], fun x hx => ?_⟩
      rcases List.mem_append.mp hx with hx | hx
      · exact hph x hx
      · rw [List.mem_singleton.mp hx]
        exact e1
    · obtain ⟨g2, i2, acc, ds, ha, rac, hl, hno, hph⟩ := q'
      exact q _ _ H' (g1.trans g2) i2 (.lst (SqL.of ha) rac) ⟨ds, rfl, hl, hno, hph⟩
end

/-- all that was is as it was -/
def staSameQ (H : Hp) : Sta := ⟨fun H' => Same H H', fun a b => a.trans b⟩
/-! lists that may be changed -/
section
variable {K : PySem.W.Frag} {S SB SF : Sta} {L : List Addr} {ρ : List (Option Dt)} {P : Po} {te : TE} {w : TS} {x d : Dt} {D : Ends} {H H' : Hp}
/-- a list that is made on the way: it is new at some H1 in between, nothing else knows it -/
def EvN (K : PySem.W.Frag) (S S' : Sta) (ρ : List (Option Dt)) (te : TE) (xs : List Dt) : Prop := ∀ (σ : L2.St) (H : Hp), S.I H → Slots K H σ ρ → ∀ Q : VK,
  (∀ p vs H1 H', Gr H H1 → S'.I H1 → H1 p = none → Gr H1 H' → S'.I H' → H' p = some (.lst vs) → RepA K H' vs xs → Q (.ref p) H') → te σ H Q
theorem EvN.ev {S1 : Sta} {xs : List Dt} (h : EvN K S S1 ρ te xs) : Ev K S S1 ρ te (Eq (.lst xs)) := fun σ H i s Q q => h σ H i s Q fun p vs H1 H' g _ _ g2 i' e r => q _ _ H' (g.trans g2) i' (.lst (SqL.of e) r) rfl
theorem EvN.to {S1 : Sta} {xs ys : List Dt} (h : EvN K S S1 ρ te xs) (e : xs = ys) : EvN K S S1 ρ te ys := e ▸ h
theorem so_new {S1 : Sta} {j : Nat} {xs : List Dt} (h : EvN K S S1 ρ te xs) (l : S1.Le SF) (q : ∀ p, So K S1 SF [p] w (ρ.set j (some (.lat p xs))) P) : Sg K S SB SF L (tSeq (tAsg te (gName j)) w) ρ P := fun D σ B H b i s f =>
  h σ H i s _ fun p vs H1 H2 g1 i1 hp g2 i2 e r => q p D _ H1 H2 ⟨g2, l _ i1, fun a ha => by rw [List.mem_singleton.mp ha]; exact hp⟩ i2 ((s.mono (g1.trans g2)).set (.lat e r) j) (f.mono (b.gr.trans g1))
theorem same_none {H0 H : Hp} {p : Addr} (s : Same H0 H) (h : H p = none) : H0 p = none := by
  cases e : H0 p with
  | none => rfl
  | some o =>
    rw [s p o e] at h
    cases h
/-- new since H0 -/
theorem so_newS {H0 : Hp} {j : Nat} {xs : List Dt} (h : EvN K (staSameQ H0) (staSameQ H0) ρ te xs) (q : ∀ p, H0 p = none → Sg K (staSameQ H0) SB SF L w (ρ.set j (some (.lat p xs))) P) : Sg K (staSameQ H0) SB SF L (tSeq (tAsg te (gName j)) w) ρ P := fun D σ B H b i s f =>
  h σ H i s _ fun p vs H1 H2 g1 i1 hp g2 i2 e r => q p (same_none i1 hp) D _ B H2 (b.up (g1.trans g2)) i2 ((s.mono (g1.trans g2)).set (.lat e r) j) f
theorem so_newS0 {H0 : Hp} {j : Nat} {xs : List Dt} (h : EvN K (staSameQ H0) (staSameQ H0) ρ te xs) (l : (staSameQ H0).Le SF) (q : ∀ p, H0 p = none → P.nx (ρ.set j (some (.lat p xs)))) : Sg K (staSameQ H0) SB SF L (tAsg te (gName j)) ρ P := fun D σ B H b i s f =>
  h σ H i s _ fun p vs H1 H2 g1 i1 hp g2 i2 e r => f.nx _ _ H2 ((b.gr.trans g1).trans g2) (l _ i2) ((s.mono (g1.trans g2)).set (.lat e r) j) (q p (same_none i1 hp))
theorem en_lst {S1 : Sta} {t : TA} {ds : List Dt} (h : EvA K S S1 ρ t (Eq ds)) (hz : ds.length ≤ sizeLine) : EvN K S S1 ρ (tLst t) ds := fun σ H i s Q q =>
  h σ H i s _ fun vs ds' H1 g1 i1 r1 e => by
    subst e
    exact ⟨by rw [r1.len]; exact hz, fun p hp => q p vs H1 _ g1 i1 hp (same_new hp).gr (S1.st i1 (same_new hp)) upd_same (r1.mono (same_new hp).gr)⟩
/-- a def that makes a new list -/
def spN (K : PySem.W.Frag) (n : Nat) (pre : List Dt → Prop) (F : List Dt → List Dt) : Sp := fun vs H Q _ => ∃ ds, RepA K H vs ds ∧ ds.length = n ∧ pre ds ∧ ∀ p us H', Same H H' → H p = none → H' p = some (.lst us) → RepA K H' us (F ds) → Q (.ref p) H'
theorem en_call {S1 : Sta} {t : TA} {ds : List Dt} {n : Nat} {pre : List Dt → Prop} {F : List Dt → List Dt} {E : XK} (ha : EvA K S S1 ρ t (Eq ds)) (hn : ds.length = n) (hp : pre ds) : EvN K S S1 ρ (tCall (spN K n pre F) [] E t) (F ds) := fun σ H i s Q q =>
  ha σ H i s _ fun vs ds' H1 g1 i1 r1 p1 => by
    subst p1
    rw [List.append_nil]
    exact ⟨ds, r1, hn, hp, fun p us H2 sm hp e r => q p us H1 H2 g1 i1 hp sm.gr (S1.st i1 sm) e r⟩
theorem en_callW {S1 : Sta} {t : TA} {ds es : List Dt} {n m : Nat} {gV : List V → List V} {pre : List Dt → Prop} {F : List Dt → List Dt} {E : XK} (ha : EvA K S S1 ρ t (Eq es)) (hm : es.length = m) (hg : ∀ H vs, RepA K H vs es → RepA K H (gV vs) ds) (hn : ds.length = n) (hp : pre ds) :
    EvN K S S1 ρ (tCallW (spN K n pre F) m gV E t) (F ds) := fun σ H i s Q q =>
  ha σ H i s _ fun vs ds' H1 g1 i1 r1 p1 => by
    subst p1
    exact ⟨r1.len.trans hm, ds, hg _ _ r1, hn, hp, fun p us H2 sm hp e r => q p us H1 H2 g1 i1 hp sm.gr (S1.st i1 sm) e r⟩
/-- the other slots hold no lists -/
def NoLists (ρ : List (Option Dt)) (j : Nat) : Prop := ∀ (i : Nat) (d : Dt), i ≠ j → ρ[i]? = some (some d) → nol d = true
/-- what holds bears that a loose list is changed -/
def Loose (S SF : Sta) : Prop := ∀ {B H : Hp} {p : Addr} {vs : List V} {o : HO}, SF.I B → Gr B H → B p = none → H p = some (.lst vs) → S.I H → S.I (upd H p o)
theorem slots_off {σ : L2.St} {p : Addr} {vs : List V} {xs : List Dt} {o : HO} {j : Nat} (s : Slots K H σ ρ) (hj : ρ[j]? = some (some (.lat p xs))) (hn : NoLists ρ j) (hp : H p = some (.lst vs)) {ds : List Dt} {us : List V} (r : RepA K (upd H p (.lst us)) us ds) : Slots K (upd H p (.lst us)) σ (ρ.set j (some (.lat p ds))) := by
  refine ⟨by rw [List.length_set]; exact s.len, fun i d h => ?_⟩
  by_cases hij : j = i
  · subst hij
    have hl : j < ρ.length := (List.getElem?_eq_some_iff.mp hj).1
    rw [List.getElem?_set_self hl] at h
    cases h
    obtain ⟨v, hv, rv⟩ := s.val j _ hj
    obtain ⟨rfl, _⟩ := rv.latI
    exact ⟨_, hv, .lat upd_same r⟩
  · rw [List.getElem?_set_ne hij] at h
    obtain ⟨v, hv, rv⟩ := s.val i d h
    exact ⟨v, hv, rv.off hp (hn i d (Ne.symm hij) h)⟩
/-- xs.append(e), xs a loose list -/
theorem so_app {p : Addr} {j : Nat} {xs : List Dt} (hL : p ∈ L) (hlo : Loose S SB) (hj : ρ[j]? = some (some (.lat p xs))) (hx : nolA xs = true) (hn : NoLists ρ j) (hz : xs.length < 100000) (h : Ev K S S ρ te (Eq d)) (hd : nol d = true)
    (q : Sg K S SB SF L w (ρ.set j (some (.lat p (xs ++ [d])))) P) : Sg K S SB SF L (tSeq (tDrop (tBM K "list" rAppend (tVar j) (tCons te tNil))) w) ρ P := fun D σ B H b i s f => by
  obtain ⟨v, hv, rv⟩ := s.val j _ hj
  obtain ⟨rfl, vs, hp, ra⟩ := rv.latI
  refine ⟨.ref p, hv, .inl ⟨rfl, _, SqL.of hp⟩, ?_⟩
  refine h σ H i s _ fun u d' H1 g1 i1 r1 e => ?_
  subst e
  have hp1 : H1 p = some (.lst vs) := g1 _ _ hp rfl
  have ra1 := ra.mono g1
  refine ⟨p, vs, u, rfl, rfl, hp1, by rw [ra1.len]; exact Nat.lt_of_lt_of_le hz (by decide), ?_⟩
  have g2 := b.gr.trans g1
  refine q D σ B _ ⟨gr_off g2 (b.new p hL), b.i, b.new⟩ (hlo b.i g2 (b.new p hL) hp1 i1) (slots_off (o := .lst vs) (s.mono g1) hj hn hp1 ?_) f
  exact (ra1.off hp1 hx).app (.cons (r1.off hp1 hd) .nil)
theorem loose_same {H0 : Hp} : Loose (staSameQ H0) (staSameQ H0) := fun {B H p vs o} i0 g hp _ i => by
  intro a u e
  have ha : a ≠ p := fun z => by
    have y := i0 a u e
    rw [z, hp] at y
    cases y
  rw [upd_ne ha]
  exact i a u e
end
end Bf
namespace Bf
open PySem PySem.Spec PyProof.Rows L2

/-! ### F. what kind a thing is -/
/-- the name of a thing's class (not of an instance, not of a value by itself) -/
def tyN : Dt → Option String
  | .non => some "NoneType"
  | .bl _ => some "bool"
  | .int _ => some "int"
  | .str _ => some "str"
  | .lst _ => some "list"
  | .tup _ => some "tuple"
  | .dic => some "dict"
  | .raw (.ty _) => none
  | _ => none
section
variable {K : PySem.W.Frag} {S : Sta} {ρ : List (Option Dt)} {H : Hp} {d : Dt} {v : V} {n T : String}
theorem Rep.ty (r : Rep K H v d) (h : tyN d = some n) : TyX K H v (.type n) := by
  cases r with
  | non => cases h; exact .base .non
  | bl b => cases h; exact .base (.bl b)
  | int i => cases h; exact .base (.int i)
  | str x => cases h; exact .base (.str x)
  | lst q r =>
    cases h
    rcases q with (q | ⟨o, q⟩) | ⟨o, its, n, hk, hc, _⟩
    · exact .base (.lst q)
    · exact .base (.frz q)
    · exact .kList hk hc
  | tup q r =>
    cases h
    rcases q with (q | ⟨o, q⟩) | ⟨o, its, n, hk, hc, _⟩
    · exact .base (.tup q)
    · exact .fTuple q
    · exact .kTuple hk hc
  | dic q => cases h; exact .base (.dK q)
  | ins q r => cases h
  | raw v => cases v <;> cases h
  | lat q r => cases h
  | err q1 q2 r => cases h
  | dct q r1 r2 => cases h
theorem rc_isi {b : Bool} (h : tyN d = some n) (hk : kitB n T = some b) : RvC K S (rIsi K) [d, .raw (.ty T)] (Eq (.bl b)) := rc_at fun H vs i r Q q => by
  obtain ⟨v, u, rfl, r1, r2⟩ := r.twoI
  obtain rfl := r2.rawI
  exact ⟨v, .ty T, _, _, b, rfl, .ty T, r1.ty h, kit_ty hk, q _ (.bl b)⟩
end

/-! ### G. == and repr of data without dicts, instances -/
mutual
def py : Dt → PyData
  | .non => .none
  | .bl b => .bool b
  | .int i => .int i
  | .str x => .str x
  | .lst xs => .list (pyA xs)
  | .tup xs => .tuple (pyA xs)
  | .dic => .dict []
  | .ins _ _ _ => .none
  | .raw _ => .none
  | .lat _ _ => .none
  | .err _ _ _ => .none
  | .dct _ _ => .none
def pyA : List Dt → List PyData
  | [] => []
  | x :: xs => py x :: pyA xs
end
mutual
/-- no dict, no instance, no value by itself -/
def pur : Dt → Bool
  | .lst xs => purA xs
  | .tup xs => purA xs
  | .dic => false
  | .ins _ _ _ => false
  | .raw _ => false
  | .lat _ _ => false
  | .err _ _ _ => false
  | .dct _ _ => false
  | _ => true
def purA : List Dt → Bool
  | [] => true
  | x :: xs => pur x && purA xs
end
section
variable {K : PySem.W.Frag} {H : Hp}
mutual
theorem Rep.dp : ∀ {v : V} {d : Dt}, pur d = true → Rep K H v d → Dp K H v (py d)
  | _, _, _, .non => by unfold py; exact .non
  | _, _, _, .bl b => by unfold py; exact .bl b
  | _, _, _, .int i => by unfold py; exact .int i
  | _, _, _, .str x => by unfold py; exact .str x
  | _, _, h, .lst q r => by unfold py; exact .lst q (r.dp (by simpa [pur] using h))
  | _, _, h, .tup q r => by unfold py; exact .tup q (r.dp (by simpa [pur] using h))
  | _, _, h, .dic _ => by simp [pur] at h
  | _, _, h, .ins _ _ => by simp [pur] at h
  | _, _, h, .raw _ => by simp [pur] at h
  | _, _, h, .lat _ _ => by simp [pur] at h
  | _, _, h, .err _ _ _ => by simp [pur] at h
  | _, _, h, .dct _ _ _ => by simp [pur] at h
theorem RepA.dp : ∀ {vs : List V} {ds : List Dt}, purA ds = true → RepA K H vs ds → DpAll K H vs (pyA ds)
  | _, _, _, .nil => by unfold pyA; exact .nil
  | _, _, h, .cons q r => by
    simp only [purA, Bool.and_eq_true] at h
    unfold pyA
    exact .cons (q.dp h.1) (r.dp h.2)
end
end
/-- fit to be compared -/
def cmpOk (d : Dt) : Bool := pur d && SeqAt.shaped (py d)
section
variable {K : PySem.W.Frag} {S : Sta} {x y : Dt}
theorem rv_eqD (hx : cmpOk x = true) (hy : cmpOk y = true) : Rv2 K S (rEqD K) x y (Eq (.bl (PyData.eqv (py x) (py y)))) := rv_at fun H v u _ r1 r2 Q q => by
  simp only [cmpOk, Bool.and_eq_true] at hx hy
  exact ⟨_, _, r1.dp hx.1, r2.dp hy.1, hx.2, hy.2, q _ (.bl _)⟩
theorem rv_neD (hx : cmpOk x = true) (hy : cmpOk y = true) : Rv2 K S (rNeD K) x y (Eq (.bl (!PyData.eqv (py x) (py y)))) := rv_at fun H v u _ r1 r2 Q q => by
  simp only [cmpOk, Bool.and_eq_true] at hx hy
  exact ⟨_, _, r1.dp hx.1, r2.dp hy.1, hx.2, hy.2, q _ (.bl _)⟩
end
/-- repr(x) -/
def rRepr (K : PySem.W.Frag) : List V → Hp → VK → Prop := fun xs H Q => ∃ x d, xs = [x] ∧ Dp K H x d ∧ d.showable = true ∧ SeqAt.shaped d = true ∧ d.shown.length ≤ sizeLine ∧ Q (.str d.shown) H
theorem call_reprD {X : Cx} (hg : X.A.guards = some []) (hu : X.A.units + 70 < cLine) : CallR X (.builtin "repr") (rRepr X.K) := by
  intro pins s σ H xs us Q I r h
  obtain ⟨x, d, rfl, hd, hs, hsh, hz, q⟩ := h
  obtain ⟨u, rfl, ru⟩ := vals1 r
  have hq : ∀ t, EP X pins σ Q (.str d.shown t) { s with toks := s.toks + 1 } := fun t => ⟨.str _, H, I.tok _, ⟨_, rfl⟩, q⟩
  cases hd with
  | non => cases ru; exact PySem.P.repr_of_none (by simpa [PyData.shown] using hq _)
  | bl b => cases ru; exact PySem.P.repr_of_bool (by simpa [PyData.shown] using hq _)
  | int i =>
    obtain ⟨t, rfl⟩ := ru
    exact PySem.P.repr_of_int (by simpa [PyData.showable] using hs) (by simpa [PyData.shown] using hq _)
  | str y =>
    obtain ⟨t, rfl⟩ := ru
    exact PySem.P.repr_of_str (by simpa [PyData.shown] using hq _) (by simpa [PyData.shown] using hz)
  | lst q1 q2 =>
    cases ru
    obtain ⟨as, rd⟩ := Dp.reads I _ _ _ (Dp.lst q1 q2) rfl
    have hdep := SeqAt.depth_of_shaped hsh
    exact repr_of_reads' rd hs (PyData.noDict_hsm (PyData.hasDict_of_canLay _ (SeqAt.canLay_of_shaped hsh))) hg (by omega) (fun _ _ e => e) (fun h' u tk hk => ⟨.str _, H, I.kept (t' := tk) hk, ⟨_, rfl⟩, q⟩) hz
  | tup q1 q2 =>
    cases ru
    obtain ⟨as, rd⟩ := Dp.reads I _ _ _ (Dp.tup q1 q2) rfl
    have hdep := SeqAt.depth_of_shaped hsh
    exact repr_of_reads' rd hs (PyData.noDict_hsm (PyData.hasDict_of_canLay _ (SeqAt.canLay_of_shaped hsh))) hg (by omega) (fun _ _ e => e) (fun h' u tk hk => ⟨.str _, H, I.kept (t' := tk) hk, ⟨_, rfl⟩, q⟩) hz
/-- fit to be shown -/
def shwOk (d : Dt) : Prop := cmpOk d = true ∧ (py d).showable = true ∧ (py d).shown.length ≤ sizeLine
theorem rc_repr {K : PySem.W.Frag} {S : Sta} {d : Dt} (h : shwOk d) : RvC K S (rRepr K) [d] (Eq (.str (py d).shown)) := rc_at fun H vs i r Q q => by
  obtain ⟨v, rfl, rv⟩ := r.oneI
  have h1 := h.1
  simp only [cmpOk, Bool.and_eq_true] at h1
  exact ⟨v, _, rfl, rv.dp h1.1, h.2.1, h1.2, h.2.2, q _ (.str _)⟩

/-! ### H. lists joined, whatever their lists are -/
def rCatS (K : PySem.W.Frag) : R2 := fun x y H Q => ∃ l b xs zs, x = .ref l ∧ y = .ref b ∧ SqL K H l xs ∧ SqL K H b zs ∧ xs.length + zs.length ≤ sizeLine ∧ ∀ p, H p = none → Q (.ref p) (upd H p (.lst (xs ++ zs)))
theorem op_catS {X : Cx} : OpR X (binaryOp .Add) (rCatS X.K) := by
  intro pins s σ H x y v u Q I rx ry h
  obtain ⟨l, b, xs, zs, rfl, rfl, h1, h2, hz, q⟩ := h
  cases rx
  cases ry
  obtain ⟨its, r1, ⟨⟨c1, d1, dt1, sl1⟩, n1, o1, e1, _, f1⟩, _⟩ := I.list h1
  obtain ⟨jts, r2, ⟨⟨c2, d2, dt2, sl2⟩, n2, o2, e2, _, f2⟩, _⟩ := I.list h2
  simp only at e1 e2 f1 f2
  subst e1 e2 f1 f2
  have l1 := r1.length
  have l2 := r2.length
  refine concat_meets ⟨_, o1, rfl⟩ ⟨_, o2, rfl⟩ noFill_list_add seq_list_add PySem.F.slot_list_add PySem.F.entry_list_add (PySem.F.args_list_add_2 _ _)
    (list_addW l b its.toArray jts.toArray n1 n2 d1 d2 sl1 sl2 (by rw [List.size_toArray, List.size_toArray]; omega)) ⟨o1, o2, ?_⟩
  rw [show its.toArray ++ jts.toArray = (its ++ jts).toArray by simp]
  exact ⟨.ref _, _, I.lnew (t' := s.toks) (r1.append r2) (by rw [List.length_append]; omega), rfl, q _ I.fresh⟩
section
variable {K : PySem.W.Frag} {S : Sta} {ρ : List (Option Dt)} {x y d : Dt}
theorem rv_catL {xs ys : List Dt} (hz : xs.length + ys.length ≤ sizeLine) : Rv2 K S (rCatS K) (.lst xs) (.lst ys) (Eq (.lst (xs ++ ys))) := fun H v u i r1 r2 Q q => by
  obtain ⟨a, vs, rfl, h1, ra⟩ := r1.lstI
  obtain ⟨b, us, rfl, h2, rb⟩ := r2.lstI
  exact ⟨a, b, vs, us, rfl, rfl, h1, h2, by rw [ra.len, rb.len]; exact hz, fun p hp => q _ _ _ (same_new hp).gr (S.st i (same_new hp)) (.lst (SqL.of upd_same) ((ra.app rb).mono (same_new hp).gr)) rfl⟩
/-! tuple(..), list(..) -/
def rTupO (K : PySem.W.Frag) : List V → Hp → VK → Prop := fun xs H Q => ∃ p ys, xs = [.ref p] ∧ ((SqL K H p ys ∧ ∀ l, H l = none → Q (.ref l) (upd H l (.tup ys))) ∨ (SqT K H p ys ∧ Q (.ref p) H))
def rLstO (K : PySem.W.Frag) : List V → Hp → VK → Prop := fun xs H Q => ∃ p ys, xs = [.ref p] ∧ (SqL K H p ys ∨ SqT K H p ys) ∧ ∀ l, H l = none → Q (.ref l) (upd H l (.lst ys))
theorem rc_tupL {xs : List Dt} : RvC K S (rTupO K) [.lst xs] (Eq (.tup xs)) := fun H vs i r Q q => by
  obtain ⟨v, rfl, r1⟩ := r.oneI
  obtain ⟨a, us, rfl, h, ra⟩ := r1.lstI
  exact ⟨a, us, rfl, .inl ⟨h, fun p hp => q _ _ _ (same_new hp).gr (S.st i (same_new hp)) (.tup (SqT.of upd_same) (ra.mono (same_new hp).gr)) rfl⟩⟩
theorem rc_tupT {xs : List Dt} : RvC K S (rTupO K) [.tup xs] (Eq (.tup xs)) := fun H vs i r Q q => by
  obtain ⟨v, rfl, r1⟩ := r.oneI
  obtain ⟨a, us, rfl, h, ra⟩ := r1.tupI
  exact ⟨a, us, rfl, .inr ⟨h, q _ _ H (Gr.refl H) i (.tup h ra) rfl⟩⟩
theorem rc_lstT {xs : List Dt} : RvC K S (rLstO K) [.tup xs] (Eq (.lst xs)) := fun H vs i r Q q => by
  obtain ⟨v, rfl, r1⟩ := r.oneI
  obtain ⟨a, us, rfl, h, ra⟩ := r1.tupI
  exact ⟨a, us, rfl, .inr h, fun p hp => q _ _ _ (same_new hp).gr (S.st i (same_new hp)) (.lst (SqL.of upd_same) (ra.mono (same_new hp).gr)) rfl⟩
theorem rc_lstL {xs : List Dt} : RvC K S (rLstO K) [.lst xs] (Eq (.lst xs)) := fun H vs i r Q q => by
  obtain ⟨v, rfl, r1⟩ := r.oneI
  obtain ⟨a, us, rfl, h, ra⟩ := r1.lstI
  exact ⟨a, us, rfl, .inl h, fun p hp => q _ _ _ (same_new hp).gr (S.st i (same_new hp)) (.lst (SqL.of upd_same) (ra.mono (same_new hp).gr)) rfl⟩
/-! int(True) -/
def rInt1 : List V → Hp → VK → Prop := fun xs H Q => (∃ i, xs = [.int i] ∧ Q (.int i) H) ∨ ∃ k, xs = [.bl k] ∧ Q (.int (if k then 1 else 0)) H
theorem rc_intI {i : Int} : RvC K S rInt1 [.int i] (Eq (.int i)) := rc_at fun H vs _ r Q q => by
  obtain ⟨v, rfl, r1⟩ := r.oneI
  obtain rfl := r1.intI
  exact .inl ⟨i, rfl, q _ (.int i)⟩
theorem rc_intB {b : Bool} : RvC K S rInt1 [.bl b] (Eq (.int (if b then 1 else 0))) := rc_at fun H vs _ r Q q => by
  obtain ⟨v, rfl, r1⟩ := r.oneI
  obtain rfl := r1.blI
  exact .inr ⟨b, rfl, q _ (.int _)⟩
/-! in a written tuple of ints -/
theorem any_ints {H : Hp} (i : Int) : ∀ (ns : List Int), inV (.int i) (ns.map V.int) = decide (i ∈ ns)
  | [] => by simp [inV]
  | n :: ns => by
    have ih := any_ints (H := H) i ns
    unfold inV at ih ⊢
    rw [List.map_cons, List.any_cons, ih]
    have e : eqV (.int n) (.int i) = decide (n = i) := by
      unfold eqV
      by_cases h : n = i
      · simp [h]
      · simp [h]
    rw [e]
    by_cases h : n = i
    · simp [h]
    · by_cases h2 : i ∈ ns
      · simp [h, h2]
      · simp [h, h2, Ne.symm h]
theorem rv_inT {i : Int} {ns : List Int} : Rv2 K S (rIn K false) (.int i) (.tup (ns.map Dt.int)) (Eq (.bl (decide (i ∈ ns)))) := rv_at fun H v u _ r1 r2 Q q => by
  obtain rfl := r1.intI
  obtain ⟨a, vs, rfl, ht, ra⟩ := r2.tupI
  refine ⟨a, vs, rfl, .inr ht, rfl, ?_, ?_⟩
  · rw [ra.ints, List.all_eq_true]
    intro y hy
    obtain ⟨n, _, rfl⟩ := List.mem_map.mp hy
    rfl
  · rw [if_neg Bool.false_ne_true, ra.ints, any_ints (H := H)]
    exact q _ (.bl _)
end

/-! ### I. a def over data, by its body -/
def startD (n : Nat) (ds : List Dt) : List (Option Dt) := ds.map some ++ List.replicate (n - ds.length) none
theorem slots_start {K : PySem.W.Frag} {H : Hp} {N : List Str} {vs : List V} {ds : List Dt} (r : RepA K H vs ds) : Slots K H (L2.start N vs) (startD N.length ds) := by
  refine ⟨by simp [L2.start, startD, r.len], fun i d h => ?_⟩
  unfold startD at h
  unfold L2.start
  by_cases hi : i < ds.length
  · rw [List.getElem?_append_left (by simpa using hi), List.getElem?_map] at h
    cases e : ds[i]? with
    | none => rw [e] at h; cases h
    | some d' =>
      rw [e] at h
      cases h
      obtain ⟨v, hv, rv⟩ := r.at_ e
      exact ⟨v, by rw [List.getElem?_append_left (by rw [List.length_map, r.len]; exact hi), List.getElem?_map, hv]; rfl, rv⟩
  · rw [List.getElem?_append_right (by simpa using hi), List.getElem?_replicate] at h
    split at h <;> cases h
/-- all that was is as it was -/
abbrev staSame (H : Hp) : Sta := staSameQ H
theorem staSame_mu {H : Hp} : (staSame H).Mu := fun {H1 H2 D o} i1 _ hD i2 b u e => by
  have hb : b ≠ D := fun z => by
    have y := i1 b u e
    rw [z, hD] at y
    cases y
  rw [upd_ne hb]
  exact i2 b u e
theorem okF {P : Program} {w : World} {K : PySem.W.Frag} {mg : Str → Option Value} {base : Heap} {x qual : Str} {st : Stmt} {f : Addr} {fd : FuncData} {N ps : List Str} {k : Nat} {pre : List Dt → Prop} {F : List Dt → Dt} (Fu : Fun K x qual st f fd) (Sc : FnScope N ps (defScope st))
    (hb : ∀ (cdv : Value) (A : Around) (out : List Env) (s : Shared) (H : Hp) (E : XK), Room k (A.deeper (envOfC qual (defScope st) s.heap.objs.size f cdv)) → A.guards = some [] →
      ∃ t, PSs (cxOf (L2.CX P w) P w K mg base N qual (defScope st) f cdv A out s H E).nox (defBody st) t ∧ ∀ (S : Sta), S.Mu → ∀ ds : List Dt, ds.length = ps.length → pre ds → So K S S [] t (startD N.length ds) { nx := fun _ => F ds = .non, rt := Eq (F ds) }) :
    GOk P w K mg base (k + 1) f fd ps (spF K ps.length pre F) := by
  refine okG Fu Sc (fun vs H Q E h => ?_) fun cdv A out s H vs Q E hr hg h => ?_
  · obtain ⟨ds, r, hl, _⟩ := h
    exact r.len.trans hl
  · obtain ⟨ds, r, hl, hp, q⟩ := h
    obtain ⟨t, ht, so⟩ := hb cdv A out s H E hr hg
    refine ⟨t, ht.nox, so (staSame H) staSame_mu ds hl hp _ _ H H ⟨Gr.refl H, Same.refl H, fun _ z => nomatch z⟩ (Same.refl H) (slots_start r) ⟨fun σ ρ H' g i s' e => ?_, fun v d H' g i r' e => ?_, fun _ _ _ _ _ _ z => z.elim, fun _ _ _ _ _ _ z => z.elim⟩⟩
    · exact q _ H' i ((show F ds = .non from e) ▸ .non)
    · exact q v H' i ((show F ds = d from e) ▸ r')

theorem okNew {P : Program} {w : World} {K : PySem.W.Frag} {mg : Str → Option Value} {base : Heap} {x qual : Str} {st : Stmt} {f : Addr} {fd : FuncData} {N ps : List Str} {k : Nat} {pre : List Dt → Prop} {F : List Dt → List Dt} (Fu : Fun K x qual st f fd) (Sc : FnScope N ps (defScope st))
    (hb : ∀ (cdv : Value) (A : Around) (out : List Env) (s : Shared) (H : Hp) (E : XK), Room k (A.deeper (envOfC qual (defScope st) s.heap.objs.size f cdv)) → A.guards = some [] →
      ∃ t, PSs (cxOf (L2.CX P w) P w K mg base N qual (defScope st) f cdv A out s H E).nox (defBody st) t ∧ ∀ (H0 : Hp) (ds : List Dt), ds.length = ps.length → pre ds → So K (staSame H0) (staSame H0) [] t (startD N.length ds) { rt := fun d => ∃ p, d = .lat p (F ds) ∧ H0 p = none }) :
    GOk P w K mg base (k + 1) f fd ps (spN K ps.length pre F) := by
  refine okG Fu Sc (fun vs H Q E h => ?_) fun cdv A out s H vs Q E hr hg h => ?_
  · obtain ⟨ds, r, hl, _⟩ := h
    exact r.len.trans hl
  · obtain ⟨ds, r, hl, hp, q⟩ := h
    obtain ⟨t, ht, so⟩ := hb cdv A out s H E hr hg
    refine ⟨t, ht.nox, so H ds hl hp _ _ H H ⟨Gr.refl H, Same.refl H, fun _ z => nomatch z⟩ (Same.refl H) (slots_start r) ⟨fun _ _ _ _ _ _ z => z.elim, fun v d H' g i r' e => ?_, fun _ _ _ _ _ _ z => z.elim, fun _ _ _ _ _ _ z => z.elim⟩⟩
    obtain ⟨p, rfl, hp⟩ := e
    obtain ⟨rfl, us, e, ra⟩ := r'.latI
    exact q p us H' i hp e ra
end Bf
namespace Bf
open PySem PySem.Spec PyProof.Rows L2
/-! ### J. the readings' names -/
abbrev rAddI : R2 := rI0 fun i j => .int (i + j)
abbrev rSubI : R2 := rI0 fun i j => .int (i - j)
abbrev rMulW : R2 := rI CMulW fun i j => .int (i * j)
abbrev rDivW : R2 := rI CDivW fun i j => .int (i / j)
abbrev rModI : R2 := rI (fun _ j => 0 < j) fun i j => .int (i % j)
abbrev rPowI : R2 := rI CPow fun i j => .int (i ^ j.toNat)
abbrev rLtI : R2 := rI0 fun i j => .bl (decide (i < j))
abbrev rLeI : R2 := rI0 fun i j => .bl (decide (i ≤ j))
abbrev rGtI : R2 := rI0 fun i j => .bl (decide (j < i))
abbrev rGeI : R2 := rI0 fun i j => .bl (decide (j ≤ i))
abbrev rIsNo : R2 := fun x y H Q => y = .non ∧ Q (.bl (decide (x = .non))) H
abbrev rNoNo : R2 := fun x y H Q => y = .non ∧ Q (.bl (!decide (x = .non))) H
abbrev rNegI : V → Hp → VK → Prop := rU fun i => .int (-i)
section
variable {K : PySem.W.Frag} {S S1 S2 : Sta} {ρ : List (Option Dt)} {te tl ta : TE} {vs : List Nat} {j : Nat} {x y d : Dt} {t u : TT}
theorem ev_neg {i : Int} (h : Ev K S S1 ρ ta (Eq (.int i))) : Ev K S S1 ρ (tUn rNegI ta) (Eq (.int (-i))) := ev_un h fun H v _ r Q q => ⟨i, r.intI, q _ _ H (Gr.refl H) (by assumption) (.int _) rfl⟩
/-! and, or where the first answer decides -/
theorem ev_andT {b : Bool} {tb : TE} (ha : Ev K S S1 ρ ta (Eq (.bl true))) (hb : Ev K S1 S1 ρ tb (Eq (.bl b))) : Ev K S S1 ρ (tAndV ta tb) (Eq (.bl b)) := (ev_and ha fun _ => hb).to (by rw [Bool.true_and])
theorem ev_andF {tb : TE} (ha : Ev K S S1 ρ ta (Eq (.bl false))) : Ev K S S1 ρ (tAndV ta tb) (Eq (.bl false)) := (ev_and (b := false) ha fun e => nomatch e).to (by rw [Bool.false_and])
theorem et_andT {b : Bool} (ha : EvT K S S1 ρ t (Eq true)) (hb : EvT K S1 S1 ρ u (Eq b)) : EvT K S S1 ρ (tAnd t u) (Eq b) := (et_and ha fun _ => hb).to (by rw [Bool.true_and])
theorem et_andF (ha : EvT K S S1 ρ t (Eq false)) : EvT K S S1 ρ (tAnd t u) (Eq false) := (et_and (b := false) ha fun e => nomatch e).to (by rw [Bool.false_and])
theorem et_orT (ha : EvT K S S1 ρ t (Eq true)) : EvT K S S1 ρ (tOr t u) (Eq true) := (et_or (b := true) ha fun e => nomatch e).to (by rw [Bool.true_or])
theorem et_orF {b : Bool} (ha : EvT K S S1 ρ t (Eq false)) (hb : EvT K S1 S1 ρ u (Eq b)) : EvT K S S1 ρ (tOr t u) (Eq b) := (et_or ha fun _ => hb).to (by rw [Bool.false_or])
theorem et_notT (ha : EvT K S S1 ρ t (Eq true)) : EvT K S S1 ρ (tNot t) (Eq false) := (et_not ha).to rfl
theorem et_notF (ha : EvT K S S1 ρ t (Eq false)) : EvT K S S1 ρ (tNot t) (Eq true) := (et_not ha).to rfl
theorem ev_ifT {Φ : Dt → Prop} {tb : TE} (ht : EvT K S S1 ρ t (Eq true)) (ha : Ev K S1 S2 ρ ta Φ) : Ev K S S2 ρ (tIf t ta tb) Φ := ev_if ht (fun _ => ha) fun e => nomatch e
theorem ev_ifF {Φ : Dt → Prop} {tb : TE} (ht : EvT K S S1 ρ t (Eq false)) (hb : Ev K S1 S2 ρ tb Φ) : Ev K S S2 ρ (tIf t ta tb) Φ := ev_if ht (fun e => nomatch e) fun _ => hb
/-! a < b < c where the first already fails, or not -/

/-! isinstance -/
def okN (d : Dt) : Bool := (tyN d).isSome
def isIntD : Dt → Bool
  | .int _ => true
  | .bl _ => true
  | _ => false
def isBlD : Dt → Bool
  | .bl _ => true
  | _ => false
def isTupD : Dt → Bool
  | .tup _ => true
  | _ => false
def isStrD : Dt → Bool
  | .str _ => true
  | _ => false
def isLstD : Dt → Bool
  | .lst _ => true
  | _ => false
theorem rc_isInt (h : okN d = true) : RvC K S (rIsi K) [d, .raw (.ty "int")] (Eq (.bl (isIntD d))) := by
  cases d with
  | non => exact rc_isi (b := false) rfl (by decide +kernel)
  | bl => exact rc_isi (b := true) rfl (by decide +kernel)
  | int => exact rc_isi (b := true) rfl (by decide +kernel)
  | str => exact rc_isi (b := false) rfl (by decide +kernel)
  | lst => exact rc_isi (b := false) rfl (by decide +kernel)
  | tup => exact rc_isi (b := false) rfl (by decide +kernel)
  | dic => exact rc_isi (b := false) rfl (by decide +kernel)
  | ins => cases h
  | raw v => cases v <;> cases h
  | lat => cases h
  | err => cases h
  | dct => cases h
theorem rc_isBl (h : okN d = true) : RvC K S (rIsi K) [d, .raw (.ty "bool")] (Eq (.bl (isBlD d))) := by
  cases d with
  | non => exact rc_isi (b := false) rfl (by decide +kernel)
  | bl => exact rc_isi (b := true) rfl (by decide +kernel)
  | int => exact rc_isi (b := false) rfl (by decide +kernel)
  | str => exact rc_isi (b := false) rfl (by decide +kernel)
  | lst => exact rc_isi (b := false) rfl (by decide +kernel)
  | tup => exact rc_isi (b := false) rfl (by decide +kernel)
  | dic => exact rc_isi (b := false) rfl (by decide +kernel)
  | ins => cases h
  | raw v => cases v <;> cases h
  | lat => cases h
  | err => cases h
  | dct => cases h
theorem rc_isTup (h : okN d = true) : RvC K S (rIsi K) [d, .raw (.ty "tuple")] (Eq (.bl (isTupD d))) := by
  cases d with
  | non => exact rc_isi (b := false) rfl (by decide +kernel)
  | bl => exact rc_isi (b := false) rfl (by decide +kernel)
  | int => exact rc_isi (b := false) rfl (by decide +kernel)
  | str => exact rc_isi (b := false) rfl (by decide +kernel)
  | lst => exact rc_isi (b := false) rfl (by decide +kernel)
  | tup => exact rc_isi (b := true) rfl (by decide +kernel)
  | dic => exact rc_isi (b := false) rfl (by decide +kernel)
  | ins => cases h
  | raw v => cases v <;> cases h
  | lat => cases h
  | err => cases h
  | dct => cases h
theorem rc_isStr (h : okN d = true) : RvC K S (rIsi K) [d, .raw (.ty "str")] (Eq (.bl (isStrD d))) := by
  cases d with
  | non => exact rc_isi (b := false) rfl (by decide +kernel)
  | bl => exact rc_isi (b := false) rfl (by decide +kernel)
  | int => exact rc_isi (b := false) rfl (by decide +kernel)
  | str => exact rc_isi (b := true) rfl (by decide +kernel)
  | lst => exact rc_isi (b := false) rfl (by decide +kernel)
  | tup => exact rc_isi (b := false) rfl (by decide +kernel)
  | dic => exact rc_isi (b := false) rfl (by decide +kernel)
  | ins => cases h
  | raw v => cases v <;> cases h
  | lat => cases h
  | err => cases h
  | dct => cases h
theorem rc_isLst (h : okN d = true) : RvC K S (rIsi K) [d, .raw (.ty "list")] (Eq (.bl (isLstD d))) := by
  cases d with
  | non => exact rc_isi (b := false) rfl (by decide +kernel)
  | bl => exact rc_isi (b := false) rfl (by decide +kernel)
  | int => exact rc_isi (b := false) rfl (by decide +kernel)
  | str => exact rc_isi (b := false) rfl (by decide +kernel)
  | lst => exact rc_isi (b := true) rfl (by decide +kernel)
  | tup => exact rc_isi (b := false) rfl (by decide +kernel)
  | dic => exact rc_isi (b := false) rfl (by decide +kernel)
  | ins => cases h
  | raw v => cases v <;> cases h
  | lat => cases h
  | err => cases h
  | dct => cases h

/-! [te for x in a list for y in (a tuple)] -/
theorem en_lc2 {xs : List Dt} {ys : List Dt} {f : Dt → Dt → Dt} {j1 : Nat} {vs1 : List Nat} {tl1 : TE} (hmu : S.Mu) (h : Ev K S S ρ tl (Eq (.lst xs))) (hj : j ∈ vs) (hj1 : j1 ∈ vs1) (hz : xs.length * ys.length ≤ 100000)
    (h1 : ∀ x ∈ xs, Ev K S S ((wipeD ρ vs).set j (some x)) tl1 (Eq (.tup ys)))
    (he : ∀ x ∈ xs, ∀ y ∈ ys, Ev K S S ((wipeD ((wipeD ρ vs).set j (some x)) vs1).set j1 (some y)) te (Eq (f x y))) (hf : ∀ x ∈ xs, ∀ y ∈ ys, nol (f x y) = true) (hnoy : nolA ys = true) :
    EvN K S S ρ (tLc2 (iList K tl) (gName j) tYes (iTup K tl1) (gName j1) tYes te vs vs1) (xs.flatMap fun x => ys.map (f x)) := fun σ H i s Q q =>
  h σ H i s _ fun v d H1 g1 i1 r1 p1 => by
    subst p1
    obtain ⟨a, us, rfl, hT, ra⟩ := r1.lstI
    refine ⟨a, rfl, ⟨us, hT⟩, fun D hD => ?_⟩
    refine ⟨fun n m H' => m = us.length - n ∧ n ≤ us.length ∧ Gr H1 H' ∧ S.I H' ∧ ∃ acc, H' D = some (.lst acc) ∧ RepA K H' acc ((xs.take n).flatMap fun x => ys.map (f x)), ⟨us.length, by simp, Nat.zero_le _, (same_new hD).gr, S.st i1 (same_new hD), [], upd_same, .nil⟩, fun n m H' hw => ?_⟩
    obtain ⟨rfl, hn, g2, i2, acc, ha, rac⟩ := hw
    have hT' := g2.sqL hT
    by_cases hlt : n < us.length
    · have hlx : n < xs.length := by rw [← ra.len]; exact hlt
      refine .inr ⟨⟨us, us[n], hT', by simp [hlt]⟩, fun H' => Gr H1 H' ∧ S.I H' ∧ ∃ acc, H' D = some (.lst acc) ∧ RepA K H' acc ((xs.take (n + 1)).flatMap fun x => ys.map (f x)), fun H3 ⟨g3, i3, w3⟩ => ⟨us.length - (n + 1), by omega, rfl, hlt, g3, i3, w3⟩, fun x H3 hy => ?_⟩
      obtain ⟨rfl, hxs⟩ := hy
      have hux : us[n]? = some x := hxs us hT'
      obtain ⟨dx, hdx, rdx⟩ := ra.ta hux
      have hmem : dx ∈ xs := List.mem_of_getElem? hdx
      have htake : xs.take (n + 1) = xs.take n ++ [dx] := by rw [List.take_add_one, hdx]; rfl
      refine ⟨wipe_put _ σ hj, ?_⟩
      unfold tYes
      dsimp only
      rw [if_pos rfl]
      have s2 : Slots K H3 ((L2.wipe σ vs).set j (some x)) ((wipeD ρ vs).set j (some dx)) := ((s.mono (g1.trans g2)).wipe vs).set (rdx.mono g2) j
      refine h1 dx hmem _ H3 i2 s2 _ fun v1 d1 H4 g4 i4 r4 p4 => ?_
      subst p4
      obtain ⟨b, ws, rfl, hU, rb⟩ := r4.tupI
      have hD4 : H4 D = some (.lst acc) := g4 _ _ ha rfl
      have ra4 := rac.mono g4
      refine ⟨b, rfl, ⟨ws, hU⟩, ?_⟩
      -- the inner walk: what H4 knew but D
      refine ⟨fun k l H' => l = ws.length - k ∧ k ≤ ws.length ∧ Gr H1 H' ∧ S.I H' ∧ SqT K H' b ws ∧ RepA K H' ws ys ∧ ∃ acc, H' D = some (.lst acc) ∧ RepA K H' acc (((xs.take n).flatMap fun x => ys.map (f x)) ++ (ys.take k).map (f dx)), ⟨ws.length, by simp, Nat.zero_le _, g2.trans g4, i4, hU, rb, acc, hD4, by simpa using ra4⟩, fun k l H5 hw => ?_⟩
      obtain ⟨rfl, hk, g5, i5, hU5, rb5, acc5, hD5, rac5⟩ := hw
      by_cases hkt : k < ws.length
      · refine .inr ⟨⟨ws, ws[k], hU5, by simp [hkt]⟩, fun H' => Gr H1 H' ∧ S.I H' ∧ SqT K H' b ws ∧ RepA K H' ws ys ∧ ∃ acc, H' D = some (.lst acc) ∧ RepA K H' acc (((xs.take n).flatMap fun x => ys.map (f x)) ++ (ys.take (k + 1)).map (f dx)), fun H6 ⟨g6, i6, w6⟩ => ⟨ws.length - (k + 1), by omega, rfl, hkt, g6, i6, w6⟩, fun y H6 hyy => ?_⟩
        obtain ⟨rfl, hys⟩ := hyy
        obtain ⟨dy, hdy, rdy⟩ := rb5.ta (hys ws hU5)
        have hmy : dy ∈ ys := List.mem_of_getElem? hdy
        refine ⟨wipe_put _ _ hj1, ?_⟩
        dsimp only
        rw [if_pos rfl]
        refine he dx hmem dy hmy _ H6 i5 ((((s.mono (g1.trans g5)).wipe vs).set (rdx.mono g5) j |>.wipe vs1).set rdy j1) _ fun z dz H7 g7 i7 r7 p7 => ?_
        subst p7
        have hD7 : H7 D = some (.lst acc5) := g7 _ _ hD5 rfl
        have hno := hf dx hmem dy hmy
        have hnoA : nolA (((xs.take n).flatMap fun x => ys.map (f x)) ++ (ys.take k).map (f dx)) = true := nolA_all.mpr fun z hz => by
          rcases List.mem_append.mp hz with hz | hz
          · obtain ⟨p, hp, hz⟩ := List.mem_flatMap.mp hz
            obtain ⟨r, hr, rfl⟩ := List.mem_map.mp hz
            exact hf p (List.mem_of_mem_take hp) r hr
          · obtain ⟨r, hr, rfl⟩ := List.mem_map.mp hz
            exact hf dx hmem r (List.mem_of_mem_take hr)
        have hlen : (((xs.take n).flatMap fun x => ys.map (f x)) ++ (ys.take k).map (f dx)).length < 100001 := by
          have e1 : ((xs.take n).flatMap fun x => ys.map (f x)).length = n * ys.length := by
            rw [List.length_flatMap]
            simp only [List.length_map]
            rw [List.map_const', List.sum_replicate_nat, List.length_take, Nat.min_eq_left (Nat.le_of_lt hlx)]
          have e2 : ((ys.take k).map (f dx)).length ≤ ys.length := by simp [List.length_take]; omega
          rw [List.length_append, e1]
          have e3 : (n + 1) * ys.length ≤ xs.length * ys.length := Nat.mul_le_mul_right _ hlx
          rw [Nat.succ_mul] at e3
          omega
        -- ys' own items stand: no list
        refine ⟨acc5, hD7, by rw [rac5.len]; exact Nat.lt_of_lt_of_le hlen (by decide), gr_off (g5.trans g7) hD, hmu i1 (g5.trans g7) hD i7, ?_, ?_, acc5 ++ [z], upd_same, ?_⟩
        · rcases g7.sqT hU5 with (w | ⟨o, w⟩) | w
          · exact .inl (.inl (upd_other hD7 w fun _ z => nomatch z))
          · exact .inl (.inr ⟨o, upd_other hD7 w fun _ z => nomatch z⟩)
          · exact .inr w
        · exact (rb5.mono g7).off hD7 hnoy
        · have e : (ys.take (k + 1)).map (f dx) = (ys.take k).map (f dx) ++ [f dx dy] := by rw [List.take_add_one, hdy, List.map_append]; rfl
          rw [e, ← List.append_assoc]
          exact ((rac5.mono g7).off hD7 hnoA).app (.cons (r7.off hD7 hno) .nil)
      · have hke : k = ws.length := by omega
        refine .inl ⟨⟨ws, hU5, by omega⟩, g5, i5, acc5, hD5, ?_⟩
        rw [htake, List.flatMap_append, List.flatMap_cons, List.flatMap_nil, List.append_nil]
        rw [hke, rb.len, List.take_length] at rac5
        exact rac5
    · have hne : n = us.length := by omega
      rw [hne, ra.len, List.take_length] at rac
      exact .inl ⟨⟨us, hT', by omega⟩, q D acc H1 H' g1 i1 hD g2 i2 ha rac⟩
end
end Bf
namespace Bf
open PySem PySem.Spec PyProof.Rows L2

/-! ### K. a def of the text -/
structure Cal (K : PySem.W.Frag) (mg : Str → Option Value) (x : Str) (st : Stmt) (ps : List Str) (f : Addr) (fd : FuncData) : Prop where
  fn : Fun K x x st f fd
  gl : mg x = some (.ref f)
  bp : BPos fd ps
def idL : List Value → List Value := fun ws => ws
def swpL : List Value → List Value
  | [a, b] => [b, a]
  | ws => ws
def idV : List V → List V := fun ws => ws
def swpV : List V → List V
  | [a, b] => [b, a]
  | ws => ws
theorem kwv {n : Nat} : ∀ {vs : List V} {us : List Value}, Vals vs us → vs.length = n → Vals (idV vs) (idL us) := fun r _ => r
theorem kws {n : Nat} : ∀ {vs : List V} {us : List Value}, Vals vs us → vs.length = n → Vals (swpV vs) (swpL us)
  | _, _, .nil, _ => .nil
  | _, _, .cons a .nil, _ => .cons a .nil
  | _, _, .cons a (.cons b .nil), _ => .cons b (.cons a .nil)
  | _, _, .cons a (.cons b (.cons c r)), _ => .cons a (.cons b (.cons c r))
theorem idV_rep {K : PySem.W.Frag} {H : Hp} {vs : List V} {ds : List Dt} (r : RepA K H vs ds) : RepA K H (idV vs) ds := r
theorem swpV_rep {K : PySem.W.Frag} {H : Hp} {vs : List V} {x y : Dt} (r : RepA K H vs [x, y]) : RepA K H (swpV vs) [y, x] := by
  obtain ⟨v, u, rfl, r1, r2⟩ := r.twoI
  exact .cons r2 (.cons r1 .nil)

/-! ### L. the draws' dict -/
def rSetD : TSet := fun o i v H Q => ∃ a H', o = .ref a ∧ DPut H a i v H' ∧ Q H'
theorem set_dict {X : Cx} (hu : X.A.units + 1 < cLine) : PSet X rSetD := by
  intro pins s σ H o i v ov iv u Q I ro ri rv h
  obtain ⟨a, H', rfl, g, q⟩ := h
  obtain rfl : ov = Value.ref a := ro
  exact d_setItem hu I g ri rv fun s4 I4 => ⟨H', I4, q⟩
def drK (c : Addr) (i l u : Int) : List (Key × V) := [(.inr "cells", .ref c), (.inr "at", .int i), (.inr "left", .int l), (.inr "used", .int u)]
section
variable {c : Addr} {i l u x : Int}
theorem dr_cells : valV (drK c i l u) (.inr "cells") = some (.ref c) := by with_unfolding_all rfl
theorem dr_at : valV (drK c i l u) (.inr "at") = some (.int i) := by with_unfolding_all rfl
theorem dr_left : valV (drK c i l u) (.inr "left") = some (.int l) := by with_unfolding_all rfl
theorem dr_used : valV (drK c i l u) (.inr "used") = some (.int u) := by with_unfolding_all rfl
theorem dr_pat : putK (drK c i l u) (.inr "at") (.int x) = drK c x l u := by with_unfolding_all rfl
theorem dr_pleft : putK (drK c i l u) (.inr "left") (.int x) = drK c i x u := by with_unfolding_all rfl
theorem dr_pused : putK (drK c i l u) (.inr "used") (.int x) = drK c i l x := by with_unfolding_all rfl
theorem dr_merge : mergeK [] [((.inr "cells" : Key), V.ref c), (.inr "at", .int i), (.inr "left", .int l), (.inr "used", .int u)] = drK c i l u := by with_unfolding_all rfl
end
/-- the draws' dict at a, its cells cs at c: just so -/
def DS (K : PySem.W.Frag) (a c : Addr) (cs : List Int) (i l u : Int) : Sta :=
  ⟨fun H => H a = some (.dK (drK c i l u)) ∧ SqL K H c (cs.map V.int), fun h s => ⟨s _ _ h.1, s.seq h.2⟩⟩
/-- .. with counts up to n -/
def DW (K : PySem.W.Frag) (a c : Addr) (cs : List Int) (n : Nat) : Sta :=
  ⟨fun H => ∃ i l u, (DS K a c cs i l u).I H ∧ 0 ≤ i ∧ i ≤ n ∧ 0 ≤ l ∧ 0 ≤ u ∧ u ≤ n, fun ⟨i, l, u, h, r⟩ s => ⟨i, l, u, (DS K a c cs i l u).st h s, r⟩⟩
section
variable {K : PySem.W.Frag} {a c : Addr} {cs : List Int} {i l u x : Int} {n m : Nat} {S S1 SF : Sta} {L : List Addr} {ρ : List (Option Dt)} {P : Po} {te : TE} {w : TS} {Φ : Dt → Prop}
theorem dw_le (h : n ≤ m) : (DW K a c cs n).Le (DW K a c cs m) := fun H ⟨i, l, u, h0, h1, h2, h3, h4, h5⟩ => ⟨i, l, u, h0, h1, by omega, h3, h4, by omega⟩
theorem dw_of (h0 : 0 ≤ i) (h1 : i ≤ n) (h2 : 0 ≤ l) (h3 : 0 ≤ u) (h4 : u ≤ n) : (DS K a c cs i l u).Le (DW K a c cs n) := fun H h => ⟨i, l, u, h, h0, h1, h2, h3, h4⟩
theorem ds_off {H1 H : Hp} {D : Addr} {o : HO} (ha : ∃ o, H1 a = some o) (hc : SqL K H1 c (cs.map V.int)) (g : Gr H1 H) (hD : H1 D = none) (h : (DS K a c cs i l u).I H) : (DS K a c cs i l u).I (upd H D o) := by
  obtain ⟨o1, e⟩ := ha
  refine ⟨?_, (gr_off g hD).sqL hc⟩
  rw [upd_ne (ne_of_none e hD)]
  exact h.1
theorem dw_off {H1 H : Hp} {D : Addr} {o : HO} (h1 : (DW K a c cs m).I H1) (g : Gr H1 H) (hD : H1 D = none) (h : (DW K a c cs n).I H) : (DW K a c cs n).I (upd H D o) := by
  obtain ⟨i1, l1, u1, hh, _⟩ := h1
  obtain ⟨i, l, u, h, r⟩ := h
  exact ⟨i, l, u, ds_off ⟨_, hh.1⟩ hh.2 g hD h, r⟩
theorem dw_mu : (DW K a c cs n).Mu := fun i1 g hD i2 => dw_off i1 g hD i2
theorem dw_loose : Loose (DW K a c cs n) (DW K a c cs m) := fun iB g hp _ i => dw_off iB g hp i
/-- what is so by cases -/
theorem so_open (h : ∀ i l u : Int, 0 ≤ i → i ≤ n → 0 ≤ l → 0 ≤ u → u ≤ n → So K (DS K a c cs i l u) SF L w ρ P) : So K (DW K a c cs n) SF L w ρ P := fun D σ B H b ⟨i, l, u, h0, h1, h2, h3, h4, h5⟩ s f => h i l u h1 h2 h3 h4 h5 D σ B H b h0 s f
theorem ev_dget {k : Str} {v : V} {d : Dt} {j : Nat} (hj : ρ[j]? = some (some (.raw (.ref a)))) (hk : valV (drK c i l u) (.inr k) = some v) (hd : ∀ H, (DS K a c cs i l u).I H → Rep K H v d) : Ev K (DS K a c cs i l u) (DS K a c cs i l u) ρ (tDGet (tVar j) (tC (.str k))) (Eq d) := fun σ H h s Q q => by
  obtain ⟨v0, hv, rv⟩ := s.val j _ hj
  obtain rfl := rv.rawI
  exact ⟨.ref a, hv, a, v, rfl, hk ▸ DGet.k (k := Sum.inr k) h.1, q _ _ H (Gr.refl H) h (hd H h) rfl⟩
theorem ev_dat {j : Nat} (hj : ρ[j]? = some (some (.raw (.ref a)))) : Ev K (DS K a c cs i l u) (DS K a c cs i l u) ρ (tDGet (tVar j) (tC (.str "at"))) (Eq (.int i)) := ev_dget hj dr_at fun _ _ => .int i
theorem ev_dleft {j : Nat} (hj : ρ[j]? = some (some (.raw (.ref a)))) : Ev K (DS K a c cs i l u) (DS K a c cs i l u) ρ (tDGet (tVar j) (tC (.str "left"))) (Eq (.int l)) := ev_dget hj dr_left fun _ _ => .int l
theorem ev_dused {j : Nat} (hj : ρ[j]? = some (some (.raw (.ref a)))) : Ev K (DS K a c cs i l u) (DS K a c cs i l u) ρ (tDGet (tVar j) (tC (.str "used"))) (Eq (.int u)) := ev_dget hj dr_used fun _ _ => .int u
theorem rep_ints {H : Hp} : ∀ ns : List Int, RepA K H (ns.map V.int) (ns.map Dt.int)
  | [] => .nil
  | n :: ns => .cons (.int n) (rep_ints ns)
theorem ev_dcells {j : Nat} (hj : ρ[j]? = some (some (.raw (.ref a)))) : Ev K (DS K a c cs i l u) (DS K a c cs i l u) ρ (tDGet (tVar j) (tC (.str "cells"))) (Eq (.lst (cs.map Dt.int))) := ev_dget hj dr_cells fun _ h => .lst h.2 (rep_ints cs)
/-- draw[k] = e -/
theorem so_dset {k : Str} {j : Nat} {i' l' u' : Int} (h : Ev K S (DS K a c cs i l u) ρ te (Eq (.int x))) (hj : ρ[j]? = some (some (.raw (.ref a)))) (hk : putK (drK c i l u) (.inr k) (.int x) = drK c i' l' u') (q : So K (DS K a c cs i' l' u') SF L w ρ P) :
    So K S SF L (tSeq (tAsg te (gSub (tVar j) (tC (.str k)) rSetD)) w) ρ P := fun D σ B H b hi s f => h σ H hi s _ fun v d H1 g1 i1 r1 e => by
  subst e
  obtain rfl := r1.intI
  obtain ⟨v0, hv, rv⟩ := (s.mono g1).val j _ hj
  obtain rfl := rv.rawI
  have gg : ∀ {C : Hp}, Gr C H1 → Gr C (upd H1 a (.dK (drK c i' l' u'))) := fun {C} g p o e d => by
    by_cases hp : p = a
    · subst hp
      have y := g p o e d
      rw [i1.1] at y
      cases y
      cases d
    · rw [upd_ne hp]
      exact g p o e d
  refine ⟨.ref a, hv, a, _, rfl, DPut.k (k := Sum.inr k) i1.1 (by show 4 < sizeLine; decide), ?_⟩
  rw [hk]
  exact q D σ B _ ⟨gg (b.gr.trans g1), b.i, b.new⟩ ⟨upd_same, (gg (Gr.refl H1)).sqL i1.2⟩ ((s.mono g1).mono (gg (Gr.refl H1))) f
/-- cell, draw["left"] = (x, y) -/
theorem so_dset2 {j m : Nat} {ta : TA} {x y : Int} (h : EvA K S (DS K a c cs i l u) ρ ta (Eq [.int x, .int y])) (hj : ρ[j]? = some (some (.raw (.ref a)))) (hm : m ≠ j) (q : So K (DS K a c cs i y u) SF L w (ρ.set m (some (.int x))) P) :
    So K S SF L (tSeq (tAsg (tTup ta) (gTup K 2 (gCons (gName m) (gCons (gSub (tVar j) (tC (.str "left")) rSetD) gNil)))) w) ρ P := fun D σ B H b hi s f => h σ H hi s _ fun vs ds H1 g1 i1 r1 e => by
  subst e
  obtain ⟨v, u', rfl, ra, rb⟩ := r1.twoI
  obtain rfl := ra.intI
  obtain rfl := rb.intI
  refine ⟨by show 2 ≤ sizeLine; decide, fun p hp => ?_⟩
  have s2 := same_new (o := .tup [.int x, .int y]) hp
  have i2 := (DS K a c cs i l u).st i1 s2
  have g2 := g1.trans s2.gr
  have hs := ((s.mono g2).set (v := .int x) (d := .int x) (.int x) m)
  obtain ⟨v0, hv, rv⟩ := hs.val j (.raw (.ref a)) (by rw [List.getElem?_set_ne hm]; exact hj)
  obtain rfl := rv.rawI
  have gg : ∀ {C : Hp}, Gr C (upd H1 p (.tup [.int x, .int y])) → Gr C (upd (upd H1 p (.tup [.int x, .int y])) a (.dK (drK c i y u))) := fun {C} g p' o e d => by
    by_cases hp : p' = a
    · subst hp
      have z := g p' o e d
      rw [i2.1] at z
      cases z
      cases d
    · rw [upd_ne hp]
      exact g p' o e d
  refine ⟨p, _, rfl, SqT.of upd_same, rfl, .int x, [.int y], rfl, .int y, [], rfl, .ref a, hv, a, _, rfl, DPut.k (k := Sum.inr "left") i2.1 (by show 4 < sizeLine; decide), rfl, ?_⟩
  rw [dr_pleft]
  exact q D _ B _ ⟨gg (b.gr.trans g2), b.i, b.new⟩ ⟨upd_same, (gg (Gr.refl _)).sqL i2.2⟩ (hs.mono (gg (Gr.refl _))) f

/-! ### M. defs that draw -/
def spD (K : PySem.W.Frag) (nargs : Nat) (pre : List Dt → Prop) (Φ : List Dt → Dt → Prop) (cost : Nat) : Sp := fun vs H Q _ => ∃ a c cs n ds ws, vs = .ref a :: ws ∧ RepA K H ws ds ∧ ds.length = nargs ∧ pre ds ∧ cs ≠ [] ∧ n + cost ≤ 1000000 ∧ (DW K a c cs n).I H ∧
  ∀ v d H', Gr H H' → (DW K a c cs (n + cost)).I H' → Rep K H' v d → Φ ds d → Q v H'
theorem ev_callD {t : TA} {ds : List Dt} {k cost : Nat} {pre : List Dt → Prop} {Φ : List Dt → Dt → Prop} {E : XK} (ha : EvA K S (DW K a c cs n) ρ t (Eq (.raw (.ref a) :: ds))) (hn : ds.length = k) (hp : pre ds) (hc : cs ≠ []) (hb : n + cost ≤ 1000000) :
    Ev K S (DW K a c cs (n + cost)) ρ (tCall (spD K k pre Φ cost) [] E t) (Φ ds) := fun σ H i s Q q =>
  ha σ H i s _ fun vs ds' H1 g1 i1 r1 p1 => by
    subst p1
    rw [List.append_nil]
    cases r1 with
    | cons r0 r1 =>
      obtain rfl := r0.rawI
      exact ⟨a, c, cs, n, ds, _, rfl, r1, hn, hp, hc, hb, i1, fun v d H' g i' r p => q v d H' (g1.trans g) i' r p⟩
theorem okD {P : Program} {w : World} {mg : Str → Option Value} {base : Heap} {x qual : Str} {st : Stmt} {f : Addr} {fd : FuncData} {N ps : List Str} {k na cost : Nat} {pre : List Dt → Prop} {Φ : List Dt → Dt → Prop} (Fu : Fun K x qual st f fd) (Sc : FnScope N ps (defScope st)) (hps : ps.length = na + 1)
    (hb : ∀ (cdv : Value) (A : Around) (out : List Env) (s : Shared) (H : Hp) (E : XK), Room k (A.deeper (envOfC qual (defScope st) s.heap.objs.size f cdv)) → A.guards = some [] →
      ∃ t, PSs (cxOf (L2.CX P w) P w K mg base N qual (defScope st) f cdv A out s H E).nox (defBody st) t ∧ ∀ (a c : Addr) (cs : List Int) (n : Nat) (ds : List Dt), cs ≠ [] → n + cost ≤ 1000000 → ds.length = na → pre ds →
        So K (DW K a c cs n) (DW K a c cs (n + cost)) [] t (startD N.length (.raw (.ref a) :: ds)) { nx := fun _ => Φ ds .non, rt := Φ ds }) :
    GOk P w K mg base (k + 1) f fd ps (spD K na pre Φ cost) := by
  refine okG Fu Sc (fun vs H Q E h => ?_) fun cdv A out s H vs Q E hr hg h => ?_
  · obtain ⟨a, c, cs, n, ds, ws, rfl, r, hl, _⟩ := h
    rw [List.length_cons, r.len, hl, hps]
  · obtain ⟨a, c, cs, n, ds, ws, rfl, r, hl, hp, hc, hn, hi, q⟩ := h
    obtain ⟨t, ht, so⟩ := hb cdv A out s H E hr hg
    refine ⟨t, ht.nox, so a c cs n ds hc hn hl hp _ _ H H ⟨Gr.refl H, dw_le (Nat.le_add_right n cost) H hi, fun _ z => nomatch z⟩ hi (slots_start (.cons (.raw _) r)) ⟨fun σ ρ H' g i s' e => ?_, fun v d H' g i r' e => ?_, fun _ _ _ _ _ _ z => z.elim, fun _ _ _ _ _ _ z => z.elim⟩⟩
    · exact q _ _ H' g i .non e
    · exact q v d H' g i r' e
end
end Bf
namespace Bf
open PySem PySem.Spec PyProof.Rows L2
/-! ### N. the operations by their names -/
section
variable {K : PySem.W.Frag} {S S1 S2 S3 : Sta} {ρ : List (Option Dt)} {i j : Int} {ta tb tc te : TE} {d x y : Dt}
theorem rv_add : Rv2 K S rAddI (.int i) (.int j) (Eq (.int (i + j))) := rv_ii
theorem rv_sub : Rv2 K S rSubI (.int i) (.int j) (Eq (.int (i - j))) := rv_ii
theorem rv_mul (h : CMulW i j) : Rv2 K S rMulW (.int i) (.int j) (Eq (.int (i * j))) := rv_iic h
theorem rv_div (h : CDivW i j) : Rv2 K S rDivW (.int i) (.int j) (Eq (.int (i / j))) := rv_iic h
theorem rv_mod (h : 0 < j) : Rv2 K S rModI (.int i) (.int j) (Eq (.int (i % j))) := rv_iic (C := fun _ j => 0 < j) h
theorem rv_pow (h : CPow i j) : Rv2 K S rPowI (.int i) (.int j) (Eq (.int (i ^ j.toNat))) := rv_iic h
theorem rv_lt : Rv2 K S rLtI (.int i) (.int j) (Eq (.bl (decide (i < j)))) := rv_ib
theorem rv_le : Rv2 K S rLeI (.int i) (.int j) (Eq (.bl (decide (i ≤ j)))) := rv_ib
theorem rv_gt : Rv2 K S rGtI (.int i) (.int j) (Eq (.bl (decide (j < i)))) := rv_ib
theorem rv_ge : Rv2 K S rGeI (.int i) (.int j) (Eq (.bl (decide (j ≤ i)))) := rv_ib
theorem rv_isNo : Rv2 K S rIsNo d .non (Eq (.bl d.isNon)) := rv_isN
theorem rv_noNo : Rv2 K S rNoNo d .non (Eq (.bl (!d.isNon))) := rv_notN
theorem ev_lele {l : Int} (ha : Ev K S S1 ρ ta (Eq (.int i))) (hb : Ev K S1 S2 ρ tb (Eq (.int j))) (hc : Ev K S2 S2 ρ tc (Eq (.int l))) : Ev K S S2 ρ (tChain rLeI rLeI ta tb tc) (Eq (.bl (decide (i ≤ j) && decide (j ≤ l)))) := ev_chain ha hb hc
/-- the class's name as an argument -/
theorem ev_ty {T : String} : Ev K S S ρ (tC (.ty T)) (Eq (.raw (.ty T))) := ev_raw
theorem ev_isInt (h : Ev K S S1 ρ ta (Eq d)) (hd : okN d = true) : Ev K S S1 ρ (tCB (rIsi K) (tCons ta (tCons (tC (.ty "int")) tNil))) (Eq (.bl (isIntD d))) := ev_cb (ea_cons h (ea_cons ev_ty ea_nil)) (rc_isInt hd)
theorem ev_isBl (h : Ev K S S1 ρ ta (Eq d)) (hd : okN d = true) : Ev K S S1 ρ (tCB (rIsi K) (tCons ta (tCons (tC (.ty "bool")) tNil))) (Eq (.bl (isBlD d))) := ev_cb (ea_cons h (ea_cons ev_ty ea_nil)) (rc_isBl hd)
theorem ev_isTup (h : Ev K S S1 ρ ta (Eq d)) (hd : okN d = true) : Ev K S S1 ρ (tCB (rIsi K) (tCons ta (tCons (tC (.ty "tuple")) tNil))) (Eq (.bl (isTupD d))) := ev_cb (ea_cons h (ea_cons ev_ty ea_nil)) (rc_isTup hd)
theorem ev_isStr (h : Ev K S S1 ρ ta (Eq d)) (hd : okN d = true) : Ev K S S1 ρ (tCB (rIsi K) (tCons ta (tCons (tC (.ty "str")) tNil))) (Eq (.bl (isStrD d))) := ev_cb (ea_cons h (ea_cons ev_ty ea_nil)) (rc_isStr hd)
theorem ev_isLst (h : Ev K S S1 ρ ta (Eq d)) (hd : okN d = true) : Ev K S S1 ρ (tCB (rIsi K) (tCons ta (tCons (tC (.ty "list")) tNil))) (Eq (.bl (isLstD d))) := ev_cb (ea_cons h (ea_cons ev_ty ea_nil)) (rc_isLst hd)
theorem ev_lenT {xs : List Dt} (h : Ev K S S1 ρ ta (Eq (.tup xs))) : Ev K S S1 ρ (tCB (rLen K) (tCons ta tNil)) (Eq (.int xs.length)) := ev_cb (ea_cons h ea_nil) rc_lenT
theorem ev_lenL {xs : List Dt} (h : Ev K S S1 ρ ta (Eq (.lst xs))) : Ev K S S1 ρ (tCB (rLen K) (tCons ta tNil)) (Eq (.int xs.length)) := ev_cb (ea_cons h ea_nil) rc_lenL
theorem ev_allL {bs : List Bool} (h : Ev K S S1 ρ ta (Eq (.lst (bs.map Dt.bl)))) : Ev K S S1 ρ (tCB (rAll K) (tCons ta tNil)) (Eq (.bl (bs.all id))) := ev_cb (ea_cons h ea_nil) rc_all
/-- all([p(x) for x in a tuple]) -/
theorem ev_allT {tl : TE} {m : Nat} {vs : List Nat} {xs : List Dt} {p : Dt → Bool} (hmu : S.Mu) (h : Ev K S S ρ tl (Eq (.tup xs))) (hj : m ∈ vs) (hz : xs.length ≤ 100000) (he : ∀ x ∈ xs, Ev K S S ((wipeD ρ vs).set m (some x)) te (Eq (.bl (p x)))) :
    Ev K S S ρ (tCB (rAll K) (tCons (tLc (iTup K tl) (gName m) tYes te vs) tNil)) (Eq (.bl (xs.all p))) := by
  have h1 := ev_lcT (K := K) (S := S) (ρ := ρ) (te := te) (tl := tl) (tt := tYes) (vs := vs) (j := m) (xs := xs) (f := fun x => .bl (p x)) (p := fun _ => true) hmu h hj hz (fun _ _ => et_yes) (fun x hx _ => he x hx) fun _ _ _ => rfl
  have e : ((xs.filter fun _ => true).map fun x => Dt.bl (p x)) = (xs.map p).map Dt.bl := by
    rw [List.filter_eq_self.mpr fun _ _ => rfl, List.map_map]
    rfl
  rw [e] at h1
  have e2 : xs.all p = (xs.map p).all id := by rw [List.all_map]; rfl
  rw [e2]
  exact ev_allL h1
/-- t[-1], t[k] of a written shape -/
theorem ev_ixT {xs : List Dt} (h : Ev K S S1 ρ ta (Eq (.tup xs))) (hb : Ev K S1 S2 ρ tb (Eq (.int i))) (hi : atI xs i = some d) : Ev K S S2 ρ (tOp (rIx K) ta tb) (Eq d) := ev_op h hb (rv_ixST hi)
theorem ev_ixL {xs : List Dt} (h : Ev K S S1 ρ ta (Eq (.lst xs))) (hb : Ev K S1 S2 ρ tb (Eq (.int i))) (hi : atI xs i = some d) : Ev K S S2 ρ (tOp (rIx K) ta tb) (Eq d) := ev_op h hb (rv_ixSL hi)
theorem ev_ixLP {xs : List Dt} {Φ Θ : Dt → Prop} (h : Ev K S S1 ρ ta (Eq (.lst xs))) (hb : Ev K S1 S2 ρ tb Φ) (hi : ∀ y, Φ y → ∃ k d, y = .int k ∧ atI xs k = some d ∧ Θ d) : Ev K S S2 ρ (tOp (rIx K) ta tb) Θ := ev_opP h hb fun x y e p => by
  obtain ⟨k, d, rfl, hk, hd⟩ := hi y p
  subst e
  exact fun H v u i r1 r2 Q q => rv_ixSL hk H v u i r1 r2 Q fun v' d' H' g i' r e => q v' d' H' g i' r (e ▸ hd)
theorem ev_ixLPL {xs : List Dt} {Φ Θ : Dt → Prop} (h : Ev K S S1 ρ ta (Eq (.lst xs))) (hb : Ev K S1 S2 ρ tb Φ) (hi : ∀ y, Φ y → ∃ k d, y = .int k ∧ atI xs k = some d ∧ Θ d) : Ev K S S2 ρ (tOp (rIxL K) ta tb) Θ := ev_opP h hb fun x y e p => by
  obtain ⟨k, d, rfl, hk, hd⟩ := hi y p
  subst e
  exact fun H v u i r1 r2 Q q => rv_ixL hk H v u i r1 r2 Q fun v' d' H' g i' r e => q v' d' H' g i' r (e ▸ hd)
end
/-! ### O. plain through and through -/
mutual
def pl : Dt → Bool
  | .lst xs => plA xs
  | .tup xs => plA xs
  | .ins _ _ _ => false
  | .raw _ => false
  | .lat _ _ => false
  | .err _ _ _ => false
  | .dct _ _ => false
  | _ => true
def plA : List Dt → Bool
  | [] => true
  | x :: xs => pl x && plA xs
end
theorem pl_okN {d : Dt} (h : pl d = true) : okN d = true := by
  cases d with
  | ins => simp [pl] at h
  | raw => simp [pl] at h
  | lat => simp [pl] at h
  | err => simp [pl] at h
  | dct => simp [pl] at h
  | _ => rfl
theorem plA_all : ∀ {xs : List Dt}, plA xs = true ↔ ∀ x ∈ xs, pl x = true
  | [] => by simp [plA]
  | x :: xs => by simp [plA, plA_all]
theorem pl_tup {xs : List Dt} (h : pl (.tup xs) = true) : ∀ x ∈ xs, pl x = true := plA_all.mp (by simpa [pl] using h)
end Bf
namespace Bf
open PySem PySem.Spec PyProof.Rows L2
/-! ## Tables: the defs over data, and their readings -/
/-! ### is_whole, is_whole_from, is_duration, is_bit_count -/
def isW (d : Dt) : Bool := isIntD d && !isBlD d
def isWF (d : Dt) (lo hi : Int) : Bool := match d with
  | .int i => decide (lo ≤ i) && decide (i ≤ hi)
  | _ => false
def one1 (g : Dt → Dt) : List Dt → Dt
  | [d] => g d
  | _ => .non
abbrev p_is_whole (K : PySem.W.Frag) : Sp := spF K 1 (fun ds => ∃ d, ds = [d] ∧ okN d = true) (one1 fun d => .bl (isW d))
def f_wf : List Dt → Dt
  | [d, .int lo, .int hi] => .bl (isWF d lo hi)
  | _ => .non
abbrev p_is_whole_from (K : PySem.W.Frag) : Sp := spF K 3 (fun ds => ∃ d lo hi, ds = [d, .int lo, .int hi] ∧ okN d = true) f_wf
abbrev p_is_duration (K : PySem.W.Frag) : Sp := spF K 1 (fun ds => ∃ d, ds = [d] ∧ okN d = true) (one1 fun d => .bl (isWF d 1 99999))
abbrev p_is_bit_count (K : PySem.W.Frag) : Sp := spF K 1 (fun ds => ∃ d, ds = [d] ∧ okN d = true) (one1 fun d => .bl (isWF d 1 8))
/-- what a pure def's body is to come to -/
abbrev Pu (d : Dt) : Po := { nx := fun _ => d = .non, rt := Eq d }
abbrev t_is_whole (K : PySem.W.Frag) : TS := (tRet (tAndV (tCB (rIsi K) (tCons (tVar 0) (tCons (tC (.ty "int")) tNil))) (tNotV (tCB (rIsi K) (tCons (tVar 0) (tCons (tC (.ty "bool")) tNil))))))
abbrev t_is_whole_from (K : PySem.W.Frag) : TS := (tRet (tAndV (tCall (p_is_whole K) [] E0 (tCons (tVar 0) tNil)) (tChain rLeI rLeI (tVar 1) (tVar 0) (tVar 2))))
abbrev t_is_duration (K : PySem.W.Frag) : TS := (tRet (tCall (p_is_whole_from K) [] E0 (tCons (tVar 0) (tCons (tC (.int 1)) (tCons (tC (.int 99999)) tNil)))))
abbrev t_is_bit_count (K : PySem.W.Frag) : TS := (tRet (tCall (p_is_whole_from K) [] E0 (tCons (tVar 0) (tCons (tC (.int 1)) (tCons (tC (.int 8)) tNil)))))
section
variable {K : PySem.W.Frag} {S : Sta} {ds : List Dt}
theorem so_is_whole (hmu : S.Mu) (hp : ∃ d, ds = [d] ∧ okN d = true) : So K S S [] (t_is_whole K) (startD 1 ds) (Pu (one1 (fun d => .bl (isW d)) ds)) := by
  obtain ⟨d, rfl, hd⟩ := hp
  exact so_retD (ev_and (ev_isInt (ev_var rfl) hd) fun _ => ev_not (ev_isBl (ev_var rfl) hd)) (Sta.Le.refl S) rfl
theorem ev_is_whole {S1 : Sta} {ρ : List (Option Dt)} {ta : TE} {d : Dt} (h : Ev K S S1 ρ ta (Eq d)) (hd : okN d = true) : Ev K S S1 ρ (tCall (p_is_whole K) [] E0 (tCons ta tNil)) (Eq (.bl (isW d))) := ev_callF (ea_cons h ea_nil) rfl ⟨d, rfl, hd⟩
theorem so_is_whole_from (hmu : S.Mu) (hp : ∃ d lo hi, ds = [d, .int lo, .int hi] ∧ okN d = true) : So K S S [] (t_is_whole_from K) (startD 3 ds) (Pu (f_wf ds)) := by
  obtain ⟨d, lo, hi, rfl, hd⟩ := hp
  cases d with
  | int i => exact so_retD (ev_andT (ev_is_whole (ev_var rfl) hd) (ev_lele (ev_var rfl) (ev_var rfl) (ev_var rfl))) (Sta.Le.refl S) rfl
  | _ => exact so_retD (ev_andF (ev_is_whole (ev_var rfl) hd)) (Sta.Le.refl S) rfl
theorem ev_is_whole_from {S1 : Sta} {ρ : List (Option Dt)} {ta : TE} {d : Dt} {lo hi : Int} (h : Ev K S S1 ρ ta (Eq d)) (hd : okN d = true) : Ev K S S1 ρ (tCall (p_is_whole_from K) [] E0 (tCons ta (tCons (tC (.int lo)) (tCons (tC (.int hi)) tNil)))) (Eq (.bl (isWF d lo hi))) :=
  ev_callF (ea_cons h (ea_cons ev_int (ea_cons ev_int ea_nil))) rfl ⟨d, lo, hi, rfl, hd⟩
theorem so_is_duration (hmu : S.Mu) (hp : ∃ d, ds = [d] ∧ okN d = true) : So K S S [] (t_is_duration K) (startD 1 ds) (Pu (one1 (fun d => .bl (isWF d 1 99999)) ds)) := by
  obtain ⟨d, rfl, hd⟩ := hp
  exact so_retD (ev_is_whole_from (ev_var rfl) hd) (Sta.Le.refl S) rfl
theorem so_is_bit_count (hmu : S.Mu) (hp : ∃ d, ds = [d] ∧ okN d = true) : So K S S [] (t_is_bit_count K) (startD 1 ds) (Pu (one1 (fun d => .bl (isWF d 1 8)) ds)) := by
  obtain ⟨d, rfl, hd⟩ := hp
  exact so_retD (ev_is_whole_from (ev_var rfl) hd) (Sta.Le.refl S) rfl
theorem ev_is_duration {S1 : Sta} {ρ : List (Option Dt)} {ta : TE} {d : Dt} (h : Ev K S S1 ρ ta (Eq d)) (hd : okN d = true) : Ev K S S1 ρ (tCall (p_is_duration K) [] E0 (tCons ta tNil)) (Eq (.bl (isWF d 1 99999))) := ev_callF (ea_cons h ea_nil) rfl ⟨d, rfl, hd⟩
theorem ev_is_bit_count {S1 : Sta} {ρ : List (Option Dt)} {ta : TE} {d : Dt} (h : Ev K S S1 ρ ta (Eq d)) (hd : okN d = true) : Ev K S S1 ρ (tCall (p_is_bit_count K) [] E0 (tCons ta tNil)) (Eq (.bl (isWF d 1 8))) := ev_callF (ea_cons h ea_nil) rfl ⟨d, rfl, hd⟩
end
/-! ### are_durations, is_pulse_and_gap -/
def areD : Dt → Bool
  | .tup xs => xs.all fun x => isWF x 1 99999
  | _ => false
def isPG (d : Dt) : Bool := areD d && match d with
  | .tup xs => decide ((xs.length : Int) = 2)
  | _ => false
/-- plain, and its tuple not too long -/
def plS (d : Dt) : Bool := pl d && match d with
  | .tup xs => decide (xs.length ≤ 100000)
  | _ => true
theorem plS_pl {d : Dt} (h : plS d = true) : pl d = true := (Bool.and_eq_true_iff.mp h).1
abbrev p_are_durations (K : PySem.W.Frag) : Sp := spF K 1 (fun ds => ∃ d, ds = [d] ∧ plS d = true) (one1 fun d => .bl (areD d))
abbrev p_is_pulse_and_gap (K : PySem.W.Frag) : Sp := spF K 1 (fun ds => ∃ d, ds = [d] ∧ plS d = true) (one1 fun d => .bl (isPG d))
abbrev t_are_durations (K : PySem.W.Frag) : TS := (tRet (tAndV (tCB (rIsi K) (tCons (tVar 0) (tCons (tC (.ty "tuple")) tNil))) (tCB (rAll K) (tCons (tLc (iTup K (tVar 0)) (gName 1) tYes (tCall (p_is_duration K) [] E0 (tCons (tVar 1) tNil)) [1]) tNil))))
abbrev t_is_pulse_and_gap (K : PySem.W.Frag) : TS := (tRet (tAndV (tCall (p_are_durations K) [] E0 (tCons (tVar 0) tNil)) (tOp rEq (tCB (rLen K) (tCons (tVar 0) tNil)) (tC (.int 2)))))
section
variable {K : PySem.W.Frag} {S : Sta} {ds : List Dt}
theorem so_are_durations (hmu : S.Mu) (hp : ∃ d, ds = [d] ∧ plS d = true) : So K S S [] (t_are_durations K) (startD 2 ds) (Pu (one1 (fun d => .bl (areD d)) ds)) := by
  obtain ⟨d, rfl, hd⟩ := hp
  have ho := pl_okN (plS_pl hd)
  cases d with
  | tup xs =>
    have hl : xs.length ≤ 100000 := of_decide_eq_true (Bool.and_eq_true_iff.mp hd).2
    have hx := pl_tup (plS_pl hd)
    exact so_retD (ev_andT (ev_isTup (ev_var rfl) ho) (ev_allT (p := fun x => isWF x 1 99999) hmu (ev_var rfl) (by decide) hl fun x h => ev_is_duration (ev_var rfl) (pl_okN (hx x h)))) (Sta.Le.refl S) rfl
  | _ => exact so_retD (ev_andF (ev_isTup (ev_var rfl) ho)) (Sta.Le.refl S) rfl
theorem ev_are_durations {S1 : Sta} {ρ : List (Option Dt)} {ta : TE} {d : Dt} (h : Ev K S S1 ρ ta (Eq d)) (hd : plS d = true) : Ev K S S1 ρ (tCall (p_are_durations K) [] E0 (tCons ta tNil)) (Eq (.bl (areD d))) := ev_callF (ea_cons h ea_nil) rfl ⟨d, rfl, hd⟩
theorem so_is_pulse_and_gap (hmu : S.Mu) (hp : ∃ d, ds = [d] ∧ plS d = true) : So K S S [] (t_is_pulse_and_gap K) (startD 1 ds) (Pu (one1 (fun d => .bl (isPG d)) ds)) := by
  obtain ⟨d, rfl, hd⟩ := hp
  cases d with
  | tup xs => exact so_retD (ev_and (ev_are_durations (ev_var rfl) hd) fun _ => ev_op (ev_lenT (ev_var rfl)) ev_int rv_eqI) (Sta.Le.refl S) rfl
  | _ => exact so_retD (ev_andF (ev_are_durations (ev_var rfl) hd)) (Sta.Le.refl S) rfl
theorem ev_is_pulse_and_gap {S1 : Sta} {ρ : List (Option Dt)} {ta : TE} {d : Dt} (h : Ev K S S1 ρ ta (Eq d)) (hd : plS d = true) : Ev K S S1 ρ (tCall (p_is_pulse_and_gap K) [] E0 (tCons ta tNil)) (Eq (.bl (isPG d))) := ev_callF (ea_cons h ea_nil) rfl ⟨d, rfl, hd⟩
end
/-! ### begins_with, the first wrong part -/
def bwD (d : Dt) (n : Str) (k : Int) : Bool := match d with
  | .tup (.str s :: xs) => decide (((xs.length + 1 : Nat) : Int) = k) && decide (s = n)
  | _ => false
def f_bw : List Dt → Dt
  | [d, .str n, .int k] => .bl (bwD d n k)
  | _ => .non
abbrev p_begins_with (K : PySem.W.Frag) : Sp := spF K 3 (fun ds => ∃ d n k, ds = [d, .str n, .int k] ∧ pl d = true ∧ 0 < k) f_bw
def len024 : Dt → Bool
  | .tup xs => decide ((xs.length : Int) ∈ [0, 2, 4])
  | _ => false
/-- of a tuple of six -/
def wrongP : List Dt → Dt
  | [_, h, z, o, s, b] =>
    if !(areD h && len024 h) then .str "header"
    else if !isPG z then .str "zero"
    else if !isPG o || PyData.eqv (py o) (py z) then .str "one"
    else if !isWF s 1 99999 then .str "stop"
    else if !isWF b 1 8 then .str "bits"
    else .non
  | _ => .non
def wrongH : List Dt → Dt
  | [_, u, b] => if !isWF u 1 99999 then .str "unit" else if !isWF b 1 8 then .str "bits" else .non
  | _ => .non
def tupF (g : List Dt → Dt) : List Dt → Dt
  | [.tup xs] => g xs
  | _ => .non
def plSA (xs : List Dt) : Bool := xs.all plS
abbrev p_wrong_part_of_pairs (K : PySem.W.Frag) : Sp := spF K 1 (fun ds => ∃ xs, ds = [.tup xs] ∧ xs.length = 6 ∧ plSA xs = true) (tupF wrongP)
abbrev p_wrong_part_of_halves (K : PySem.W.Frag) : Sp := spF K 1 (fun ds => ∃ xs, ds = [.tup xs] ∧ xs.length = 3 ∧ plSA xs = true) (tupF wrongH)
abbrev t_begins_with (K : PySem.W.Frag) : TS := (tSeq (tIfS (tOr (tNot (tB (tCB (rIsi K) (tCons (tVar 0) (tCons (tC (.ty "tuple")) tNil))))) (tTest (tOp rNe (tCB (rLen K) (tCons (tVar 0) tNil)) (tVar 2)))) (tRet (tC (.bl false))) tNext)
    (tRet (tAndV (tCB (rIsi K) (tCons (tOp (rIx K) (tVar 0) (tC (.int 0))) (tCons (tC (.ty "str")) tNil))) (tOp rEq (tOp (rIx K) (tVar 0) (tC (.int 0))) (tVar 1)))))
abbrev t_wrong_part_of_pairs (K : PySem.W.Frag) : TS := (tSeq (tAsg (tSl (rSlA K) (tVar 0) (tPart (tC (.int 1))) tNoPart) (gTup K 5 (gCons (gName 1) (gCons (gName 2) (gCons (gName 3) (gCons (gName 4) (gCons (gName 5) gNil)))))))
    (tSeq (tIfS (tNot (tAnd (tB (tCall (p_are_durations K) [] E0 (tCons (tVar 1) tNil))) (tTest (tOp (rIn K false) (tCB (rLen K) (tCons (tVar 1) tNil)) (tTup (tCons (tC (.int 0)) (tCons (tC (.int 2)) (tCons (tC (.int 4)) tNil)))))))) (tRet (tC (.str "header"))) tNext)
    (tSeq (tIfS (tNot (tB (tCall (p_is_pulse_and_gap K) [] E0 (tCons (tVar 2) tNil)))) (tRet (tC (.str "zero"))) tNext)
    (tSeq (tIfS (tOr (tNot (tB (tCall (p_is_pulse_and_gap K) [] E0 (tCons (tVar 3) tNil)))) (tTest (tOp (rEqD K) (tVar 3) (tVar 2)))) (tRet (tC (.str "one"))) tNext)
    (tSeq (tIfS (tNot (tB (tCall (p_is_duration K) [] E0 (tCons (tVar 4) tNil)))) (tRet (tC (.str "stop"))) tNext)
    (tSeq (tIfS (tNot (tB (tCall (p_is_bit_count K) [] E0 (tCons (tVar 5) tNil)))) (tRet (tC (.str "bits"))) tNext)
    (tRet (tC .non))))))))
abbrev t_wrong_part_of_halves (K : PySem.W.Frag) : TS := (tSeq (tIfS (tNot (tB (tCall (p_is_duration K) [] E0 (tCons (tOp (rIx K) (tVar 0) (tC (.int 1))) tNil)))) (tRet (tC (.str "unit"))) tNext)
    (tSeq (tIfS (tNot (tB (tCall (p_is_bit_count K) [] E0 (tCons (tOp (rIx K) (tVar 0) (tC (.int 2))) tNil)))) (tRet (tC (.str "bits"))) tNext)
    (tRet (tC .non))))
theorem isPG_shape {d : Dt} (h : isPG d = true) : ∃ a b, d = .tup [.int a, .int b] ∧ 1 ≤ a ∧ a ≤ 99999 ∧ 1 ≤ b ∧ b ≤ 99999 := by
  cases d with
  | tup xs =>
    simp only [isPG, areD, Bool.and_eq_true, decide_eq_true_eq] at h
    obtain ⟨h1, h2⟩ := h
    match xs, h1, h2 with
    | [x, y], h1, _ =>
      simp only [List.all_cons, List.all_nil, Bool.and_true, Bool.and_eq_true] at h1
      obtain ⟨hx, hy⟩ := h1
      cases x <;> simp [isWF] at hx
      cases y <;> simp [isWF] at hy
      exact ⟨_, _, rfl, hx.1, hx.2, hy.1, hy.2⟩
    | [], _, h2 => simp at h2
    | [_], _, h2 => simp at h2
    | _ :: _ :: _ :: _, _, h2 => simp at h2; omega
  | _ => simp [isPG, areD] at h
theorem cmp2 (a b : Int) : cmpOk (.tup [.int a, .int b]) = true := by
  simp [cmpOk, pur, purA, py, pyA, SeqAt.shaped, PyData.canLay0, PyData.canLayAll0, PyData.depth, PyData.depthAll]
section
variable {K : PySem.W.Frag} {S : Sta} {ds : List Dt}
theorem so_begins_with (hmu : S.Mu) (hp : ∃ d n k, ds = [d, .str n, .int k] ∧ pl d = true ∧ 0 < k) : So K S S [] (t_begins_with K) (startD 3 ds) (Pu (f_bw ds)) := by
  obtain ⟨d, n, k, rfl, hd, hk⟩ := hp
  have ho := pl_okN hd
  cases d with
  | tup xs =>
    have hx := pl_tup hd
    refine so_if (et_orF (et_notT (et_B (ev_isTup (ev_var rfl) ho))) (et_test (ev_op (ev_lenT (ev_var rfl)) (ev_var rfl) rv_neI))) (fun e => ?_) fun e => ?_
    · refine so_ret1D ev_bl (Sta.Le.refl S) ?_
      simp only [Bool.not_eq_true', decide_eq_false_iff_not] at e
      show f_bw [.tup xs, .str n, .int k] = .bl false
      cases xs with
      | nil => rfl
      | cons x xs =>
        cases x with
        | str s =>
          have : ¬ (((xs.length + 1 : Nat) : Int) = k) := e
          show Dt.bl (decide (((xs.length + 1 : Nat) : Int) = k) && decide (s = n)) = .bl false
          rw [decide_eq_false this, Bool.false_and]
        | _ => rfl
    · simp only [Bool.not_eq_false', decide_eq_true_eq] at e
      cases xs with
      | nil => simp at e; omega
      | cons x xs =>
        have hox := pl_okN (hx x List.mem_cons_self)
        have e' : decide (((xs.length + 1 : Nat) : Int) = k) = true := decide_eq_true e
        have hat : atI (x :: xs) 0 = some x := atI_nat (j := 0) rfl
        refine so_skip ?_
        cases x with
        | str s =>
          refine so_retD (ev_andT (ev_isStr (ev_ixT (ev_var rfl) ev_int hat) hox) (ev_op (ev_ixT (ev_var rfl) ev_int hat) (ev_var rfl) rv_eqS)) (Sta.Le.refl S) ?_
          show Dt.bl (decide (((xs.length + 1 : Nat) : Int) = k) && decide (s = n)) = .bl (decide (s = n))
          rw [e', Bool.true_and]
        | _ => exact so_retD (ev_andF (ev_isStr (ev_ixT (ev_var rfl) ev_int hat) hox)) (Sta.Le.refl S) rfl
  | _ => exact so_ifT (et_orT (et_notF (et_B (ev_isTup (ev_var rfl) ho)))) (so_ret1D ev_bl (Sta.Le.refl S) rfl)
theorem ev_begins_with {S1 : Sta} {ρ : List (Option Dt)} {ta : TE} {d : Dt} {n : Str} {k : Int} (h : Ev K S S1 ρ ta (Eq d)) (hd : pl d = true) (hk : 0 < k) : Ev K S S1 ρ (tCall (p_begins_with K) [] E0 (tCons ta (tCons (tC (.str n)) (tCons (tC (.int k)) tNil)))) (Eq (.bl (bwD d n k))) :=
  ev_callF (ea_cons h (ea_cons ev_str (ea_cons ev_int ea_nil))) rfl ⟨d, n, k, rfl, hd, hk⟩
theorem so_wrong_part_of_halves (hmu : S.Mu) (hp : ∃ xs, ds = [.tup xs] ∧ xs.length = 3 ∧ plSA xs = true) : So K S S [] (t_wrong_part_of_halves K) (startD 1 ds) (Pu (tupF wrongH ds)) := by
  obtain ⟨xs, rfl, hl, hx⟩ := hp
  match xs, hl, hx with
  | [a, u, b], _, hx =>
    have hu : plS u = true := List.all_eq_true.mp hx u (by simp)
    have hb : plS b = true := List.all_eq_true.mp hx b (by simp)
    refine so_ifD (et_not (et_B (ev_is_duration (ev_ixT (ev_var rfl) ev_int (atI_nat (j := 1) rfl)) (pl_okN (plS_pl hu))))) (fun e => so_ret1D ev_str (Sta.Le.refl S) ?_) fun e => so_skip ?_
    · show wrongH [a, u, b] = _
      simp only [wrongH, e, if_true]
    · refine so_ifD (et_not (et_B (ev_is_bit_count (ev_ixT (ev_var rfl) ev_int (atI_nat (j := 2) rfl)) (pl_okN (plS_pl hb))))) (fun e2 => so_ret1D ev_str (Sta.Le.refl S) ?_) fun e2 => so_skip (so_retD ev_non (Sta.Le.refl S) ?_)
      · show wrongH [a, u, b] = _
        simp only [wrongH, e, e2, if_true, Bool.false_eq_true, if_false]
      · show wrongH [a, u, b] = _
        simp only [wrongH, e, e2, Bool.false_eq_true, if_false]
theorem so_wrong_part_of_pairs (hmu : S.Mu) (hp : ∃ xs, ds = [.tup xs] ∧ xs.length = 6 ∧ plSA xs = true) : So K S S [] (t_wrong_part_of_pairs K) (startD 6 ds) (Pu (tupF wrongP ds)) := by
  obtain ⟨xs, rfl, hl, hx⟩ := hp
  match xs, hl, hx with
  | [a, h, z, o, s, b], _, hx =>
    have hh : plS h = true := List.all_eq_true.mp hx h (by simp)
    have hz : plS z = true := List.all_eq_true.mp hx z (by simp)
    have ho : plS o = true := List.all_eq_true.mp hx o (by simp)
    have hs : plS s = true := List.all_eq_true.mp hx s (by simp)
    have hb : plS b = true := List.all_eq_true.mp hx b (by simp)
    refine so_unp (is := [1, 2, 3, 4, 5]) (xs := [h, z, o, s, b]) ((ev_slT (ev_var rfl) (eo_some ev_int) eo_none).to rfl) rfl rfl rfl ?_
    refine so_ifD (et_not (a := (areD h && len024 h)) ?_) (fun e => so_ret1D ev_str (Sta.Le.refl S) ?_) fun e => so_skip ?_
    · cases h with
      | tup ys => exact et_and (et_B (ev_are_durations (ev_var rfl) hh)) fun _ => et_test (ev_op (ev_lenT (ev_var rfl)) (ev_tup (ea_cons ev_int (ea_cons ev_int (ea_cons ev_int ea_nil))) (by show 3 ≤ sizeLine; decide)) (rv_inT (ns := [0, 2, 4])))
      | _ => exact et_andF (et_B (ev_are_durations (ev_var rfl) hh))
    · show wrongP [a, h, z, o, s, b] = _
      simp only [wrongP, e, if_true]
    refine so_ifD (et_not (et_B (ev_is_pulse_and_gap (ev_var rfl) hz))) (fun e1 => so_ret1D ev_str (Sta.Le.refl S) ?_) fun e1 => so_skip ?_
    · show wrongP [a, h, z, o, s, b] = _
      simp only [wrongP, e, e1, if_true, Bool.false_eq_true, if_false]
    have hz2 : isPG z = true := by simpa using e1
    refine so_ifD (et_or (a := !isPG o) (b := PyData.eqv (py o) (py z)) (et_not (et_B (ev_is_pulse_and_gap (ev_var rfl) ho))) fun e2 => ?_) (fun e2 => so_ret1D ev_str (Sta.Le.refl S) ?_) fun e2 => so_skip ?_
    · have ho2 : isPG o = true := by simpa using e2
      obtain ⟨x1, y1, rfl, _⟩ := isPG_shape hz2
      obtain ⟨x2, y2, rfl, _⟩ := isPG_shape ho2
      exact et_test (ev_op (ev_var rfl) (ev_var rfl) (rv_eqD (cmp2 _ _) (cmp2 _ _)))
    · show wrongP [a, h, z, o, s, b] = _
      simp only [wrongP, e, e1, e2, if_true, Bool.false_eq_true, if_false]
    refine so_ifD (et_not (et_B (ev_is_duration (ev_var rfl) (pl_okN (plS_pl hs))))) (fun e3 => so_ret1D ev_str (Sta.Le.refl S) ?_) fun e3 => so_skip ?_
    · show wrongP [a, h, z, o, s, b] = _
      simp only [wrongP, e, e1, e2, e3, if_true, Bool.false_eq_true, if_false]
    refine so_ifD (et_not (et_B (ev_is_bit_count (ev_var rfl) (pl_okN (plS_pl hb))))) (fun e4 => so_ret1D ev_str (Sta.Le.refl S) ?_) fun e4 => so_skip (so_retD ev_non (Sta.Le.refl S) ?_)
    · show wrongP [a, h, z, o, s, b] = _
      simp only [wrongP, e, e1, e2, e3, e4, if_true, Bool.false_eq_true, if_false]
    · show wrongP [a, h, z, o, s, b] = _
      simp only [wrongP, e, e1, e2, e3, e4, Bool.false_eq_true, if_false]
end
end Bf
namespace Bf
open PySem PySem.Spec PyProof.Rows L2
/-! ## Right tables, words -/
/-- a right table's parts -/
inductive Tab where
  | ha (u b : Int)
  | pa (h : List Int) (z1 z2 o1 o2 s b : Int)
def tI (ns : List Int) : Dt := .tup (ns.map Dt.int)
def Tab.d : Tab → Dt
  | .ha u b => .tup [.str "halves", .int u, .int b]
  | .pa h z1 z2 o1 o2 s b => .tup [.str "pairs", tI h, tI [z1, z2], tI [o1, o2], .int s, .int b]
def Tab.b : Tab → Int
  | .ha _ b => b
  | .pa _ _ _ _ _ _ b => b
def dur (i : Int) : Prop := 1 ≤ i ∧ i ≤ 99999
def Tab.ok : Tab → Prop
  | .ha u b => dur u ∧ 1 ≤ b ∧ b ≤ 8
  | .pa h z1 z2 o1 o2 s b => (h.length = 0 ∨ h.length = 2 ∨ h.length = 4) ∧ (∀ x ∈ h, dur x) ∧ dur z1 ∧ dur z2 ∧ dur o1 ∧ dur o2 ∧ ¬ (o1 = z1 ∧ o2 = z2) ∧ dur s ∧ 1 ≤ b ∧ b ≤ 8
theorem Tab.b1 {T : Tab} (h : T.ok) : 1 ≤ T.b ∧ T.b ≤ 8 := by
  cases T with
  | ha u b => exact h.2
  | pa => exact ⟨h.2.2.2.2.2.2.2.2.1, h.2.2.2.2.2.2.2.2.2⟩
def tabPart (d : Dt) : Dt := if bwD d "pairs" 6 = true then tupF wrongP [d] else if bwD d "halves" 3 = true then tupF wrongH [d] else .str "form"
theorem plA_ints : ∀ ns : List Int, plA (ns.map Dt.int) = true
  | [] => rfl
  | n :: ns => by simp [plA, pl, plA_ints ns]
theorem pl_tI (ns : List Int) : pl (tI ns) = true := by simp [tI, pl, plA_ints]
theorem plS_tI {ns : List Int} (h : ns.length ≤ 100000) : plS (tI ns) = true := by
  simp only [plS, Bool.and_eq_true]
  exact ⟨pl_tI ns, decide_eq_true (by rw [List.length_map]; exact h)⟩
theorem isWF_int {i lo hi : Int} (h1 : lo ≤ i) (h2 : i ≤ hi) : isWF (.int i) lo hi = true := by simp [isWF, h1, h2]
theorem areD_tI {ns : List Int} (h : ∀ x ∈ ns, dur x) : areD (tI ns) = true := by
  simp only [areD, tI, List.all_map, List.all_eq_true]
  intro x hx
  exact isWF_int (h x hx).1 (h x hx).2
theorem isPG_two {a b : Int} (h1 : dur a) (h2 : dur b) : isPG (tI [a, b]) = true := by
  have : areD (tI [a, b]) = true := areD_tI (by intro x hx; simp at hx; rcases hx with rfl | rfl <;> assumption)
  simp only [isPG, this, Bool.true_and]
  rfl
theorem eqv2 (a b c d : Int) : PyData.eqv (py (tI [a, b])) (py (tI [c, d])) = (decide (a = c) && decide (b = d)) := by
  simp only [tI, List.map_cons, List.map_nil, py, pyA, PyData.eqv, PyData.eqvAll, Bool.and_true]
  by_cases h1 : a = c <;> by_cases h2 : b = d <;> simp [h1, h2]
theorem wrong_ok {T : Tab} (h : T.ok) : tabPart T.d = .non := by
  cases T with
  | ha u b =>
    obtain ⟨⟨h1, h2⟩, h3, h4⟩ := h
    show (if bwD (Tab.ha u b).d "pairs" 6 = true then _ else if bwD (Tab.ha u b).d "halves" 3 = true then tupF wrongH [(Tab.ha u b).d] else _) = Dt.non
    rw [if_neg (by simp [bwD, Tab.d]), if_pos (by simp [bwD, Tab.d])]
    show wrongH [.str "halves", .int u, .int b] = _
    simp only [wrongH, isWF_int h1 h2, isWF_int h3 h4, Bool.not_true, Bool.false_eq_true, if_false]
  | pa hd z1 z2 o1 o2 s b =>
    obtain ⟨h0, h1, h2, h3, h4, h5, h6, h7, h8, h9⟩ := h
    show (if bwD (Tab.pa hd z1 z2 o1 o2 s b).d "pairs" 6 = true then tupF wrongP [(Tab.pa hd z1 z2 o1 o2 s b).d] else _) = Dt.non
    rw [if_pos (by simp [bwD, Tab.d])]
    show wrongP [.str "pairs", tI hd, tI [z1, z2], tI [o1, o2], .int s, .int b] = _
    have e1 : len024 (tI hd) = true := by
      simp only [len024, tI, List.length_map]
      rcases h0 with h | h | h <;> rw [h] <;> decide
    have e2 : (decide (o1 = z1) && decide (o2 = z2)) = false := by
      by_cases a : o1 = z1
      · by_cases b : o2 = z2
        · exact absurd ⟨a, b⟩ h6
        · simp [b]
      · simp [a]
    simp only [wrongP, areD_tI h1, e1, isPG_two h2 h3, isPG_two h4 h5, eqv2, e2, isWF_int h7.1 h7.2, isWF_int h8 h9, Bool.and_self, Bool.not_true, Bool.or_self, Bool.false_eq_true, if_false]
theorem pl_tab (T : Tab) : pl T.d = true := by
  cases T <;> simp [Tab.d, pl, plA, tI, plA_ints]
theorem plSA_tab {T : Tab} (h : T.ok) : ∀ xs, T.d = .tup xs → plSA xs = true := by
  intro xs e
  cases T with
  | ha u b => cases e; simp [plSA, plS, pl]
  | pa hd z1 z2 o1 o2 s b =>
    cases e
    have : hd.length ≤ 100000 := by have := h.1; omega
    have h1 : plS (tI [z1, z2]) = true := plS_tI (by show 2 ≤ 100000; decide)
    have h2 : plS (tI [o1, o2]) = true := plS_tI (by show 2 ≤ 100000; decide)
    simp only [plSA, List.all_cons, List.all_nil, plS_tI this, h1, h2]
    rfl
abbrev preTab : List Dt → Prop := fun ds => ∃ T : Tab, T.ok ∧ ds = [T.d]
abbrev p_need_table (K : PySem.W.Frag) : Sp := spF K 1 preTab (one1 fun d => d)
def bitsD : Dt → Dt
  | .tup xs => xs.getLastD .non
  | _ => .non
abbrev p_bits_of (K : PySem.W.Frag) : Sp := spF K 1 preTab (one1 bitsD)
theorem bits_tab (T : Tab) : bitsD T.d = .int T.b := by cases T <;> rfl
theorem at_tab (T : Tab) : ∃ xs, T.d = .tup xs ∧ atI xs (-1) = some (.int T.b) := by
  cases T with
  | ha u b => exact ⟨_, rfl, atI_last [Dt.str "halves", Dt.int u] (Dt.int b)⟩
  | pa hd z1 z2 o1 o2 s b => exact ⟨_, rfl, atI_last [Dt.str "pairs", tI hd, tI [z1, z2], tI [o1, o2], Dt.int s] (Dt.int b)⟩
abbrev t_need_table (K : PySem.W.Frag) : TS := (tSeq (tIfS (tB (tCall (p_begins_with K) [] E0 (tCons (tVar 0) (tCons (tC (.str "pairs")) (tCons (tC (.int 6)) tNil))))) (tAsg (tCall (p_wrong_part_of_pairs K) [] E0 (tCons (tVar 0) tNil)) (gName 1)) (tIfS (tB (tCall (p_begins_with K) [] E0 (tCons (tVar 0) (tCons (tC (.str "halves")) (tCons (tC (.int 3)) tNil))))) (tAsg (tCall (p_wrong_part_of_halves K) [] E0 (tCons (tVar 0) tNil)) (gName 1)) (tAsg (tC (.str "form")) (gName 1))))
    (tSeq (tIfS (tTest (tOp rNoNo (tVar 1) (tC .non))) tNever tNext)
    (tRet (tVar 0))))
abbrev t_bits_of (K : PySem.W.Frag) : TS := (tRet (tOp (rIx K) (tVar 0) (tUn rNegI (tC (.int 1)))))
section
variable {K : PySem.W.Frag} {S : Sta} {ds : List Dt}
theorem so_bits_of (hmu : S.Mu) (hp : preTab ds) : So K S S [] (t_bits_of K) (startD 1 ds) (Pu (one1 bitsD ds)) := by
  obtain ⟨T, hT, rfl⟩ := hp
  obtain ⟨xs, e, ha⟩ := at_tab T
  show So K S S [] _ (startD 1 [T.d]) (Pu (bitsD T.d))
  rw [bits_tab, e]
  exact so_retD (ev_ixT (ev_var rfl) (ev_neg ev_int) ha) (Sta.Le.refl S) rfl
theorem ev_bits_of {S1 : Sta} {ρ : List (Option Dt)} {ta : TE} {T : Tab} (h : Ev K S S1 ρ ta (Eq T.d)) (hT : T.ok) : Ev K S S1 ρ (tCall (p_bits_of K) [] E0 (tCons ta tNil)) (Eq (.int T.b)) := (ev_callF (ea_cons h ea_nil) rfl ⟨T, hT, rfl⟩).to (bits_tab T)
theorem so_need_table (hmu : S.Mu) (hp : preTab ds) : So K S S [] (t_need_table K) (startD 2 ds) (Pu (one1 (fun d => d) ds)) := by
  obtain ⟨T, hT, rfl⟩ := hp
  have hpl := pl_tab T
  have hw := wrong_ok hT
  have hsa := plSA_tab hT
  -- what follows the choice
  have rest : So K S S [] (tSeq (tIfS (tTest (tOp rNoNo (tVar 1) (tC .non))) tNever tNext) (tRet (tVar 0))) [some T.d, some .non] (Pu T.d) :=
    so_ifF (et_test (ev_op (ev_var rfl) ev_non rv_noNo)) (so_skip (so_retD (ev_var rfl) (Sta.Le.refl S) rfl))
  cases e : bwD T.d "pairs" 6 with
  | true =>
    have hw2 : tupF wrongP [T.d] = .non := by
      have : tabPart T.d = tupF wrongP [T.d] := if_pos e
      rw [← this, hw]
    refine so_ifT ((et_B (ev_begins_with (ev_var rfl) hpl (by decide))).to e) ?_
    cases T with
    | ha u b => simp [bwD, Tab.d] at e
    | pa hd z1 z2 o1 o2 s b => exact so_setD ((ev_callF (ea_cons (ev_var rfl) ea_nil) rfl ⟨_, rfl, rfl, hsa _ rfl⟩).to hw2) rest
  | false =>
    refine so_ifF ((et_B (ev_begins_with (ev_var rfl) hpl (by decide))).to e) ?_
    cases T with
    | pa hd z1 z2 o1 o2 s b => simp [bwD, Tab.d] at e
    | ha u b =>
      have hw2 : tupF wrongH [(Tab.ha u b).d] = .non := by
        have : tabPart (Tab.ha u b).d = tupF wrongH [(Tab.ha u b).d] := (if_neg (by rw [e]; decide)).trans (if_pos (by simp [bwD, Tab.d]))
        rw [← this, hw]
      refine so_ifT ((et_B (ev_begins_with (ev_var rfl) hpl (by decide))).to (by simp [bwD, Tab.d])) ?_
      exact so_setD ((ev_callF (ea_cons (ev_var rfl) ea_nil) rfl ⟨_, rfl, rfl, hsa _ rfl⟩).to hw2) rest
theorem ev_need_table {S1 : Sta} {ρ : List (Option Dt)} {ta : TE} {T : Tab} (h : Ev K S S1 ρ ta (Eq T.d)) (hT : T.ok) : Ev K S S1 ρ (tCall (p_need_table K) [] E0 (tCons ta tNil)) (Eq T.d) := ev_callF (ea_cons h ea_nil) rfl ⟨T, hT, rfl⟩
end
/-! ### is_word -/
def isWd (b : Int) : Dt → Bool
  | .tup xs => decide ((xs.length : Int) = b) && xs.all fun x => isWF x 0 1
  | _ => false
def f_isw : List Dt → Dt
  | [t, d] => match bitsD t with
    | .int b => .bl (isWd b d)
    | _ => .non
  | _ => .non
abbrev p_is_word (K : PySem.W.Frag) : Sp := spF K 2 (fun ds => ∃ (T : Tab) (d : Dt), T.ok ∧ ds = [T.d, d] ∧ plS d = true) f_isw
theorem f_isw_tab (T : Tab) (d : Dt) : f_isw [T.d, d] = .bl (isWd T.b d) := by
  show (match bitsD T.d with | .int b => Dt.bl (isWd b d) | _ => .non) = _
  rw [bits_tab]
abbrev t_is_word (K : PySem.W.Frag) : TS := (tSeq (tDrop (tCall (p_need_table K) [] E0 (tCons (tVar 0) tNil)))
    (tSeq (tIfS (tOr (tNot (tB (tCB (rIsi K) (tCons (tVar 1) (tCons (tC (.ty "tuple")) tNil))))) (tTest (tOp rNe (tCB (rLen K) (tCons (tVar 1) tNil)) (tCall (p_bits_of K) [] E0 (tCons (tVar 0) tNil))))) (tRet (tC (.bl false))) tNext)
    (tRet (tCB (rAll K) (tCons (tLc (iTup K (tVar 1)) (gName 2) tYes (tCall (p_is_whole_from K) [] E0 (tCons (tVar 2) (tCons (tC (.int 0)) (tCons (tC (.int 1)) tNil)))) [2]) tNil)))))
section
variable {K : PySem.W.Frag} {S : Sta} {ds : List Dt}
theorem so_is_word (hmu : S.Mu) (hp : ∃ (T : Tab) (d : Dt), T.ok ∧ ds = [T.d, d] ∧ plS d = true) : So K S S [] (t_is_word K) (startD 3 ds) (Pu (f_isw ds)) := by
  obtain ⟨T, d, hT, rfl, hd⟩ := hp
  rw [f_isw_tab]
  have ho := pl_okN (plS_pl hd)
  refine so_drop (ev_need_table (ev_var rfl) hT) ?_
  cases d with
  | tup xs =>
    have hl : xs.length ≤ 100000 := of_decide_eq_true (Bool.and_eq_true_iff.mp hd).2
    have hx := pl_tup (plS_pl hd)
    refine so_if (et_orF (et_notT (et_B (ev_isTup (ev_var rfl) ho))) (et_test (ev_op (ev_lenT (ev_var rfl)) (ev_bits_of (ev_var rfl) hT) rv_neI))) (fun e => so_ret1D ev_bl (Sta.Le.refl S) ?_) fun e => so_skip ?_
    · have e' : ¬ ((xs.length : Int) = T.b) := by simpa using e
      simp [isWd, e']
    · have e' : (xs.length : Int) = T.b := by simpa using e
      refine so_retD (ev_allT (p := fun x => isWF x 0 1) hmu (ev_var rfl) (by decide) hl fun x h => ev_is_whole_from (ev_var rfl) (pl_okN (hx x h))) (Sta.Le.refl S) ?_
      simp [isWd, e']
  | _ => exact so_ifT (et_orT (et_notF (et_B (ev_isTup (ev_var rfl) ho)))) (so_ret1D ev_bl (Sta.Le.refl S) rfl)
theorem ev_is_word {S1 S2 : Sta} {ρ : List (Option Dt)} {ta tb : TE} {T : Tab} {d : Dt} (h : Ev K S S1 ρ ta (Eq T.d)) (hT : T.ok) (h2 : Ev K S1 S2 ρ tb (Eq d)) (hd : plS d = true) : Ev K S S2 ρ (tCall (p_is_word K) [] E0 (tCons ta (tCons tb tNil))) (Eq (.bl (isWd T.b d))) :=
  (ev_callF (ea_cons h (ea_cons h2 ea_nil)) rfl ⟨T, d, hT, rfl, hd⟩).to (f_isw_tab T d)
end
/-! ### words -/
def wordsL : Nat → List (List Int)
  | 0 => [[]]
  | n + 1 => (wordsL n).flatMap fun w => [w ++ [0], w ++ [1]]
def wordsR : Nat → List (List Int)
  | 0 => [[]]
  | n + 1 => (wordsR n).map (0 :: ·) ++ (wordsR n).map (1 :: ·)
theorem wordsR_step : ∀ n, wordsR (n + 1) = (wordsR n).flatMap fun w => [w ++ [0], w ++ [1]]
  | 0 => rfl
  | n + 1 => by
    have ih := wordsR_step n
    show (wordsR (n + 1)).map (0 :: ·) ++ (wordsR (n + 1)).map (1 :: ·) = _
    have h : ∀ (a : Int) (l : List (List Int)), (l.map (a :: ·)).flatMap (fun w => [w ++ [0], w ++ [1]]) = (l.flatMap fun w => [w ++ [0], w ++ [1]]).map (a :: ·) := by
      intro a l
      induction l with
      | nil => rfl
      | cons x l ih => simp only [List.map_cons, List.flatMap_cons, List.map_append, ih]; rfl
    conv => rhs; rw [show wordsR (n + 1) = (wordsR n).map (0 :: ·) ++ (wordsR n).map (1 :: ·) from rfl, List.flatMap_append, h, h, ← ih]
theorem words_eq : ∀ n, wordsR n = wordsL n
  | 0 => rfl
  | n + 1 => by rw [wordsR_step, words_eq n]; rfl
theorem wordsL_len : ∀ n, (wordsL n).length = 2 ^ n
  | 0 => rfl
  | n + 1 => by
    have h : ∀ l : List (List Int), (l.flatMap fun w => [w ++ [0], w ++ [1]]).length = 2 * l.length := by
      intro l
      induction l with
      | nil => rfl
      | cons x l ih => simp only [List.flatMap_cons, List.length_append, ih, List.length_cons, List.length_nil]; omega
    show ((wordsL n).flatMap fun w => [w ++ [0], w ++ [1]]).length = _
    rw [h, wordsL_len n, Nat.pow_succ, Nat.mul_comm]
/-- a word: so many bits -/
def isBits (n : Nat) (w : List Int) : Prop := w.length = n ∧ ∀ x ∈ w, x = 0 ∨ x = 1
theorem wordsL_bits : ∀ (n : Nat) (w : List Int), w ∈ wordsL n → isBits n w
  | 0, w, h => by
    have : w = [] := by simpa [wordsL] using h
    subst this
    exact ⟨rfl, fun _ z => nomatch z⟩
  | n + 1, w, h => by
    obtain ⟨u, hu, hw⟩ := List.mem_flatMap.mp h
    obtain ⟨h1, h2⟩ := wordsL_bits n u hu
    have : w = u ++ [0] ∨ w = u ++ [1] := by simpa using hw
    rcases this with rfl | rfl <;> refine ⟨by simp [h1], fun x hx => ?_⟩ <;> rcases List.mem_append.mp hx with hx | hx
    · exact h2 x hx
    · exact .inl (List.mem_singleton.mp hx)
    · exact h2 x hx
    · exact .inr (List.mem_singleton.mp hx)
def wordsD (b : Int) : List Dt := (wordsL b.toNat).map tI
def f_words : List Dt → List Dt
  | [t] => match bitsD t with
    | .int b => wordsD b
    | _ => []
  | _ => []
theorem f_words_tab (T : Tab) : f_words [T.d] = wordsD T.b := by
  show (match bitsD T.d with | .int b => wordsD b | _ => []) = _
  rw [bits_tab]
abbrev p_words_of (K : PySem.W.Frag) : Sp := spN K 1 preTab f_words
abbrev t_words_of (K : PySem.W.Frag) : TS := (tSeq (tDrop (tCall (p_need_table K) [] E0 (tCons (tVar 0) tNil)))
    (tSeq (tAsg (tLst (tCons (tTup tNil) tNil)) (gName 1))
    (tSeq (tFor (iRng1 (tCons (tCall (p_bits_of K) [] E0 (tCons (tVar 0) tNil)) tNil)) (gName 2) (tAsg (tLc2 (iList K (tVar 1)) (gName 3) tYes (iTup K (tTup (tCons (tC (.int 0)) (tCons (tC (.int 1)) tNil)))) (gName 4) tYes (tTup (StX.tStar K (tVar 3) (tCons (tVar 4) tNil))) [3, 4] [4]) (gName 1)))
    (tRet (tVar 1)))))
section
variable {K : PySem.W.Frag} {S : Sta} {ds : List Dt}
theorem nol_tI (ns : List Int) : nol (tI ns) = true := by
  have : ∀ ns : List Int, nolA (ns.map Dt.int) = true := fun ns => nolA_all.mpr fun x hx => by
    obtain ⟨n, _, rfl⟩ := List.mem_map.mp hx
    rfl
  simp [tI, nol, this]
def app1 : Dt → Dt → Dt
  | .tup xs, y => .tup (xs ++ [y])
  | _, _ => .non
theorem app1_words (ws : List (List Int)) : ((ws.map tI).flatMap fun x => [Dt.int 0, .int 1].map (app1 x)) = (ws.flatMap fun w => [w ++ [0], w ++ [1]]).map tI := by
  induction ws with
  | nil => rfl
  | cons w ws ih =>
    simp only [List.map_cons, List.flatMap_cons, List.map_append, ih]
    congr 1
    simp [app1, tI]
theorem so_words_of {H0 : Hp} (hp : preTab ds) : So K (staSame H0) (staSame H0) [] (t_words_of K) (startD 5 ds) { rt := fun d => ∃ p, d = .lat p (f_words ds) ∧ H0 p = none } := by
  obtain ⟨T, hT, rfl⟩ := hp
  rw [f_words_tab]
  obtain ⟨b1, b2⟩ := Tab.b1 hT
  have hb : ((T.b.toNat : Nat) : Int) = T.b := Int.toNat_of_nonneg (by omega)
  refine so_drop (ev_need_table (ev_var rfl) hT) ?_
  refine so_newS (en_lst (ea_cons (ev_tup ea_nil (by decide)) ea_nil) (by show 1 ≤ sizeLine; decide)) fun p hp => ?_
  refine so_seq (M := fun ρ' => ∃ p x y z, ρ' = [some T.d, some (.lat p (wordsD T.b)), x, y, z] ∧ H0 p = none) (so_forR (n := T.b.toNat) (Z := fun _ => staSame H0) (ea_cons ((ev_bits_of (ev_var rfl) hT).to (by rw [hb])) ea_nil) (by omega) (fun _ _ => Sta.Le.refl _) (fun _ _ => Sta.Le.refl _)
    (fun i ρ' => ∃ p x y z, ρ' = [some T.d, some (.lat p ((wordsL i).map tI)), x, y, z] ∧ H0 p = none) ⟨p, _, _, _, rfl, hp⟩ (fun i ρ' hi hJ => ?_) fun ρ' hJ => hJ) fun ρ' hM => ?_
  · obtain ⟨q, x, y, z, rfl, hq⟩ := hJ
    have hpow : (wordsL i).length ≤ 256 := by
      rw [wordsL_len]
      exact Nat.pow_le_pow_right (n := 2) (by decide) (show i ≤ 8 by omega)
    refine so_newS0 ((en_lc2 (xs := (wordsL i).map tI) (ys := [.int 0, .int 1]) (f := app1) staSame_mu (ev_lat (ev_var rfl)) (by decide) (by decide) (by rw [List.length_map]; show _ * 2 ≤ _; omega) (fun x hx => ev_tup (ea_cons ev_int (ea_cons ev_int ea_nil)) (by show 2 ≤ sizeLine; decide)) (fun x hx y hy => ?_) (fun x hx y hy => ?_) rfl).to (app1_words (wordsL i))) (Sta.Le.refl _) fun r hr => ⟨r, _, _, _, rfl, hr⟩
    · obtain ⟨w, hw, rfl⟩ := List.mem_map.mp hx
      have hl := (wordsL_bits i w hw).1
      exact ev_tup (ea_starT (ev_var rfl) (ea_cons (ev_var rfl) ea_nil)) (by rw [List.length_append, List.length_map, hl]; show i + 1 ≤ sizeLine; exact Nat.le_trans (show i + 1 ≤ 9 by omega) (by decide))
    · obtain ⟨w, hw, rfl⟩ := List.mem_map.mp hx
      have hyy : y = .int 0 ∨ y = .int 1 := by simpa using hy
      have e : ∀ k : Int, app1 (tI w) (.int k) = tI (w ++ [k]) := fun k => by simp [app1, tI]
      rcases hyy with rfl | rfl <;> rw [e] <;> exact nol_tI _
  · obtain ⟨q, x, y, z, rfl, hq⟩ := hM
    exact so_retD (ev_var rfl) (Sta.Le.refl _) ⟨q, rfl, hq⟩
theorem en_words_of {S1 : Sta} {ρ : List (Option Dt)} {ta : TE} {T : Tab} (h : Ev K S S1 ρ ta (Eq T.d)) (hT : T.ok) : EvN K S S1 ρ (tCall (p_words_of K) [] E0 (tCons ta tNil)) (wordsD T.b) := (en_call (ea_cons h ea_nil) rfl ⟨T, hT, rfl⟩).to (f_words_tab T)
end
end Bf
namespace Bf
open PySem PySem.Spec PyProof.Rows L2
/-! ## The law's draws -/
/-- a number below ds' one -/
def nextR : List Dt → Dt → Prop := fun ds d => ∃ m r, ds = [.int m] ∧ d = .int r ∧ 0 ≤ r ∧ r < m
abbrev p__law_next (K : PySem.W.Frag) : Sp := spD K 1 (fun ds => ∃ m, ds = [.int m] ∧ 0 < m ∧ m.natAbs < 2 ^ 8000) nextR 1
abbrev t__law_next (K : PySem.W.Frag) : TS := (tSeq (tIfS (tTest (tOp rGtI (tDGet (tVar 0) (tC (.str "left"))) (tC (.int 0)))) (tSeq (tAsg (tTup (tCons (tDGet (tVar 0) (tC (.str "left"))) (tCons (tOp rDivW (tDGet (tVar 0) (tC (.str "left"))) (tVar 1)) tNil))) (gTup K 2 (gCons (gName 2) (gCons (gSub (tVar 0) (tC (.str "left")) rSetD) gNil))))
    (tRet (tOp rModI (tVar 2) (tVar 1)))) tNext)
    (tSeq (tAsg (tDGet (tVar 0) (tC (.str "cells"))) (gName 3))
    (tSeq (tAsg (tOp (rIx K) (tVar 3) (tOp rModI (tDGet (tVar 0) (tC (.str "at"))) (tCB (rLen K) (tCons (tVar 3) tNil)))) (gName 2))
    (tSeq (tAsg (tOp rAddI (tDGet (tVar 0) (tC (.str "at"))) (tC (.int 1))) (gSub (tVar 0) (tC (.str "at")) rSetD))
    (tSeq (tIfS (tAnd (tTest (tOp rGeI (tVar 2) (tOp rPowI (tC (.int 10)) (tC (.int 18))))) (tTest (tOp rLeI (tDGet (tVar 0) (tC (.str "at"))) (tCB (rLen K) (tCons (tVar 3) tNil))))) (tSeq (tAsg (tOp rDivW (tVar 2) (tVar 1)) (gSub (tVar 0) (tC (.str "left")) rSetD))
    (tRet (tOp rModI (tVar 2) (tVar 1)))) tNext)
    (tSeq (tAsg (tOp rAddI (tDGet (tVar 0) (tC (.str "used"))) (tC (.int 1))) (gSub (tVar 0) (tC (.str "used")) rSetD))
    (tSeq (tAsg (tOp rAddI (tOp rModI (tVar 2) (tC (.int 1000000007))) (tOp rMulW (tOp rMulW (tC (.int 7919)) (tDGet (tVar 0) (tC (.str "used")))) (tDGet (tVar 0) (tC (.str "used"))))) (gName 4))
    (tSeq (tFor (iTup K (tTup (tCons (tDGet (tVar 0) (tC (.str "at"))) (tCons (tDGet (tVar 0) (tC (.str "used"))) tNil)))) (gName 5) (tSeq (tAsg (tOp rModI (tOp rMulW (tOp rAddI (tOp rAddI (tVar 4) (tOp rMulW (tC (.int 31)) (tVar 5))) (tC (.int 7))) (tC (.int 48271))) (tC (.int 2147483647))) (gName 4))
    (tAsg (tOp rModI (tOp rMulW (tVar 4) (tOp rAddI (tC (.int 69621)) (tOp rMulW (tC (.int 2)) (tOp rModI (tVar 5) (tC (.int 1000)))))) (tC (.int 2147483629))) (gName 4))))
    (tRet (tOp rModI (tOp rDivW (tVar 4) (tC (.int 7))) (tVar 1)))))))))))
theorem mul_in {x y B C : Int} (h1 : 0 ≤ x) (h2 : x ≤ B) (h3 : 0 ≤ y) (h4 : y ≤ C) : 0 ≤ x * y ∧ x * y ≤ B * C :=
  ⟨Int.mul_nonneg h1 h3, Int.mul_le_mul h2 h4 h3 (Int.le_trans h1 h2)⟩
theorem cmul {x y : Int} (h1 : 0 ≤ x) (h2 : x < 2 ^ 100) (h3 : 0 ≤ y) (h4 : y < 2 ^ 100) : CMulW x y := wide_mul (a := 100) (b := 100) (by omega) (by omega) (by decide) (by decide) (by decide)
theorem cdivs {x y : Int} (h : 0 < y) (hb : y.natAbs < 2 ^ 8000) : CDivW x y := wide_div (b := 8000) h hb (by decide) (by decide)
section
variable {K : PySem.W.Frag} {a c : Addr} {cs : List Int} {n : Nat} {ds : List Dt}
theorem so__law_next (hc : cs ≠ []) (hn : n + 1 ≤ 1000000) (hp : ∃ m, ds = [.int m] ∧ 0 < m ∧ m.natAbs < 2 ^ 8000) :
    So K (DW K a c cs n) (DW K a c cs (n + 1)) [] (t__law_next K) (startD 6 (.raw (.ref a) :: ds)) { nx := fun _ => nextR ds .non, rt := nextR ds } := by
  obtain ⟨m, rfl, hm, hmb⟩ := hp
  refine so_open fun i l u i0 i1 l0 u0 u1 => ?_
  have fin : ∀ x : Int, nextR [.int m] (.int (x % m)) := fun x => ⟨m, _, rfl, rfl, Int.emod_nonneg _ (by omega), Int.emod_lt_of_pos _ hm⟩
  refine so_ifD (et_test (ev_op (ev_dleft rfl) ev_int rv_gt)) (fun e => ?_) fun e => so_skip ?_
  · have hl : 0 < l := of_decide_eq_true e
    refine so_assoc (so_dset2 (ea_cons (ev_dleft rfl) (ea_cons (ev_op (ev_dleft rfl) (ev_var rfl) (rv_div (cdivs hm hmb))) ea_nil)) rfl (by decide) ?_)
    exact so_ret1D (ev_op (ev_var rfl) (ev_var rfl) (rv_mod hm)) (dw_of i0 (by omega) (Int.ediv_nonneg (by omega) (by omega)) u0 (by omega)) (fin _)
  · have hcl : 0 < cs.length := List.length_pos_iff.mpr hc
    have hcm : (0 : Int) < ((cs.map Dt.int).length : Nat) := by rw [List.length_map]; omega
    have hix : 0 ≤ i % ((cs.map Dt.int).length : Nat) ∧ i % ((cs.map Dt.int).length : Nat) < (cs.length : Nat) := ⟨Int.emod_nonneg _ (by omega), by have := Int.emod_lt_of_pos i hcm; rw [List.length_map] at this ⊢; exact this⟩
    obtain ⟨cell, hcell⟩ : ∃ cell : Int, atI (cs.map Dt.int) (i % ((cs.map Dt.int).length : Nat)) = some (.int cell) := by
      have hlt : (i % ((cs.map Dt.int).length : Nat)).toNat < cs.length := by omega
      refine ⟨cs[(i % ((cs.map Dt.int).length : Nat)).toNat], ?_⟩
      have e1 : ((i % ((cs.map Dt.int).length : Nat)).toNat : Int) = i % ((cs.map Dt.int).length : Nat) := Int.toNat_of_nonneg hix.1
      have := atI_nat (xs := cs.map Dt.int) (j := (i % ((cs.map Dt.int).length : Nat)).toNat) (v := .int cs[(i % ((cs.map Dt.int).length : Nat)).toNat]) (by rw [List.getElem?_map, List.getElem?_eq_getElem hlt]; rfl)
      rwa [e1] at this
    refine so_setD (ev_dcells rfl) ?_
    refine so_setD (ev_ixL (ev_var rfl) (ev_op (ev_dat rfl) (ev_lenL (ev_var rfl)) (rv_mod hcm)) hcell) ?_
    refine so_dset (ev_op (ev_dat rfl) ev_int rv_add) rfl dr_pat ?_
    refine so_ifD (et_and (et_test (ev_op (ev_var rfl) (ev_op ev_int ev_int (rv_pow ⟨by decide, by decide, by decide⟩)) rv_ge)) fun _ => et_test (ev_op (ev_dat rfl) (ev_lenL (ev_var rfl)) rv_le)) (fun e2 => ?_) fun e2 => so_skip ?_
    · have hbig : (10 : Int) ^ (18 : Int).toNat ≤ cell := of_decide_eq_true (Bool.and_eq_true_iff.mp e2).1
      have hpos : 0 ≤ cell := Int.le_trans (by decide) hbig
      refine so_assoc (so_dset (ev_op (ev_var rfl) (ev_var rfl) (rv_div (cdivs hm hmb))) rfl dr_pleft ?_)
      exact so_ret1D (ev_op (ev_var rfl) (ev_var rfl) (rv_mod hm)) (dw_of (by omega) (by omega) (Int.ediv_nonneg hpos (by omega)) u0 (by omega)) (fin _)
    · refine so_dset (ev_op (ev_dused rfl) ev_int rv_add) rfl dr_pused ?_
      have u2 : 0 ≤ u + 1 ∧ u + 1 ≤ 1000001 := by omega
      have q1 := mul_in (x := 7919) (y := u + 1) (B := 7919) (C := 1000001) (by decide) (Int.le_refl _) u2.1 u2.2
      have q2 := mul_in (x := 7919 * (u + 1)) (y := u + 1) (B := 7919 * 1000001) (C := 1000001) q1.1 q1.2 u2.1 u2.2
      have c0 := Int.emod_nonneg cell (show (1000000007 : Int) ≠ 0 by decide)
      have c1 := Int.emod_lt_of_pos cell (show (0 : Int) < 1000000007 by decide)
      refine so_setD (ev_op (ev_op (ev_var rfl) ev_int (rv_mod (by decide))) (ev_op (ev_op ev_int (ev_dused rfl) (rv_mul (cmul (by decide) (by decide) u2.1 (by omega)))) (ev_dused rfl) (rv_mul (cmul q1.1 (by omega) u2.1 (by omega)))) rv_add) ?_
      have le1 : (DS K a c cs (i + 1) l (u + 1)).Le (DW K a c cs (n + 1)) := dw_of (by omega) (by omega) l0 u2.1 (by omega)
      refine so_mid (M := fun ρ' => ∃ (num : Int) (x : Option Dt), 0 ≤ num ∧ num < 2 ^ 64 ∧ ρ' = [some (.raw (.ref a)), some (.int m), some (.int cell), some (.lst (cs.map Dt.int)), some (.int num), x]) le1
        (so_forT (xs := [.int (i + 1), .int (u + 1)]) (ev_tup (ea_cons (ev_dat rfl) (ea_cons (ev_dused rfl) ea_nil)) (by show 2 ≤ sizeLine; decide)) (fun _ ρ' => ∃ (num : Int) (x : Option Dt), 0 ≤ num ∧ num < 2 ^ 64 ∧ ρ' = [some (.raw (.ref a)), some (.int m), some (.int cell), some (.lst (cs.map Dt.int)), some (.int num), x])
          ⟨_, _, ?_, ?_, rfl⟩ (fun t x ρ' hx hJ => ?_) fun ρ' h => h) fun ρ' hM => ?_
      · omega
      · have e7 : (7919 * 1000001 * 1000001 : Int) = 7919015838007919 := by decide
        omega
      · obtain ⟨num, y, n0, n1, rfl⟩ := hJ
        obtain ⟨k, rfl, k0, k1⟩ : ∃ k : Int, x = .int k ∧ 0 ≤ k ∧ k ≤ 1000001 := by
          match t, hx with
          | 0, hx => exact ⟨i + 1, (by simpa using hx.symm), by omega, by omega⟩
          | 1, hx => exact ⟨u + 1, (by simpa using hx.symm), by omega, by omega⟩
          | t + 2, hx => simp at hx
        have s0 := Int.emod_nonneg ((num + 31 * k + 7) * 48271) (show (2147483647 : Int) ≠ 0 by decide)
        have s1 := Int.emod_lt_of_pos ((num + 31 * k + 7) * 48271) (show (0 : Int) < 2147483647 by decide)
        have k2 := Int.emod_nonneg k (show (1000 : Int) ≠ 0 by decide)
        have k3 := Int.emod_lt_of_pos k (show (0 : Int) < 1000 by decide)
        refine so_setD (ev_op (ev_op (ev_op (ev_op (ev_var rfl) (ev_op ev_int (ev_var rfl) (rv_mul (cmul (by decide) (by decide) k0 (by omega)))) rv_add) ev_int rv_add) ev_int (rv_mul (cmul (by omega) (by omega) (by decide) (by decide)))) ev_int (rv_mod (by decide))) ?_
        refine so_set0D (ev_op (ev_op (ev_var rfl) (ev_op ev_int (ev_op ev_int (ev_op (ev_var rfl) ev_int (rv_mod (by decide))) (rv_mul (cmul (by decide) (by decide) k2 (by omega)))) rv_add) (rv_mul (cmul s0 (by omega) (by omega) (by omega)))) ev_int (rv_mod (by decide))) (Sta.Le.refl _) ⟨_, _, Int.emod_nonneg _ (by decide), ?_, rfl⟩
        have := Int.emod_lt_of_pos ((num + 31 * k + 7) * 48271 % 2147483647 * (69621 + 2 * (k % 1000))) (show (0 : Int) < 2147483629 by decide)
        omega
      · obtain ⟨num, y, n0, n1, rfl⟩ := hM
        exact so_retD (ev_op (ev_op (ev_var rfl) ev_int (rv_div (cdivs (by decide) (by decide)))) (ev_var rfl) (rv_mod hm)) le1 (fin _)
theorem ev__law_next {S : Sta} {ρ : List (Option Dt)} {ta tm : TE} {m : Int} (h : EvA K S (DW K a c cs n) ρ (tCons ta (tCons tm tNil)) (Eq [.raw (.ref a), .int m])) (hc : cs ≠ []) (hn : n + 1 ≤ 1000000) (h0 : 0 < m) (h1 : m.natAbs < 2 ^ 8000) :
    Ev K S (DW K a c cs (n + 1)) ρ (tCall (p__law_next K) [] E0 (tCons ta (tCons tm tNil))) (fun d => ∃ r, d = .int r ∧ 0 ≤ r ∧ r < m) :=
  (ev_callD (ds := [.int m]) h rfl ⟨m, rfl, h0, h1⟩ hc hn).weak fun d ⟨m', r, e, e2, r0, r1⟩ => by cases e; exact ⟨r, e2, r0, r1⟩
end
/-! ### _law_pick -/
def pickR : List Dt → Dt → Prop := fun ds d => ∃ xs, (ds = [.lst xs] ∨ ds = [.tup xs]) ∧ d ∈ xs
abbrev p__law_pick (K : PySem.W.Frag) : Sp := spD K 1 (fun ds => ∃ xs, (ds = [.lst xs] ∨ ds = [.tup xs]) ∧ xs ≠ [] ∧ xs.length ≤ 100000) pickR 1
abbrev t__law_pick (K : PySem.W.Frag) : TS := (tRet (tOp (rIx K) (tVar 1) (tCall (p__law_next K) [] E0 (tCons (tVar 0) (tCons (tCB (rLen K) (tCons (tVar 1) tNil)) tNil)))))
section
variable {K : PySem.W.Frag} {a c : Addr} {cs : List Int} {n : Nat} {ds : List Dt}
theorem at_in {xs : List Dt} {r : Int} (h0 : 0 ≤ r) (h1 : r < (xs.length : Nat)) : ∃ d, atI xs r = some d ∧ d ∈ xs := by
  have hlt : r.toNat < xs.length := by omega
  have e1 : (r.toNat : Int) = r := Int.toNat_of_nonneg h0
  have := atI_nat (xs := xs) (j := r.toNat) (v := xs[r.toNat]) (List.getElem?_eq_getElem hlt)
  rw [e1] at this
  exact ⟨_, this, List.getElem_mem hlt⟩
theorem so__law_pick (hc : cs ≠ []) (hn : n + 1 ≤ 1000000) (hp : ∃ xs, (ds = [.lst xs] ∨ ds = [.tup xs]) ∧ xs ≠ [] ∧ xs.length ≤ 100000) :
    So K (DW K a c cs n) (DW K a c cs (n + 1)) [] (t__law_pick K) (startD 2 (.raw (.ref a) :: ds)) { nx := fun _ => pickR ds .non, rt := pickR ds } := by
  obtain ⟨xs, h, hx, hz⟩ := hp
  have hl : 0 < xs.length := List.length_pos_iff.mpr hx
  have hb : (xs.length : Int).natAbs < 2 ^ 8000 := Nat.lt_of_le_of_lt (show (xs.length : Int).natAbs ≤ 100000 by omega) (by decide)
  rcases h with rfl | rfl
  · refine so_ret (ev_ixLP (ev_var rfl) (ev__law_next (ea_cons (ev_var rfl) (ea_cons (ev_lenL (ev_var rfl)) ea_nil)) hc hn (by omega) hb) (fun y ⟨r, e, r0, r1⟩ => ?_)) (Sta.Le.refl _) fun d p => p
    obtain ⟨d, h1, h2⟩ := at_in r0 r1
    exact ⟨r, d, e, h1, xs, .inl rfl, h2⟩
  · refine so_ret (ev_opP (ev_var rfl) (ev__law_next (ea_cons (ev_var rfl) (ea_cons (ev_lenT (ev_var rfl)) ea_nil)) hc hn (by omega) hb) (fun x y e ⟨r, e2, r0, r1⟩ => ?_)) (Sta.Le.refl _) fun d p => p
    obtain ⟨d, h1, h2⟩ := at_in r0 r1
    subst e e2
    exact fun H v u i r1 r2 Q q => rv_ixST h1 H v u i r1 r2 Q fun v' d' H' g i' r e => q v' d' H' g i' r (e ▸ ⟨xs, .inr rfl, h2⟩)
theorem ev__law_pick {S : Sta} {ρ : List (Option Dt)} {ta tm : TE} {xs : List Dt} (h : EvA K S (DW K a c cs n) ρ (tCons ta (tCons tm tNil)) (Eq [.raw (.ref a), .lst xs])) (hc : cs ≠ []) (hn : n + 1 ≤ 1000000) (h0 : xs ≠ []) (h1 : xs.length ≤ 100000) :
    Ev K S (DW K a c cs (n + 1)) ρ (tCall (p__law_pick K) [] E0 (tCons ta (tCons tm tNil))) (fun d => d ∈ xs) :=
  (ev_callD (ds := [.lst xs]) h rfl ⟨xs, .inl rfl, h0, h1⟩ hc hn).weak fun d ⟨ys, e, hd⟩ => by
    rcases e with e | e <;> cases e
    exact hd
end
/-! ### _law_size, _law_table -/
def sizeR : List Dt → Dt → Prop := fun _ d => ∃ s, d = .int s ∧ dur s
abbrev p__law_size (K : PySem.W.Frag) : Sp := spD K 0 (fun ds => ds = []) sizeR 3
abbrev t__law_size (K : PySem.W.Frag) : TS := (tSeq (tPar 1 2 (tCons (tOp rAddI (tC (.int 1)) (tCall (p__law_next K) [] E0 (tCons (tVar 0) (tCons (tC (.int 6)) tNil)))) (tCons (tOp rAddI (tC (.int 100)) (tCall (p__law_next K) [] E0 (tCons (tVar 0) (tCons (tC (.int 900)) tNil)))) tNil)))
    (tRet (tCall (p__law_pick K) [] E0 (tCons (tVar 0) (tCons (tLst (tCons (tVar 1) (tCons (tVar 1) (tCons (tOp rAddI (tVar 1) (tC (.int 3))) (tCons (tVar 2) (tCons (tC (.int 560)) (tCons (tC (.int 99999)) tNil))))))) tNil)))))
section
variable {K : PySem.W.Frag} {a c : Addr} {cs : List Int} {n : Nat} {ds : List Dt}
theorem ev_addP {S S1 S2 : Sta} {ρ : List (Option Dt)} {ta tb : TE} {i : Int} {Φ : Dt → Prop} (ha : Ev K S S1 ρ ta (Eq (.int i))) (hb : Ev K S1 S2 ρ tb Φ) {Θ : Dt → Prop} (h : ∀ y, Φ y → ∃ r, y = .int r ∧ Θ (.int (i + r))) : Ev K S S2 ρ (tOp rAddI ta tb) Θ := ev_opP ha hb fun x y e p => by
  obtain ⟨r, rfl, q⟩ := h y p
  subst e
  exact fun H v u i' r1 r2 Q k => rv_add H v u i' r1 r2 Q fun v' d' H' g i2 r e => k v' d' H' g i2 r (e ▸ q)
theorem so__law_size (hc : cs ≠ []) (hn : n + 3 ≤ 1000000) (hp : ds = []) :
    So K (DW K a c cs n) (DW K a c cs (n + 3)) [] (t__law_size K) (startD 3 (.raw (.ref a) :: ds)) { nx := fun _ => sizeR ds .non, rt := sizeR ds } := by
  subst hp
  refine so_par (ea_consP (Φ := fun d => ∃ r, d = .int r ∧ 1 ≤ r ∧ r ≤ 6) (ev_addP ev_int (ev__law_next (ea_cons (ev_var rfl) (ea_cons ev_int ea_nil)) hc (by omega) (by decide) (by decide)) fun y ⟨r, e, r0, r1⟩ => ⟨r, e, _, rfl, by omega, by omega⟩)
    (ea_consP (Φ := fun d => ∃ r, d = .int r ∧ 100 ≤ r ∧ r ≤ 999) (ev_addP ev_int (ev__law_next (n := n + 1) (ea_cons (ev_var rfl) (ea_cons ev_int ea_nil)) hc (by omega) (by decide) (by decide)) fun y ⟨r, e, r0, r1⟩ => ⟨r, e, _, rfl, by omega, by omega⟩) ea_nil)) (fun l ⟨x, xs, e, _, y, ys, e2, _, e3⟩ => by subst e e2 e3; rfl) fun x y hxy => ?_
  obtain ⟨x', xs, e, ⟨r, rfl, r0, r1⟩, y', ys, e2, ⟨s, rfl, s0, s1⟩, e3⟩ := hxy
  subst e3
  subst e2
  cases e
  refine so_ret (ev__law_pick (n := n + 1 + 1) (xs := [.int r, .int r, .int (r + 3), .int s, .int 560, .int 99999]) (ea_cons (ev_var rfl) (ea_cons (ev_lst (ea_cons (ev_var rfl) (ea_cons (ev_var rfl) (ea_cons (ev_op (ev_var rfl) ev_int rv_add) (ea_cons (ev_var rfl) (ea_cons ev_int (ea_cons ev_int ea_nil)))))) (by show 6 ≤ sizeLine; decide)) ea_nil)) hc (by omega) (by simp) (by show 6 ≤ 100000; decide)) (Sta.Le.refl _) fun d hd => ?_
  simp only [List.mem_cons, List.not_mem_nil, or_false] at hd
  rcases hd with rfl | rfl | rfl | rfl | rfl | rfl <;> exact ⟨_, rfl, by omega, by omega⟩
theorem ev__law_size {S : Sta} {ρ : List (Option Dt)} {ta : TE} (h : Ev K S (DW K a c cs n) ρ ta (Eq (.raw (.ref a)))) (hc : cs ≠ []) (hn : n + 3 ≤ 1000000) :
    Ev K S (DW K a c cs (n + 3)) ρ (tCall (p__law_size K) [] E0 (tCons ta tNil)) (fun d => ∃ s, d = .int s ∧ dur s) := ev_callD (ds := []) (ea_cons h ea_nil) rfl rfl hc hn
end
def tableR : List Dt → Dt → Prop := fun ds d => ∃ (T : Tab) (m : Int), ds = [.int m] ∧ T.ok ∧ d = T.d ∧ T.b ≤ m
abbrev p__law_table (K : PySem.W.Frag) : Sp := spD K 1 (fun ds => ∃ m, ds = [.int m] ∧ 1 ≤ m ∧ m ≤ 8) tableR 40
abbrev t__law_table (K : PySem.W.Frag) : TS := (tSeq (tAsg (tOp rAddI (tC (.int 1)) (tCall (p__law_next K) [] E0 (tCons (tVar 0) (tCons (tVar 1) tNil)))) (gName 2))
    (tSeq (tIfS (tTest (tOp rEq (tCall (p__law_next K) [] E0 (tCons (tVar 0) (tCons (tC (.int 3)) tNil))) (tC (.int 0)))) (tRet (tTup (tCons (tC (.str "halves")) (tCons (tCall (p__law_size K) [] E0 (tCons (tVar 0) tNil)) (tCons (tVar 2) tNil))))) tNext)
    (tSeq (tAsg (tCB (rTupO K) (tCons (tLc (iRng1 (tCons (tOp (rIxL K) (tLst (tCons (tC (.int 0)) (tCons (tC (.int 0)) (tCons (tC (.int 2)) (tCons (tC (.int 4)) tNil))))) (tCall (p__law_next K) [] E0 (tCons (tVar 0) (tCons (tC (.int 4)) tNil)))) tNil)) (gName 4) tYes (tCall (p__law_size K) [] E0 (tCons (tVar 0) tNil)) [4]) tNil)) (gName 3))
    (tSeq (tPar 5 6 (tCons (tTup (tCons (tCall (p__law_size K) [] E0 (tCons (tVar 0) tNil)) (tCons (tCall (p__law_size K) [] E0 (tCons (tVar 0) tNil)) tNil))) (tCons (tTup (tCons (tCall (p__law_size K) [] E0 (tCons (tVar 0) tNil)) (tCons (tCall (p__law_size K) [] E0 (tCons (tVar 0) tNil)) tNil))) tNil)))
    (tSeq (tIfS (tTest (tOp (rEqD K) (tVar 6) (tVar 5))) (tAsg (tTup (tCons (tOp (rIx K) (tVar 5) (tC (.int 0))) (tCons (tOp rAddI (tOp rAddI (tOp rModI (tOp (rIx K) (tVar 5) (tC (.int 1))) (tC (.int 9))) (tC (.int 1))) (tCB rInt1 (tCons (tOp rGtI (tOp (rIx K) (tVar 5) (tC (.int 1))) (tC (.int 9))) tNil))) tNil))) (gName 6)) tNext)
    (tRet (tTup (tCons (tC (.str "pairs")) (tCons (tVar 3) (tCons (tVar 5) (tCons (tVar 6) (tCons (tCall (p__law_size K) [] E0 (tCons (tVar 0) tNil)) (tCons (tVar 2) tNil)))))))))))))
section
variable {K : PySem.W.Frag} {a c : Addr} {cs : List Int} {n : Nat} {ds : List Dt}
theorem ea_twoP {S S1 S2 : Sta} {ρ : List (Option Dt)} {ta tb : TE} {Φ Ψ : Dt → Prop} (ha : Ev K S S1 ρ ta Φ) (hb : Ev K S1 S2 ρ tb Ψ) : EvA K S S2 ρ (tCons ta (tCons tb tNil)) (fun l => ∃ x y, l = [x, y] ∧ Φ x ∧ Ψ y) := fun σ H i s Q q =>
  ea_consP ha (ea_consP hb ea_nil) σ H i s Q fun vs ds H' g i' r ⟨x, xs, e, hx, y, ys, e2, hy, e3⟩ => q vs ds H' g i' r ⟨x, y, by rw [e, e2, ← e3], hx, hy⟩
theorem ev_two {S S1 S2 : Sta} {ρ : List (Option Dt)} {ta tb : TE} (ha : Ev K S S1 ρ ta (fun d => ∃ s, d = .int s ∧ dur s)) (hb : Ev K S1 S2 ρ tb (fun d => ∃ s, d = .int s ∧ dur s)) :
    Ev K S S2 ρ (tTup (tCons ta (tCons tb tNil))) (fun d => ∃ x y, d = tI [x, y] ∧ dur x ∧ dur y) := (ev_tupP (ea_twoP ha hb) fun l ⟨x, y, e, _⟩ => by rw [e]; show 2 ≤ sizeLine; decide).weak fun d h => by
  obtain ⟨l, e, x, y, e2, ⟨s, e3, hs⟩, ⟨t, e4, ht⟩⟩ := h
  exact ⟨s, t, by rw [e, e2, e3, e4]; rfl, hs, ht⟩
theorem ints_of : ∀ {ds : List Dt}, (∀ x ∈ ds, ∃ s, x = .int s ∧ dur s) → ∃ ns : List Int, ds = ns.map Dt.int ∧ ∀ x ∈ ns, dur x
  | [], _ => ⟨[], rfl, fun _ z => nomatch z⟩
  | d :: ds, h => by
    obtain ⟨s, rfl, hs⟩ := h d List.mem_cons_self
    obtain ⟨ns, rfl, hn⟩ := ints_of (ds := ds) fun x hx => h x (List.mem_cons_of_mem _ hx)
    exact ⟨s :: ns, rfl, fun x hx => by
      rcases List.mem_cons.mp hx with e | hx
      · rw [e]; exact hs
      · exact hn x hx⟩
theorem ev_tupL {S S1 : Sta} {ρ : List (Option Dt)} {ta : TE} {Φ : List Dt → Prop} (h : Ev K S S1 ρ ta (fun d => ∃ xs, d = .lst xs ∧ Φ xs)) : Ev K S S1 ρ (tCB (rTupO K) (tCons ta tNil)) (fun d => ∃ xs, d = .tup xs ∧ Φ xs) :=
  ev_cbP (Φl := fun l => ∃ xs, l = [.lst xs] ∧ Φ xs) (fun σ H i s Q q => ea_consP h ea_nil σ H i s Q fun vs ds H' g i' r ⟨d, ds', e, ⟨xs, e2, p⟩, e3⟩ => q vs ds H' g i' r ⟨xs, by rw [e, e2, ← e3], p⟩) fun l ⟨xs, e, p⟩ => by
    subst e
    exact fun H vs i r Q q => rc_tupL H vs i r Q fun v' d H' g i' r' e => q v' d H' g i' r' ⟨xs, e.symm, p⟩
theorem so__law_table (hc : cs ≠ []) (hn : n + 40 ≤ 1000000) (hp : ∃ m, ds = [.int m] ∧ 1 ≤ m ∧ m ≤ 8) :
    So K (DW K a c cs n) (DW K a c cs (n + 40)) [] (t__law_table K) (startD 7 (.raw (.ref a) :: ds)) { nx := fun _ => tableR ds .non, rt := tableR ds } := by
  obtain ⟨m, rfl, m1, m8⟩ := hp
  refine so_set (ev_addP (Θ := fun d => ∃ b, d = .int b ∧ 1 ≤ b ∧ b ≤ m) ev_int (ev__law_next (ea_cons (ev_var rfl) (ea_cons (ev_var rfl) ea_nil)) hc (by omega) (by omega) (Nat.lt_of_le_of_lt (show m.natAbs ≤ 8 by omega) (by decide))) fun y ⟨r, e, r0, r1⟩ => ⟨r, e, _, rfl, by omega, by omega⟩) fun d hd => ?_
  obtain ⟨b, rfl, b1, b2⟩ := hd
  refine so_if (Φb := fun _ => True) (et_testP (ev_opP (Θ := fun d => ∃ k, d = .bl k ∧ True) (ev__law_next (n := n + 1) (ea_cons (ev_var rfl) (ea_cons ev_int ea_nil)) hc (by omega) (by decide) (by decide)) ev_int fun x y ⟨r, e, _⟩ e2 => ?_)) (fun _ => ?_) fun _ => so_skip ?_
  · subst e e2
    exact fun H v u i r1 r2 Q q => rv_eqI H v u i r1 r2 Q fun v' d' H' g i' r e => q v' d' H' g i' r ⟨_, e.symm, trivial⟩
  · -- halves
    refine so_ret1 (ev_tupP (ea_consP ev_str (ea_twoP (ev__law_size (n := n + 1 + 1) (ev_var rfl) hc (by omega)) (ev_var (d := .int b) rfl))) fun l ⟨x, xs, e, _, y, z, e2, _⟩ => by rw [e, e2]; show 3 ≤ sizeLine; decide) (dw_le (by omega)) fun d hd => ?_
    obtain ⟨l, rfl, x, xs, rfl, rfl, y, z, rfl, ⟨s, rfl, hs⟩, rfl⟩ := hd
    exact ⟨.ha s b, m, rfl, ⟨hs, b1, by omega⟩, rfl, b2⟩
  · -- pairs: the header
    refine so_set (S1 := DW K a c cs (n + 15)) (Φ := fun d => ∃ xs, d = .tup xs ∧ ((xs.length = 0 ∨ xs.length = 2 ∨ xs.length = 4) ∧ ∀ x ∈ xs, ∃ s, x = .int s ∧ dur s)) (ev_tupL ?_) fun d hd => ?_
    · intro σ H i s Q q
      -- how many: drawn
      have hix : ∀ y : Dt, (∃ r, y = .int r ∧ 0 ≤ r ∧ r < 4) → ∃ k d, y = .int k ∧ atI [Dt.int 0, .int 0, .int 2, .int 4] k = some d ∧ ∃ k : Nat, d = .int k ∧ (k = 0 ∨ k = 2 ∨ k = 4) := by
        rintro y ⟨r, e, r0, r1⟩
        have : r = 0 ∨ r = 1 ∨ r = 2 ∨ r = 3 := by omega
        rcases this with rfl | rfl | rfl | rfl
        · exact ⟨0, .int 0, e, atI_nat (j := 0) rfl, 0, rfl, .inl rfl⟩
        · exact ⟨1, .int 0, e, atI_nat (j := 1) rfl, 0, rfl, .inl rfl⟩
        · exact ⟨2, .int 2, e, atI_nat (j := 2) rfl, 2, rfl, .inr (.inl rfl)⟩
        · exact ⟨3, .int 4, e, atI_nat (j := 3) rfl, 4, rfl, .inr (.inr rfl)⟩
      have hcount := ev_ixLPL (K := K) (S := DW K a c cs (n + 1 + 1)) (ρ := [some (.raw (.ref a)), some (.int m), some (.int b), none, none, none, none]) (ev_lst (ea_cons (ev_int (i := 0)) (ea_cons (ev_int (i := 0)) (ea_cons (ev_int (i := 2)) (ea_cons (ev_int (i := 4)) ea_nil)))) (by show 4 ≤ sizeLine; decide)) (ev__law_next (a := a) (c := c) (cs := cs) (n := n + 1 + 1) (ea_cons (ev_var (i := 0) (d := .raw (.ref a)) rfl) (ea_cons (ev_int (i := 4)) ea_nil)) hc (by omega) (by decide) (by decide)) hix
      refine hcount σ H i s _ fun v d H1 g1 i1 r1 p1 => ?_
      obtain ⟨k, rfl, hk⟩ := p1
      -- from here on the count is known
      have hcomp : Ev K (DW K a c cs (n + 3)) (DW K a c cs (n + 3 + 3 * k)) [some (.raw (.ref a)), some (.int m), some (.int b), none, none, none, none] (tLc (iRng1 (tCons (tC (.int k)) tNil)) (gName 4) tYes (tCall (p__law_size K) [] E0 (tCons (tVar 0) tNil)) [4]) (fun d => ∃ ds, d = .lst ds ∧ ds.length = k ∧ nolA ds = true ∧ ∀ x ∈ ds, ∃ s, x = .int s ∧ dur s) :=
        ev_lcRP (Z := fun i => DW K a c cs (n + 3 + 3 * i)) (fun h1 g hD h => dw_off h1 g hD h) (fun i => dw_le (by omega)) (ea_cons ev_int ea_nil) (by omega) (by decide) fun i hi => (ev__law_size (n := n + 3 + 3 * i) (ev_var rfl) hc (by omega)).weak fun d ⟨s, e, hs⟩ => ⟨⟨s, e, hs⟩, by rw [e]; rfl⟩
      obtain rfl := r1.intI
      refine hcomp σ H1 i1 (s.mono g1) Q fun v' d' H2 g2 i2 r2 p2 => ?_
      obtain ⟨xs, e, hl, _, hx⟩ := p2
      exact q v' d' H2 (g1.trans g2) (dw_le (by omega) _ i2) r2 ⟨xs, e, by rw [hl]; exact hk, hx⟩
    obtain ⟨xs, rfl, hl, hx⟩ := hd
    obtain ⟨hs, rfl, hh⟩ := ints_of hx
    rw [List.length_map] at hl
    refine so_par (ea_twoP (ev_two (ev__law_size (n := n + 15) (ev_var rfl) hc (by omega)) (ev__law_size (n := n + 15 + 3) (ev_var rfl) hc (by omega))) (ev_two (ev__law_size (n := n + 15 + 3 + 3) (ev_var rfl) hc (by omega)) (ev__law_size (n := n + 15 + 3 + 3 + 3) (ev_var rfl) hc (by omega)))) (fun l ⟨x, y, e, _⟩ => by rw [e]; rfl) fun x y hxy => ?_
    obtain ⟨x', y', e, ⟨z1, z2, rfl, hz1, hz2⟩, ⟨o1, o2, rfl, ho1, ho2⟩⟩ := hxy
    cases e
    -- the rest
    have rest : ∀ p1 p2 : Int, dur p1 → dur p2 → ¬ (p1 = z1 ∧ p2 = z2) → So K (DW K a c cs (n + 15 + 3 + 3 + 3 + 3)) (DW K a c cs (n + 40)) [] (tRet (tTup (tCons (tC (.str "pairs")) (tCons (tVar 3) (tCons (tVar 5) (tCons (tVar 6) (tCons (tCall (p__law_size K) [] E0 (tCons (tVar 0) tNil)) (tCons (tVar 2) tNil))))))))
        [some (.raw (.ref a)), some (.int m), some (.int b), some (.tup (hs.map Dt.int)), none, some (tI [z1, z2]), some (tI [p1, p2])] { nx := fun _ => tableR [.int m] .non, rt := tableR [.int m] } := fun p1 p2 hp1 hp2 hne => by
      refine so_ret (ev_tupP (ea_consP ev_str (ea_consP (ev_var (d := .tup (hs.map Dt.int)) rfl) (ea_consP (ev_var (d := tI [z1, z2]) rfl) (ea_consP (ev_var (d := tI [p1, p2]) rfl) (ea_twoP (ev__law_size (n := n + 15 + 3 + 3 + 3 + 3) (ev_var rfl) hc (by omega)) (ev_var (d := .int b) rfl)))))) fun l ⟨_, _, e, _, _, _, e1, _, _, _, e2, _, _, _, e3, _, _, _, e4, _⟩ => by rw [e, e1, e2, e3, e4]; show 6 ≤ sizeLine; decide) (dw_le (by omega)) fun d hd => ?_
      obtain ⟨l, rfl, _, _, rfl, rfl, _, _, rfl, rfl, _, _, rfl, rfl, _, _, rfl, rfl, _, _, rfl, ⟨s, rfl, hs'⟩, rfl⟩ := hd
      exact ⟨.pa hs z1 z2 p1 p2 s b, m, rfl, ⟨hl, hh, hz1, hz2, hp1, hp2, hne, hs', b1, by omega⟩, rfl, b2⟩
    refine so_ifD (et_test (ev_op (ev_var rfl) (ev_var rfl) (rv_eqD (cmp2 _ _) (cmp2 _ _)))) (fun e => ?_) fun e => so_skip ?_
    · have e' : (decide (o1 = z1) && decide (o2 = z2)) = true := by rw [← eqv2]; exact e
      simp only [Bool.and_eq_true, decide_eq_true_eq] at e'
      obtain ⟨rfl, rfl⟩ := e'
      refine so_setD (d := tI [o1, o2 % 9 + 1 + (if decide (9 < o2) = true then 1 else 0)]) (ev_tup (ea_cons (ev_ixT (ev_var rfl) ev_int (atI_nat (j := 0) rfl)) (ea_cons (ev_op (ev_op (ev_op (ev_ixT (ev_var rfl) ev_int (atI_nat (j := 1) rfl)) ev_int (rv_mod (by decide))) ev_int rv_add) (ev_cb (ea_cons (ev_op (ev_ixT (ev_var rfl) ev_int (atI_nat (j := 1) rfl)) ev_int rv_gt) ea_nil) rc_intB) rv_add) ea_nil)) (by show 2 ≤ sizeLine; decide)) ?_
      obtain ⟨z2a, z2b⟩ := hz2
      refine rest _ _ hz1 ⟨?_, ?_⟩ ?_
      · split <;> omega
      · split <;> omega
      · rintro ⟨_, q⟩
        split at q
        · rename_i h9
          have := of_decide_eq_true h9
          omega
        · rename_i h9
          have : ¬ (9 < o2) := fun z => h9 (decide_eq_true z)
          omega
    · refine rest o1 o2 ho1 ho2 ?_
      rintro ⟨rfl, rfl⟩
      have : PyData.eqv (py (tI [o1, o2])) (py (tI [o1, o2])) = false := e
      rw [eqv2] at this
      simp at this
theorem ev__law_table {S : Sta} {ρ : List (Option Dt)} {ta tm : TE} {m : Int} (h : EvA K S (DW K a c cs n) ρ (tCons ta (tCons tm tNil)) (Eq [.raw (.ref a), .int m])) (hc : cs ≠ []) (hn : n + 40 ≤ 1000000) (h0 : 1 ≤ m) (h1 : m ≤ 8) :
    Ev K S (DW K a c cs (n + 40)) ρ (tCall (p__law_table K) [] E0 (tCons ta (tCons tm tNil))) (fun d => ∃ T : Tab, T.ok ∧ d = T.d ∧ T.b ≤ m) :=
  (ev_callD (ds := [.int m]) h rfl ⟨m, rfl, h0, h1⟩ hc hn).weak fun d ⟨T, m', e, h1, h2, h3⟩ => by cases e; exact ⟨T, h1, h2, h3⟩
end
end Bf
namespace Bf
open PySem PySem.Spec PyProof.Rows L2
/-! ## The end: the law's def is called with the script -/
theorem lt70 {k : Nat} {A : Around} (hr : Room k A) : A.units + 70 < cLine := by
  have := hr.un
  omega
section
variable {P : Program} {w : World} {K : PySem.W.Frag} {mg mb : Str → Option Value} {k : Nat} {fa a : Addr} {fd : FuncData} {x : Str} {sp : Sp} {s₁ : Shared} {vs : List Value} {ns : List Int}
/-- where H knows the script at a and nothing else -/
theorem law_from {H : Hp} (KX : K.In s₁.heap) (hns : s₁.heap.Ns mainGlobals mg) (hb : s₁.heap.Ns builtinsNs mb) (hbb : ∀ y : Str, y ≠ "__name__" → mb y = bootBuiltins y) (hlim : s₁.heap.NoLimit) (hg : s₁.gens = #[])
    (ha : s₁.heap.get? a = some { cls := .type "list", data := .seq vs.toArray }) (hr : Room k callerA) (F : ∀ base : Heap, K.In base → base.Ns mainGlobals mg → GOk P w K mg base k fa fd [x] sp) (hbind : ∀ (s : Shared) (u : Value), BindsTo s fd ⟨[u], []⟩ [(x, u)])
    (hsp : sp [.ref a] H (fun v _ => v = .bl true) fun _ _ _ => False) (hO : Only H) (hok : HOk P w H s₁.heap) (hA : ∀ b, H b ≠ none → b = a) (hK : H a ≠ none → K.lookup a = none) :
    codeAny (model P w) callerA (.call (.ref fa) ⟨[.ref a], []⟩) (fun r s' => r = .ok (.ret (.bool true)) ∧ OldK s₁.heap s'.heap ∧ s'.os = s₁.os ∧ AllBare s'.gens) s₁ := by
  have below : ∀ {b : Addr} {o : Obj}, s₁.heap.get? b = some o → H b = none → (hidT s₁.heap H).get? b = some o := fun e z => hidT_get e z
  have free : ∀ {b : Addr} {o : Obj} {es : Array DictEntry} {ep : Nat}, s₁.heap.get? b = some o → o.data = .dict es ep → H b = none := by
    intro b o es ep e d
    cases q : H b with
    | none => rfl
    | some y =>
      obtain rfl := hA b (by rw [q]; exact Option.some_ne_none y)
      rw [ha] at e
      cases e
      exact nomatch (show Data.seq vs.toArray _ = Data.dict es ep from d)
  have lift : ∀ {b : Addr} {m : Str → Option Value}, s₁.heap.Ns b m → (hidT s₁.heap H).Ns b m := fun {b m} z => by
    obtain ⟨o, es, ep, e, d, r⟩ := z
    exact ⟨o, es, ep, below e (free e d), d, r⟩
  have inK : K.In (hidT s₁.heap H) := fun b o e => below (KX b o e) (by
    cases q : H b with
    | none => rfl
    | some y =>
      obtain rfl := hA b (by rw [q]; exact Option.some_ne_none y)
      rw [hK (by rw [q]; exact Option.some_ne_none y)] at e
      cases e)
  obtain ⟨mc, l1, l2⟩ := hlim
  have e0 : Env0 P w K mg (hidT s₁.heap H) callerA [] s₁ H :=
    ⟨rfl, ⟨inK, lift hns, ⟨mb, lift hb, hbb⟩, ⟨mc, lift l1, l2⟩⟩, fun b o e => of_hidT e, Nat.le_of_eq (hidT_size _ _), trivial, fun b z => absurd (show b ∈ ([] : List Addr) from z) (by simp), hok, .of_eq hg⟩
  have run := (F _ inK (lift hns)).go callerA [] s₁ H ⟨[.ref a], []⟩ [.ref a] [.ref a] _ _ hr rfl e0 (hbind s₁ (.ref a)) (.cons rfl .nil) hsp
  refine codeAny_mono run fun r s' h => ?_
  match r, h with
  | .error e, h =>
    obtain ⟨_, _, _, _, _, _, _, _, _, _, _, _, z⟩ := h
    exact z.elim
  | .ok .next, h => exact h.elim
  | .ok .brk, h => exact h.elim
  | .ok .cont, h => exact h.elim
  | .ok (.ret u), h =>
    obtain ⟨v, H', os, bare, un, hok', rv, q⟩ := h
    obtain rfl : v = V.bl true := q
    obtain rfl : u = Value.bool true := rv
    refine ⟨rfl, OldK.of_keep fun b o e => ?_, os, bare⟩
    rcases hO b with z | ⟨ob, ys, z⟩
    · exact un.keep b o e z (fun y => absurd (show b ∈ ([] : List Addr) from y) (by simp)) (by simp)
    · obtain ⟨e1, _⟩ := hok b _ z
      obtain ⟨e2, _⟩ := hok' b _ (un.frzs b ob _ z)
      rw [e] at e1
      cases e1
      exact e2
theorem law_callG (KX : K.In s₁.heap) (hns : s₁.heap.Ns mainGlobals mg) (hb : s₁.heap.Ns builtinsNs mb) (hbb : ∀ y : Str, y ≠ "__name__" → mb y = bootBuiltins y) (hlim : s₁.heap.NoLimit) (hg : s₁.gens = #[])
    (ha : s₁.heap.get? a = some { cls := .type "list", data := .seq vs.toArray }) (hi : IntsAre vs ns) (hl : ns.length ≤ sizeLine) (hr : Room k callerA) (F : ∀ base : Heap, K.In base → base.Ns mainGlobals mg → GOk P w K mg base k fa fd [x] sp)
    (hbind : ∀ (s : Shared) (u : Value), BindsTo s fd ⟨[u], []⟩ [(x, u)]) (hsp : ∀ H : Hp, Only H → SqL K H a (ns.map V.int) → sp [.ref a] H (fun v _ => v = .bl true) fun _ _ _ => False) :
    codeAny (model P w) callerA (.call (.ref fa) ⟨[.ref a], []⟩) (fun r s' => r = .ok (.ret (.bool true)) ∧ OldK s₁.heap s'.heap ∧ s'.os = s₁.os ∧ AllBare s'.gens) s₁ := by
  have rv := vals_ints hi
  have lv := hi.length
  cases hk : K.lookup a with
  | some o =>
    have e := KX a o hk
    rw [ha] at e
    cases e
    have none_ : Only (fun _ => none) := fun _ => .inl rfl
    exact law_from KX hns hb hbb hlim hg ha hr F hbind (hsp _ none_ (.inr ⟨_, vs.toArray, _, hk, rfl, rfl, rfl, by rw [List.size_toArray, lv]; exact hl, by simpa using rv⟩)) none_
      (fun b u z => nomatch (show (none : Option HO) = some u from z)) (fun b z => absurd rfl z) fun z => absurd rfl z
  | none =>
    let H : Hp := fun b => if b = a then some (.frz { cls := .type "list", data := .seq vs.toArray } (.lst (ns.map V.int))) else none
    have at_ : H a = some (.frz { cls := .type "list", data := .seq vs.toArray } (.lst (ns.map V.int))) := if_pos rfl
    have off : ∀ {b}, b ≠ a → H b = none := fun hb => if_neg hb
    have only : Only H := fun b => by
      by_cases h : b = a
      · subst h
        exact .inr ⟨_, _, at_⟩
      · exact .inl (off h)
    refine law_from (H := H) KX hns hb hbb hlim hg ha hr F hbind (hsp H only (.inl (.inr ⟨_, at_⟩))) only (fun b u z => ?_) (fun b z => ?_) fun _ => hk
    · by_cases h : b = a
      · subst h
        rw [at_] at z
        cases z
        exact ⟨ha, by rw [List.length_map]; exact hl, vs, _, rv, ha⟩
      · rw [off h] at z
        cases z
    · by_cases h : b = a
      · exact h
      · exact absurd (off h) z
end
/-- a constant of the module -/
theorem pe_gc {X : Cx} {x : Str} {v : V} {pos : Pos} (hg : Gl X x) (hm : ∃ u, X.mg x = some u ∧ RelV v u) (hd : (x == ("__debug__" : Str)) = false := by decide) : PE X (.Name x pos) (tC v) := by
  obtain ⟨u, e, r⟩ := hm
  exact pe_glob hg e r hd
/-- what k_head leaves, from the law's promise -/
theorem walk_g {l : PySem.W.OpenLaw} {n k : Nat} {q : Program} {loose : List Str} {XP : (Str → Option Value) → Heap → Prop} {YP : World → Heap → Prop} {d : DefRec} {K : Params → PySem.W.Frag} {sp : PySem.W.Frag → Sp} {x : Str}
    (hn : l.most = some n) (hn2 : n ≤ sizeLine) (hdf : d.params.defaults = []) (hr : Room k callerA) (hY : ∀ (w : World) (h : Heap), YP w h → (K w.params).In h)
    (F : ∀ (w : World) (mg : Str → Option Value) (fa : Addr) (h : Heap), (K w.params).In h → h.Ns mainGlobals mg → mg d.name = some (.ref fa) →
      ∃ fd : FuncData, (∀ (s : Shared) (u : Value), BindsTo s fd ⟨[u], []⟩ [(x, u)]) ∧ ∀ base : Heap, (K w.params).In base → base.Ns mainGlobals mg → GOk l.prog w (K w.params) mg base k fa fd [x] (sp (K w.params)))
    (hsp : ∀ (K : PySem.W.Frag) (H : Hp) (a : Addr) (ns : List Int), ns.length ≤ n → Only H → SqL K H a (ns.map V.int) → sp K [.ref a] H (fun v _ => v = .bl true) fun _ _ _ => False) :
    PySem.W.WalkO q loose XP YP l.row.toRowW d [] (fun f vs => PySem.call f vs) := by
  refine Att.attach_call hn hdf fun w s₀ s₁ mg mb fa o pm cd doc a vs ns G Y ho hd hcd hmg hobj hints hlen hg => ?_
  have KX := hY w _ Y
  obtain ⟨fd, hb, hF⟩ := F w mg fa _ KX G.T.g hmg
  exact law_callG KX G.T.g G.T.b G.T.builtins G.T.nolimit hg hobj hints (Nat.le_trans hlen hn2) hr hF hb fun H hO hS => hsp _ H a ns hlen hO hS
/-- the law's promise: True, whatever the script -/
def spLaw (K : PySem.W.Frag) : Sp := fun vs H Q _ => ∃ (s : Addr) (ns : List Int), vs = [.ref s] ∧ SqL K H s (ns.map V.int) ∧ ns.length ≤ 63 ∧ ∀ H', Q (.bl true) H'
end Bf
namespace Bf
open PySem PySem.Spec PyProof.Rows L2
/-! ## _law_begin, _law_words -/
def spB (K : PySem.W.Frag) : Sp := fun vs H Q _ => ∃ s ns, vs = [.ref s] ∧ SqL K H s (ns.map V.int) ∧ ns.length ≤ 63 ∧ ∀ p c H', Gr H H' → (DS K p c (ns ++ [0]) 0 0 0).I H' → Q (.ref p) H'
abbrev p__law_begin (K : PySem.W.Frag) : Sp := spB K
abbrev t__law_begin (K : PySem.W.Frag) : TS := (tRet (tDisp [((tC (.str "cells")), (tOp (rCatS K) (tVar 0) (tLst (tCons (tC (.int 0)) tNil)))), ((tC (.str "at")), (tC (.int 0))), ((tC (.str "left")), (tC (.int 0))), ((tC (.str "used")), (tC (.int 0)))]))
theorem rd__law_begin {K : PySem.W.Frag} {D : Ends} {σ : L2.St} {H : Hp} {s : Addr} {ns : List Int} (hs : σ[0]? = some (some (.ref s))) (h : SqL K H s (ns.map V.int)) (hl : ns.length ≤ 63)
    (q : ∀ p c H', Gr H H' → (DS K p c (ns ++ [0]) 0 0 0).I H' → D.rt (.ref p) H') : t__law_begin K D σ H := by
  intro p hp
  have s1 := same_new (o := .dK []) hp
  refine ⟨.ref s, hs, (by show 1 ≤ sizeLine; decide), fun t ht => ?_⟩
  have s2 := same_new (o := .lst [.int 0]) ht
  refine ⟨s, t, ns.map V.int, [.int 0], rfl, rfl, s2.seq (s1.seq h), SqL.of upd_same, (by rw [List.length_map]; exact Nat.le_trans (show ns.length + 1 ≤ 64 by omega) (by decide)), fun c hc => ?_⟩
  have s3 := same_new (o := .lst (ns.map V.int ++ [.int 0])) hc
  have hp3 := s3 _ _ (s2 _ _ (upd_same (H := H) (a := p) (o := .dK [])))
  refine ⟨hp3, [((.inr "cells" : Key), V.ref c), (.inr "at", .int 0), (.inr "left", .int 0), (.inr "used", .int 0)], rfl, (by show 4 ≤ 15; decide), ?_⟩
  rw [dr_merge]
  have hcp : c ≠ p := fun e => by
    rw [e] at hc
    rw [s2 _ _ (upd_same (H := H) (a := p) (o := .dK []))] at hc
    cases hc
  refine q p c _ (fun b o e d => ?_) ⟨upd_same, SqL.of ?_⟩
  · rw [upd_ne (ne_of_none e hp)]
    exact s3 _ _ (s2 _ _ (s1 _ _ e))
  · rw [upd_ne hcp, upd_same, List.map_append]
    rfl
def consI (i : Int) : Dt → Dt
  | .tup xs => .tup (.int i :: xs)
  | _ => .non
def f_lw : List Dt → Dt
  | [.int b] => .lst (wordsD b)
  | _ => .non
abbrev p__law_words (K : PySem.W.Frag) : Sp := spF K 1 (fun ds => ∃ b, ds = [.int b] ∧ 0 ≤ b ∧ b ≤ 8) f_lw
abbrev t__law_words (K : PySem.W.Frag) : TS := (tSeq (tAsg (tLst (tCons (tTup tNil) tNil)) (gName 1))
    (tSeq (tFor (iRng1 (tCons (tVar 0) tNil)) (gName 2) (tAsg (tOp (rCatS K) (tLc (iList K (tVar 1)) (gName 3) tYes (tOp (rCatA K) (tTup (tCons (tC (.int 0)) tNil)) (tVar 3)) [3]) (tLc (iList K (tVar 1)) (gName 3) tYes (tOp (rCatA K) (tTup (tCons (tC (.int 1)) tNil)) (tVar 3)) [3])) (gName 1)))
    (tRet (tVar 1))))
section
variable {K : PySem.W.Frag} {S : Sta} {ds : List Dt}
theorem wordsR_len (n : Nat) : (wordsR n).length = 2 ^ n := by rw [words_eq, wordsL_len]
theorem so__law_words (hmu : S.Mu) (hp : ∃ b, ds = [.int b] ∧ 0 ≤ b ∧ b ≤ 8) : So K S S [] (t__law_words K) (startD 4 ds) (Pu (f_lw ds)) := by
  obtain ⟨b, rfl, b0, b8⟩ := hp
  have hb : ((b.toNat : Nat) : Int) = b := Int.toNat_of_nonneg b0
  refine so_setD (ev_lst (ea_cons (ev_tup ea_nil (by decide)) ea_nil) (by show 1 ≤ sizeLine; decide)) ?_
  refine so_seq (M := fun ρ' => ∃ x y, ρ' = [some (.int b), some (.lst ((wordsR b.toNat).map tI)), x, y]) (so_forR (n := b.toNat) (Z := fun _ => S) (ea_cons ((ev_var rfl).to (by rw [hb])) ea_nil) (by omega) (fun _ _ => Sta.Le.refl _) (fun _ _ => Sta.Le.refl _)
    (fun i ρ' => ∃ x y, ρ' = [some (.int b), some (.lst ((wordsR i).map tI)), x, y]) ⟨_, _, rfl⟩ (fun i ρ' hi hJ => ?_) fun ρ' hJ => hJ) fun ρ' hM => ?_
  · obtain ⟨x, y, rfl⟩ := hJ
    have hpow : (wordsR i).length ≤ 256 := by
      rw [wordsR_len]
      exact Nat.pow_le_pow_right (n := 2) (by decide) (show i ≤ 8 by omega)
    have part : ∀ k : Int, Ev K S S [some (.int b), some (.lst ((wordsR i).map tI)), some (.int i), y] (tLc (iList K (tVar 1)) (gName 3) tYes (tOp (rCatA K) (tTup (tCons (tC (.int k)) tNil)) (tVar 3)) [3]) (Eq (.lst (((wordsR i).map (k :: ·)).map tI))) := fun k => by
      refine (ev_lcL (xs := (wordsR i).map tI) (f := consI k) (p := fun _ => true) hmu (ev_var rfl) (by decide) (by rw [List.length_map]; omega) (fun _ _ => et_yes) (fun z hz _ => ?_) (fun z hz _ => ?_)).to ?_
      · obtain ⟨w, hw, rfl⟩ := List.mem_map.mp hz
        have hl := (wordsL_bits i w (by rw [← words_eq]; exact hw)).1
        exact ev_op (ev_tup (ea_cons ev_int ea_nil) (by show 1 ≤ sizeLine; decide)) (ev_var rfl) (rv_catT (by rw [List.length_map, hl]; show 1 + i ≤ sizeLine; exact Nat.le_trans (show 1 + i ≤ 9 by omega) (by decide)))
      · obtain ⟨w, hw, rfl⟩ := List.mem_map.mp hz
        exact nol_tI (k :: w)
      · rw [List.filter_eq_self.mpr fun _ _ => rfl, List.map_map, List.map_map]
        rfl
    refine so_set0D ((ev_op (part 0) (part 1) (rv_catL (by simp only [List.length_map]; exact Nat.le_trans (show _ ≤ 512 by omega) (by decide)))).to ?_) (Sta.Le.refl _) ⟨_, _, rfl⟩
    rw [← List.map_append]
    rfl
  · obtain ⟨x, y, rfl⟩ := hM
    refine so_retD (ev_var rfl) (Sta.Le.refl _) ?_
    show Dt.lst (wordsD b) = _
    rw [words_eq]
    rfl
theorem ev__law_words {S1 : Sta} {ρ : List (Option Dt)} {ta : TE} {b : Int} (h : Ev K S S1 ρ ta (Eq (.int b))) (h0 : 0 ≤ b) (h8 : b ≤ 8) : Ev K S S1 ρ (tCall (p__law_words K) [] E0 (tCons ta tNil)) (Eq (.lst (wordsD b))) := ev_callF (ea_cons h ea_nil) rfl ⟨b, rfl, h0, h8⟩
end
/-! ### all words of up to eight bits may be compared and shown -/
theorem words_cmp : ∀ n : _root_.Fin 9, cmpOk (.lst ((wordsL n.val).map tI)) = true := by decide +kernel
theorem words_short : ∀ n : _root_.Fin 9, (py (.lst ((wordsL n.val).map tI))).leavesShort 13 = true := by decide +kernel
theorem words_shows : ∀ n : _root_.Fin 9, (py (.lst ((wordsL n.val).map tI))).showable = true := by decide +kernel
theorem words_light : ∀ n : _root_.Fin 9, (py (.lst ((wordsL n.val).map tI))).weight ≤ 2 ^ 20 := by decide +kernel
theorem wordsD_cmp {b : Int} (h8 : b ≤ 8) : cmpOk (.lst (wordsD b)) = true := words_cmp ⟨b.toNat, by omega⟩
theorem wordsD_shw {b : Int} (h8 : b ≤ 8) : shwOk (.lst (wordsD b)) := ⟨wordsD_cmp h8, words_shows ⟨b.toNat, by omega⟩, PyData.shown_fits (by decide) (by decide) (words_short ⟨b.toNat, by omega⟩) (words_light ⟨b.toNat, by omega⟩)⟩
theorem cmp_refl {d : Dt} (h : cmpOk d = true) : PyData.eqv (py d) (py d) = true := by
  simp only [cmpOk, Bool.and_eq_true] at h
  exact SeqAt.eqv_refl _ (SeqAt.canLay_of_shaped h.2)
/-! ### the word in the middle of which something else is put -/
theorem isWd_bad {b : Int} {xs ys : List Dt} {x : Dt} (h : isWF x 0 1 = false) : isWd b (.tup (xs ++ [x] ++ ys)) = false := by
  simp [isWd, List.all_append, h]
theorem isWd_len {b : Int} {xs : List Dt} (h : (xs.length : Int) ≠ b) : isWd b (.tup xs) = false := by simp [isWd, h]
theorem isWd_word {b : Int} {w : List Int} (h0 : 0 ≤ b) (h : isBits b.toNat w) : isWd b (tI w) = true := by
  simp only [isWd, tI, Bool.and_eq_true, decide_eq_true_eq, List.length_map, List.all_map, List.all_eq_true]
  refine ⟨by rw [h.1]; exact Int.toNat_of_nonneg h0, fun x hx => ?_⟩
  rcases h.2 x hx with rfl | rfl <;> rfl
theorem cutD_sub {xs : List Dt} {lo hi : Option Int} {x : Dt} (h : x ∈ cutD xs lo hi) : x ∈ xs := List.mem_of_mem_drop (List.mem_of_mem_take h)
theorem cutD_le (xs : List Dt) (lo hi : Option Int) : (cutD xs lo hi).length ≤ xs.length := by
  unfold cutD
  rw [List.length_take, List.length_drop]
  omega
theorem cutD_tail (x : Dt) (xs : List Dt) : cutD (x :: xs) (some 1) none = xs := by
  unfold cutD
  have e : HT.sIx (x :: xs).length 0 (some 1) = 1 := by
    have := HT.sIx_nat (x :: xs).length 0 1
    rw [show ((1 : Nat) : Int) = 1 from rfl] at this
    rw [this, List.length_cons]
    omega
  rw [e, HT.sIx_none, List.length_cons, List.drop_one, List.tail_cons, Nat.add_sub_cancel, List.take_length]
theorem plS_tup {xs : List Dt} (h : ∀ x ∈ xs, pl x = true) (hl : xs.length ≤ 100000) : plS (.tup xs) = true := by
  simp only [plS, pl, Bool.and_eq_true]
  exact ⟨plA_all.mpr h, decide_eq_true hl⟩
end Bf
namespace Bf
open PySem PySem.Spec PyProof.Rows L2
/-! ## The law itself -/
abbrev p_law (K : PySem.W.Frag) : Sp := spLaw K
abbrev r_law (K : PySem.W.Frag) : TS := (tSeq (tFor (iRng1 (tCons (tC (.int 4)) tNil)) (gName 2) (tSeq (tAsg (tCall (p__law_table K) [] E0 (tCons (tVar 1) (tCons (tC (.int 8)) tNil))) (gName 3))
    (tSeq (tAsg (tCall (p_words_of K) [] E0 (tCons (tVar 3) tNil)) (gName 4))
    (tSeq (tIfS (tOr (tTest (tOp (rNeD K) (tVar 4) (tCall (p__law_words K) [] E0 (tCons (tOp (rIx K) (tVar 3) (tUn rNegI (tC (.int 1)))) tNil)))) (tTest (tOp rNe (tCB (rRepr K) (tCons (tCallW (p_words_of K) 1 idV E0 (tCons (tVar 3) tNil)) tNil)) (tCB (rRepr K) (tCons (tVar 4) tNil))))) (tRet (tC (.bl false))) tNext)
    (tSeq (tAsg (tCall (p__law_pick K) [] E0 (tCons (tVar 1) (tCons (tVar 4) tNil))) (gName 5))
    (tSeq (tIfS (tOr (tTest (tOp rNotB (tCall (p_is_word K) [] E0 (tCons (tVar 3) (tCons (tVar 5) tNil))) (tC (.bl true)))) (tTest (tOp rNotB (tCallW (p_is_word K) 2 swpV E0 (tCons (tVar 5) (tCons (tVar 3) tNil))) (tC (.bl true))))) (tRet (tC (.bl false))) tNext)
    (tSeq (tAsg (tCall (p__law_next K) [] E0 (tCons (tVar 1) (tCons (tCB (rLen K) (tCons (tVar 5) tNil)) tNil))) (gName 6))
    (tSeq (tFor (iTup K (tTup (tCons (tC (.int 2)) (tCons (tUn rNegI (tC (.int 1))) (tCons (tC (.bl true)) (tCons (tC .non) (tCons (tC (.str "1")) (tCons (tTup (tCons (tC (.int 1)) tNil)) (tCons (tOp rPowI (tC (.int 10)) (tC (.int 30))) tNil))))))))) (gName 7) (tIfS (tTest (tOp rNotB (tCall (p_is_word K) [] E0 (tCons (tVar 3) (tCons (tOp (rCatA K) (tOp (rCatA K) (tSl (rSlA K) (tVar 5) tNoPart (tPart (tVar 6))) (tTup (tCons (tVar 7) tNil))) (tSl (rSlA K) (tVar 5) (tPart (tOp rAddI (tVar 6) (tC (.int 1)))) tNoPart)) tNil))) (tC (.bl false)))) (tRet (tC (.bl false))) tNext))
    (tSeq (tFor (iTup K (tTup (tCons (tCB (rLstO K) (tCons (tVar 5) tNil)) (tCons (tOp (rCatA K) (tVar 5) (tTup (tCons (tC (.int 0)) tNil))) (tCons (tSl (rSlA K) (tVar 5) (tPart (tC (.int 1))) tNoPart) (tCons (tC .non) (tCons (tC (.int 0)) (tCons (tC (.str "0")) (tCons tDNewK (tCons (tTup (tCons (tVar 5) tNil)) (tCons (tTup tNil) tNil))))))))))) (gName 7) (tIfS (tTest (tOp rNotB (tCall (p_is_word K) [] E0 (tCons (tVar 3) (tCons (tVar 7) tNil))) (tC (.bl false)))) (tRet (tC (.bl false))) tNext))
    (tSeq (tDrop (tBM K "list" rAppend (tVar 4) (tCons (tC (.int 5)) tNil)))
    (tIfS (tTest (tOp (rNeD K) (tCall (p_words_of K) [] E0 (tCons (tVar 3) tNil)) (tCall (p__law_words K) [] E0 (tCons (tOp (rIx K) (tVar 3) (tUn rNegI (tC (.int 1)))) tNil)))) (tRet (tC (.bl false))) tNext)))))))))))
    (tRet (tC (.bl true))))
abbrev t_law (K : PySem.W.Frag) : TS := (tSeq (tAsg (tCall (p__law_begin K) [] E0 (tCons (tVar 0) tNil)) (gName 1)) (r_law K))
section
variable {K : PySem.W.Frag} {a c : Addr} {cs : List Int}
def oddsA : List Dt := [.int 2, .int (-1), .bl true, .non, .str "1", .tup [.int 1], .int (10 ^ (30 : Int).toNat)]
def oddsB (w : List Dt) : List Dt := [.lst w, .tup (w ++ [.int 0]), .tup (cutD w (some 1) none), .non, .int 0, .str "0", .dic, .tup [.tup w], .tup []]
theorem oddsA_bad : ∀ x ∈ oddsA, pl x = true ∧ isWF x 0 1 = false ∧ nol x = true := by decide
theorem so_law {x0 : Option Dt} (hx0 : ∀ d, x0 = some d → nol d = true) (hc : cs ≠ []) : So K (DW K a c cs 0) (DW K a c cs 168) [] (r_law K) [x0, some (.raw (.ref a)), none, none, none, none, none, none] { rt := Eq (.bl true) } := by
  refine so_seq (M := fun _ => True) (so_forR (n := 4) (Z := fun i => DW K a c cs (42 * i)) (ea_cons ev_int ea_nil) (by decide) (fun i hi => dw_le (by omega)) (fun i hi => dw_le (by omega)) (fun i ρ' => ∃ y2 y3 y4 y5 y6 y7, ρ' = [x0, some (.raw (.ref a)), y2, y3, y4, y5, y6, y7]) ⟨_, _, _, _, _, _, rfl⟩ (fun i ρ' hi hJ => ?_) fun _ _ => trivial) fun ρ' _ => so_retD ev_bl (Sta.Le.refl _) rfl
  obtain ⟨y2, y3, y4, y5, y6, y7, rfl⟩ := hJ
  -- the table
  refine so_set (ev__law_table (n := 42 * i) (ea_cons (ev_var rfl) (ea_cons ev_int ea_nil)) hc (by omega) (by decide) (by decide)) fun d hd => ?_
  obtain ⟨T, hT, rfl, hb⟩ := hd
  have b0 : 0 ≤ T.b := by have := Tab.b1 hT; omega
  have hcm := wordsD_cmp (b := T.b) hb
  have hlen : (wordsD T.b).length ≤ 256 := by
    rw [wordsD, List.length_map, wordsL_len]
    exact Nat.pow_le_pow_right (n := 2) (by decide) (show T.b.toNat ≤ 8 by omega)
  have hne : wordsD T.b ≠ [] := by
    intro e
    have := congrArg List.length e
    rw [wordsD, List.length_map, wordsL_len] at this
    exact absurd this (Nat.ne_of_gt (Nat.two_pow_pos _))
  have last : ∀ {S : Sta} {ρ : List (Option Dt)}, ρ[3]? = some (some T.d) → Ev K S S ρ (tOp (rIx K) (tVar 3) (tUn rNegI (tC (.int 1)))) (Eq (.int T.b)) := fun {S ρ} h => by
    cases T with
    | ha u b => exact ev_ixT (ev_var h) (ev_neg ev_int) rfl
    | pa h z1 z2 o1 o2 s b => exact ev_ixT (ev_var h) (ev_neg ev_int) rfl
  -- the words
  refine so_new (en_words_of (ev_var rfl) hT) (dw_le (by omega)) fun p => ?_
  refine so_ifF (et_orF ((et_test (ev_op (ev_lat (ev_var rfl)) (ev__law_words (last rfl) b0 hb) (rv_neD hcm hcm))).to (by rw [cmp_refl hcm]; rfl)) ((et_test (ev_op (ev_cb (ea_cons (EvN.ev ((en_callW (ea_cons (ev_var rfl) ea_nil) rfl (fun _ _ r => idV_rep r) rfl ⟨T, hT, rfl⟩).to (f_words_tab T))) ea_nil) (rc_repr (wordsD_shw hb))) (ev_cb (ea_cons (ev_lat (ev_var rfl)) ea_nil) (rc_repr (wordsD_shw hb))) rv_neS)).to (by simp))) (so_skip ?_)
  refine so_set (ev__law_pick (n := 42 * i + 40) (xs := wordsD T.b) (ea_cons (ev_var rfl) (ea_cons (ev_lat (ev_var rfl)) ea_nil)) hc (by omega) hne (by omega)) fun d hd => ?_
  obtain ⟨w, hw, rfl⟩ := List.mem_map.mp hd
  have hbits := wordsL_bits _ w hw
  have hwl : (w.map Dt.int).length ≤ 8 := by rw [List.length_map, hbits.1]; omega
  have hwb : (((w.map Dt.int).length : Nat) : Int) = T.b := by rw [List.length_map, hbits.1]; exact Int.toNat_of_nonneg b0
  have hpl : ∀ x ∈ w.map Dt.int, pl x = true := fun x hx => by
    obtain ⟨k, _, rfl⟩ := List.mem_map.mp hx
    rfl
  have hws : plS (tI w) = true := plS_tI (by rw [List.length_map] at hwl; omega)
  have isw : isWd T.b (tI w) = true := isWd_word b0 hbits
  refine so_ifF (et_orF ((et_test (ev_op (ev_is_word (ev_var rfl) hT (ev_var rfl) hws) ev_bl rv_notB)).to (by rw [isw]; rfl)) ((et_test (ev_op (((ev_callW (ea_cons (ev_var rfl) (ea_cons (ev_var rfl) ea_nil)) rfl (fun _ _ r => swpV_rep r) rfl ⟨T, tI w, hT, rfl, hws⟩).to (f_isw_tab T (tI w)))) ev_bl rv_notB)).to (by rw [isw]; rfl))) (so_skip ?_)
  refine so_set (ev__law_next (n := 42 * i + 40 + 1) (ea_cons (ev_var rfl) (ea_cons (ev_lenT (xs := w.map Dt.int) (ev_var rfl)) ea_nil)) hc (by omega) (by rw [hwb]; have := Tab.b1 hT; omega) (Nat.lt_of_le_of_lt (show ((w.map Dt.int).length : Int).natAbs ≤ 8 by omega) (by decide))) fun d hd => ?_
  obtain ⟨r, rfl, r0, r1⟩ := hd
  -- another thing in the middle
  refine so_mid (M := fun ρ' => ∃ y, ρ' = [x0, some (.raw (.ref a)), some (.int i), some T.d, some (.lat p (wordsD T.b)), some (tI w), some (.int r), y]) (dw_le (by omega)) (so_forT (xs := oddsA) (ev_tup (ea_cons ev_int (ea_cons (ev_neg ev_int) (ea_cons ev_bl (ea_cons ev_non (ea_cons ev_str (ea_cons (ev_tup (ea_cons ev_int ea_nil) (by decide)) (ea_cons (ev_op ev_int ev_int (rv_pow ⟨by decide, by decide, by decide⟩)) ea_nil))))))) (by show 7 ≤ sizeLine; decide)) (fun _ ρ' => ∃ y, ρ' = [x0, some (.raw (.ref a)), some (.int i), some T.d, some (.lat p (wordsD T.b)), some (tI w), some (.int r), y]) ⟨_, rfl⟩ (fun t x ρ' hx hJ => ?_) fun ρ' h => h) fun ρ' hM => ?_
  · obtain ⟨y, rfl⟩ := hJ
    obtain ⟨px, bx, _⟩ := oddsA_bad x (List.mem_of_getElem? hx)
    have l1 := cutD_le (w.map Dt.int) none (some r)
    have l2 := cutD_le (w.map Dt.int) (some (r + 1)) none
    refine so_if0F ((et_test (ev_op (ev_is_word (ev_var rfl) hT (ev_op (ev_op (ev_slT (xs := w.map Dt.int) (ev_var rfl) eo_none (eo_some (ev_var rfl))) (ev_tup (ea_cons (ev_var (d := x) rfl) ea_nil) (by show 1 ≤ sizeLine; decide)) (rv_catT (Nat.le_trans (show _ ≤ 9 by simp only [List.length_cons, List.length_nil]; omega) (by decide)))) (ev_slT (xs := w.map Dt.int) (ev_var rfl) (eo_some (ev_op (ev_var rfl) ev_int rv_add)) eo_none) (rv_catT (Nat.le_trans (show _ ≤ 17 by simp only [List.length_append, List.length_cons, List.length_nil]; omega) (by decide)))) (plS_tup (fun z hz => ?_) (by simp only [List.length_append, List.length_cons, List.length_nil]; omega))) ev_bl rv_notB)).to (by rw [isWd_bad bx]; rfl)) (so_next (Sta.Le.refl _) ⟨_, rfl⟩)
    rcases List.mem_append.mp hz with hz | hz
    · rcases List.mem_append.mp hz with hz | hz
      · exact hpl z (cutD_sub hz)
      · obtain rfl := List.mem_singleton.mp hz
        exact px
    · exact hpl z (cutD_sub hz)
  obtain ⟨y, rfl⟩ := hM
  -- other things
  have hz : (w.map Dt.int).length + 1 ≤ 100000 := by omega
  have bad : ∀ x ∈ oddsB (w.map Dt.int), plS x = true ∧ isWd T.b x = false := fun x hx => by
    simp only [oddsB, List.mem_cons, List.not_mem_nil, or_false] at hx
    rcases hx with rfl | rfl | rfl | rfl | rfl | rfl | rfl | rfl | rfl
    · refine ⟨?_, rfl⟩
      simp only [plS, pl, Bool.and_eq_true]
      first | exact plA_all.mpr hpl | exact ⟨plA_all.mpr hpl, trivial⟩ | exact ⟨plA_all.mpr hpl, decide_eq_true (by omega)⟩
    · refine ⟨plS_tup (fun z hz => ?_) (by simp only [List.length_append, List.length_cons, List.length_nil]; omega), isWd_len (by simp only [List.length_append, List.length_cons, List.length_nil]; omega)⟩
      rcases List.mem_append.mp hz with hz | hz
      · exact hpl z hz
      · obtain rfl := List.mem_singleton.mp hz
        rfl
    · refine ⟨plS_tup (fun z hz => hpl z (cutD_sub hz)) (Nat.le_trans (cutD_le _ _ _) (by omega)), isWd_len ?_⟩
      cases hw0 : w.map Dt.int with
      | nil =>
        rw [hw0] at hwb
        have := Tab.b1 hT
        simp at hwb
        omega
      | cons x xs =>
        rw [cutD_tail]
        rw [hw0] at hwb
        simp only [List.length_cons] at hwb
        omega
    · exact ⟨rfl, rfl⟩
    · exact ⟨rfl, rfl⟩
    · exact ⟨rfl, rfl⟩
    · exact ⟨rfl, rfl⟩
    · exact ⟨plS_tup (fun z hz => by obtain rfl := List.mem_singleton.mp hz; exact plA_all.mpr hpl) (by show 1 ≤ 100000; decide), isWd_bad (xs := []) (ys := []) rfl⟩
    · exact ⟨rfl, isWd_len (by have := Tab.b1 hT; simp; omega)⟩
  refine so_mid (M := fun ρ' => ρ' = [x0, some (.raw (.ref a)), some (.int i), some T.d, some (.lat p (wordsD T.b)), some (tI w), some (.int r), some (.tup [])]) (dw_le (by omega)) (so_forT (xs := oddsB (w.map Dt.int)) (ev_tup (ea_cons (ev_cb (ea_cons (ev_var (d := .tup (w.map Dt.int)) rfl) ea_nil) rc_lstT) (ea_cons (ev_op (ev_var (d := .tup (w.map Dt.int)) rfl) (ev_tup (ea_cons ev_int ea_nil) (by decide)) (rv_catT (Nat.le_trans (show _ ≤ 9 by simp only [List.length_cons, List.length_nil]; omega) (by decide)))) (ea_cons (ev_slT (xs := w.map Dt.int) (ev_var rfl) (eo_some ev_int) eo_none) (ea_cons ev_non (ea_cons ev_int (ea_cons ev_str (ea_cons ev_dic (ea_cons (ev_tup (ea_cons (ev_var (d := .tup (w.map Dt.int)) rfl) ea_nil) (by show 1 ≤ sizeLine; decide)) (ea_cons (ev_tup ea_nil (by decide)) ea_nil))))))))) (by show 9 ≤ sizeLine; decide)) (fun t ρ' => ∃ y, ρ' = [x0, some (.raw (.ref a)), some (.int i), some T.d, some (.lat p (wordsD T.b)), some (tI w), some (.int r), y] ∧ (t = 9 → y = some (.tup []))) ⟨_, rfl, fun e => nomatch e⟩ (fun t x ρ' hx hJ => ?_) fun ρ' h => ?_) fun ρ' hM => ?_
  · obtain ⟨y, rfl, _⟩ := hJ
    obtain ⟨px, bx⟩ := bad x (List.mem_of_getElem? hx)
    refine so_if0F ((et_test (ev_op (ev_is_word (ev_var rfl) hT (ev_var (d := x) rfl) px) ev_bl rv_notB)).to (by rw [bx]; rfl)) (so_next (Sta.Le.refl _) ⟨_, rfl, fun e => ?_⟩)
    have e8 : t = 8 := by omega
    subst e8
    have hx' : some (Dt.tup []) = some x := hx
    exact hx'.symm
  · obtain ⟨y, e, h9⟩ := h
    rw [e, h9 rfl]
  · subst hM
    -- the list is another one each time
    refine so_app (p := p) (xs := wordsD T.b) List.mem_cons_self dw_loose rfl (nolA_all.mpr fun x hx => ?_) (fun j d hj h => ?_) (by omega) ev_int rfl ?_
    · obtain ⟨u, _, rfl⟩ := List.mem_map.mp hx
      exact nol_tI u
    · match j, hj, h with
      | 0, _, h => exact hx0 d (by simpa using h)
      | 1, _, h => cases h; rfl
      | 2, _, h => cases h; rfl
      | 3, _, h =>
        cases h
        cases T with
        | ha u b => rfl
        | pa hs z1 z2 o1 o2 s b => simp [Tab.d, nol, nolA, nol_tI]
      | 4, hj, _ => exact absurd rfl hj
      | 5, _, h => cases h; exact nol_tI w
      | 6, _, h => cases h; rfl
      | 7, _, h => cases h; rfl
      | n + 8, _, h => simp at h
    · refine so_if0F ((et_test (ev_op (en_words_of (ev_var rfl) hT).ev (ev__law_words (last rfl) b0 hb) (rv_neD hcm hcm))).to (by rw [cmp_refl hcm]; rfl)) (so_next (dw_le (by omega)) ⟨_, _, _, _, _, _, rfl⟩)
end
end Bf
namespace Bf
open PySem PySem.Spec PyProof.Rows L2
/-! ### the text -/
def topS (i : Nat) : Stmt := PySem.Challenge.pw_beamframes_k04_words.main.body.getD i (.Pass ⟨0, 0, 0, 0⟩)
abbrev s_is_whole : Stmt := topS 4
abbrev s_is_whole_from : Stmt := topS 5
abbrev s_need_table : Stmt := topS 9
abbrev s_is_word : Stmt := topS 10
abbrev s_words_of : Stmt := topS 11
abbrev s_bits_of : Stmt := topS 12
abbrev s_begins_with : Stmt := topS 13
abbrev s_wrong_part_of_pairs : Stmt := topS 14
abbrev s_wrong_part_of_halves : Stmt := topS 15
abbrev s_is_duration : Stmt := topS 16
abbrev s_are_durations : Stmt := topS 17
abbrev s_is_pulse_and_gap : Stmt := topS 18
abbrev s_is_bit_count : Stmt := topS 19
abbrev s__law_begin : Stmt := topS 21
abbrev s__law_next : Stmt := topS 22
abbrev s__law_pick : Stmt := topS 23
abbrev s__law_size : Stmt := topS 24
abbrev s__law_table : Stmt := topS 25
abbrev s__law_words : Stmt := topS 26
abbrev s_law : Stmt := topS 28
theorem sc_is_whole : FnScope ["thing"] ["thing"] (defScope s_is_whole) := ⟨rfl, rfl, rfl, by decide +kernel, rfl, by decide +kernel, by decide +kernel⟩
theorem sc_is_whole_from : FnScope ["thing", "low", "high"] ["thing", "low", "high"] (defScope s_is_whole_from) := ⟨rfl, rfl, rfl, by decide +kernel, rfl, by decide +kernel, by decide +kernel⟩
theorem sc_need_table : FnScope ["thing", "wrong"] ["thing"] (defScope s_need_table) := ⟨rfl, rfl, rfl, by decide +kernel, rfl, by decide +kernel, by decide +kernel⟩
theorem sc_is_word : FnScope ["table", "thing", "bit"] ["table", "thing"] (defScope s_is_word) := ⟨rfl, rfl, rfl, by decide +kernel, rfl, by decide +kernel, by decide +kernel⟩
theorem sc_words_of : FnScope ["table", "words", "_", "word", "bit"] ["table"] (defScope s_words_of) := ⟨rfl, rfl, rfl, by decide +kernel, rfl, by decide +kernel, by decide +kernel⟩
theorem sc_bits_of : FnScope ["table"] ["table"] (defScope s_bits_of) := ⟨rfl, rfl, rfl, by decide +kernel, rfl, by decide +kernel, by decide +kernel⟩
theorem sc_begins_with : FnScope ["thing", "name", "size"] ["thing", "name", "size"] (defScope s_begins_with) := ⟨rfl, rfl, rfl, by decide +kernel, rfl, by decide +kernel, by decide +kernel⟩
theorem sc_wrong_part_of_pairs : FnScope ["thing", "header", "zero", "one", "stop", "bits"] ["thing"] (defScope s_wrong_part_of_pairs) := ⟨rfl, rfl, rfl, by decide +kernel, rfl, by decide +kernel, by decide +kernel⟩
theorem sc_wrong_part_of_halves : FnScope ["thing"] ["thing"] (defScope s_wrong_part_of_halves) := ⟨rfl, rfl, rfl, by decide +kernel, rfl, by decide +kernel, by decide +kernel⟩
theorem sc_is_duration : FnScope ["thing"] ["thing"] (defScope s_is_duration) := ⟨rfl, rfl, rfl, by decide +kernel, rfl, by decide +kernel, by decide +kernel⟩
theorem sc_are_durations : FnScope ["thing", "part"] ["thing"] (defScope s_are_durations) := ⟨rfl, rfl, rfl, by decide +kernel, rfl, by decide +kernel, by decide +kernel⟩
theorem sc_is_pulse_and_gap : FnScope ["thing"] ["thing"] (defScope s_is_pulse_and_gap) := ⟨rfl, rfl, rfl, by decide +kernel, rfl, by decide +kernel, by decide +kernel⟩
theorem sc_is_bit_count : FnScope ["thing"] ["thing"] (defScope s_is_bit_count) := ⟨rfl, rfl, rfl, by decide +kernel, rfl, by decide +kernel, by decide +kernel⟩
theorem sc__law_begin : FnScope ["script"] ["script"] (defScope s__law_begin) := ⟨rfl, rfl, rfl, by decide +kernel, rfl, by decide +kernel, by decide +kernel⟩
theorem sc__law_next : FnScope ["draw", "many", "cell", "cells", "number", "k"] ["draw", "many"] (defScope s__law_next) := ⟨rfl, rfl, rfl, by decide +kernel, rfl, by decide +kernel, by decide +kernel⟩
theorem sc__law_pick : FnScope ["draw", "some"] ["draw", "some"] (defScope s__law_pick) := ⟨rfl, rfl, rfl, by decide +kernel, rfl, by decide +kernel, by decide +kernel⟩
theorem sc__law_size : FnScope ["draw", "low", "high"] ["draw"] (defScope s__law_size) := ⟨rfl, rfl, rfl, by decide +kernel, rfl, by decide +kernel, by decide +kernel⟩
theorem sc__law_table : FnScope ["draw", "most", "bits", "header", "k", "zero", "one"] ["draw", "most"] (defScope s__law_table) := ⟨rfl, rfl, rfl, by decide +kernel, rfl, by decide +kernel, by decide +kernel⟩
theorem sc__law_words : FnScope ["many", "found", "k", "word"] ["many"] (defScope s__law_words) := ⟨rfl, rfl, rfl, by decide +kernel, rfl, by decide +kernel, by decide +kernel⟩
theorem sc_law : FnScope ["script", "draw", "turn", "chart", "words", "word", "at", "odd"] ["script"] (defScope s_law) := ⟨rfl, rfl, rfl, by decide +kernel, rfl, by decide +kernel, by decide +kernel⟩
structure Adr where
  a_is_whole : Addr
  d_is_whole : FuncData
  a_is_whole_from : Addr
  d_is_whole_from : FuncData
  a_need_table : Addr
  d_need_table : FuncData
  a_is_word : Addr
  d_is_word : FuncData
  a_words_of : Addr
  d_words_of : FuncData
  a_bits_of : Addr
  d_bits_of : FuncData
  a_begins_with : Addr
  d_begins_with : FuncData
  a_wrong_part_of_pairs : Addr
  d_wrong_part_of_pairs : FuncData
  a_wrong_part_of_halves : Addr
  d_wrong_part_of_halves : FuncData
  a_is_duration : Addr
  d_is_duration : FuncData
  a_are_durations : Addr
  d_are_durations : FuncData
  a_is_pulse_and_gap : Addr
  d_is_pulse_and_gap : FuncData
  a_is_bit_count : Addr
  d_is_bit_count : FuncData
  a__law_begin : Addr
  d__law_begin : FuncData
  a__law_next : Addr
  d__law_next : FuncData
  a__law_pick : Addr
  d__law_pick : FuncData
  a__law_size : Addr
  d__law_size : FuncData
  a__law_table : Addr
  d__law_table : FuncData
  a__law_words : Addr
  d__law_words : FuncData
  a_law : Addr
  d_law : FuncData
structure Txt (K : PySem.W.Frag) (mg : Str → Option Value) (A : Adr) : Prop where
  f_is_whole : Cal K mg "is_whole" s_is_whole ["thing"] A.a_is_whole A.d_is_whole
  f_is_whole_from : Cal K mg "is_whole_from" s_is_whole_from ["thing", "low", "high"] A.a_is_whole_from A.d_is_whole_from
  f_need_table : Cal K mg "need_table" s_need_table ["thing"] A.a_need_table A.d_need_table
  f_is_word : Cal K mg "is_word" s_is_word ["table", "thing"] A.a_is_word A.d_is_word
  f_words_of : Cal K mg "words_of" s_words_of ["table"] A.a_words_of A.d_words_of
  f_bits_of : Cal K mg "bits_of" s_bits_of ["table"] A.a_bits_of A.d_bits_of
  f_begins_with : Cal K mg "begins_with" s_begins_with ["thing", "name", "size"] A.a_begins_with A.d_begins_with
  f_wrong_part_of_pairs : Cal K mg "wrong_part_of_pairs" s_wrong_part_of_pairs ["thing"] A.a_wrong_part_of_pairs A.d_wrong_part_of_pairs
  f_wrong_part_of_halves : Cal K mg "wrong_part_of_halves" s_wrong_part_of_halves ["thing"] A.a_wrong_part_of_halves A.d_wrong_part_of_halves
  f_is_duration : Cal K mg "is_duration" s_is_duration ["thing"] A.a_is_duration A.d_is_duration
  f_are_durations : Cal K mg "are_durations" s_are_durations ["thing"] A.a_are_durations A.d_are_durations
  f_is_pulse_and_gap : Cal K mg "is_pulse_and_gap" s_is_pulse_and_gap ["thing"] A.a_is_pulse_and_gap A.d_is_pulse_and_gap
  f_is_bit_count : Cal K mg "is_bit_count" s_is_bit_count ["thing"] A.a_is_bit_count A.d_is_bit_count
  f__law_begin : Cal K mg "_law_begin" s__law_begin ["script"] A.a__law_begin A.d__law_begin
  f__law_next : Cal K mg "_law_next" s__law_next ["draw", "many"] A.a__law_next A.d__law_next
  f__law_pick : Cal K mg "_law_pick" s__law_pick ["draw", "some"] A.a__law_pick A.d__law_pick
  f__law_size : Cal K mg "_law_size" s__law_size ["draw"] A.a__law_size A.d__law_size
  f__law_table : Cal K mg "_law_table" s__law_table ["draw", "most"] A.a__law_table A.d__law_table
  f__law_words : Cal K mg "_law_words" s__law_words ["many"] A.a__law_words A.d__law_words
  f_law : Cal K mg "law" s_law ["script"] A.a_law A.d_law
  k_is_word_thing_table : BKw A.d_is_word ["table", "thing"] ["thing", "table"] swpL
  k_words_of_table : BKw A.d_words_of ["table"] ["table"] idL
  m_all : mg "all" = none
  m_bool : mg "bool" = none
  m_int : mg "int" = none
  m_isinstance : mg "isinstance" = none
  m_len : mg "len" = none
  m_list : mg "list" = none
  m_range : mg "range" = none
  m_repr : mg "repr" = none
  m_str : mg "str" = none
  m_tuple : mg "tuple" = none
  c_MOST_BITS : ∃ u, mg "MOST_BITS" = some u ∧ RelV (.int 8) u
  c_MOST_DURATION : ∃ u, mg "MOST_DURATION" = some u ∧ RelV (.int 99999) u
section
variable {P : Program} {w : World} {K : PySem.W.Frag} {mg : Str → Option Value} {base : Heap} {A : Adr}
theorem ok_is_whole (T : Txt K mg A) : GOk P w K mg base 1 A.a_is_whole A.d_is_whole ["thing"] (p_is_whole K) := by
  refine okF T.f_is_whole.fn sc_is_whole (fun cdv AA out s H E hr hg => ⟨t_is_whole K, ?_, fun S hmu ds hl hp => so_is_whole hmu hp⟩)
  exact (pss_one (ps_ret (pe_and (pe_callB call_isi (by rfl) T.m_isinstance (by first | exact PySem.boot_isinstance | exact PyProof.Rows.boot_isinstance | decide +kernel) (pa_cons (pv 0) (pa_cons (pe_bltn (v := .ty "int") (by rfl) T.m_int (by first | exact PySem.boot_int | decide +kernel) rfl) pa_nil))) (pe_one (pe_not (pe_callB call_isi (by rfl) T.m_isinstance (by first | exact PySem.boot_isinstance | exact PyProof.Rows.boot_isinstance | decide +kernel) (pa_cons (pv 0) (pa_cons (pe_bltn (v := .ty "bool") (by rfl) T.m_bool (by first | exact PySem.boot_bool | decide +kernel) rfl) pa_nil))))))))
theorem ok_bits_of (T : Txt K mg A) : GOk P w K mg base 1 A.a_bits_of A.d_bits_of ["table"] (p_bits_of K) := by
  refine okF T.f_bits_of.fn sc_bits_of (fun cdv AA out s H E hr hg => ⟨t_bits_of K, ?_, fun S hmu ds hl hp => so_bits_of hmu hp⟩)
  exact (pss_one (ps_ret (pe_ix ix_seq (pv 0) (pe_un un_neg pe_int) (fun _ _ => rfl))))
theorem ok_begins_with (T : Txt K mg A) : GOk P w K mg base 1 A.a_begins_with A.d_begins_with ["thing", "name", "size"] (p_begins_with K) := by
  refine okF T.f_begins_with.fn sc_begins_with (fun cdv AA out s H E hr hg => ⟨t_begins_with K, ?_, fun S hmu ds hl hp => so_begins_with hmu hp⟩)
  exact (pss_cons (ps_if (PW.pt (pw_or (pt_not (pt_val (pe_callB call_isi (by rfl) T.m_isinstance (by first | exact PySem.boot_isinstance | exact PyProof.Rows.boot_isinstance | decide +kernel) (pa_cons (pv 0) (pa_cons (pe_bltn (v := .ty "tuple") (by rfl) T.m_tuple (by first | exact PySem.boot_tuple | decide +kernel) rfl) pa_nil))))) (pw_or1 (pt_cmpR op_ne (pe_callB call_len_seq (by rfl) T.m_len (by first | exact PySem.boot_len | exact PyProof.Rows.boot_len | decide +kernel) (pa_cons (pv 0) pa_nil)) (pv 2) (nomark _))))) (pss_one (ps_ret pe_bl)) pss_nil)
      (pss_one (ps_ret (pe_and (pe_callB call_isi (by rfl) T.m_isinstance (by first | exact PySem.boot_isinstance | exact PyProof.Rows.boot_isinstance | decide +kernel) (pa_cons (pe_ix ix_seq (pv 0) pe_int (fun _ _ => rfl)) (pa_cons (pe_bltn (v := .ty "str") (by rfl) T.m_str (by first | exact PySem.boot_str | decide +kernel) rfl) pa_nil))) (pe_one (pe_cmpR op_eq (pe_ix ix_seq (pv 0) pe_int (fun _ _ => rfl)) (pv 1) (nomark _)))))))
theorem ok__law_begin (T : Txt K mg A) : GOk P w K mg base 1 A.a__law_begin A.d__law_begin ["script"] (p__law_begin K) := by
  refine okG T.f__law_begin.fn sc__law_begin (fun vs H Q E h => ?_) fun cdv AA out s H vs Q E hr hg h => ⟨t__law_begin K, ?_, ?_⟩
  · obtain ⟨s, ns, rfl, _⟩ := h
    rfl
  · exact (pss_one (ps_ret (pe_disp (pps_cons pe_str (pe_op op_catS (pv 0) (pe_lst (pa_cons pe_int pa_nil))) (pps_cons pe_str pe_int (pps_cons pe_str pe_int (pps_cons pe_str pe_int pps_nil)))) (by rfl) (by rfl) (fun z => by cases z) (by decide))))
  · obtain ⟨s, ns, rfl, hs, hl, q⟩ := h
    exact rd__law_begin rfl hs hl q
theorem ok__law_next (T : Txt K mg A) : GOk P w K mg base 1 A.a__law_next A.d__law_next ["draw", "many"] (p__law_next K) := by
  refine okD T.f__law_next.fn sc__law_next rfl (fun cdv AA out s H E hr hg => ⟨t__law_next K, ?_, fun a c cs n ds hc hn hl hp => so__law_next hc hn hp⟩)
  exact (pss_cons (ps_if (pt_cmpR op_gt (pe_dget (hu_of hr) (pv 0) pe_str (fun _ _ => rfl)) pe_int (nomark _)) (pss_cons (ps_asg (pe_tup (pa_cons (pe_dget (hu_of hr) (pv 0) pe_str (fun _ _ => rfl)) (pa_cons (pe_op op_fdivW (pe_dget (hu_of hr) (pv 0) pe_str (fun _ _ => rfl)) (pv 1)) pa_nil))) (pg_tup rfl (pgs_cons (pg_name (i := 2) sc__law_next.nd rfl (Or.inl rfl)) (pgs_cons (pg_sub (pv 0) pe_str (set_dict (hu_of hr))) pgs_nil))))
      (pss_one (ps_ret (pe_op op_mod (pv 2) (pv 1))))) pss_nil)
      (pss_cons (ps_set (i := 3) sc__law_next.nd rfl (Or.inl rfl) (pe_dget (hu_of hr) (pv 0) pe_str (fun _ _ => rfl)))
      (pss_cons (ps_set (i := 2) sc__law_next.nd rfl (Or.inl rfl) (pe_ix ix_seq (pv 3) (pe_op op_mod (pe_dget (hu_of hr) (pv 0) pe_str (fun _ _ => rfl)) (pe_callB call_len_seq (by rfl) T.m_len (by first | exact PySem.boot_len | exact PyProof.Rows.boot_len | decide +kernel) (pa_cons (pv 3) pa_nil))) (fun _ _ => rfl)))
      (pss_cons (ps_asg (pe_op op_add (pe_dget (hu_of hr) (pv 0) pe_str (fun _ _ => rfl)) pe_int) (pg_sub (pv 0) pe_str (set_dict (hu_of hr))))
      (pss_cons (ps_if (PW.pt (pw_and (pt_cmpR op_ge (pv 2) (pe_op op_pow pe_int pe_int) (nomark _)) (pw_and1 (pt_cmpR op_le (pe_dget (hu_of hr) (pv 0) pe_str (fun _ _ => rfl)) (pe_callB call_len_seq (by rfl) T.m_len (by first | exact PySem.boot_len | exact PyProof.Rows.boot_len | decide +kernel) (pa_cons (pv 3) pa_nil)) (nomark _))))) (pss_cons (ps_asg (pe_op op_fdivW (pv 2) (pv 1)) (pg_sub (pv 0) pe_str (set_dict (hu_of hr))))
      (pss_one (ps_ret (pe_op op_mod (pv 2) (pv 1))))) pss_nil)
      (pss_cons (ps_asg (pe_op op_add (pe_dget (hu_of hr) (pv 0) pe_str (fun _ _ => rfl)) pe_int) (pg_sub (pv 0) pe_str (set_dict (hu_of hr))))
      (pss_cons (ps_set (i := 4) sc__law_next.nd rfl (Or.inl rfl) (pe_op op_add (pe_op op_mod (pv 2) pe_int) (pe_op op_mulW (pe_op op_mulW pe_int (pe_dget (hu_of hr) (pv 0) pe_str (fun _ _ => rfl))) (pe_dget (hu_of hr) (pv 0) pe_str (fun _ _ => rfl)))))
      (pss_cons (ps_for PassesOwn.never rfl (pi_tup (pe_tup (pa_cons (pe_dget (hu_of hr) (pv 0) pe_str (fun _ _ => rfl)) (pa_cons (pe_dget (hu_of hr) (pv 0) pe_str (fun _ _ => rfl)) pa_nil)))) (pg_name (i := 5) sc__law_next.nd rfl (Or.inl rfl)) (pss_cons (ps_set (i := 4) sc__law_next.nd rfl (Or.inl rfl) (pe_op op_mod (pe_op op_mulW (pe_op op_add (pe_op op_add (pv 4) (pe_op op_mulW pe_int (pv 5))) pe_int) pe_int) pe_int))
      (pss_one (ps_set (i := 4) sc__law_next.nd rfl (Or.inl rfl) (pe_op op_mod (pe_op op_mulW (pv 4) (pe_op op_add pe_int (pe_op op_mulW pe_int (pe_op op_mod (pv 5) pe_int)))) pe_int)))))
      (pss_one (ps_ret (pe_op op_mod (pe_op op_fdivW (pv 4) pe_int) (pv 1))))))))))))
theorem ok__law_words (T : Txt K mg A) : GOk P w K mg base 1 A.a__law_words A.d__law_words ["many"] (p__law_words K) := by
  refine okF T.f__law_words.fn sc__law_words (fun cdv AA out s H E hr hg => ⟨t__law_words K, ?_, fun S hmu ds hl hp => so__law_words hmu hp⟩)
  exact (pss_cons (ps_set (i := 1) sc__law_words.nd rfl (Or.inl rfl) (pe_lst (pa_cons (pe_tup pa_nil) pa_nil)))
      (pss_cons (ps_for PassesOwn.never rfl (pi_range1 rfl T.m_range (pa_cons (pv 0) pa_nil)) (pg_name (i := 2) sc__law_words.nd rfl (Or.inl rfl)) (pss_one (ps_set (i := 1) sc__law_words.nd rfl (Or.inl rfl) (pe_op op_catS (pe_lc (own := [("word", 3)]) (g := (gName 3)) (tt := tYes) (te := (tOp (rCatA K) (tTup (tCons (tC (.int 0)) tNil)) (tVar 3))) rfl sc__law_words.nd (pi_list (pv 1)) (blkOk_by (own := [("word", 3)]) (N := ["many", "found", "k", "word"]) (sc := defScope s__law_words) (by decide +kernel))  (fun _ _ _ _ _ => (pg_name (i := 3) sc__law_words.nd rfl (Or.inl rfl))) (fun _ _ _ _ _ => pts_nil)  (fun _ _ _ _ _ => (pe_op op_catA (pe_tup (pa_cons pe_int pa_nil)) (pv 3)))) (pe_lc (own := [("word", 3)]) (g := (gName 3)) (tt := tYes) (te := (tOp (rCatA K) (tTup (tCons (tC (.int 1)) tNil)) (tVar 3))) rfl sc__law_words.nd (pi_list (pv 1)) (blkOk_by (own := [("word", 3)]) (N := ["many", "found", "k", "word"]) (sc := defScope s__law_words) (by decide +kernel))  (fun _ _ _ _ _ => (pg_name (i := 3) sc__law_words.nd rfl (Or.inl rfl))) (fun _ _ _ _ _ => pts_nil)  (fun _ _ _ _ _ => (pe_op op_catA (pe_tup (pa_cons pe_int pa_nil)) (pv 3))))))))
      (pss_one (ps_ret (pv 1)))))
theorem ok_is_whole_from (T : Txt K mg A) : GOk P w K mg base 2 A.a_is_whole_from A.d_is_whole_from ["thing", "low", "high"] (p_is_whole_from K) := by
  refine okF T.f_is_whole_from.fn sc_is_whole_from (fun cdv AA out s H E hr hg => ⟨t_is_whole_from K, ?_, fun S hmu ds hl hp => so_is_whole_from hmu hp⟩)
  exact (pss_one (ps_ret (pe_and (pe_g (G := (ok_is_whole T)) (hb := T.f_is_whole.bp) (hm := T.f_is_whole.gl) (hk := T.f_is_whole.fn.kp) (hr := hr.mono (by decide)) (hgd := hg) (hx := passL) (ha := (pa_cons (pv 0) pa_nil))) (pe_one (pe_chain op_le op_le (pv 1) (pv 0) (pv 2))))))
theorem ok__law_pick (T : Txt K mg A) : GOk P w K mg base 2 A.a__law_pick A.d__law_pick ["draw", "some"] (p__law_pick K) := by
  refine okD T.f__law_pick.fn sc__law_pick rfl (fun cdv AA out s H E hr hg => ⟨t__law_pick K, ?_, fun a c cs n ds hc hn hl hp => so__law_pick hc hn hp⟩)
  exact (pss_one (ps_ret (pe_ix ix_seq (pv 1) (pe_g (G := (ok__law_next T)) (hb := T.f__law_next.bp) (hm := T.f__law_next.gl) (hk := T.f__law_next.fn.kp) (hr := hr.mono (by decide)) (hgd := hg) (hx := passL) (ha := (pa_cons (pv 0) (pa_cons (pe_callB call_len_seq (by rfl) T.m_len (by first | exact PySem.boot_len | exact PyProof.Rows.boot_len | decide +kernel) (pa_cons (pv 1) pa_nil)) pa_nil)))) (fun _ _ => rfl))))
theorem ok_is_duration (T : Txt K mg A) : GOk P w K mg base 3 A.a_is_duration A.d_is_duration ["thing"] (p_is_duration K) := by
  refine okF T.f_is_duration.fn sc_is_duration (fun cdv AA out s H E hr hg => ⟨t_is_duration K, ?_, fun S hmu ds hl hp => so_is_duration hmu hp⟩)
  exact (pss_one (ps_ret (pe_g (G := (ok_is_whole_from T)) (hb := T.f_is_whole_from.bp) (hm := T.f_is_whole_from.gl) (hk := T.f_is_whole_from.fn.kp) (hr := hr.mono (by decide)) (hgd := hg) (hx := passL) (ha := (pa_cons (pv 0) (pa_cons pe_int (pa_cons (pe_gc rfl T.c_MOST_DURATION) pa_nil)))))))
theorem ok_is_bit_count (T : Txt K mg A) : GOk P w K mg base 3 A.a_is_bit_count A.d_is_bit_count ["thing"] (p_is_bit_count K) := by
  refine okF T.f_is_bit_count.fn sc_is_bit_count (fun cdv AA out s H E hr hg => ⟨t_is_bit_count K, ?_, fun S hmu ds hl hp => so_is_bit_count hmu hp⟩)
  exact (pss_one (ps_ret (pe_g (G := (ok_is_whole_from T)) (hb := T.f_is_whole_from.bp) (hm := T.f_is_whole_from.gl) (hk := T.f_is_whole_from.fn.kp) (hr := hr.mono (by decide)) (hgd := hg) (hx := passL) (ha := (pa_cons (pv 0) (pa_cons pe_int (pa_cons (pe_gc rfl T.c_MOST_BITS) pa_nil)))))))
theorem ok__law_size (T : Txt K mg A) : GOk P w K mg base 3 A.a__law_size A.d__law_size ["draw"] (p__law_size K) := by
  refine okD T.f__law_size.fn sc__law_size rfl (fun cdv AA out s H E hr hg => ⟨t__law_size K, ?_, fun a c cs n ds hc hn hl hp => so__law_size hc hn hp⟩)
  exact (pss_cons (ps_par (i := 1) (j := 2) (by rfl) sc__law_size.nd rfl rfl (by decide) rfl rfl (pa_cons (pe_op op_add pe_int (pe_g (G := (ok__law_next T)) (hb := T.f__law_next.bp) (hm := T.f__law_next.gl) (hk := T.f__law_next.fn.kp) (hr := hr.mono (by decide)) (hgd := hg) (hx := passL) (ha := (pa_cons (pv 0) (pa_cons pe_int pa_nil))))) (pa_cons (pe_op op_add pe_int (pe_g (G := (ok__law_next T)) (hb := T.f__law_next.bp) (hm := T.f__law_next.gl) (hk := T.f__law_next.fn.kp) (hr := hr.mono (by decide)) (hgd := hg) (hx := passL) (ha := (pa_cons (pv 0) (pa_cons pe_int pa_nil))))) pa_nil)) (by rfl))
      (pss_one (ps_ret (pe_g (G := (ok__law_pick T)) (hb := T.f__law_pick.bp) (hm := T.f__law_pick.gl) (hk := T.f__law_pick.fn.kp) (hr := hr.mono (by decide)) (hgd := hg) (hx := passL) (ha := (pa_cons (pv 0) (pa_cons (pe_lst (pa_cons (pv 1) (pa_cons (pv 1) (pa_cons (pe_op op_add (pv 1) pe_int) (pa_cons (pv 2) (pa_cons pe_int (pa_cons pe_int pa_nil))))))) pa_nil)))))))
theorem ok_wrong_part_of_halves (T : Txt K mg A) : GOk P w K mg base 4 A.a_wrong_part_of_halves A.d_wrong_part_of_halves ["thing"] (p_wrong_part_of_halves K) := by
  refine okF T.f_wrong_part_of_halves.fn sc_wrong_part_of_halves (fun cdv AA out s H E hr hg => ⟨t_wrong_part_of_halves K, ?_, fun S hmu ds hl hp => so_wrong_part_of_halves hmu hp⟩)
  exact (pss_cons (ps_if (pt_not (pt_val (pe_g (G := (ok_is_duration T)) (hb := T.f_is_duration.bp) (hm := T.f_is_duration.gl) (hk := T.f_is_duration.fn.kp) (hr := hr.mono (by decide)) (hgd := hg) (hx := passL) (ha := (pa_cons (pe_ix ix_seq (pv 0) pe_int (fun _ _ => rfl)) pa_nil))))) (pss_one (ps_ret pe_str)) pss_nil)
      (pss_cons (ps_if (pt_not (pt_val (pe_g (G := (ok_is_bit_count T)) (hb := T.f_is_bit_count.bp) (hm := T.f_is_bit_count.gl) (hk := T.f_is_bit_count.fn.kp) (hr := hr.mono (by decide)) (hgd := hg) (hx := passL) (ha := (pa_cons (pe_ix ix_seq (pv 0) pe_int (fun _ _ => rfl)) pa_nil))))) (pss_one (ps_ret pe_str)) pss_nil)
      (pss_one (ps_ret pe_non))))
theorem ok_are_durations (T : Txt K mg A) : GOk P w K mg base 4 A.a_are_durations A.d_are_durations ["thing"] (p_are_durations K) := by
  refine okF T.f_are_durations.fn sc_are_durations (fun cdv AA out s H E hr hg => ⟨t_are_durations K, ?_, fun S hmu ds hl hp => so_are_durations hmu hp⟩)
  exact (pss_one (ps_ret (pe_and (pe_callB call_isi (by rfl) T.m_isinstance (by first | exact PySem.boot_isinstance | exact PyProof.Rows.boot_isinstance | decide +kernel) (pa_cons (pv 0) (pa_cons (pe_bltn (v := .ty "tuple") (by rfl) T.m_tuple (by first | exact PySem.boot_tuple | decide +kernel) rfl) pa_nil))) (pe_one (pe_callB (cr_all rfl) (by rfl) T.m_all (by first | exact PySem.boot_all | exact PyProof.Rows.boot_all | decide +kernel) (pa_cons (pe_lc (own := [("part", 1)]) (g := (gName 1)) (tt := tYes) (te := (tCall (p_is_duration K) [] E0 (tCons (tVar 1) tNil))) rfl sc_are_durations.nd (pi_tup (pv 0)) (blkOk_by (own := [("part", 1)]) (N := ["thing", "part"]) (sc := defScope s_are_durations) (by decide +kernel))  (fun _ _ _ _ _ => (pg_name (i := 1) sc_are_durations.nd rfl (Or.inl rfl))) (fun _ _ _ _ _ => pts_nil)  (fun _ _ _ _ _ => (pe_g (G := (ok_is_duration T)) (hb := T.f_is_duration.bp) (hm := T.f_is_duration.gl) (hk := T.f_is_duration.fn.kp) (hr := hr.mono (by decide)) (hgd := hg) (hx := passL) (ha := (pa_cons (pv 1) pa_nil))))) pa_nil))))))
theorem ok__law_table (T : Txt K mg A) : GOk P w K mg base 4 A.a__law_table A.d__law_table ["draw", "most"] (p__law_table K) := by
  refine okD T.f__law_table.fn sc__law_table rfl (fun cdv AA out s H E hr hg => ⟨t__law_table K, ?_, fun a c cs n ds hc hn hl hp => so__law_table hc hn hp⟩)
  exact (pss_cons (ps_set (i := 2) sc__law_table.nd rfl (Or.inl rfl) (pe_op op_add pe_int (pe_g (G := (ok__law_next T)) (hb := T.f__law_next.bp) (hm := T.f__law_next.gl) (hk := T.f__law_next.fn.kp) (hr := hr.mono (by decide)) (hgd := hg) (hx := passL) (ha := (pa_cons (pv 0) (pa_cons (pv 1) pa_nil))))))
      (pss_cons (ps_if (pt_cmpR op_eq (pe_g (G := (ok__law_next T)) (hb := T.f__law_next.bp) (hm := T.f__law_next.gl) (hk := T.f__law_next.fn.kp) (hr := hr.mono (by decide)) (hgd := hg) (hx := passL) (ha := (pa_cons (pv 0) (pa_cons pe_int pa_nil)))) pe_int (nomark _)) (pss_one (ps_ret (pe_tup (pa_cons pe_str (pa_cons (pe_g (G := (ok__law_size T)) (hb := T.f__law_size.bp) (hm := T.f__law_size.gl) (hk := T.f__law_size.fn.kp) (hr := hr.mono (by decide)) (hgd := hg) (hx := passL) (ha := (pa_cons (pv 0) pa_nil))) (pa_cons (pv 2) pa_nil)))))) pss_nil)
      (pss_cons (ps_set (i := 3) sc__law_table.nd rfl (Or.inl rfl) (pe_callTy call_tuple_of (by rfl) T.m_tuple (by first | exact PySem.boot_tuple | exact PyProof.Rows.boot_tuple | decide +kernel) (pa_cons (pe_lc (own := [("k", 4)]) (g := (gName 4)) (tt := tYes) (te := (tCall (p__law_size K) [] E0 (tCons (tVar 0) tNil))) rfl sc__law_table.nd (pi_range1 rfl T.m_range (pa_cons (pe_ix ix_list (pe_lst (pa_cons pe_int (pa_cons pe_int (pa_cons pe_int (pa_cons pe_int pa_nil))))) (pe_g (G := (ok__law_next T)) (hb := T.f__law_next.bp) (hm := T.f__law_next.gl) (hk := T.f__law_next.fn.kp) (hr := hr.mono (by decide)) (hgd := hg) (hx := passL) (ha := (pa_cons (pv 0) (pa_cons pe_int pa_nil)))) (fun _ _ => rfl)) pa_nil)) (blkOk_by (own := [("k", 4)]) (N := ["draw", "most", "bits", "header", "k", "zero", "one"]) (sc := defScope s__law_table) (by decide +kernel))  (fun _ _ _ _ _ => (pg_name (i := 4) sc__law_table.nd rfl (Or.inl rfl))) (fun _ _ _ _ _ => pts_nil)  (fun _ _ _ _ _ => (pe_g (G := (ok__law_size T)) (hb := T.f__law_size.bp) (hm := T.f__law_size.gl) (hk := T.f__law_size.fn.kp) (hr := hr.mono (by decide)) (hgd := hg) (hx := passL) (ha := (pa_cons (pv 0) pa_nil))))) pa_nil)))
      (pss_cons (ps_par (i := 5) (j := 6) (by rfl) sc__law_table.nd rfl rfl (by decide) rfl rfl (pa_cons (pe_tup (pa_cons (pe_g (G := (ok__law_size T)) (hb := T.f__law_size.bp) (hm := T.f__law_size.gl) (hk := T.f__law_size.fn.kp) (hr := hr.mono (by decide)) (hgd := hg) (hx := passL) (ha := (pa_cons (pv 0) pa_nil))) (pa_cons (pe_g (G := (ok__law_size T)) (hb := T.f__law_size.bp) (hm := T.f__law_size.gl) (hk := T.f__law_size.fn.kp) (hr := hr.mono (by decide)) (hgd := hg) (hx := passL) (ha := (pa_cons (pv 0) pa_nil))) pa_nil))) (pa_cons (pe_tup (pa_cons (pe_g (G := (ok__law_size T)) (hb := T.f__law_size.bp) (hm := T.f__law_size.gl) (hk := T.f__law_size.fn.kp) (hr := hr.mono (by decide)) (hgd := hg) (hx := passL) (ha := (pa_cons (pv 0) pa_nil))) (pa_cons (pe_g (G := (ok__law_size T)) (hb := T.f__law_size.bp) (hm := T.f__law_size.gl) (hk := T.f__law_size.fn.kp) (hr := hr.mono (by decide)) (hgd := hg) (hx := passL) (ha := (pa_cons (pv 0) pa_nil))) pa_nil))) pa_nil)) (by rfl))
      (pss_cons (ps_if (pt_cmpR (op_eqD hr.units) (pv 6) (pv 5) (nomark _)) (pss_one (ps_set (i := 6) sc__law_table.nd rfl (Or.inl rfl) (pe_tup (pa_cons (pe_ix ix_seq (pv 5) pe_int (fun _ _ => rfl)) (pa_cons (pe_op op_add (pe_op op_add (pe_op op_mod (pe_ix ix_seq (pv 5) pe_int (fun _ _ => rfl)) pe_int) pe_int) (pe_callTy call_int1 (by rfl) T.m_int (by first | exact PySem.boot_int | exact PyProof.Rows.boot_int | decide +kernel) (pa_cons (pe_cmpR op_gt (pe_ix ix_seq (pv 5) pe_int (fun _ _ => rfl)) pe_int (nomark _)) pa_nil))) pa_nil))))) pss_nil)
      (pss_one (ps_ret (pe_tup (pa_cons pe_str (pa_cons (pv 3) (pa_cons (pv 5) (pa_cons (pv 6) (pa_cons (pe_g (G := (ok__law_size T)) (hb := T.f__law_size.bp) (hm := T.f__law_size.gl) (hk := T.f__law_size.fn.kp) (hr := hr.mono (by decide)) (hgd := hg) (hx := passL) (ha := (pa_cons (pv 0) pa_nil))) (pa_cons (pv 2) pa_nil))))))))))))))
theorem ok_is_pulse_and_gap (T : Txt K mg A) : GOk P w K mg base 5 A.a_is_pulse_and_gap A.d_is_pulse_and_gap ["thing"] (p_is_pulse_and_gap K) := by
  refine okF T.f_is_pulse_and_gap.fn sc_is_pulse_and_gap (fun cdv AA out s H E hr hg => ⟨t_is_pulse_and_gap K, ?_, fun S hmu ds hl hp => so_is_pulse_and_gap hmu hp⟩)
  exact (pss_one (ps_ret (pe_and (pe_g (G := (ok_are_durations T)) (hb := T.f_are_durations.bp) (hm := T.f_are_durations.gl) (hk := T.f_are_durations.fn.kp) (hr := hr.mono (by decide)) (hgd := hg) (hx := passL) (ha := (pa_cons (pv 0) pa_nil))) (pe_one (pe_cmpR op_eq (pe_callB call_len_seq (by rfl) T.m_len (by first | exact PySem.boot_len | exact PyProof.Rows.boot_len | decide +kernel) (pa_cons (pv 0) pa_nil)) pe_int (nomark _))))))
theorem ok_wrong_part_of_pairs (T : Txt K mg A) : GOk P w K mg base 6 A.a_wrong_part_of_pairs A.d_wrong_part_of_pairs ["thing"] (p_wrong_part_of_pairs K) := by
  refine okF T.f_wrong_part_of_pairs.fn sc_wrong_part_of_pairs (fun cdv AA out s H E hr hg => ⟨t_wrong_part_of_pairs K, ?_, fun S hmu ds hl hp => so_wrong_part_of_pairs hmu hp⟩)
  exact (pss_cons (ps_asg (pe_slice sl_tupA (pv 0) (po_some pe_int) po_none) (pg_tup rfl (pgs_cons (pg_name (i := 1) sc_wrong_part_of_pairs.nd rfl (Or.inl rfl)) (pgs_cons (pg_name (i := 2) sc_wrong_part_of_pairs.nd rfl (Or.inl rfl)) (pgs_cons (pg_name (i := 3) sc_wrong_part_of_pairs.nd rfl (Or.inl rfl)) (pgs_cons (pg_name (i := 4) sc_wrong_part_of_pairs.nd rfl (Or.inl rfl)) (pgs_cons (pg_name (i := 5) sc_wrong_part_of_pairs.nd rfl (Or.inl rfl)) pgs_nil)))))))
      (pss_cons (ps_if (pt_not (PW.pt (pw_and (pt_val (pe_g (G := (ok_are_durations T)) (hb := T.f_are_durations.bp) (hm := T.f_are_durations.gl) (hk := T.f_are_durations.fn.kp) (hr := hr.mono (by decide)) (hgd := hg) (hx := passL) (ha := (pa_cons (pv 1) pa_nil)))) (pw_and1 (pt_cmpR op_in_seq (pe_callB call_len_seq (by rfl) T.m_len (by first | exact PySem.boot_len | exact PyProof.Rows.boot_len | decide +kernel) (pa_cons (pv 1) pa_nil)) (pe_tup (pa_cons pe_int (pa_cons pe_int (pa_cons pe_int pa_nil)))) (by rfl)))))) (pss_one (ps_ret pe_str)) pss_nil)
      (pss_cons (ps_if (pt_not (pt_val (pe_g (G := (ok_is_pulse_and_gap T)) (hb := T.f_is_pulse_and_gap.bp) (hm := T.f_is_pulse_and_gap.gl) (hk := T.f_is_pulse_and_gap.fn.kp) (hr := hr.mono (by decide)) (hgd := hg) (hx := passL) (ha := (pa_cons (pv 2) pa_nil))))) (pss_one (ps_ret pe_str)) pss_nil)
      (pss_cons (ps_if (PW.pt (pw_or (pt_not (pt_val (pe_g (G := (ok_is_pulse_and_gap T)) (hb := T.f_is_pulse_and_gap.bp) (hm := T.f_is_pulse_and_gap.gl) (hk := T.f_is_pulse_and_gap.fn.kp) (hr := hr.mono (by decide)) (hgd := hg) (hx := passL) (ha := (pa_cons (pv 3) pa_nil))))) (pw_or1 (pt_cmpR (op_eqD hr.units) (pv 3) (pv 2) (nomark _))))) (pss_one (ps_ret pe_str)) pss_nil)
      (pss_cons (ps_if (pt_not (pt_val (pe_g (G := (ok_is_duration T)) (hb := T.f_is_duration.bp) (hm := T.f_is_duration.gl) (hk := T.f_is_duration.fn.kp) (hr := hr.mono (by decide)) (hgd := hg) (hx := passL) (ha := (pa_cons (pv 4) pa_nil))))) (pss_one (ps_ret pe_str)) pss_nil)
      (pss_cons (ps_if (pt_not (pt_val (pe_g (G := (ok_is_bit_count T)) (hb := T.f_is_bit_count.bp) (hm := T.f_is_bit_count.gl) (hk := T.f_is_bit_count.fn.kp) (hr := hr.mono (by decide)) (hgd := hg) (hx := passL) (ha := (pa_cons (pv 5) pa_nil))))) (pss_one (ps_ret pe_str)) pss_nil)
      (pss_one (ps_ret pe_non))))))))
theorem ok_need_table (T : Txt K mg A) : GOk P w K mg base 7 A.a_need_table A.d_need_table ["thing"] (p_need_table K) := by
  refine okF T.f_need_table.fn sc_need_table (fun cdv AA out s H E hr hg => ⟨t_need_table K, ?_, fun S hmu ds hl hp => so_need_table hmu hp⟩)
  exact (pss_cons (ps_if (pt_val (pe_g (G := (ok_begins_with T)) (hb := T.f_begins_with.bp) (hm := T.f_begins_with.gl) (hk := T.f_begins_with.fn.kp) (hr := hr.mono (by decide)) (hgd := hg) (hx := passL) (ha := (pa_cons (pv 0) (pa_cons pe_str (pa_cons pe_int pa_nil)))))) (pss_one (ps_set (i := 1) sc_need_table.nd rfl (Or.inl rfl) (pe_g (G := (ok_wrong_part_of_pairs T)) (hb := T.f_wrong_part_of_pairs.bp) (hm := T.f_wrong_part_of_pairs.gl) (hk := T.f_wrong_part_of_pairs.fn.kp) (hr := hr.mono (by decide)) (hgd := hg) (hx := passL) (ha := (pa_cons (pv 0) pa_nil))))) (pss_one (ps_if (pt_val (pe_g (G := (ok_begins_with T)) (hb := T.f_begins_with.bp) (hm := T.f_begins_with.gl) (hk := T.f_begins_with.fn.kp) (hr := hr.mono (by decide)) (hgd := hg) (hx := passL) (ha := (pa_cons (pv 0) (pa_cons pe_str (pa_cons pe_int pa_nil)))))) (pss_one (ps_set (i := 1) sc_need_table.nd rfl (Or.inl rfl) (pe_g (G := (ok_wrong_part_of_halves T)) (hb := T.f_wrong_part_of_halves.bp) (hm := T.f_wrong_part_of_halves.gl) (hk := T.f_wrong_part_of_halves.fn.kp) (hr := hr.mono (by decide)) (hgd := hg) (hx := passL) (ha := (pa_cons (pv 0) pa_nil))))) (pss_one (ps_set (i := 1) sc_need_table.nd rfl (Or.inl rfl) pe_str)))))
      (pss_cons (ps_if (pt_cmpR op_notN (pv 1) pe_non (nomark _)) (pss_one ps_never) pss_nil)
      (pss_one (ps_ret (pv 0)))))
theorem ok_is_word (T : Txt K mg A) : GOk P w K mg base 8 A.a_is_word A.d_is_word ["table", "thing"] (p_is_word K) := by
  refine okF T.f_is_word.fn sc_is_word (fun cdv AA out s H E hr hg => ⟨t_is_word K, ?_, fun S hmu ds hl hp => so_is_word hmu hp⟩)
  exact (pss_cons (ps_expr (pe_g (G := (ok_need_table T)) (hb := T.f_need_table.bp) (hm := T.f_need_table.gl) (hk := T.f_need_table.fn.kp) (hr := hr.mono (by decide)) (hgd := hg) (hx := passL) (ha := (pa_cons (pv 0) pa_nil))))
      (pss_cons (ps_if (PW.pt (pw_or (pt_not (pt_val (pe_callB call_isi (by rfl) T.m_isinstance (by first | exact PySem.boot_isinstance | exact PyProof.Rows.boot_isinstance | decide +kernel) (pa_cons (pv 1) (pa_cons (pe_bltn (v := .ty "tuple") (by rfl) T.m_tuple (by first | exact PySem.boot_tuple | decide +kernel) rfl) pa_nil))))) (pw_or1 (pt_cmpR op_ne (pe_callB call_len_seq (by rfl) T.m_len (by first | exact PySem.boot_len | exact PyProof.Rows.boot_len | decide +kernel) (pa_cons (pv 1) pa_nil)) (pe_g (G := (ok_bits_of T)) (hb := T.f_bits_of.bp) (hm := T.f_bits_of.gl) (hk := T.f_bits_of.fn.kp) (hr := hr.mono (by decide)) (hgd := hg) (hx := passL) (ha := (pa_cons (pv 0) pa_nil))) (nomark _))))) (pss_one (ps_ret pe_bl)) pss_nil)
      (pss_one (ps_ret (pe_callB (cr_all rfl) (by rfl) T.m_all (by first | exact PySem.boot_all | exact PyProof.Rows.boot_all | decide +kernel) (pa_cons (pe_lc (own := [("bit", 2)]) (g := (gName 2)) (tt := tYes) (te := (tCall (p_is_whole_from K) [] E0 (tCons (tVar 2) (tCons (tC (.int 0)) (tCons (tC (.int 1)) tNil))))) rfl sc_is_word.nd (pi_tup (pv 1)) (blkOk_by (own := [("bit", 2)]) (N := ["table", "thing", "bit"]) (sc := defScope s_is_word) (by decide +kernel))  (fun _ _ _ _ _ => (pg_name (i := 2) sc_is_word.nd rfl (Or.inl rfl))) (fun _ _ _ _ _ => pts_nil)  (fun _ _ _ _ _ => (pe_g (G := (ok_is_whole_from T)) (hb := T.f_is_whole_from.bp) (hm := T.f_is_whole_from.gl) (hk := T.f_is_whole_from.fn.kp) (hr := hr.mono (by decide)) (hgd := hg) (hx := passL) (ha := (pa_cons (pv 2) (pa_cons pe_int (pa_cons pe_int pa_nil))))))) pa_nil))))))
theorem ok_words_of (T : Txt K mg A) : GOk P w K mg base 8 A.a_words_of A.d_words_of ["table"] (p_words_of K) := by
  refine okNew T.f_words_of.fn sc_words_of (fun cdv AA out s H E hr hg => ⟨t_words_of K, ?_, fun H0 ds hl hp => so_words_of hp⟩)
  exact (pss_cons (ps_expr (pe_g (G := (ok_need_table T)) (hb := T.f_need_table.bp) (hm := T.f_need_table.gl) (hk := T.f_need_table.fn.kp) (hr := hr.mono (by decide)) (hgd := hg) (hx := passL) (ha := (pa_cons (pv 0) pa_nil))))
      (pss_cons (ps_set (i := 1) sc_words_of.nd rfl (Or.inl rfl) (pe_lst (pa_cons (pe_tup pa_nil) pa_nil)))
      (pss_cons (ps_for PassesOwn.never rfl (pi_range1 rfl T.m_range (pa_cons (pe_g (G := (ok_bits_of T)) (hb := T.f_bits_of.bp) (hm := T.f_bits_of.gl) (hk := T.f_bits_of.fn.kp) (hr := hr.mono (by decide)) (hgd := hg) (hx := passL) (ha := (pa_cons (pv 0) pa_nil))) pa_nil)) (pg_name (i := 2) sc_words_of.nd rfl (Or.inl rfl)) (pss_one (ps_setLc2 (i := 1) (own := [("word", 3), ("bit", 4)]) (g := (gName 3)) (tt := tYes) (te := (tTup (StX.tStar K (tVar 3) (tCons (tVar 4) tNil)))) (vs1 := [4]) (wi1 := (iTup K (tTup (tCons (tC (.int 0)) (tCons (tC (.int 1)) tNil))))) (g1 := (gName 4)) (tt1 := tYes) rfl sc_words_of.nd rfl rfl (sw_true rfl rfl rfl (by decide +kernel)) (pi_list (pv 1)) (blkOk_by (own := [("word", 3), ("bit", 4)]) (N := ["table", "words", "_", "word", "bit"]) (sc := defScope s_words_of) (by decide +kernel)) (by decide) (fun _ _ _ _ _ => (pg_name (i := 3) sc_words_of.nd rfl (Or.inl rfl))) (fun _ _ _ _ _ => pts_nil) (fun _ _ _ _ _ => (pi_tup (pe_tup (pa_cons pe_int (pa_cons pe_int pa_nil))))) (fun _ _ _ _ _ => (pg_name (i := 4) sc_words_of.nd rfl (Or.inl rfl))) (fun _ _ _ _ _ => pts_nil) (fun _ _ _ _ _ => (pe_tup (StX.pa_star (pv 3) (pa_cons (pv 4) pa_nil)))))))
      (pss_one (ps_ret (pv 1))))))
theorem ok_law (T : Txt K mg A) : GOk P w K mg base 9 A.a_law A.d_law ["script"] (p_law K) := by
  refine okG T.f_law.fn sc_law (fun vs H Q E h => ?_) fun cdv AA out s H vs Q E hr hg h => ⟨t_law K, ?_, ?_⟩
  · obtain ⟨s, ns, rfl, _⟩ := h
    rfl
  · exact PSs.nox (pss_cons (ps_set (i := 1) sc_law.nd rfl (Or.inl rfl) (pe_g (G := (ok__law_begin T)) (hb := T.f__law_begin.bp) (hm := T.f__law_begin.gl) (hk := T.f__law_begin.fn.kp) (hr := hr.mono (by decide)) (hgd := hg) (hx := passL) (ha := (pa_cons (pv 0) pa_nil))))
      (pss_cons (ps_for PassesOwn.never rfl (pi_range1 rfl T.m_range (pa_cons pe_int pa_nil)) (pg_name (i := 2) sc_law.nd rfl (Or.inl rfl)) (pss_cons (ps_set (i := 3) sc_law.nd rfl (Or.inl rfl) (pe_g (G := (ok__law_table T)) (hb := T.f__law_table.bp) (hm := T.f__law_table.gl) (hk := T.f__law_table.fn.kp) (hr := hr.mono (by decide)) (hgd := hg) (hx := passL) (ha := (pa_cons (pv 1) (pa_cons pe_int pa_nil)))))
      (pss_cons (ps_set (i := 4) sc_law.nd rfl (Or.inl rfl) (pe_g (G := (ok_words_of T)) (hb := T.f_words_of.bp) (hm := T.f_words_of.gl) (hk := T.f_words_of.fn.kp) (hr := hr.mono (by decide)) (hgd := hg) (hx := passL) (ha := (pa_cons (pv 3) pa_nil))))
      (pss_cons (ps_if (PW.pt (pw_or (pt_cmpR (op_neD hr.units) (pv 4) (pe_g (G := (ok__law_words T)) (hb := T.f__law_words.bp) (hm := T.f__law_words.gl) (hk := T.f__law_words.fn.kp) (hr := hr.mono (by decide)) (hgd := hg) (hx := passL) (ha := (pa_cons (pe_ix ix_seq (pv 3) (pe_un un_neg pe_int) (fun _ _ => rfl)) pa_nil))) (nomark _)) (pw_or1 (pt_cmpR op_ne (pe_callB (call_reprD hg (lt70 hr)) (by rfl) T.m_repr (by first | exact PySem.boot_repr | exact PyProof.Rows.boot_repr | decide +kernel) (pa_cons (pe_gw (G := (ok_words_of T)) (hb := T.k_words_of_table) (hgv := kwv) (hm := T.f_words_of.gl) (hk := T.f_words_of.fn.kp) (hr := hr.mono (by decide)) (hgd := hg) (hx := passL) (hkw := (pk_cons (pv 3) pk_nil))) pa_nil)) (pe_callB (call_reprD hg (lt70 hr)) (by rfl) T.m_repr (by first | exact PySem.boot_repr | exact PyProof.Rows.boot_repr | decide +kernel) (pa_cons (pv 4) pa_nil)) (nomark _))))) (pss_one (ps_ret pe_bl)) pss_nil)
      (pss_cons (ps_set (i := 5) sc_law.nd rfl (Or.inl rfl) (pe_g (G := (ok__law_pick T)) (hb := T.f__law_pick.bp) (hm := T.f__law_pick.gl) (hk := T.f__law_pick.fn.kp) (hr := hr.mono (by decide)) (hgd := hg) (hx := passL) (ha := (pa_cons (pv 1) (pa_cons (pv 4) pa_nil)))))
      (pss_cons (ps_if (PW.pt (pw_or (pt_cmpR op_notBl (pe_g (G := (ok_is_word T)) (hb := T.f_is_word.bp) (hm := T.f_is_word.gl) (hk := T.f_is_word.fn.kp) (hr := hr.mono (by decide)) (hgd := hg) (hx := passL) (ha := (pa_cons (pv 3) (pa_cons (pv 5) pa_nil)))) pe_bl (nomark _)) (pw_or1 (pt_cmpR op_notBl (pe_gw (G := (ok_is_word T)) (hb := T.k_is_word_thing_table) (hgv := kws) (hm := T.f_is_word.gl) (hk := T.f_is_word.fn.kp) (hr := hr.mono (by decide)) (hgd := hg) (hx := passL) (hkw := (pk_cons (pv 5) (pk_cons (pv 3) pk_nil)))) pe_bl (nomark _))))) (pss_one (ps_ret pe_bl)) pss_nil)
      (pss_cons (ps_set (i := 6) sc_law.nd rfl (Or.inl rfl) (pe_g (G := (ok__law_next T)) (hb := T.f__law_next.bp) (hm := T.f__law_next.gl) (hk := T.f__law_next.fn.kp) (hr := hr.mono (by decide)) (hgd := hg) (hx := passL) (ha := (pa_cons (pv 1) (pa_cons (pe_callB call_len_seq (by rfl) T.m_len (by first | exact PySem.boot_len | exact PyProof.Rows.boot_len | decide +kernel) (pa_cons (pv 5) pa_nil)) pa_nil)))))
      (pss_cons (ps_for PassesOwn.never rfl (pi_tup (pe_tup (pa_cons pe_int (pa_cons (pe_un un_neg pe_int) (pa_cons pe_bl (pa_cons pe_non (pa_cons pe_str (pa_cons (pe_tup (pa_cons pe_int pa_nil)) (pa_cons (pe_op op_pow pe_int pe_int) pa_nil))))))))) (pg_name (i := 7) sc_law.nd rfl (Or.inl rfl)) (pss_one (ps_if (pt_cmpR op_notBl (pe_g (G := (ok_is_word T)) (hb := T.f_is_word.bp) (hm := T.f_is_word.gl) (hk := T.f_is_word.fn.kp) (hr := hr.mono (by decide)) (hgd := hg) (hx := passL) (ha := (pa_cons (pv 3) (pa_cons (pe_op op_catA (pe_op op_catA (pe_slice sl_tupA (pv 5) po_none (po_some (pv 6))) (pe_tup (pa_cons (pv 7) pa_nil))) (pe_slice sl_tupA (pv 5) (po_some (pe_op op_add (pv 6) pe_int)) po_none)) pa_nil)))) pe_bl (nomark _)) (pss_one (ps_ret pe_bl)) pss_nil)))
      (pss_cons (ps_for PassesOwn.never rfl (pi_tup (pe_tup (pa_cons (pe_callTy call_list_of (by rfl) T.m_list (by first | exact PySem.boot_list | exact PyProof.Rows.boot_list | decide +kernel) (pa_cons (pv 5) pa_nil)) (pa_cons (pe_op op_catA (pv 5) (pe_tup (pa_cons pe_int pa_nil))) (pa_cons (pe_slice sl_tupA (pv 5) (po_some pe_int) po_none) (pa_cons pe_non (pa_cons pe_int (pa_cons pe_str (pa_cons pe_dnewK (pa_cons (pe_tup (pa_cons (pv 5) pa_nil)) (pa_cons (pe_tup pa_nil) pa_nil))))))))))) (pg_name (i := 7) sc_law.nd rfl (Or.inl rfl)) (pss_one (ps_if (pt_cmpR op_notBl (pe_g (G := (ok_is_word T)) (hb := T.f_is_word.bp) (hm := T.f_is_word.gl) (hk := T.f_is_word.fn.kp) (hr := hr.mono (by decide)) (hgd := hg) (hx := passL) (ha := (pa_cons (pv 3) (pa_cons (pv 7) pa_nil)))) pe_bl (nomark _)) (pss_one (ps_ret pe_bl)) pss_nil)))
      (pss_cons (ps_expr (pe_bm PySem.F.plainAttrs_list PySem.F.slot_list_append PySem.F.type_list_append mt_append (pv 4) (pa_cons pe_int pa_nil)))
      (pss_one (ps_if (pt_cmpR (op_neD hr.units) (pe_g (G := (ok_words_of T)) (hb := T.f_words_of.bp) (hm := T.f_words_of.gl) (hk := T.f_words_of.fn.kp) (hr := hr.mono (by decide)) (hgd := hg) (hx := passL) (ha := (pa_cons (pv 3) pa_nil))) (pe_g (G := (ok__law_words T)) (hb := T.f__law_words.bp) (hm := T.f__law_words.gl) (hk := T.f__law_words.fn.kp) (hr := hr.mono (by decide)) (hgd := hg) (hx := passL) (ha := (pa_cons (pe_ix ix_seq (pv 3) (pe_un un_neg pe_int) (fun _ _ => rfl)) pa_nil))) (nomark _)) (pss_one (ps_ret pe_bl)) pss_nil))))))))))))
      (pss_one (ps_ret pe_bl))))
  · obtain ⟨s, ns, rfl, hs, hl, q⟩ := h
    refine ⟨.ref s, rfl, s, ns, rfl, hs, hl, fun p c H' g i => ?_⟩
    have i0 := dw_of (n := 0) (Int.le_refl 0) (Int.le_refl 0) (Int.le_refl 0) (Int.le_refl 0) (Int.le_refl 0) H' i
    refine so_law (x0 := some (.raw (.ref s))) (fun d e => by cases e; rfl) (by simp) _ _ H' H' ⟨Gr.refl H', dw_le (by decide) H' i0, fun _ z => nomatch z⟩ i0 ((slots_start (N := ["script", "draw", "turn", "chart", "words", "word", "at", "odd"]) (.cons (.raw (.ref s)) .nil)).set (v := .ref p) (.raw (.ref p)) 1) ⟨fun _ _ _ _ _ _ z => z.elim, fun v d H2 g2 i2 r e => ?_, fun _ _ _ _ _ _ z => z.elim, fun _ _ _ _ _ _ z => z.elim⟩
    cases e
    obtain rfl := r.blI
    exact q H2
end
end Bf
namespace Bf
open PySem PySem.Spec PyProof.Rows L2
theorem all_mk {l : PySem.W.OpenLaw} {w : World} {K : PySem.W.Frag} {h : Heap} {mg : Str → Option Value} {fa : Addr} (X : K.In h) (G : h.Ns mainGlobals mg) (hfa : mg "law" = some (.ref fa)) (hl : l.prog = PySem.Challenge.pw_beamframes_k04_words)
    {f1 f2 f3 f4 f5 f6 f7 f8 f9 f10 f11 f12 f13 f14 f15 f16 f17 f18 f19 f20 : Addr}
    {od1 an1 : Option Addr} {sl1 : Array (Option Value)} {oc1 kV1 dc1 pm1 cd1 ct1 : Value}
    (a1 : PySem.W.nsIn K mainGlobals "is_whole" = some (some (.ref f1))) (l1 : K.lookup f1 = some ⟨oc1, od1, .func (PySem.W.fnOf "is_whole" "is_whole" (defArgs s_is_whole) (defBody s_is_whole) (defScope s_is_whole) .none kV1 dc1 pm1 an1 cd1 ct1), sl1⟩) (c1 : PySem.W.codeIn K cd1 "is_whole" = true) (k1 : PySem.W.keepIn K (.ref f1) = true)
    {od2 an2 : Option Addr} {sl2 : Array (Option Value)} {oc2 kV2 dc2 pm2 cd2 ct2 : Value}
    (a2 : PySem.W.nsIn K mainGlobals "is_whole_from" = some (some (.ref f2))) (l2 : K.lookup f2 = some ⟨oc2, od2, .func (PySem.W.fnOf "is_whole_from" "is_whole_from" (defArgs s_is_whole_from) (defBody s_is_whole_from) (defScope s_is_whole_from) .none kV2 dc2 pm2 an2 cd2 ct2), sl2⟩) (c2 : PySem.W.codeIn K cd2 "is_whole_from" = true) (k2 : PySem.W.keepIn K (.ref f2) = true)
    {od3 an3 : Option Addr} {sl3 : Array (Option Value)} {oc3 kV3 dc3 pm3 cd3 ct3 : Value}
    (a3 : PySem.W.nsIn K mainGlobals "need_table" = some (some (.ref f3))) (l3 : K.lookup f3 = some ⟨oc3, od3, .func (PySem.W.fnOf "need_table" "need_table" (defArgs s_need_table) (defBody s_need_table) (defScope s_need_table) .none kV3 dc3 pm3 an3 cd3 ct3), sl3⟩) (c3 : PySem.W.codeIn K cd3 "need_table" = true) (k3 : PySem.W.keepIn K (.ref f3) = true)
    {od4 an4 : Option Addr} {sl4 : Array (Option Value)} {oc4 kV4 dc4 pm4 cd4 ct4 : Value}
    (a4 : PySem.W.nsIn K mainGlobals "is_word" = some (some (.ref f4))) (l4 : K.lookup f4 = some ⟨oc4, od4, .func (PySem.W.fnOf "is_word" "is_word" (defArgs s_is_word) (defBody s_is_word) (defScope s_is_word) .none kV4 dc4 pm4 an4 cd4 ct4), sl4⟩) (c4 : PySem.W.codeIn K cd4 "is_word" = true) (k4 : PySem.W.keepIn K (.ref f4) = true)
    {od5 an5 : Option Addr} {sl5 : Array (Option Value)} {oc5 kV5 dc5 pm5 cd5 ct5 : Value}
    (a5 : PySem.W.nsIn K mainGlobals "words_of" = some (some (.ref f5))) (l5 : K.lookup f5 = some ⟨oc5, od5, .func (PySem.W.fnOf "words_of" "words_of" (defArgs s_words_of) (defBody s_words_of) (defScope s_words_of) .none kV5 dc5 pm5 an5 cd5 ct5), sl5⟩) (c5 : PySem.W.codeIn K cd5 "words_of" = true) (k5 : PySem.W.keepIn K (.ref f5) = true)
    {od6 an6 : Option Addr} {sl6 : Array (Option Value)} {oc6 kV6 dc6 pm6 cd6 ct6 : Value}
    (a6 : PySem.W.nsIn K mainGlobals "bits_of" = some (some (.ref f6))) (l6 : K.lookup f6 = some ⟨oc6, od6, .func (PySem.W.fnOf "bits_of" "bits_of" (defArgs s_bits_of) (defBody s_bits_of) (defScope s_bits_of) .none kV6 dc6 pm6 an6 cd6 ct6), sl6⟩) (c6 : PySem.W.codeIn K cd6 "bits_of" = true) (k6 : PySem.W.keepIn K (.ref f6) = true)
    {od7 an7 : Option Addr} {sl7 : Array (Option Value)} {oc7 kV7 dc7 pm7 cd7 ct7 : Value}
    (a7 : PySem.W.nsIn K mainGlobals "begins_with" = some (some (.ref f7))) (l7 : K.lookup f7 = some ⟨oc7, od7, .func (PySem.W.fnOf "begins_with" "begins_with" (defArgs s_begins_with) (defBody s_begins_with) (defScope s_begins_with) .none kV7 dc7 pm7 an7 cd7 ct7), sl7⟩) (c7 : PySem.W.codeIn K cd7 "begins_with" = true) (k7 : PySem.W.keepIn K (.ref f7) = true)
    {od8 an8 : Option Addr} {sl8 : Array (Option Value)} {oc8 kV8 dc8 pm8 cd8 ct8 : Value}
    (a8 : PySem.W.nsIn K mainGlobals "wrong_part_of_pairs" = some (some (.ref f8))) (l8 : K.lookup f8 = some ⟨oc8, od8, .func (PySem.W.fnOf "wrong_part_of_pairs" "wrong_part_of_pairs" (defArgs s_wrong_part_of_pairs) (defBody s_wrong_part_of_pairs) (defScope s_wrong_part_of_pairs) .none kV8 dc8 pm8 an8 cd8 ct8), sl8⟩) (c8 : PySem.W.codeIn K cd8 "wrong_part_of_pairs" = true) (k8 : PySem.W.keepIn K (.ref f8) = true)
    {od9 an9 : Option Addr} {sl9 : Array (Option Value)} {oc9 kV9 dc9 pm9 cd9 ct9 : Value}
    (a9 : PySem.W.nsIn K mainGlobals "wrong_part_of_halves" = some (some (.ref f9))) (l9 : K.lookup f9 = some ⟨oc9, od9, .func (PySem.W.fnOf "wrong_part_of_halves" "wrong_part_of_halves" (defArgs s_wrong_part_of_halves) (defBody s_wrong_part_of_halves) (defScope s_wrong_part_of_halves) .none kV9 dc9 pm9 an9 cd9 ct9), sl9⟩) (c9 : PySem.W.codeIn K cd9 "wrong_part_of_halves" = true) (k9 : PySem.W.keepIn K (.ref f9) = true)
    {od10 an10 : Option Addr} {sl10 : Array (Option Value)} {oc10 kV10 dc10 pm10 cd10 ct10 : Value}
    (a10 : PySem.W.nsIn K mainGlobals "is_duration" = some (some (.ref f10))) (l10 : K.lookup f10 = some ⟨oc10, od10, .func (PySem.W.fnOf "is_duration" "is_duration" (defArgs s_is_duration) (defBody s_is_duration) (defScope s_is_duration) .none kV10 dc10 pm10 an10 cd10 ct10), sl10⟩) (c10 : PySem.W.codeIn K cd10 "is_duration" = true) (k10 : PySem.W.keepIn K (.ref f10) = true)
    {od11 an11 : Option Addr} {sl11 : Array (Option Value)} {oc11 kV11 dc11 pm11 cd11 ct11 : Value}
    (a11 : PySem.W.nsIn K mainGlobals "are_durations" = some (some (.ref f11))) (l11 : K.lookup f11 = some ⟨oc11, od11, .func (PySem.W.fnOf "are_durations" "are_durations" (defArgs s_are_durations) (defBody s_are_durations) (defScope s_are_durations) .none kV11 dc11 pm11 an11 cd11 ct11), sl11⟩) (c11 : PySem.W.codeIn K cd11 "are_durations" = true) (k11 : PySem.W.keepIn K (.ref f11) = true)
    {od12 an12 : Option Addr} {sl12 : Array (Option Value)} {oc12 kV12 dc12 pm12 cd12 ct12 : Value}
    (a12 : PySem.W.nsIn K mainGlobals "is_pulse_and_gap" = some (some (.ref f12))) (l12 : K.lookup f12 = some ⟨oc12, od12, .func (PySem.W.fnOf "is_pulse_and_gap" "is_pulse_and_gap" (defArgs s_is_pulse_and_gap) (defBody s_is_pulse_and_gap) (defScope s_is_pulse_and_gap) .none kV12 dc12 pm12 an12 cd12 ct12), sl12⟩) (c12 : PySem.W.codeIn K cd12 "is_pulse_and_gap" = true) (k12 : PySem.W.keepIn K (.ref f12) = true)
    {od13 an13 : Option Addr} {sl13 : Array (Option Value)} {oc13 kV13 dc13 pm13 cd13 ct13 : Value}
    (a13 : PySem.W.nsIn K mainGlobals "is_bit_count" = some (some (.ref f13))) (l13 : K.lookup f13 = some ⟨oc13, od13, .func (PySem.W.fnOf "is_bit_count" "is_bit_count" (defArgs s_is_bit_count) (defBody s_is_bit_count) (defScope s_is_bit_count) .none kV13 dc13 pm13 an13 cd13 ct13), sl13⟩) (c13 : PySem.W.codeIn K cd13 "is_bit_count" = true) (k13 : PySem.W.keepIn K (.ref f13) = true)
    {od14 an14 : Option Addr} {sl14 : Array (Option Value)} {oc14 kV14 dc14 pm14 cd14 ct14 : Value}
    (a14 : PySem.W.nsIn K mainGlobals "_law_begin" = some (some (.ref f14))) (l14 : K.lookup f14 = some ⟨oc14, od14, .func (PySem.W.fnOf "_law_begin" "_law_begin" (defArgs s__law_begin) (defBody s__law_begin) (defScope s__law_begin) .none kV14 dc14 pm14 an14 cd14 ct14), sl14⟩) (c14 : PySem.W.codeIn K cd14 "_law_begin" = true) (k14 : PySem.W.keepIn K (.ref f14) = true)
    {od15 an15 : Option Addr} {sl15 : Array (Option Value)} {oc15 kV15 dc15 pm15 cd15 ct15 : Value}
    (a15 : PySem.W.nsIn K mainGlobals "_law_next" = some (some (.ref f15))) (l15 : K.lookup f15 = some ⟨oc15, od15, .func (PySem.W.fnOf "_law_next" "_law_next" (defArgs s__law_next) (defBody s__law_next) (defScope s__law_next) .none kV15 dc15 pm15 an15 cd15 ct15), sl15⟩) (c15 : PySem.W.codeIn K cd15 "_law_next" = true) (k15 : PySem.W.keepIn K (.ref f15) = true)
    {od16 an16 : Option Addr} {sl16 : Array (Option Value)} {oc16 kV16 dc16 pm16 cd16 ct16 : Value}
    (a16 : PySem.W.nsIn K mainGlobals "_law_pick" = some (some (.ref f16))) (l16 : K.lookup f16 = some ⟨oc16, od16, .func (PySem.W.fnOf "_law_pick" "_law_pick" (defArgs s__law_pick) (defBody s__law_pick) (defScope s__law_pick) .none kV16 dc16 pm16 an16 cd16 ct16), sl16⟩) (c16 : PySem.W.codeIn K cd16 "_law_pick" = true) (k16 : PySem.W.keepIn K (.ref f16) = true)
    {od17 an17 : Option Addr} {sl17 : Array (Option Value)} {oc17 kV17 dc17 pm17 cd17 ct17 : Value}
    (a17 : PySem.W.nsIn K mainGlobals "_law_size" = some (some (.ref f17))) (l17 : K.lookup f17 = some ⟨oc17, od17, .func (PySem.W.fnOf "_law_size" "_law_size" (defArgs s__law_size) (defBody s__law_size) (defScope s__law_size) .none kV17 dc17 pm17 an17 cd17 ct17), sl17⟩) (c17 : PySem.W.codeIn K cd17 "_law_size" = true) (k17 : PySem.W.keepIn K (.ref f17) = true)
    {od18 an18 : Option Addr} {sl18 : Array (Option Value)} {oc18 kV18 dc18 pm18 cd18 ct18 : Value}
    (a18 : PySem.W.nsIn K mainGlobals "_law_table" = some (some (.ref f18))) (l18 : K.lookup f18 = some ⟨oc18, od18, .func (PySem.W.fnOf "_law_table" "_law_table" (defArgs s__law_table) (defBody s__law_table) (defScope s__law_table) .none kV18 dc18 pm18 an18 cd18 ct18), sl18⟩) (c18 : PySem.W.codeIn K cd18 "_law_table" = true) (k18 : PySem.W.keepIn K (.ref f18) = true)
    {od19 an19 : Option Addr} {sl19 : Array (Option Value)} {oc19 kV19 dc19 pm19 cd19 ct19 : Value}
    (a19 : PySem.W.nsIn K mainGlobals "_law_words" = some (some (.ref f19))) (l19 : K.lookup f19 = some ⟨oc19, od19, .func (PySem.W.fnOf "_law_words" "_law_words" (defArgs s__law_words) (defBody s__law_words) (defScope s__law_words) .none kV19 dc19 pm19 an19 cd19 ct19), sl19⟩) (c19 : PySem.W.codeIn K cd19 "_law_words" = true) (k19 : PySem.W.keepIn K (.ref f19) = true)
    {od20 an20 : Option Addr} {sl20 : Array (Option Value)} {oc20 kV20 dc20 pm20 cd20 ct20 : Value}
    (a20 : PySem.W.nsIn K mainGlobals "law" = some (some (.ref f20))) (l20 : K.lookup f20 = some ⟨oc20, od20, .func (PySem.W.fnOf "law" "law" (defArgs s_law) (defBody s_law) (defScope s_law) .none kV20 dc20 pm20 an20 cd20 ct20), sl20⟩) (c20 : PySem.W.codeIn K cd20 "law" = true) (k20 : PySem.W.keepIn K (.ref f20) = true)
    (z1 : PySem.W.nsIn K mainGlobals "all" = some none)
    (z2 : PySem.W.nsIn K mainGlobals "bool" = some none)
    (z3 : PySem.W.nsIn K mainGlobals "int" = some none)
    (z4 : PySem.W.nsIn K mainGlobals "isinstance" = some none)
    (z5 : PySem.W.nsIn K mainGlobals "len" = some none)
    (z6 : PySem.W.nsIn K mainGlobals "list" = some none)
    (z7 : PySem.W.nsIn K mainGlobals "range" = some none)
    (z8 : PySem.W.nsIn K mainGlobals "repr" = some none)
    (z9 : PySem.W.nsIn K mainGlobals "str" = some none)
    (z10 : PySem.W.nsIn K mainGlobals "tuple" = some none)
    {q1 : Tok} (v1 : PySem.W.nsIn K mainGlobals "MOST_BITS" = some (some (.int 8 q1)))
    {q2 : Tok} (v2 : PySem.W.nsIn K mainGlobals "MOST_DURATION" = some (some (.int 99999 q2)))
    : ∃ fd : FuncData, (∀ (s : Shared) (v : Value), BindsTo s fd ⟨[v], []⟩ [("script", v)]) ∧ ∀ base : Heap, K.In base → base.Ns mainGlobals mg → GOk l.prog w K mg base 9 fa fd ["script"] (spLaw K) := by
  have e := hfa.symm.trans (PySem.W.mg_of X G a20)
  obtain rfl : f20 = fa := by cases e; rfl
  have T : Txt K mg ⟨f1, (PySem.W.fnOf "is_whole" "is_whole" (defArgs s_is_whole) (defBody s_is_whole) (defScope s_is_whole) .none kV1 dc1 pm1 an1 cd1 ct1), f2, (PySem.W.fnOf "is_whole_from" "is_whole_from" (defArgs s_is_whole_from) (defBody s_is_whole_from) (defScope s_is_whole_from) .none kV2 dc2 pm2 an2 cd2 ct2), f3, (PySem.W.fnOf "need_table" "need_table" (defArgs s_need_table) (defBody s_need_table) (defScope s_need_table) .none kV3 dc3 pm3 an3 cd3 ct3), f4, (PySem.W.fnOf "is_word" "is_word" (defArgs s_is_word) (defBody s_is_word) (defScope s_is_word) .none kV4 dc4 pm4 an4 cd4 ct4), f5, (PySem.W.fnOf "words_of" "words_of" (defArgs s_words_of) (defBody s_words_of) (defScope s_words_of) .none kV5 dc5 pm5 an5 cd5 ct5), f6, (PySem.W.fnOf "bits_of" "bits_of" (defArgs s_bits_of) (defBody s_bits_of) (defScope s_bits_of) .none kV6 dc6 pm6 an6 cd6 ct6), f7, (PySem.W.fnOf "begins_with" "begins_with" (defArgs s_begins_with) (defBody s_begins_with) (defScope s_begins_with) .none kV7 dc7 pm7 an7 cd7 ct7), f8, (PySem.W.fnOf "wrong_part_of_pairs" "wrong_part_of_pairs" (defArgs s_wrong_part_of_pairs) (defBody s_wrong_part_of_pairs) (defScope s_wrong_part_of_pairs) .none kV8 dc8 pm8 an8 cd8 ct8), f9, (PySem.W.fnOf "wrong_part_of_halves" "wrong_part_of_halves" (defArgs s_wrong_part_of_halves) (defBody s_wrong_part_of_halves) (defScope s_wrong_part_of_halves) .none kV9 dc9 pm9 an9 cd9 ct9), f10, (PySem.W.fnOf "is_duration" "is_duration" (defArgs s_is_duration) (defBody s_is_duration) (defScope s_is_duration) .none kV10 dc10 pm10 an10 cd10 ct10), f11, (PySem.W.fnOf "are_durations" "are_durations" (defArgs s_are_durations) (defBody s_are_durations) (defScope s_are_durations) .none kV11 dc11 pm11 an11 cd11 ct11), f12, (PySem.W.fnOf "is_pulse_and_gap" "is_pulse_and_gap" (defArgs s_is_pulse_and_gap) (defBody s_is_pulse_and_gap) (defScope s_is_pulse_and_gap) .none kV12 dc12 pm12 an12 cd12 ct12), f13, (PySem.W.fnOf "is_bit_count" "is_bit_count" (defArgs s_is_bit_count) (defBody s_is_bit_count) (defScope s_is_bit_count) .none kV13 dc13 pm13 an13 cd13 ct13), f14, (PySem.W.fnOf "_law_begin" "_law_begin" (defArgs s__law_begin) (defBody s__law_begin) (defScope s__law_begin) .none kV14 dc14 pm14 an14 cd14 ct14), f15, (PySem.W.fnOf "_law_next" "_law_next" (defArgs s__law_next) (defBody s__law_next) (defScope s__law_next) .none kV15 dc15 pm15 an15 cd15 ct15), f16, (PySem.W.fnOf "_law_pick" "_law_pick" (defArgs s__law_pick) (defBody s__law_pick) (defScope s__law_pick) .none kV16 dc16 pm16 an16 cd16 ct16), f17, (PySem.W.fnOf "_law_size" "_law_size" (defArgs s__law_size) (defBody s__law_size) (defScope s__law_size) .none kV17 dc17 pm17 an17 cd17 ct17), f18, (PySem.W.fnOf "_law_table" "_law_table" (defArgs s__law_table) (defBody s__law_table) (defScope s__law_table) .none kV18 dc18 pm18 an18 cd18 ct18), f19, (PySem.W.fnOf "_law_words" "_law_words" (defArgs s__law_words) (defBody s__law_words) (defScope s__law_words) .none kV19 dc19 pm19 an19 cd19 ct19), f20, (PySem.W.fnOf "law" "law" (defArgs s_law) (defBody s_law) (defScope s_law) .none kV20 dc20 pm20 an20 cd20 ct20)⟩ := {
    f_is_whole := ⟨fun_mk (st := s_is_whole) l1 c1 k1, PySem.W.mg_of X G a1, fun s us hl => match us, hl with | [_], _ => .of_eq rfl⟩
    f_is_whole_from := ⟨fun_mk (st := s_is_whole_from) l2 c2 k2, PySem.W.mg_of X G a2, fun s us hl => match us, hl with | [_, _, _], _ => .of_eq rfl⟩
    f_need_table := ⟨fun_mk (st := s_need_table) l3 c3 k3, PySem.W.mg_of X G a3, fun s us hl => match us, hl with | [_], _ => .of_eq rfl⟩
    f_is_word := ⟨fun_mk (st := s_is_word) l4 c4 k4, PySem.W.mg_of X G a4, fun s us hl => match us, hl with | [_, _], _ => .of_eq rfl⟩
    f_words_of := ⟨fun_mk (st := s_words_of) l5 c5 k5, PySem.W.mg_of X G a5, fun s us hl => match us, hl with | [_], _ => .of_eq rfl⟩
    f_bits_of := ⟨fun_mk (st := s_bits_of) l6 c6 k6, PySem.W.mg_of X G a6, fun s us hl => match us, hl with | [_], _ => .of_eq rfl⟩
    f_begins_with := ⟨fun_mk (st := s_begins_with) l7 c7 k7, PySem.W.mg_of X G a7, fun s us hl => match us, hl with | [_, _, _], _ => .of_eq rfl⟩
    f_wrong_part_of_pairs := ⟨fun_mk (st := s_wrong_part_of_pairs) l8 c8 k8, PySem.W.mg_of X G a8, fun s us hl => match us, hl with | [_], _ => .of_eq rfl⟩
    f_wrong_part_of_halves := ⟨fun_mk (st := s_wrong_part_of_halves) l9 c9 k9, PySem.W.mg_of X G a9, fun s us hl => match us, hl with | [_], _ => .of_eq rfl⟩
    f_is_duration := ⟨fun_mk (st := s_is_duration) l10 c10 k10, PySem.W.mg_of X G a10, fun s us hl => match us, hl with | [_], _ => .of_eq rfl⟩
    f_are_durations := ⟨fun_mk (st := s_are_durations) l11 c11 k11, PySem.W.mg_of X G a11, fun s us hl => match us, hl with | [_], _ => .of_eq rfl⟩
    f_is_pulse_and_gap := ⟨fun_mk (st := s_is_pulse_and_gap) l12 c12 k12, PySem.W.mg_of X G a12, fun s us hl => match us, hl with | [_], _ => .of_eq rfl⟩
    f_is_bit_count := ⟨fun_mk (st := s_is_bit_count) l13 c13 k13, PySem.W.mg_of X G a13, fun s us hl => match us, hl with | [_], _ => .of_eq rfl⟩
    f__law_begin := ⟨fun_mk (st := s__law_begin) l14 c14 k14, PySem.W.mg_of X G a14, fun s us hl => match us, hl with | [_], _ => .of_eq rfl⟩
    f__law_next := ⟨fun_mk (st := s__law_next) l15 c15 k15, PySem.W.mg_of X G a15, fun s us hl => match us, hl with | [_, _], _ => .of_eq rfl⟩
    f__law_pick := ⟨fun_mk (st := s__law_pick) l16 c16 k16, PySem.W.mg_of X G a16, fun s us hl => match us, hl with | [_, _], _ => .of_eq rfl⟩
    f__law_size := ⟨fun_mk (st := s__law_size) l17 c17 k17, PySem.W.mg_of X G a17, fun s us hl => match us, hl with | [_], _ => .of_eq rfl⟩
    f__law_table := ⟨fun_mk (st := s__law_table) l18 c18 k18, PySem.W.mg_of X G a18, fun s us hl => match us, hl with | [_, _], _ => .of_eq rfl⟩
    f__law_words := ⟨fun_mk (st := s__law_words) l19 c19 k19, PySem.W.mg_of X G a19, fun s us hl => match us, hl with | [_], _ => .of_eq rfl⟩
    f_law := ⟨fun_mk (st := s_law) l20 c20 k20, PySem.W.mg_of X G a20, fun s us hl => match us, hl with | [_], _ => .of_eq rfl⟩
    k_is_word_thing_table := fun s ws hl => match ws, hl with | [_, _], _ => .of_eq rfl
    k_words_of_table := fun s ws hl => match ws, hl with | [_], _ => .of_eq rfl
    m_all := PySem.W.mg_none_of X G z1
    m_bool := PySem.W.mg_none_of X G z2
    m_int := PySem.W.mg_none_of X G z3
    m_isinstance := PySem.W.mg_none_of X G z4
    m_len := PySem.W.mg_none_of X G z5
    m_list := PySem.W.mg_none_of X G z6
    m_range := PySem.W.mg_none_of X G z7
    m_repr := PySem.W.mg_none_of X G z8
    m_str := PySem.W.mg_none_of X G z9
    m_tuple := PySem.W.mg_none_of X G z10
    c_MOST_BITS := ⟨_, PySem.W.mg_of X G v1, ⟨_, rfl⟩⟩
    c_MOST_DURATION := ⟨_, PySem.W.mg_of X G v2, ⟨_, rfl⟩⟩
  }
  refine ⟨(PySem.W.fnOf "law" "law" (defArgs s_law) (defBody s_law) (defScope s_law) .none kV20 dc20 pm20 an20 cd20 ct20), fun s v => .of_eq rfl, fun base _ _ => ?_⟩
  rw [hl]
  exact ok_law (P := PySem.Challenge.pw_beamframes_k04_words) T
end Bf
open PySem PySem.W PyProof.Rows
set_option maxHeartbeats 0 in
theorem PySem.Challenge.cw_beamframes_k04_words_holds : PySem.Challenge.rw_beamframes_k04_words.Holds := by
  w_on; o_law; k_head; (case hw => w_witness2)
  k_fill
  refine Bf.walk_g (l := PySem.Challenge.rw_beamframes_k04_words) (n := 63) (k := 9) (x := "script") (sp := Bf.spLaw) rfl (by decide) rfl ⟨rfl, by decide, by decide⟩ (fun w h Y => PySem.W.kIn_of Y) ?F (fun _ _ a ns hl _ hS => ⟨a, ns, rfl, hS, hl, fun _ => rfl⟩)
  case F =>
    intro w mg fa h KX G hmg
    refine' Bf.all_mk KX G hmg rfl ?a1 ?l1 ?c1 ?k1 ?a2 ?l2 ?c2 ?k2 ?a3 ?l3 ?c3 ?k3 ?a4 ?l4 ?c4 ?k4 ?a5 ?l5 ?c5 ?k5 ?a6 ?l6 ?c6 ?k6 ?a7 ?l7 ?c7 ?k7 ?a8 ?l8 ?c8 ?k8 ?a9 ?l9 ?c9 ?k9 ?a10 ?l10 ?c10 ?k10 ?a11 ?l11 ?c11 ?k11 ?a12 ?l12 ?c12 ?k12 ?a13 ?l13 ?c13 ?k13 ?a14 ?l14 ?c14 ?k14 ?a15 ?l15 ?c15 ?k15 ?a16 ?l16 ?c16 ?k16 ?a17 ?l17 ?c17 ?k17 ?a18 ?l18 ?c18 ?k18 ?a19 ?l19 ?c19 ?k19 ?a20 ?l20 ?c20 ?k20 ?z1 ?z2 ?z3 ?z4 ?z5 ?z6 ?z7 ?z8 ?z9 ?z10 ?v1 ?v2
    (case a1 => k_is); (case l1 => k_is); (case c1 => k_is); (case k1 => k_is); (case a2 => k_is); (case l2 => k_is)
    (case c2 => k_is); (case k2 => k_is); (case a3 => k_is); (case l3 => k_is); (case c3 => k_is); (case k3 => k_is)
    (case a4 => k_is); (case l4 => k_is); (case c4 => k_is); (case k4 => k_is); (case a5 => k_is); (case l5 => k_is)
    (case c5 => k_is); (case k5 => k_is); (case a6 => k_is); (case l6 => k_is); (case c6 => k_is); (case k6 => k_is)
    (case a7 => k_is); (case l7 => k_is); (case c7 => k_is); (case k7 => k_is); (case a8 => k_is); (case l8 => k_is)
    (case c8 => k_is); (case k8 => k_is); (case a9 => k_is); (case l9 => k_is); (case c9 => k_is); (case k9 => k_is)
    (case a10 => k_is); (case l10 => k_is); (case c10 => k_is); (case k10 => k_is); (case a11 => k_is); (case l11 => k_is)
    (case c11 => k_is); (case k11 => k_is); (case a12 => k_is); (case l12 => k_is); (case c12 => k_is); (case k12 => k_is)
    (case a13 => k_is); (case l13 => k_is); (case c13 => k_is); (case k13 => k_is); (case a14 => k_is); (case l14 => k_is)
    (case c14 => k_is); (case k14 => k_is); (case a15 => k_is); (case l15 => k_is); (case c15 => k_is); (case k15 => k_is)
    (case a16 => k_is); (case l16 => k_is); (case c16 => k_is); (case k16 => k_is); (case a17 => k_is); (case l17 => k_is)
    (case c17 => k_is); (case k17 => k_is); (case a18 => k_is); (case l18 => k_is); (case c18 => k_is); (case k18 => k_is)
    (case a19 => k_is); (case l19 => k_is); (case c19 => k_is); (case k19 => k_is); (case a20 => k_is); (case l20 => k_is)
    (case c20 => k_is); (case k20 => k_is); (case z1 => k_is); (case z2 => k_is); (case z3 => k_is); (case z4 => k_is)
    (case z5 => k_is); (case z6 => k_is); (case z7 => k_is); (case z8 => k_is); (case z9 => k_is); (case z10 => k_is)
    (case v1 => k_is); (case v2 => k_is)
