import PyProof.Rows.All
import Wide.All
import OpenK.AllK
import Wide.FinOn
import HandS.ForExc
import HandS.Ends
import HandS.Comp
import HandS.ExcIs
import HandS.ExcInit
import HandS.ExcField
import HandS.IsInst
import HandS.Defaults
import HandS.Wide
import HandS.WideBits
import HandS.Dict
import HandS.WordsDict
import HandS.TryMany
import PySem.Challenge.RW_drawclaims_k27_falling_products
set_option Elab.async false
set_option linter.all false
set_option maxRecDepth 100000
set_option maxHeartbeats 4000000
/-! Promises of defs that are called where no repr is under way (the list of repr guards around is empty), and what stands on them. -/
namespace GX
open PySem PySem.Spec PyProof.Rows L2

/-- a def's promise, kept where the guards around are known to be none -/
structure FnG (P : Program) (w : World) (K : PySem.W.Frag) (mg : Str → Option Value) (base : Heap) (CX : CXT)
    (k : Nat) (f : Addr) (fd : FuncData) (ps : List Str) (sp : Sp) : Prop where
  ln : ∀ (vs : List V) (H : Hp) (Q : VK) (E : XK), sp vs H Q E → vs.length = ps.length
  go : ∀ (A : Around) (outer : List Env) (s : Shared) (H : Hp) (args : Args) (us : List Value) (vs : List V) (Q : VK) (E : XK),
    A.guards = some [] → Room k A → Env0 P w K mg base A outer s H → BindsTo s fd args (ps.zip us) → Vals vs us → sp vs H Q E →
    codeAny (model P w) A (.call (.ref f) args) (CR CX outer P w H s Q E) s

section
variable {P : Program} {w : World} {K : PySem.W.Frag} {mg : Str → Option Value} {base : Heap} {CX : CXT}
  {k j : Nat} {f : Addr} {fd : FuncData} {ps N : List Str} {sp : Sp}

theorem FnG.ofOk (F : FnOk P w K mg base CX k f fd ps sp) : FnG P w K mg base CX k f fd ps sp :=
  ⟨F.len, fun A outer s H args us vs Q E _ hr he hb hv hs => F.run A outer s H args us vs Q E hr he hb hv hs⟩
theorem FnG.mono (F : FnG P w K mg base CX j f fd ps sp) (h : j ≤ k) : FnG P w K mg base CX k f fd ps sp :=
  ⟨F.ln, fun A outer s H args us vs Q E hg hr => F.go A outer s H args us vs Q E hg (hr.mono h)⟩

/-- the def's body, read where the guards are none -/
theorem fnG {x qual : Str} {st : Stmt} (F : Fun K x qual st f fd) (S : FnScope N ps (defScope st)) (len : ∀ (vs : List V) (H : Hp) (Q : VK) (E : XK), sp vs H Q E → vs.length = ps.length)
    (body : ∀ (cdv : Value) (A : Around) (outer : List Env) (s : Shared) (H : Hp) (vs : List V) (Q : VK) (E : XK), A.guards = some [] →
      Room k (A.deeper (envOfC qual (defScope st) s.heap.objs.size f cdv)) → sp vs H Q E →
      ∃ t, PSs (cxOf CX P w K mg base N qual (defScope st) f cdv A outer s H E) (defBody st) t ∧
        t { nx := fun _ H' => Q .non H', rt := Q } (start N vs) H) : FnG P w K mg base CX (k + 1) f fd ps sp := by
  obtain ⟨oc, od, kV, doc, pm, an, cdv, ct, osl, rfl, lk, hcd⟩ := F.ex
  constructor
  · exact len
  intro A outer s H args us vs Q E hG hr e0 hb rv hsp
  have KX : K.In s.heap := e0.mod.kin.keeps (fun b o e => (e0.bs b o e).1)
  have lim : s.heap.NoLimit := e0.mod.nolimit.keeps (fun b o e => (e0.bs b o e).1)
  obtain ⟨t, ht, hq⟩ := body cdv A outer s H vs Q E hG (hr.deeper _) hsp
  have kinds : ∀ y ∈ ps.zip us, (defScope st).names.lookup y.1 = some .local ∨
      ((defScope st).names.lookup y.1 = some .cell ∧ ((cellsFrom (s.heap.objs.size + 1) (defScope st).names []).lookup y.1).isSome = true) := by
    rintro ⟨n, v⟩ hy
    have hn := (List.of_mem_zip hy).1
    cases S.par n hn with
    | inl q => exact Or.inl q
    | inr q => exact Or.inr ⟨q, PySem.W.cellsFrom_some _ _ _ (Or.inl q)⟩
  refine codeAny_call_function hr.depth (KX _ _ lk) rfl S.co S.gen rfl (PySem.W.codeRec_of KX hcd) (hb _ _ _ _ ?_)
  refine wpAny_newFunctionEnv_cells S.kind kinds ?_
  rintro env rfl s1 x
  refine ⟨lim.keeps x.toInCall.keep, codeAny_func ?_⟩
  have I := inv_start (CX := CX) (E := E) S hr.hd e0 (len _ _ _ _ hsp) rv x
  refine wpAny_mono (ht.run [] s1 (start N vs) H _ I hq) ?_ (fun e s' z => z)
  intro fl s' z
  match fl, z with
  | .ret u, z =>
    obtain ⟨v, σ', H', J, r', q⟩ := z
    exact ⟨v, H', J.os, J.bare, J.base, J.hok, r', q⟩
  | .next, z =>
    obtain ⟨σ', H', J, q⟩ := z
    exact ⟨V.non, H', J.os, J.bare, J.base, J.hok, rfl, q⟩
  | .brk, z =>
    obtain ⟨_, _, _, q⟩ := z
    exact q.elim
  | .cont, z =>
    obtain ⟨_, _, _, q⟩ := z
    exact q.elim
/-- .. of which no exception leaves -/
theorem fnG0 {x qual : Str} {st : Stmt} (F : Fun K x qual st f fd) (S : FnScope N ps (defScope st)) (len : ∀ (vs : List V) (H : Hp) (Q : VK) (E : XK), sp vs H Q E → vs.length = ps.length)
    (body : ∀ (cdv : Value) (A : Around) (outer : List Env) (s : Shared) (H : Hp) (vs : List V) (Q : VK) (E : XK), A.guards = some [] →
      Room k (A.deeper (envOfC qual (defScope st) s.heap.objs.size f cdv)) → sp vs H Q E →
      ∃ t, PSs (cxOf CX0 P w K mg base N qual (defScope st) f cdv A outer s H E).nox (defBody st) t ∧
        t { nx := fun _ H' => Q .non H', rt := Q } (start N vs) H) : FnG P w K mg base CX0 (k + 1) f fd ps sp :=
  fnG F S len fun cdv A outer s H vs Q E hG hr h =>
    let ⟨t, a, b⟩ := body cdv A outer s H vs Q E hG hr h
    ⟨t, a.nox, b⟩
end

section
variable {X : Cx} {CX : CXT} {k : Nat} {f : Addr} {fd : FuncData} {ps : List Str} {sp : Sp} {E : XK} {x : Str} {p pos : Pos} {e : Expr} {es : List Expr} {t : TA}
/-- f(e, ..) of such a def -/
theorem pe_callG (hG : X.A.guards = some []) (F : FnG X.prog X.w X.K X.mg X.base CX k f fd ps sp) (hr : Room k X.A) (hg : Gl X x) (hm : X.mg x = some (.ref f))
    (hk : PySem.W.keepIn X.K (.ref f) = true) (hb : Binds X.K fd ps []) (hx : Passes CX X E) (ha : PA X (e :: es) t) (hdb : (x == ("__debug__" : Str)) = false := by decide)
    (he : starEach (e :: es) X.env = (false, eval e X.env) :: starEach es X.env := by rfl)
    (hpl : (backTo pos (starEach es X.env)).any (·.1) = false := by rfl) : PE X (.Call (.Name x p) (e :: es) [] pos) (tCall sp [] E t) := by
  constructor
  intro pins s σ H Q I h
  refine wpAny_Call_Name_kw (ld_glob I hg hm ?_ hdb)
  refine PySem.W.callWith_K (h₀ := X.base) I.ok.mod.kin hk (thn (ha.run pos pins s σ H _ I h) ?_) he hpl
  rintro us s1 ⟨vs, H1, I1, r, q⟩
  refine ⟨I1.kIn, ?_⟩
  rw [List.append_nil] at q
  have hl : us.length = ps.length := r.length.symm.trans (F.ln _ _ _ _ q)
  have bd := hb s1 us I1.kIn
  rw [List.append_nil] at bd
  refine wpAny_call (codeAny_mono (F.go _ _ _ _ _ _ _ _ _ hG hr I1.env0 (bd hl) r q) ?_)
  intro r' s' z
  match r', z with
  | .error e', z => exact hx pins σ H1 s1 e' s' I1 z
  | .ok (.ret u), z => exact I1.after z
  | .ok .next, z => exact z.elim
  | .ok .brk, z => exact z.elim
  | .ok .cont, z => exact z.elim
end
end GX

set_option Elab.async false
set_option linter.all false
set_option maxRecDepth 100000
set_option maxHeartbeats 4000000
/-! The end of a law's row over a promise that wants the guards to be none. -/
namespace GX
open PySem PySem.Spec PyProof.Rows L2

/-- the script's place in an abstract heap: tracked and locked there, or an object of the top -/
structure At0 (K : PySem.W.Frag) (P : Program) (w : World) (h : Heap) (a : Addr) (ns : List Int) (H : Hp) : Prop where
  only : Only H
  sq : SqL K H a (ns.map V.int)
  ok : HOk P w H h
  one : ∀ b u, H b = some u → b = a
  out : ∀ u, H a = some u → K.lookup a = none

section
variable {P : Program} {w : World} {K : PySem.W.Frag} {mg mb : Str → Option Value} {CX : CXT} {k : Nat} {fa a : Addr} {fd : FuncData} {x : Str} {sp : Sp} {s₁ : Shared} {vs : List Value} {ns : List Int}

theorem at0_ex (KX : K.In s₁.heap) (ha : s₁.heap.get? a = some { cls := .type "list", data := .seq vs.toArray }) (hi : IntsAre vs ns) (hl : ns.length ≤ sizeLine) :
    ∃ H, At0 K P w s₁.heap a ns H := by
  have rv := vals_ints hi
  cases hk : K.lookup a with
  | some o =>
    have e := KX a o hk
    rw [ha] at e
    have e2 := Option.some.inj e
    subst e2
    refine ⟨fun _ => none, fun _ => Or.inl rfl, Or.inr ⟨_, vs.toArray, _, hk, rfl, rfl, rfl, ?_, ?_⟩, ?_, ?_, ?_⟩
    · rw [List.size_toArray, hi.length]
      exact hl
    · simpa using rv
    · intro b u z
      cases z
    · intro b u z
      cases z
    · intro u z
      cases z
  | none =>
    have look : ∀ (b : Addr) (y u : HO), (if b = a then some y else none) = some u → b = a := by
      intro b y u z
      by_cases q : b = a
      · exact q
      · rw [if_neg q] at z
        cases z
    refine ⟨fun b => if b = a then some (.frz { cls := .type "list", data := .seq vs.toArray } (.lst (ns.map V.int))) else none, ?_, Or.inl (Or.inr ⟨{ cls := .type "list", data := .seq vs.toArray }, if_pos rfl⟩), ?_, ?_, fun _ _ => hk⟩
    · intro b
      by_cases q : b = a
      · exact Or.inr ⟨_, _, if_pos q⟩
      · exact Or.inl (if_neg q)
    · intro b u z
      have q := look b _ u z
      subst q
      have z2 : some (HO.frz { cls := .type "list", data := .seq vs.toArray } (.lst (ns.map V.int))) = some u := (if_pos rfl).symm.trans z
      cases z2
      refine ⟨ha, ?_, vs, _, rv, ha⟩
      rw [List.length_map]
      exact hl
    · intro b u z
      exact look b _ u z

theorem law_callG (KX : K.In s₁.heap) (hns : s₁.heap.Ns mainGlobals mg) (hb : s₁.heap.Ns builtinsNs mb) (hbb : ∀ y : Str, y ≠ "__name__" → mb y = bootBuiltins y) (hlim : s₁.heap.NoLimit) (hg : s₁.gens = #[])
    (ha : s₁.heap.get? a = some { cls := .type "list", data := .seq vs.toArray }) (hi : IntsAre vs ns) (hl : ns.length ≤ sizeLine) (hr : Room k callerA)
    (F : ∀ base : Heap, K.In base → base.Ns mainGlobals mg → FnG P w K mg base CX k fa fd [x] sp) (bd : ∀ (s : Shared) (u : Value), BindsTo s fd ⟨[u], []⟩ [(x, u)])
    (hsp : ∀ H : Hp, Only H → SqL K H a (ns.map V.int) → sp [.ref a] H (fun v _ => v = .bl true) fun _ _ _ => False) (hCX : ∀ H e s', CX [] H s₁ (fun _ _ _ => False) e s' → False) :
    codeAny (model P w) callerA (.call (.ref fa) ⟨[.ref a], []⟩) (fun r s' => r = .ok (.ret (.bool true)) ∧ OldK s₁.heap s'.heap ∧ s'.os = s₁.os ∧ AllBare s'.gens) s₁ := by
  obtain ⟨H, T⟩ := at0_ex (P := P) (w := w) KX ha hi hl
  have dict0 : ∀ {b : Addr} {o : Obj} {es : Array DictEntry} {ep : Nat}, s₁.heap.get? b = some o → o.data = .dict es ep → H b = none := by
    intro b o es ep e d
    cases q : H b with
    | none => rfl
    | some u =>
      have e' := T.one b u q
      subst e'
      rw [ha] at e
      cases e
      cases d
  have nsB : ∀ {b : Addr} {m : Str → Option Value}, s₁.heap.Ns b m → (hidT s₁.heap H).Ns b m := by
    rintro b m ⟨o, es, ep, e, d, r⟩
    exact ⟨o, es, ep, hidT_get e (dict0 e d), d, r⟩
  have kinB : K.In (hidT s₁.heap H) := by
    intro b o e
    refine hidT_get (KX b o e) ?_
    cases q : H b with
    | none => rfl
    | some u =>
      have e' := T.one b u q
      subst e'
      rw [T.out u q] at e
      cases e
  have hM : Mod K mg (hidT s₁.heap H) := by
    obtain ⟨mc, h1, h2⟩ := hlim
    exact ⟨kinB, nsB hns, ⟨mb, nsB hb, hbb⟩, ⟨mc, nsB h1, h2⟩⟩
  have e0 : Env0 P w K mg (hidT s₁.heap H) callerA [] s₁ H :=
    ⟨rfl, hM, fun b o e => of_hidT e, Nat.le_of_eq (hidT_size _ _), trivial, fun b z => absurd (show b ∈ ([] : List Addr) from z) (by simp), T.ok, .of_eq hg⟩
  have run := (F _ kinB (nsB hns)).go callerA [] s₁ H ⟨[.ref a], []⟩ [.ref a] [.ref a] _ _ rfl hr e0 (bd s₁ (.ref a)) (.cons rfl .nil) (hsp H T.only T.sq)
  refine codeAny_mono run ?_
  intro r s' z
  match r, z with
  | .error e, z => exact (hCX H e s' z).elim
  | .ok .next, z => exact z.elim
  | .ok .brk, z => exact z.elim
  | .ok .cont, z => exact z.elim
  | .ok (.ret u), z =>
    obtain ⟨v, H', os, bare, un, ok2, r', q⟩ := z
    have q' : v = .bl true := q
    subst q'
    have eu : u = Value.bool true := r'
    subst eu
    refine ⟨rfl, OldK.of_keep ?_, os, bare⟩
    intro b o e
    cases q2 : H b with
    | none => exact un.keep b o e q2 (fun y => absurd (show b ∈ ([] : List Addr) from y) (by simp)) (by simp)
    | some u =>
      cases T.only b with
      | inl y =>
        rw [q2] at y
        cases y
      | inr y =>
        obtain ⟨ob, xs, y⟩ := y
        have y2 := un.frzs b ob _ y
        have g1 := (T.ok b _ y).1
        have g2 := (ok2 b _ y2).1
        rw [e] at g1
        cases g1
        exact g2
end

/-- the goal behind the head, from such a promise of the law -/
theorem walkG {l : PySem.W.OpenLaw} {n k : Nat} {q : Program} {loose : List Str} {XP : (Str → Option Value) → Heap → Prop} {YP : World → Heap → Prop} {d : DefRec} {K : Params → PySem.W.Frag} {CX : World → CXT} {sp : World → Sp} {x : Str}
    (hn : l.most = some n) (hn2 : n ≤ sizeLine) (hdf : d.params.defaults = []) (hr : Room k callerA) (hY : ∀ (w : World) (h : Heap), YP w h → (K w.params).In h)
    (F : ∀ (w : World) (mg : Str → Option Value) (fa : Addr) (h : Heap), (K w.params).In h → h.Ns mainGlobals mg → mg d.name = some (.ref fa) →
      ∃ fd : FuncData, (∀ (s : Shared) (u : Value), BindsTo s fd ⟨[u], []⟩ [(x, u)]) ∧
        ∀ base : Heap, (K w.params).In base → base.Ns mainGlobals mg → FnG l.prog w (K w.params) mg base (CX w) k fa fd [x] (sp w))
    (hsp : ∀ (w : World) (H : Hp) (a : Addr) (ns : List Int), ns.length ≤ n → Only H → SqL (K w.params) H a (ns.map V.int) → sp w [.ref a] H (fun v _ => v = .bl true) fun _ _ _ => False)
    (hCX : ∀ (w : World) (H : Hp) (s : Shared) (e : Value) (s' : Shared), CX w [] H s (fun _ _ _ => False) e s' → False) : PySem.W.WalkO q loose XP YP l.row.toRowW d [] (fun f vs => PySem.call f vs) := by
  refine Att.attach_call hn hdf ?_
  intro w s₀ s₁ mg mb fa o pm cd doc a vs ns G Y ho hd hcd hmg hobj hints hlen hg
  have KX := hY w _ Y
  obtain ⟨fd, bd, hF⟩ := F w mg fa _ KX G.T.g hmg
  exact law_callG KX G.T.g G.T.b G.T.builtins G.T.nolimit hg hobj hints (Nat.le_trans hlen hn2) hr hF bd (fun H hO hS => hsp w H a ns hlen hO hS) (fun H e s' => hCX w H s₁ e s')
end GX

set_option Elab.async false
set_option linter.all false
set_option maxRecDepth 100000
set_option maxHeartbeats 4000000
/-! isinstance of a caught error that has fields; repr of data. -/
namespace PySem.W
open PySem PySem.Spec PySem.Calls PyProof.Rows
section
variable {prog : Program} {w : World} {A : Around} {E : Value → Shared → Prop} {s : Shared} {K : Frag} {x D : Addr} {ox : Obj} {od : Option Obj}
theorem gx_find {name : Str} {a g : Value} (hc : (clsIn K D).isSome = true) (ha : findIn K (.ref D) name = some (some a))
    (hg : specialIn K a "__get__" = some (some g)) (ht : takesIn K a = some true) : findObj K D od name = some (.bind g a) := by
  cases od with
  | none => exact findObj_dataN hc ha hg ht
  | some o => exact findObj_data hc ha hg ht
theorem gx_class {Q : Option Value → Shared → Prop} (C : L2.ExcC K D) (X : K.In s.heap) (I : InstAt s.heap x ox D od) (h : Q (some (.ref D)) { s with toks := s.toks + 1 }) :
    wpAny (model prog w) A (getAttr? (.ref x) "__class__") Q E s := by
  have hsome : (clsIn K D).isSome = true := by
    obtain ⟨cd, e, _⟩ := any_some C.hd
    rw [e]
    rfl
  have found : findObj K D od "__class__" = some (.bind (.builtin "getset_descriptor.__get__") (.builtin "object.__class__")) := gx_find hsome C.ha C.hn C.ht
  rcases s with ⟨hp, g, d, t, os⟩
  have l0 := I.type (M := model prog w)
  have l1 := looks_findIn (M := model prog w) X C.hg
  have l2 := looks_findIn (M := model prog w) X C.hk
  have l3 := looks_find (M := model prog w) X I found
  have isE : Looks (model prog w) hp (isInstance (.ref x) (.type "BaseException")) true := l0.andThen (looks_subIn X C.hs)
  have no2 : (Value.builtin "BaseException.__getattribute__" == Value.builtin "object.__getattribute__") = false := by
    decide +kernel
  have no1 : (onTheHeap (Value.ref D) && Value.builtin "BaseException.__getattribute__" == Value.builtin "object.__getattribute__") = false := by
    rw [no2]
    rfl
  have no0 : (false && onTheHeap (Value.builtin "BaseException.__getattribute__")) = false := rfl
  unfold getAttr? getAttrBy? getAttrBy
  apply wpAny_bind
  refine wpAny_mkText (wpAny_bind (wpAny_attempt (wpAny_holding (wpAny_bind ?_))))
  refine l0.at (wpAny_bind (l1.at ?_))
  show wpAny _ _ (if (onTheHeap (Value.ref D) && Value.builtin "BaseException.__getattribute__" == Value.builtin "object.__getattribute__") = true then _ else _) _ _ _
  rw [no1, if_neg Bool.false_ne_true]
  unfold getAttrByItsOwn hookBefore
  apply wpAny_bind
  rw [if_pos (show onTheHeap (Value.ref D) = true from rfl)]
  refine l2.at (wpAny_bind (wpAny_attempt (wpAny_holding ?_)))
  unfold callGetattribute
  rw [no0, if_neg Bool.false_ne_true]
  unfold boundAndCalled
  rw [F.excAttr_ValueError.ga.bind (.ref x)]
  apply wpAny_bind
  apply wpAny_pure
  show wpAny _ _ (call (.builtin "BaseException.__getattribute__") [.ref x, .str "__class__" t]) _ _ _
  apply wpAny_call
  refine codeAny_call_builtin F.excAttr_ValueError.ga.plain F.entry_bexc_ga ?_
  refine @check_slot (model prog w) _ _
    ⟨hp, g, d, t + 1, os⟩ "BaseException.__getattribute__" "BaseException" "__getattribute__" (.ref x) [.str "__class__" t] [] _
    (by decide +kernel) (by decide +kernel) isE (F.args_bexc_ga (.ref x) (.str "__class__" t)) ?_
  unfold Builtin.«object.__getattribute__»
  apply wpAny_bind
  refine wpAny_of_eq (a := ((Value.ref x : Value), [Value.str "__class__" t])) (by first | rfl | (simp only [slotArgs]; rfl)) ?_
  apply wpAny_bind
  refine wpAny_pure (wpAny_bind (l0.at (wpAny_bind (l3.at ?_))))
  show wpAny _ _ (holding [Value.builtin "object.__class__"] (call (.builtin "getset_descriptor.__get__") [.builtin "object.__class__", .ref x, .ref D]) >>= ret) _ _ _
  apply wpAny_bind
  refine wpAny_holding (wpAny_call (class_get (s := ⟨hp, g, d, t + 1, os⟩) (ox := ox) (od := od) X I C.hm (wpAny_pure ?_)))
  show wpAny _ _ (handedOut (.ref D)) _ _ _
  rw [handedOut_of (v := .ref D) rfl]
  first
    | exact wpAny_pure (wpAny_bind (wpAny_pure (wpAny_pure h)))
    | exact wpAny_bind (wpAny_pure (wpAny_pure h))
    | exact wpAny_pure (wpAny_pure h)
theorem gx_kit (C : L2.ExcC K D) : KitX K (.ref x) (.ref D) (fun h => ∃ ox od, InstAt h x ox D od) := by
  have Z : KitX K (.ref x) (.ref D) (fun h => InstAt h x { cls := .ref D, data := .fields #[] } D none) := handS_kitx_exc C.hg C.hk C.hs C.hd C.ha C.hn C.ht C.hm
  have hsome : ∃ cd, clsIn K D = some cd := by
    obtain ⟨cd, e, _⟩ := any_some C.hd
    exact ⟨cd, e⟩
  constructor
  · rintro M h _ ⟨ox, od, I⟩
    exact I.type
  · rintro M h X _
    obtain ⟨cd, e⟩ := hsome
    unfold clsIn at e
    split at e
    · rename_i c' d' cd' sl' ho
      intro A' Q' E' s' k q
      unfold isType loadHead
      exact wpAny_bind (wpAny_loadPart (k _ _ (X _ _ ho)) (wpAny_pure q))
    · cases e
  · exact Z.ne
  · intro prog w A E Q s X hx q
    obtain ⟨ox, od, I⟩ := hx
    exact gx_class C X I q
end
end PySem.W
namespace GX
open PySem PySem.Spec PyProof.Rows L2
/-- isinstance(e, c), e the caught error of the class at D at a, its dict d -/
def rIsED (K : PySem.W.Frag) (D a : Addr) (cls : Value) (d : Option Addr) : List V → Hp → VK → Prop := fun xs H Q =>
  ∃ (c : V) (cv : Value) (b : Bool) (dd : Addr) (fs : List (Str × V)), cls = .ref D ∧ xs = [.ref a, c] ∧ (∀ u, RelV c u → u = cv) ∧ d = some dd ∧ H dd = some (.xd fs) ∧
    PySem.W.kitOne K (.ref D) cv = some b ∧ Q (.bl b) H
theorem call_isED {X : Cx} {a D : Addr} {d : Option Addr} {cls : Value} {oe : Obj} {pn : List (Addr × Obj)} (C : ExcC X.K D) (hz : Zc cls d oe) (hf : ∃ vs, oe.data = .fields vs) :
    CallR (X.suite a ((a, oe) :: pn)) (.builtin "isinstance") (rIsED X.K D a cls d) := by
  intro pins s σ H xs us Q I r h
  obtain ⟨c, cv, b, dd, fs, hcls, rfl, hcv, hd, hH, e, q⟩ := h
  obtain ⟨u1, u2, rfl, r1, r2⟩ := vals2 r
  have e1 : u1 = Value.ref a := r1
  subst e1
  have e2 := hcv _ r2
  subst e2
  have pin := (I.pin (a, oe) (List.mem_append_left _ List.mem_cons_self)).1
  obtain ⟨mA, hns, _⟩ := (show ObjOk X.prog X.w H s.heap dd (.xd fs) from I.hok dd _ hH)
  obtain ⟨od, es, ep, ho, _⟩ := hns
  have J : PySem.W.InstAt s.heap a oe D (some od) := by
    refine ⟨pin, hz.1.trans hcls, ?_, ?_⟩
    · obtain ⟨vs, hv⟩ := hf
      unfold PySem.W.notCls
      rw [hv] <;> rfl
    · rw [hz.2, hd]
      exact ho
  exact PySem.W.kia_one (PySem.W.gx_kit C) I.kIn ⟨_, _, J⟩ e (fun z => nomatch z) (fun tk => ⟨.bl b, H, I.kept (t' := tk) (fun _ _ z => z), rfl, q⟩)

/-! ### a call by keywords alone -/
section
variable {X : Cx} {CX : CXT} {k : Nat} {f : Addr} {fd : FuncData} {ps ks : List Str} {sp : Sp} {E : XK} {x : Str} {p pos : Pos} {kws : List Keyword} {tk : TA} {g : List Value → List Value → List Value} {gV : List V → List V → List V}
theorem pe_callK0 (F : FnOk X.prog X.w X.K X.mg X.base CX k f fd ps sp) (hr : Room k X.A) (hg : Gl X x) (hm : X.mg x = some (.ref f)) (hk : PySem.W.keepIn X.K (.ref f) = true)
    (hb : KBn X.K fd ps 0 ks g gV) (hx : Passes CX X E) (hkw : PK X kws tk) (h1 : (backToKw pos (keywordEach kws X.env)).all (·.1.isSome) = true := by rfl)
    (h2 : (backToKw pos (keywordEach kws X.env)).filterMap (·.1) = ks := by rfl) (hdb : (x == ("__debug__" : Str)) = false := by decide)
    (h3 : ((backTo pos (starEach [] X.env)).any (·.1) || (backToKw pos (keywordEach kws X.env)).any (·.1.isNone)) = false := by rfl) :
    PE X (.Call (.Name x p) [] kws pos) (tCallN 0 ks.length sp gV E tNil tk) := by
  constructor
  intro pins s σ H Q I h
  refine wpAny_Call_Name_kw (ld_glob I hg hm ?_ hdb)
  refine PySem.W.callWith_KW0 (h₀ := X.base) I.ok.mod.kin hk h1 (thn (hkw.run pos pins s σ H _ I h) ?_) h3
  rintro ws s2 ⟨zs, H2, I2, rz, l1, l2, q2⟩
  refine ⟨I2.kIn, ?_⟩
  rw [h2]
  exact run_fnN (us := []) F hr hb hx I2 .nil rz l1 l2 q2
end
/-! ### repr -/
def keyD : Key → PyData
  | .inl i => .int i
  | .inr x => .str x
/-- a value as data: Dp, and dicts of ints -/
inductive Sh (K : PySem.W.Frag) (H : Hp) : V → PyData → Prop where
  | dp {x : V} {d : PyData} (h : Dp K H x d) (n : d.hasDict = false) : Sh K H x d
  | dct {a : Addr} {kvs : List (Key × Int)} (h : H a = some (.dK (kvs.map fun p => (p.1, V.int p.2)))) : Sh K H (.ref a) (.dict (kvs.map fun p => (keyD p.1, .int p.2)))
def rReprD (K : PySem.W.Frag) : List V → Hp → VK → Prop := fun xs H Q =>
  ∃ (x : V) (d : PyData), xs = [x] ∧ Sh K H x d ∧ d.showable = true ∧ d.depth ≤ 100 ∧ d.shown.length ≤ sizeLine ∧ Q (.str d.shown) H
theorem reads_keys {P : Program} {w : World} {h : Heap} : ∀ {es : List DictEntry} {kvs : List (Key × Int)} {vs : List (Key × Value)},
    KV (kvs.map fun p => (p.1, V.int p.2)) vs → Pairs (mixKind P w) es vs →
    (∃ as, ReadsAll h (es.map (·.key)) ((kvs.map fun p => (keyD p.1, PyData.int p.2)).map (·.1)) as ∧ sysModules ∉ as) ∧
    ∃ bs, ReadsAll h (es.map (·.val)) ((kvs.map fun p => (keyD p.1, PyData.int p.2)).map (·.2)) bs ∧ sysModules ∉ bs
  | [], [], _, _, _ => ⟨⟨_, .nil, by simp⟩, ⟨_, .nil, by simp⟩⟩
  | [], _ :: _, _, r, p => by
    cases r
    cases p
  | _ :: _, [], _, r, p => by
    cases r
    cases p
  | e :: es, (k, i) :: kvs, _, r, p => by
    cases r with
    | cons q r2 =>
      cases p with
      | cons hk hv p2 =>
        obtain ⟨⟨as, A1, A2⟩, ⟨bs, B1, B2⟩⟩ := reads_keys (h := h) r2 p2
        obtain ⟨q1, q2⟩ := q
        obtain ⟨t, q3⟩ := q2
        refine ⟨?_, ?_⟩
        · have q0 := q1.symm ▸ hk
          rcases keyIs_shape hk with ⟨j, u, e1, e2⟩ | ⟨z, u, e1, e2⟩
          · have ek : k = Sum.inl j := q1.trans e1
            subst ek
            refine ⟨_, .cons (as := []) ?_ A1, by simpa using A2⟩
            show Reads h e.key (.int j) []
            rw [e2]
            exact .int j u
          · have ek : k = Sum.inr z := q1.trans e1
            subst ek
            refine ⟨_, .cons (as := []) ?_ A1, by simpa using A2⟩
            show Reads h e.key (.str z) []
            rw [e2]
            exact .str z u
        · refine ⟨_, .cons (as := []) ?_ B1, by simpa using B2⟩
          show Reads h e.val (.int i) []
          rw [hv, q3]
          exact .int i t
theorem Sh.reads {X : Cx} {pins : List (Addr × Obj)} {σ : L2.St} {H : Hp} {s : Shared} (I : Inv X pins σ H s) {x : V} {d : PyData} {u : Value} (h : Sh X.K H x d) (r : RelV x u) :
    ∃ as, Reads s.heap u d as ∧ (d.hasDict = true → sysModules ∉ as) := by
  cases h with
  | dp h n =>
    obtain ⟨as, q⟩ := Dp.reads I d x u h r
    refine ⟨as, q, fun z => ?_⟩
    rw [n] at z
    cases z
  | @dct a kvs h =>
    have e : u = Value.ref a := r
    subst e
    obtain ⟨_, nsys, vs, kv, o, es, ep, h1, h2, h3, _, h5, _⟩ := (show ObjOk X.prog X.w H s.heap a (.dK _) from I.hok a _ h)
    obtain ⟨⟨as, A1, A2⟩, ⟨bs, B1, B2⟩⟩ := reads_keys (h := s.heap) kv h5
    refine ⟨_, .dict h1 h2.1 h3 A1 B1, fun _ hm => ?_⟩
    rcases List.mem_append.mp hm with hm | hm
    · rcases List.mem_cons.mp hm with e | hm
      · rw [← e] at nsys
        simp at nsys
      · exact A2 hm
    · exact B2 hm
theorem call_reprD {X : Cx} (hG : X.A.guards = some []) (hu : X.A.units + 110 < cLine) : CallR X (.builtin "repr") (rReprD X.K) := by
  intro pins s σ H xs us Q I r h
  obtain ⟨x, d, rfl, hs, h1, h2, h3, q⟩ := h
  obtain ⟨u, rfl, r1⟩ : ∃ u, us = [u] ∧ RelV x u := by
    cases r with
    | cons a b =>
      cases b
      exact ⟨_, rfl, a⟩
  obtain ⟨as, R, sys⟩ := hs.reads I r1
  have fin : ∀ h' (u : Tok) tk, (∀ b o, s.heap.get? b = some o → h'.get? b = some o) → EP X pins σ Q (.str d.shown u) { s with heap := h', toks := tk } :=
    fun h' u tk k => ⟨.str d.shown, H, I.kept (t' := tk) k, ⟨u, rfl⟩, q⟩
  cases R with
  | none => exact PySem.P.repr_of_none (fin s.heap s.toks _ (fun _ _ z => z))
  | bool b => exact PySem.P.repr_of_bool (fin s.heap s.toks _ (fun _ _ z => z))
  | int i t => exact PySem.P.repr_of_int (by simpa [PyData.showable] using h1) (fin s.heap s.toks _ (fun _ _ z => z))
  | str y t => exact PySem.P.repr_of_str (fin s.heap s.toks _ (fun _ _ z => z)) h3
  | list a1 a2 a3 a4 => exact repr_of_reads' (.list a1 a2 a3 a4) h1 sys hG (by omega) (fun _ _ z => z) fin h3
  | tuple a1 a2 a3 a4 => exact repr_of_reads' (.tuple a1 a2 a3 a4) h1 sys hG (by omega) (fun _ _ z => z) fin h3
  | dict a1 a2 a3 a4 a5 => exact repr_of_reads' (.dict a1 a2 a3 a4 a5) h1 sys hG (by omega) (fun _ _ z => z) fin h3
end GX

set_option Elab.async false
set_option linter.all false
set_option maxRecDepth 100000
set_option maxHeartbeats 4000000
namespace K27
open PySem PySem.Spec PyProof.Rows L2 GX
def topS (i : Nat) : Stmt := PySem.Challenge.pw_drawclaims_k27_falling_products.main.body.getD i (.Pass ⟨0, 0, 0, 0⟩)
abbrev s_init : Stmt := inClass (topS 2) 0
theorem sc_init : FnScope ["self", "number"] ["self", "number"] (defScope s_init) := ⟨rfl, rfl, rfl, by decide +kernel, rfl, by decide +kernel, by decide +kernel⟩
abbrev s_is_integer : Stmt := topS 5
abbrev N_is_integer : List Str := ["value"]
theorem sc_is_integer : FnScope N_is_integer ["value"] (defScope s_is_integer) := ⟨rfl, rfl, rfl, by decide +kernel, rfl, by decide +kernel, by decide +kernel⟩
abbrev s_is_integer_within : Stmt := topS 6
abbrev N_is_integer_within : List Str := ["value", "least", "most"]
theorem sc_is_integer_within : FnScope N_is_integer_within ["value", "least", "most"] (defScope s_is_integer_within) := ⟨rfl, rfl, rfl, by decide +kernel, rfl, by decide +kernel, by decide +kernel⟩
abbrev s_falling : Stmt := topS 9
abbrev N_falling : List Str := ["top", "times"]
theorem sc_falling : FnScope N_falling ["top", "times"] (defScope s_falling) := ⟨rfl, rfl, rfl, by decide +kernel, rfl, by decide +kernel, by decide +kernel⟩
abbrev s_fallings : Stmt := topS 10
abbrev N_fallings : List Str := ["top", "most", "values", "times"]
theorem sc_fallings : FnScope N_fallings ["top", "most"] (defScope s_fallings) := ⟨rfl, rfl, rfl, by decide +kernel, rfl, by decide +kernel, by decide +kernel⟩
abbrev s_q_cell : Stmt := topS 12
abbrev N_q_cell : List Str := ["_law_script", "_law_k", "_law_total", "_law_cell_here"]
theorem sc_q_cell : FnScope N_q_cell ["_law_script", "_law_k"] (defScope s_q_cell) := ⟨rfl, rfl, rfl, by decide +kernel, rfl, by decide +kernel, by decide +kernel⟩
abbrev s_q_bag : Stmt := topS 13
abbrev N_q_bag : List Str := ["_law_cell_here", "_law_great"]
theorem sc_q_bag : FnScope N_q_bag ["_law_cell_here"] (defScope s_q_bag) := ⟨rfl, rfl, rfl, by decide +kernel, rfl, by decide +kernel, by decide +kernel⟩
abbrev s_q_take : Stmt := topS 14
abbrev N_q_take : List Str := ["_law_bag_here", "_law_many", "_law_old", "_law_digit"]
theorem sc_q_take : FnScope N_q_take ["_law_bag_here", "_law_many"] (defScope s_q_take) := ⟨rfl, rfl, rfl, by decide +kernel, rfl, by decide +kernel, by decide +kernel⟩
abbrev s_q_pick : Stmt := topS 15
abbrev N_q_pick : List Str := ["_law_bag_here", "_law_things"]
theorem sc_q_pick : FnScope N_q_pick ["_law_bag_here", "_law_things"] (defScope s_q_pick) := ⟨rfl, rfl, rfl, by decide +kernel, rfl, by decide +kernel, by decide +kernel⟩
abbrev s_q_int : Stmt := topS 16
abbrev N_q_int : List Str := ["_law_thing"]
theorem sc_q_int : FnScope N_q_int ["_law_thing"] (defScope s_q_int) := ⟨rfl, rfl, rfl, by decide +kernel, rfl, by decide +kernel, by decide +kernel⟩
abbrev s_q_refused : Stmt := topS 18
abbrev N_q_refused : List Str := ["_law_top_here", "_law_often", "_law_told", "e"]
theorem sc_q_refused : FnScope N_q_refused ["_law_top_here", "_law_often"] (defScope s_q_refused) := ⟨rfl, rfl, rfl, by decide +kernel, rfl, by decide +kernel, by decide +kernel⟩
abbrev s_q_same : Stmt := topS 19
abbrev N_q_same : List Str := ["_law_told", "_law_thing"]
theorem sc_q_same : FnScope N_q_same ["_law_told", "_law_thing"] (defScope s_q_same) := ⟨rfl, rfl, rfl, by decide +kernel, rfl, by decide +kernel, by decide +kernel⟩
abbrev s_q_right : Stmt := topS 20
abbrev N_q_right : List Str := ["_law_bag_here", "_law_wide", "_law_number", "_law_often", "_law_product", "_law_step", "_law_odd", "_law_high"]
theorem sc_q_right : FnScope N_q_right ["_law_bag_here"] (defScope s_q_right) := ⟨rfl, rfl, rfl, by decide +kernel, rfl, by decide +kernel, by decide +kernel⟩
abbrev s_law : Stmt := topS 21
abbrev N_law : List Str := ["_law_script", "_law_k"]
theorem sc_law : FnScope N_law ["_law_script"] (defScope s_law) := ⟨rfl, rfl, rfl, by decide +kernel, rfl, by decide +kernel, by decide +kernel⟩
/-- what the top has left -/
structure Txt (K : PySem.W.Frag) (mg : Str → Option Value) where
  z_isinstance : mg "isinstance" = none
  z_int : mg "int" = none
  z_bool : mg "bool" = none
  z_len : mg "len" = none
  z_range : mg "range" = none
  z_abs : mg "abs" = none
  z_divmod : mg "divmod" = none
  z_repr : mg "repr" = none
  z_all : mg "all" = none
  z_max : mg "max" = none
  z_min : mg "min" = none
  z_ValueError : mg "ValueError" = none
  tLong : Tok
  g_LONGEST : mg "LONGEST" = some (.int 20 tLong)
  aN : Addr
  aS : Addr
  aI : Addr
  fI : Addr
  fdI : FuncData
  g_InvalidNumber : mg "InvalidNumber" = some (.ref aN)
  g_InvalidSize : mg "InvalidSize" = some (.ref aS)
  g_InputError : mg "InputError" = some (.ref aI)
  oex : OexC K aN
  xf : XfC K aN
  exC : ExcC K aN
  noN : PySem.W.findIn K (.ref aN) "number" = some none
  iN : PySem.W.findIn K (.ref aN) "__init__" = some (some (.ref fI))
  tI : PySem.W.typeIn K (.ref fI) = some (.type "function")
  F_init : Fun K "__init__" "InvalidNumber.__init__" s_init fI fdI
  exm : PySem.W.exmOne K (.ref aN) (.ref aI) = some true
  kNN : PySem.W.kitOne K (.ref aN) (.ref aN) = some true
  kNS : PySem.W.kitOne K (.ref aN) (.ref aS) = some false
  kNV : PySem.W.kitOne K (.ref aN) (.type "ValueError") = some true
  a_is_integer : Addr
  fd_is_integer : FuncData
  g_is_integer : mg "is_integer" = some (.ref a_is_integer)
  F_is_integer : Fun K "is_integer" "is_integer" s_is_integer a_is_integer fd_is_integer
  a_is_integer_within : Addr
  fd_is_integer_within : FuncData
  g_is_integer_within : mg "is_integer_within" = some (.ref a_is_integer_within)
  F_is_integer_within : Fun K "is_integer_within" "is_integer_within" s_is_integer_within a_is_integer_within fd_is_integer_within
  a_falling : Addr
  fd_falling : FuncData
  g_falling : mg "falling" = some (.ref a_falling)
  F_falling : Fun K "falling" "falling" s_falling a_falling fd_falling
  a_fallings : Addr
  fd_fallings : FuncData
  g_fallings : mg "fallings" = some (.ref a_fallings)
  F_fallings : Fun K "fallings" "fallings" s_fallings a_fallings fd_fallings
  a_q_cell : Addr
  fd_q_cell : FuncData
  g_q_cell : mg "_law_cell" = some (.ref a_q_cell)
  F_q_cell : Fun K "_law_cell" "_law_cell" s_q_cell a_q_cell fd_q_cell
  a_q_bag : Addr
  fd_q_bag : FuncData
  g_q_bag : mg "_law_bag" = some (.ref a_q_bag)
  F_q_bag : Fun K "_law_bag" "_law_bag" s_q_bag a_q_bag fd_q_bag
  a_q_take : Addr
  fd_q_take : FuncData
  g_q_take : mg "_law_take" = some (.ref a_q_take)
  F_q_take : Fun K "_law_take" "_law_take" s_q_take a_q_take fd_q_take
  a_q_pick : Addr
  fd_q_pick : FuncData
  g_q_pick : mg "_law_pick" = some (.ref a_q_pick)
  F_q_pick : Fun K "_law_pick" "_law_pick" s_q_pick a_q_pick fd_q_pick
  a_q_int : Addr
  fd_q_int : FuncData
  g_q_int : mg "_law_int" = some (.ref a_q_int)
  F_q_int : Fun K "_law_int" "_law_int" s_q_int a_q_int fd_q_int
  a_q_refused : Addr
  fd_q_refused : FuncData
  g_q_refused : mg "_law_refused" = some (.ref a_q_refused)
  F_q_refused : Fun K "_law_refused" "_law_refused" s_q_refused a_q_refused fd_q_refused
  a_q_same : Addr
  fd_q_same : FuncData
  g_q_same : mg "_law_same" = some (.ref a_q_same)
  F_q_same : Fun K "_law_same" "_law_same" s_q_same a_q_same fd_q_same
  a_q_right : Addr
  fd_q_right : FuncData
  g_q_right : mg "_law_right" = some (.ref a_q_right)
  F_q_right : Fun K "_law_right" "_law_right" s_q_right a_q_right fd_q_right
  a_law : Addr
  fd_law : FuncData
  F_law : Fun K "law" "law" s_law a_law fd_law
section
variable {P : Program} {w : World} {K : PySem.W.Frag} {mg : Str → Option Value} {base : Heap}
theorem b_is_integer (T : Txt K mg) : Binds K T.fd_is_integer ["value"] [] := T.F_is_integer.binds fun _ _ _ _ _ _ us hl => match us, hl with | [_], _ => rfl
theorem b_is_integer_within (T : Txt K mg) : Binds K T.fd_is_integer_within ["value", "least", "most"] [] := T.F_is_integer_within.binds fun _ _ _ _ _ _ us hl => match us, hl with | [_, _, _], _ => rfl
theorem b_falling (T : Txt K mg) : Binds K T.fd_falling ["top", "times"] [] := T.F_falling.binds fun _ _ _ _ _ _ us hl => match us, hl with | [_, _], _ => rfl
theorem b_fallings (T : Txt K mg) : Binds K T.fd_fallings ["top", "most"] [] := T.F_fallings.binds fun _ _ _ _ _ _ us hl => match us, hl with | [_, _], _ => rfl
theorem b_q_cell (T : Txt K mg) : Binds K T.fd_q_cell ["_law_script", "_law_k"] [] := T.F_q_cell.binds fun _ _ _ _ _ _ us hl => match us, hl with | [_, _], _ => rfl
theorem b_q_bag (T : Txt K mg) : Binds K T.fd_q_bag ["_law_cell_here"] [] := T.F_q_bag.binds fun _ _ _ _ _ _ us hl => match us, hl with | [_], _ => rfl
theorem b_q_take (T : Txt K mg) : Binds K T.fd_q_take ["_law_bag_here", "_law_many"] [] := T.F_q_take.binds fun _ _ _ _ _ _ us hl => match us, hl with | [_, _], _ => rfl
theorem b_q_pick (T : Txt K mg) : Binds K T.fd_q_pick ["_law_bag_here", "_law_things"] [] := T.F_q_pick.binds fun _ _ _ _ _ _ us hl => match us, hl with | [_, _], _ => rfl
theorem b_q_int (T : Txt K mg) : Binds K T.fd_q_int ["_law_thing"] [] := T.F_q_int.binds fun _ _ _ _ _ _ us hl => match us, hl with | [_], _ => rfl
theorem b_q_refused (T : Txt K mg) : Binds K T.fd_q_refused ["_law_top_here", "_law_often"] [] := T.F_q_refused.binds fun _ _ _ _ _ _ us hl => match us, hl with | [_, _], _ => rfl
theorem b_q_same (T : Txt K mg) : Binds K T.fd_q_same ["_law_told", "_law_thing"] [] := T.F_q_same.binds fun _ _ _ _ _ _ us hl => match us, hl with | [_, _], _ => rfl
theorem b_q_right (T : Txt K mg) : Binds K T.fd_q_right ["_law_bag_here"] [] := T.F_q_right.binds fun _ _ _ _ _ _ us hl => match us, hl with | [_], _ => rfl
theorem b_law (T : Txt K mg) : Binds K T.fd_law ["_law_script"] [] := T.F_law.binds fun _ _ _ _ _ _ us hl => match us, hl with | [_], _ => rfl
theorem b_init (T : Txt K mg) : Binds K T.fdI ["self", "number"] [] := T.F_init.binds fun _ _ _ _ _ _ us hl => match us, hl with | [_, _], _ => rfl
end
end K27

set_option Elab.async false
set_option linter.all false
set_option maxRecDepth 100000
set_option maxHeartbeats 4000000
namespace K27
open PySem PySem.Spec PyProof.Rows L2 GX
/-! ### what kind of value -/
def isI : V → Bool
  | .int _ => true
  | _ => false
/-- the values that this law uses, and what isinstance says of them -/
structure Pl (K : PySem.W.Frag) (H : Hp) (x : V) : Prop where
  ex : ∃ (n : String) (b c : Bool), TyX K H x (.type n) ∧ PySem.W.kitOne K (.type n) (.type "int") = some b ∧ PySem.W.kitOne K (.type n) (.type "bool") = some c ∧ (b && !c) = isI x
section
variable {K : PySem.W.Frag} {H H' : Hp}
theorem pl_non : Pl K H .non := ⟨"NoneType", false, false, .base .non, kit_ty (by decide +kernel), kit_ty (by decide +kernel), rfl⟩
theorem pl_bl (b : Bool) : Pl K H (.bl b) := ⟨"bool", true, true, .base (.bl b), kit_ty (by decide +kernel), kit_ty (by decide +kernel), rfl⟩
theorem pl_int (i : Int) : Pl K H (.int i) := ⟨"int", true, false, .base (.int i), kit_ty (by decide +kernel), kit_ty (by decide +kernel), rfl⟩
theorem pl_str (x : Str) : Pl K H (.str x) := ⟨"str", false, false, .base (.str x), kit_ty (by decide +kernel), kit_ty (by decide +kernel), rfl⟩
theorem pl_tup {a : Addr} {xs : List V} (h : H a = some (.tup xs)) : Pl K H (.ref a) := ⟨"tuple", false, false, .base (.tup h), kit_ty (by decide +kernel), kit_ty (by decide +kernel), rfl⟩
theorem pl_lst {a : Addr} {xs : List V} (h : H a = some (.lst xs)) : Pl K H (.ref a) := ⟨"list", false, false, .base (.lst h), kit_ty (by decide +kernel), kit_ty (by decide +kernel), rfl⟩
theorem pl_dK {a : Addr} {xs : List (Key × V)} (h : H a = some (.dK xs)) : Pl K H (.ref a) := ⟨"dict", false, false, .base (.dK h), kit_ty (by decide +kernel), kit_ty (by decide +kernel), rfl⟩
end
/-! ### heaps -/
/-- all but what stands at a is kept -/
def But (a : Addr) (H H' : Hp) : Prop := ∀ b o, b ≠ a → H b = some o → H' b = some o
theorem But.refl (a : Addr) (H : Hp) : But a H H := fun _ _ _ h => h
theorem But.trans {a : Addr} {H H1 H2 : Hp} (x : But a H H1) (y : But a H1 H2) : But a H H2 := fun b o n h => y b o n (x b o n h)
theorem But.same {a : Addr} {H H1 H2 : Hp} (x : But a H H1) (y : Same H1 H2) : But a H H2 := fun b o n h => y b o (x b o n h)
theorem But.of {a : Addr} {H H1 : Hp} (y : Same H H1) : But a H H1 := fun b o n h => y b o h
theorem But.set {a : Addr} {H H1 : Hp} {o : HO} (x : But a H H1) : But a H (upd H1 a o) := fun b u n h => by
  rw [upd_ne n]
  exact x b u n h
theorem same_new {H : Hp} {p : Addr} {o : HO} (h : H p = none) : Same H (upd H p o) := fun b x e => by
  rw [upd_ne (ne_of_none e h)]
  exact e
/-- a purse -/
def Bag (H : Hp) (a : Addr) : Prop := ∃ z g c : Int, H a = some (.lst [.int z, .int g, .int c]) ∧ 0 ≤ g
theorem Bag.keep {H H' : Hp} {a : Addr} (b : Bag H a) (s : Same H H') : Bag H' a := by
  obtain ⟨z, g, c, h, n⟩ := b
  exact ⟨z, g, c, s a _ h, n⟩
/-! ### promises -/
def spIsI (K : PySem.W.Frag) : Sp := fun vs H Q _ => ∃ x, vs = [x] ∧ Pl K H x ∧ Q (.bl (isI x)) H
def inR (lo hi : Int) : V → Bool
  | .int i => decide (lo ≤ i) && decide (i ≤ hi)
  | _ => false
def spIn (K : PySem.W.Frag) : Sp := fun vs H Q _ => ∃ x lo hi, vs = [x, .int lo, .int hi] ∧ Pl K H x ∧ Q (.bl (inR lo hi x)) H
def spTake : Sp := fun vs H Q _ => ∃ (a : Addr) (m : Int), vs = [.ref a, .int m] ∧ Bag H a ∧ 0 < m ∧ m.natAbs.log2 < 9000 ∧
  ∀ r H', 0 ≤ r → r < m → Bag H' a → But a H H' → Q (.int r) H'
section
variable {P : Program} {w : World} {K : PySem.W.Frag} {mg : Str → Option Value} {base : Heap}
theorem ok_is_integer (T : Txt K mg) : FnOk P w K mg base CX0 1 T.a_is_integer T.fd_is_integer ["value"] (spIsI K) := by
  refine T.F_is_integer.ok sc_is_integer (fun vs H Q E h => ?_) (fun cdv A outer s H vs Q E hr h => ?_)
  · obtain ⟨x, rfl, _⟩ := h
    rfl
  · obtain ⟨x, rfl, ⟨n, b, c, ty, k1, k2, e⟩, q⟩ := h
    refine ⟨_, (pss_one (ps_ret (pe_and (pe_callB call_isi (by rfl) T.z_isinstance (by decide +kernel) (pa_cons (pv 0) (pa_cons (pe_bltn (v := .ty "int") (by rfl) T.z_int (by decide +kernel) rfl) pa_nil))) (pe_one (pe_not (pe_callB call_isi (by rfl) T.z_isinstance (by decide +kernel) (pa_cons (pv 0) (pa_cons (pe_bltn (v := .ty "bool") (by rfl) T.z_bool (by decide +kernel) rfl) pa_nil)))))))), ?_⟩
    refine ⟨x, rfl, x, .ty "int", .type n, .type "int", b, rfl, .ty "int", ty, k1, b, rfl, ?_⟩
    rw [← e] at q
    cases b with
    | false => exact iteF q
    | true => exact iteT ⟨x, rfl, x, .ty "bool", .type n, .type "bool", c, rfl, .ty "bool", ty, k2, c, rfl, q⟩
theorem ok_q_int (T : Txt K mg) : FnOk P w K mg base CX0 1 T.a_q_int T.fd_q_int ["_law_thing"] (spIsI K) := by
  refine T.F_q_int.ok sc_q_int (fun vs H Q E h => ?_) (fun cdv A outer s H vs Q E hr h => ?_)
  · obtain ⟨x, rfl, _⟩ := h
    rfl
  · obtain ⟨x, rfl, ⟨n, b, c, ty, k1, k2, e⟩, q⟩ := h
    refine ⟨_, (pss_one (ps_ret (pe_and (pe_callB call_isi (by rfl) T.z_isinstance (by decide +kernel) (pa_cons (pv 0) (pa_cons (pe_bltn (v := .ty "int") (by rfl) T.z_int (by decide +kernel) rfl) pa_nil))) (pe_one (pe_not (pe_callB call_isi (by rfl) T.z_isinstance (by decide +kernel) (pa_cons (pv 0) (pa_cons (pe_bltn (v := .ty "bool") (by rfl) T.z_bool (by decide +kernel) rfl) pa_nil)))))))), ?_⟩
    refine ⟨x, rfl, x, .ty "int", .type n, .type "int", b, rfl, .ty "int", ty, k1, b, rfl, ?_⟩
    rw [← e] at q
    cases b with
    | false => exact iteF q
    | true => exact iteT ⟨x, rfl, x, .ty "bool", .type n, .type "bool", c, rfl, .ty "bool", ty, k2, c, rfl, q⟩
theorem ok_is_integer_within (T : Txt K mg) : FnOk P w K mg base CX0 2 T.a_is_integer_within T.fd_is_integer_within ["value", "least", "most"] (spIn K) := by
  refine T.F_is_integer_within.ok sc_is_integer_within (fun vs H Q E h => ?_) (fun cdv A outer s H vs Q E hr h => ?_)
  · obtain ⟨x, lo, hi, rfl, _⟩ := h
    rfl
  · obtain ⟨x, lo, hi, rfl, pl, q⟩ := h
    refine ⟨_, (pss_one (ps_ret (pe_and (pe_call (ok_is_integer T) (hr.mono (by decide)) (by rfl) T.g_is_integer T.F_is_integer.kp (b_is_integer T) .nil pass0 (pa_cons (pv 0) pa_nil)) (pe_one (pe_chain op_le op_le (pv 1) (pv 0) (pv 2)))))), ?_⟩
    refine ⟨x, rfl, x, rfl, pl, isI x, rfl, ?_⟩
    cases x with
    | int i =>
      refine iteT ⟨_, rfl, _, rfl, lo, i, rfl, rfl, _, rfl, ?_⟩
      by_cases c : lo ≤ i
      · rw [decide_eq_true c]
        refine iteT ⟨_, rfl, i, hi, rfl, rfl, ?_⟩
        have e : inR lo hi (.int i) = decide (i ≤ hi) := by
          show (decide (lo ≤ i) && decide (i ≤ hi)) = _
          rw [decide_eq_true c, Bool.true_and]
        rw [e] at q
        exact q
      · rw [decide_eq_false c]
        refine iteF ?_
        have e : inR lo hi (.int i) = false := by
          show (decide (lo ≤ i) && decide (i ≤ hi)) = _
          rw [decide_eq_false c, Bool.false_and]
        rw [e] at q
        exact q
    | non => exact iteF q
    | bl b => exact iteF q
    | str z => exact iteF q
    | byt z => exact iteF q
    | flt z => exact iteF q
    | ref z => exact iteF q
    | ty z => exact iteF q
theorem ok_q_take (T : Txt K mg) : FnOk P w K mg base CX0 1 T.a_q_take T.fd_q_take ["_law_bag_here", "_law_many"] spTake := by
  refine T.F_q_take.ok sc_q_take (fun vs H Q E h => ?_) (fun cdv A outer s H vs Q E hr h => ?_)
  · obtain ⟨a, m, rfl, _⟩ := h
    rfl
  · obtain ⟨a, m, rfl, ⟨z, g, c, ha, hg⟩, m0, m1, q⟩ := h
    refine ⟨_, (pss_cons (ps_asg (pe_op op_add (pe_ix ix_list (pv 0) pe_int (fun _ _ => rfl)) pe_int) (pg_sub (pv 0) pe_int set_list))
      (pss_cons (ps_set (i := 2) sc_q_take.nd rfl (Or.inl rfl) (pe_callTy call_int1 (by rfl) T.z_int (by decide +kernel) (pa_cons (pe_ix ix_list (pv 0) pe_int (fun _ _ => rfl)) pa_nil)))
      (pss_cons (ps_asg (pe_op op_mod (pe_op op_add (pe_op op_add (pe_op op_mul (pv 2) (pe_op op_add (pe_op op_mod (pv 2) pe_int) pe_int)) (pe_op op_mul pe_int (pe_ix ix_list (pv 0) pe_int (fun _ _ => rfl)))) pe_int) pe_int) (pg_sub (pv 0) pe_int set_list))
      (pss_cons (ps_if (pt_cmpR op_gt (pe_ix ix_list (pv 0) pe_int (fun _ _ => rfl)) pe_int (nomark _)) (pss_cons (ps_asg (pe_callB call_divmodW (by rfl) T.z_divmod (by decide +kernel) (pa_cons (pe_callTy call_int1 (by rfl) T.z_int (by decide +kernel) (pa_cons (pe_ix ix_list (pv 0) pe_int (fun _ _ => rfl)) pa_nil)) (pa_cons (pv 1) pa_nil))) (pg_tup (by rfl) (pgs_cons (pg_sub (pv 0) pe_int set_list) (pgs_cons (pg_name (i := 3) sc_q_take.nd rfl (Or.inl rfl)) pgs_nil))))
          (pss_one (ps_ret (pv 3)))) pss_nil)
      (pss_one (ps_ret (pe_op op_mod (pe_op op_fdiv (pe_callTy call_int1 (by rfl) T.z_int (by decide +kernel) (pa_cons (pe_ix ix_list (pv 0) pe_int (fun _ _ => rfl)) pa_nil)) pe_int) (pv 1)))))))), ?_⟩
    -- bag[2] = bag[2] + 1
    refine ⟨_, rfl, a, _, 2, .int c, rfl, rfl, SqL.of ha, atI_nat (j := 2) rfl, c, 1, rfl, rfl, _, rfl, a, _, 2, 2, rfl, rfl, ha, rfl, ?_⟩
    -- old = int(bag[0])
    have h1 : (upd H a (.lst [.int z, .int g, .int (c + 1)])) a = some (.lst [.int z, .int g, .int (c + 1)]) := upd_same
    refine ⟨_, rfl, a, _, 0, .int z, rfl, rfl, SqL.of h1, atI_nat (j := 0) rfl, .inl ⟨z, rfl, ?_⟩⟩
    -- bag[0] = ..
    have b1 : 0 ≤ z % 30029 := Int.emod_nonneg _ (by decide)
    have b2 : z % 30029 < 30029 := Int.emod_lt_of_pos _ (by decide)
    refine ⟨_, rfl, _, rfl, z, 30029, rfl, rfl, (by show (0 : Int) < 30029; decide), _, 50021, rfl, rfl, z, _, rfl, rfl, .inr ⟨by omega, by omega⟩, _, rfl, a, _, 2, _, rfl, rfl, SqL.of h1, atI_nat (j := 2) rfl,
      70001, c + 1, rfl, rfl, .inl ⟨by decide, by decide⟩, _, _, rfl, rfl, _, 11, rfl, rfl, _, 2147483629, rfl, rfl, (by show (0 : Int) < 2147483629; decide), _, rfl, a, _, 0, 0, rfl, rfl, h1, rfl, ?_⟩
    have h2 : ∀ v : Int, (upd (upd H a (.lst [.int z, .int g, .int (c + 1)])) a (.lst [.int v, .int g, .int (c + 1)])) a = some (.lst [.int v, .int g, .int (c + 1)]) := fun v => upd_same
    have k2 : ∀ v : Int, But a H (upd (upd H a (.lst [.int z, .int g, .int (c + 1)])) a (.lst [.int v, .int g, .int (c + 1)])) := fun v => ((But.refl a H).set).set
    -- if bag[1] > 0
    refine ⟨_, rfl, a, _, 1, .int g, rfl, rfl, SqL.of (h2 _), atI_nat (j := 1) rfl, g, 0, rfl, rfl, _, rfl, ?_⟩
    by_cases cg : g > 0
    · rw [decide_eq_true cg]
      refine iteT ?_
      refine ⟨_, rfl, a, _, 1, .int g, rfl, rfl, SqL.of (h2 _), atI_nat (j := 1) rfl, .inl ⟨g, rfl, _, rfl, g, m, rfl, ⟨m0, PyProof.noPylong_of_log2 m1⟩, fun p hp => ?_⟩⟩
      have npa : a ≠ p := ne_of_none (h2 _) hp
      have h3 : ∀ v : Int, (upd (upd (upd H a (.lst [.int z, .int g, .int (c + 1)])) a (.lst [.int v, .int g, .int (c + 1)])) p (.tup [.int (g / m), .int (g % m)])) a = some (.lst [.int v, .int g, .int (c + 1)]) := fun v => (upd_ne npa).trans (h2 v)
      refine ⟨p, _, rfl, .inl (.inl upd_same), rfl, .int (g / m), [.int (g % m)], rfl, _, rfl, a, _, 1, 1, rfl, rfl, h3 _, rfl, .int (g % m), [], rfl, rfl, _, rfl, ?_⟩
      refine q _ _ (Int.emod_nonneg _ (by omega)) (Int.emod_lt_of_pos _ m0) ⟨_, g / m, c + 1, upd_same, Int.ediv_nonneg hg (by omega)⟩ ?_
      exact ((k2 _).same (same_new hp)).set
    · rw [decide_eq_false cg]
      refine iteF ?_
      refine ⟨_, rfl, a, _, 0, .int _, rfl, rfl, SqL.of (h2 _), atI_nat (j := 0) rfl, .inl ⟨_, rfl, _, 64, rfl, rfl, ⟨by decide, by decide⟩, _, rfl, _, m, rfl, rfl, m0, ?_⟩⟩
      exact q _ _ (Int.emod_nonneg _ (by omega)) (Int.emod_lt_of_pos _ m0) ⟨_, g, c + 1, h2 _, hg⟩ (k2 _)
end
end K27

set_option Elab.async false
set_option linter.all false
set_option maxRecDepth 100000
set_option maxHeartbeats 4000000
namespace K27
open PySem PySem.Spec PyProof.Rows L2 GX
/-! ### the product of so many integers downwards -/
def fall (n : Int) : Nat → Int
  | 0 => 1
  | k + 1 => fall n k * (n - k)
def falls (n : Int) (k : Nat) : List V := (List.range k).map fun i => V.int (fall n i)
theorem falls_len (n : Int) (k : Nat) : (falls n k).length = k := by
  unfold falls
  rw [List.length_map, List.length_range]
theorem falls_get {n : Int} {k i : Nat} (h : i < k) : (falls n k)[i]? = some (.int (fall n i)) := by
  unfold falls
  rw [List.getElem?_map, List.getElem?_range h]
  rfl
theorem falls_more (n : Int) (k : Nat) : falls n k ++ [.int (fall n k)] = falls n (k + 1) := by
  unfold falls
  rw [List.range_succ, List.map_append]
  rfl
theorem sub_lt {n : Int} {k : Nat} (hn : n.natAbs < 2 ^ 134) (hk : k ≤ 20) : (n - k).natAbs < 2 ^ 135 := by
  have e : (2 : Nat) ^ 135 = 2 ^ 134 * 2 := rfl
  have : (n - k).natAbs ≤ n.natAbs + k := by omega
  have h20 : 20 < 2 ^ 134 := by decide
  omega
theorem fall_lt {n : Int} (hn : n.natAbs < 2 ^ 134) : ∀ k : Nat, k ≤ 21 → (fall n k).natAbs < 2 ^ (135 * k + 1)
  | 0, _ => by
    show (1 : Nat) < 2 ^ 1
    decide
  | k + 1, h => by
    have h1 := fall_lt hn k (by omega)
    have h2 := sub_lt hn (k := k) (by omega)
    have h3 := wide_lt h1 h2
    show (fall n k * (n - k)).natAbs < _
    have e : 135 * (k + 1) + 1 = 135 * k + 1 + 135 := by omega
    rw [e]
    exact h3
theorem fall_mul {n : Int} (hn : n.natAbs < 2 ^ 134) {k : Nat} (hk : k ≤ 20) : CMulW (fall n k) (n - k) :=
  wide_mul (fall_lt hn k (by omega)) (sub_lt hn hk) (by omega) (by omega) (by omega)
theorem cut_ints {ns : List Int} {lo hi : Option Int} {i : Nat} {x : V} (h : (cutV (ns.map V.int) lo hi)[i]? = some x) : ∃ z, x = .int z := by
  have m := List.mem_of_getElem? h
  have m2 := List.mem_of_mem_drop (List.mem_of_mem_take (show x ∈ ((ns.map V.int).drop _).take _ from m))
  obtain ⟨z, _, e⟩ := List.mem_map.mp m2
  exact ⟨z, e.symm⟩
/-! ### promises -/
def spPick : Sp := fun vs H Q _ => ∃ (a b : Addr) (xs : List V), vs = [.ref a, .ref b] ∧ Bag H a ∧ H b = some (.lst xs) ∧ b ≠ a ∧ 0 < xs.length ∧ xs.length ≤ 1000 ∧
  ∀ (j : Nat) x H', xs[j]? = some x → Bag H' a → But a H H' → Q x H'
def spBag : Sp := fun vs H Q _ => ∃ n : Int, vs = [.int n] ∧ ∀ p H', H p = none → Same H H' → Bag H' p → Q (.ref p) H'
def spCell (K : PySem.W.Frag) : Sp := fun vs H Q _ => ∃ (a : Addr) (ns : List Int) (k : Nat), vs = [.ref a, .int k] ∧ SqL K H a (ns.map V.int) ∧ ns.length ≤ 63 ∧ k ≤ 63 ∧
  ∀ (n : Int) H', Same H H' → Q (.int n) H'
def spFalls : Sp := fun vs H Q _ => ∃ (n : Int) (k : Nat), vs = [.int n, .int k] ∧ n.natAbs < 2 ^ 134 ∧ k ≤ 20 ∧
  ∀ p H', H p = none → Same H H' → H' p = some (.lst (falls n (k + 1))) → Q (.ref p) H'
section
variable {P : Program} {w : World} {K : PySem.W.Frag} {mg : Str → Option Value} {base : Heap}
theorem log1000 {n : Nat} (h : n ≤ 1000) : ((n : Int)).natAbs.log2 < 9000 := by
  by_cases z : n = 0
  · subst z
    decide
  · exact (Nat.log2_lt (by omega)).mpr (Nat.lt_of_le_of_lt (show ((n : Int)).natAbs ≤ 1000 by omega) (by decide +kernel))
theorem ok_q_pick (T : Txt K mg) : FnOk P w K mg base CX0 2 T.a_q_pick T.fd_q_pick ["_law_bag_here", "_law_things"] spPick := by
  refine T.F_q_pick.ok sc_q_pick (fun vs H Q E h => ?_) (fun cdv A outer s H vs Q E hr h => ?_)
  · obtain ⟨a, b, xs, rfl, _⟩ := h
    rfl
  · obtain ⟨a, b, xs, rfl, bag, hb, ne, l0, l1, q⟩ := h
    refine ⟨_, (pss_one (ps_ret (pe_ix ix_list (pv 1) (pe_call (ok_q_take T) (hr.mono (by decide)) (by rfl) T.g_q_take T.F_q_take.kp (b_q_take T) .nil pass0 (pa_cons (pv 0) (pa_cons (pe_callB call_len_seq (by rfl) T.z_len (by decide +kernel) (pa_cons (pv 1) pa_nil)) pa_nil))) (fun _ _ => rfl)))), ?_⟩
    refine ⟨_, rfl, _, rfl, _, rfl, b, xs, rfl, .inl (SqL.of hb), a, xs.length, rfl, bag, by omega, log1000 l1, fun r H' r0 r1 bag' but => ?_⟩
    obtain ⟨j, rfl⟩ := Int.eq_ofNat_of_zero_le r0
    have hj : j < xs.length := by omega
    have g := List.getElem?_eq_getElem hj
    exact ⟨b, xs, j, _, rfl, rfl, SqL.of (but b _ ne hb), atI_nat g, q j _ H' g bag' but⟩
theorem ok_q_bag (T : Txt K mg) : FnOk P w K mg base CX0 1 T.a_q_bag T.fd_q_bag ["_law_cell_here"] spBag := by
  refine T.F_q_bag.ok sc_q_bag (fun vs H Q E h => ?_) (fun cdv A outer s H vs Q E hr h => ?_)
  · obtain ⟨n, rfl, _⟩ := h
    rfl
  · obtain ⟨n, rfl, q⟩ := h
    refine ⟨_, (pss_cons (ps_set (i := 1) sc_q_bag.nd rfl (Or.inl rfl) (pe_ifExp (PW.pt (pw_or (pt_cmpR op_lt (pv 0) pe_int (nomark _)) (pw_or1 (pt_cmpR op_ge (pv 0) (pe_op op_pow pe_int pe_int) (nomark _))))) (pe_callB call_abs (by rfl) T.z_abs (by decide +kernel) (pa_cons (pe_callTy call_int1 (by rfl) T.z_int (by decide +kernel) (pa_cons (pv 0) pa_nil)) pa_nil)) pe_int))
      (pss_one (ps_ret (pe_lst (pa_cons (pe_op op_mod (pe_callTy call_int1 (by rfl) T.z_int (by decide +kernel) (pa_cons (pv 0) pa_nil)) pe_int) (pa_cons (pv 1) (pa_cons pe_int pa_nil))))))), ?_⟩
    have fin : ∀ (v : Int) (p : Addr), 0 ≤ v → H p = none → Q (.ref p) (upd H p (.lst [.int (n % 2147483629), .int v, .int 0])) := fun v p hv hp =>
      q p _ hp (same_new hp) ⟨_, v, 0, upd_same, hv⟩
    have abs0 : 0 ≤ (if n < 0 then -n else n) := by split <;> omega
    refine ⟨_, rfl, n, 0, rfl, rfl, _, rfl, ite2 (fun _ => ?_) (fun _ => ?_)⟩
    · refine iteT ⟨_, rfl, .inl ⟨n, rfl, n, rfl, ?_⟩⟩
      exact ⟨_, rfl, .inl ⟨n, rfl, n, _, rfl, rfl, (by show (0 : Int) < 2147483629; decide), _, rfl, (by show 3 ≤ sizeLine; decide), fun p hp => fin _ p abs0 hp⟩⟩
    · refine ⟨_, rfl, 10, 18, rfl, rfl, ⟨by decide, by decide, by decide⟩, n, _, rfl, rfl, _, rfl, ite2 (fun _ => ?_) (fun _ => ?_)⟩
      · refine ⟨_, rfl, .inl ⟨n, rfl, n, rfl, ?_⟩⟩
        exact ⟨_, rfl, .inl ⟨n, rfl, n, _, rfl, rfl, (by show (0 : Int) < 2147483629; decide), _, rfl, (by show 3 ≤ sizeLine; decide), fun p hp => fin _ p abs0 hp⟩⟩
      · exact ⟨_, rfl, .inl ⟨n, rfl, n, _, rfl, rfl, (by show (0 : Int) < 2147483629; decide), _, rfl, (by show 3 ≤ sizeLine; decide), fun p hp => fin _ p (Int.le_refl 0) hp⟩⟩
theorem ok_q_cell (T : Txt K mg) : FnOk P w K mg base CX0 1 T.a_q_cell T.fd_q_cell ["_law_script", "_law_k"] (spCell K) := by
  refine T.F_q_cell.ok sc_q_cell (fun vs H Q E h => ?_) (fun cdv A outer s H vs Q E hr h => ?_)
  · obtain ⟨a, ns, k, rfl, _⟩ := h
    rfl
  · obtain ⟨a, ns, k, rfl, S, hl, hk, q⟩ := h
    refine ⟨_, (pss_cons (ps_if (pt_cmpR op_lt (pv 1) (pe_callB call_len_seq (by rfl) T.z_len (by decide +kernel) (pa_cons (pv 0) pa_nil)) (nomark _)) (pss_one (ps_ret (pe_callTy call_int1 (by rfl) T.z_int (by decide +kernel) (pa_cons (pe_ix ix_list (pv 0) (pv 1) (fun _ _ => rfl)) pa_nil)))) pss_nil)
      (pss_cons (ps_set (i := 2) sc_q_cell.nd rfl (Or.inl rfl) (pe_op op_mod (pe_op op_mul pe_int (pe_op op_add (pe_op op_add (pe_op op_mul (pv 1) (pv 1)) (pe_op op_mul pe_int (pv 1))) pe_int)) pe_int))
      (pss_cons (ps_for PassesOwn.never rfl (pi_list (pe_slice sl_list (pv 0) po_none (po_some pe_int))) (pg_name (i := 3) sc_q_cell.nd rfl (Or.inl rfl)) (pss_one (ps_set (i := 2) sc_q_cell.nd rfl (Or.inl rfl) (pe_op op_mod (pe_op op_add (pe_op op_mul (pv 2) pe_int) (pe_callTy call_int1 (by rfl) T.z_int (by decide +kernel) (pa_cons (pv 3) pa_nil))) pe_int))))
      (pss_one (ps_ret (pv 2)))))), ?_⟩
    refine ⟨_, rfl, _, rfl, a, _, rfl, .inl S, _, _, rfl, rfl, _, rfl, ite2 (fun c => ?_) (fun c => ?_)⟩
    · have c2 := of_decide_eq_true c
      rw [List.length_map] at c2
      have hj : k < ns.length := by omega
      have g : (ns.map V.int)[k]? = some (.int ns[k]) := by
        rw [List.getElem?_map, List.getElem?_eq_getElem hj]
        rfl
      exact ⟨_, rfl, _, rfl, a, _, k, _, rfl, rfl, S, atI_nat g, .inl ⟨_, rfl, q _ _ (Same.refl H)⟩⟩
    · refine ⟨_, rfl, _, rfl, k, k, rfl, rfl, .inl ⟨by omega, by omega⟩, _, rfl, 29, k, rfl, rfl, .inl ⟨by decide, by decide⟩, _, _, rfl, rfl, _, 3, rfl, rfl, 86243, _, rfl, rfl, .inl ⟨by decide, by decide⟩, _, 2147483629, rfl, rfl, (by show (0 : Int) < 2147483629; decide), ?_⟩
      refine ⟨_, rfl, 4, rfl, a, _, rfl, S, fun p hp => ⟨p, rfl, ⟨_, .inl (.inl upd_same)⟩, ?_⟩⟩
      refine for_list (K := K) (a := p) (xs := cutV (ns.map V.int) none (some 4)) (fun i σ H' => ∃ (t : Int) (y : Option V), σ = [some (.ref a), some (.int k), some (.int t), y] ∧ 0 ≤ t ∧ t < 2147483629 ∧ Same H H' ∧ H' p = some (.lst (cutV (ns.map V.int) none (some 4))))
        ⟨_, none, rfl, Int.emod_nonneg _ (by decide), Int.emod_lt_of_pos _ (by decide), same_new hp, upd_same⟩ (fun i σ H' _ h => ?_) ?_ ?_
      · obtain ⟨t, y, _, _, _, _, e⟩ := h
        exact SqL.of e
      · rintro i x σ H' hx ⟨t, y, rfl, t0, t1, sm, e⟩
        obtain ⟨z, rfl⟩ := cut_ints hx
        refine ⟨_, rfl, t, 30011, rfl, rfl, .inl ⟨by omega, by omega⟩, _, rfl, .inl ⟨z, rfl, _, _, rfl, rfl, _, 2147483629, rfl, rfl, (by show (0 : Int) < 2147483629; decide), ?_⟩⟩
        exact ⟨_, some (.int z), rfl, Int.emod_nonneg _ (by decide), Int.emod_lt_of_pos _ (by decide), sm, e⟩
      · rintro σ H' ⟨t, y, rfl, t0, t1, sm, e⟩
        exact ⟨_, rfl, q _ _ sm⟩
theorem ok_fallings (T : Txt K mg) : FnOk P w K mg base CX0 1 T.a_fallings T.fd_fallings ["top", "most"] spFalls := by
  refine T.F_fallings.ok sc_fallings (fun vs H Q E h => ?_) (fun cdv A outer s H vs Q E hr h => ?_)
  · obtain ⟨n, k, rfl, _⟩ := h
    rfl
  · obtain ⟨n, k, rfl, hn, hk, q⟩ := h
    refine ⟨_, (pss_cons (ps_set (i := 2) sc_fallings.nd rfl (Or.inl rfl) (pe_lst (pa_cons pe_int pa_nil)))
      (pss_cons (ps_for PassesOwn.never rfl (pi_range1 (by rfl) T.z_range (pa_cons (pv 1) pa_nil)) (pg_name (i := 3) sc_fallings.nd rfl (Or.inl rfl)) (pss_one (ps_expr (pe_bm PySem.F.plainAttrs_list PySem.F.slot_list_append PySem.F.type_list_append mt_append (pv 2) (pa_cons (pe_op op_mulW (pe_ix ix_list (pv 2) (pv 3) (fun _ _ => rfl)) (pe_op op_sub (pv 0) (pv 3))) pa_nil)))))
      (pss_one (ps_ret (pv 2))))), ?_⟩
    refine ⟨(by show 1 ≤ sizeLine; decide), fun p hp => ⟨_, rfl, k, rfl, by omega, by omega, ?_⟩⟩
    refine for_range (lo := 0) (n := k) (fun i σ H' => ∃ y : Option V, σ = [some (.int n), some (.int k), some (.ref p), y] ∧ Same H H' ∧ H' p = some (.lst (falls n (i + 1)))) ⟨none, rfl, same_new hp, upd_same⟩ ?_ ?_
    · rintro i σ H' hi ⟨y, rfl, sm, e⟩
      have g := falls_get (n := n) (show i < i + 1 by omega)
      have e0 : (0 : Int) + (i : Int) = (i : Int) := by omega
      refine ⟨_, rfl, .inl ⟨rfl, _, .inl (.inl e)⟩, _, rfl, _, rfl, p, _, _, _, rfl, rfl, SqL.of e, (by rw [e0]; exact atI_nat g), _, rfl, _, rfl, n, _, rfl, rfl, _, _, rfl, rfl, (by rw [e0]; exact fall_mul hn (by omega)), p, _, _, rfl, rfl, e, ?_, ?_⟩
      · rw [falls_len]
        exact small1000 (by omega)
      · refine ⟨_, rfl, fun b o h => ?_, ?_⟩
        · rw [upd_ne (ne_of_none h hp)]
          exact sm b o h
        · rw [upd_same, e0]
          exact congrArg (fun l => some (HO.lst l)) (falls_more n (i + 1))
    · rintro σ H' ⟨y, rfl, sm, e⟩
      exact ⟨_, rfl, q p H' hp sm e⟩
end
end K27

set_option Elab.async false
set_option linter.all false
set_option maxRecDepth 100000
set_option maxHeartbeats 4000000
namespace K27
open PySem PySem.Spec PyProof.Rows L2 GX
theorem tyx_mono {K : PySem.W.Frag} {H H' : Hp} {x : V} {t : Value} (s : Same H H') (h : TyX K H x t) : TyX K H' x t := by
  cases h with
  | base h =>
    refine .base ?_
    cases h with
    | non => exact .non
    | bl b => exact .bl b
    | int i => exact .int i
    | str x => exact .str x
    | flt x => exact .flt x
    | lst e => exact .lst (s _ _ e)
    | frz e => exact .frz (s _ _ e)
    | tup e => exact .tup (s _ _ e)
    | dK e => exact .dK (s _ _ e)
    | dT e => exact .dT (s _ _ e)
    | ins e c a n k m => exact .ins (s _ _ e) c a n k m
  | byt b => exact .byt b
  | set e => exact .set (s _ _ e)
  | kList e c => exact .kList e c
  | kTuple e c => exact .kTuple e c
  | kDict e c => exact .kDict e c
  | fTuple e => exact .fTuple (s _ _ e)
  | fDict e => exact .fDict (s _ _ e)
theorem Pl.keep {K : PySem.W.Frag} {H H' : Hp} {x : V} (p : Pl K H x) (s : Same H H') : Pl K H' x := by
  obtain ⟨n, b, c, ty, k1, k2, e⟩ := p
  exact ⟨n, b, c, tyx_mono s ty, k1, k2, e⟩
/-! ### InvalidNumber, falling, and what the law makes of it -/
def spInit (C : Addr) : Sp := fun vs H Q _ => ∃ (a : Addr) (v : V), vs = [.ref a, v] ∧ H a = some (exo a C none) ∧
  ∀ dx, H dx = none → dx ≠ a → Q .non (upd (upd H dx (exd dx [(("number" : Str), v)])) a (exo a C (some dx)))
/-- an error of the class at C with this field is on its way out -/
def Out (C : Addr) (v : V) (H : Hp) (E : XK) : Prop := ∀ (d : Addr) (H' : Hp), Same H H' → H d = none → H' d = some (.xd [(("number" : Str), v)]) → E (.ref C) (some d) H'
def spFalling (K : PySem.W.Frag) (C : Addr) : Sp := fun vs H Q E => ∃ x y, vs = [x, y] ∧ Pl K H x ∧ Pl K H y ∧
  ((isI x = false ∧ Out C x H E) ∨ (isI x = true ∧ inR 0 20 y = false ∧ Out C y H E) ∨
    ∃ (n : Int) (k : Nat), x = .int n ∧ y = .int k ∧ n.natAbs < 2 ^ 134 ∧ k ≤ 20 ∧ ∀ H', Same H H' → Q (.int (fall n k)) H')
def spRefused (K : PySem.W.Frag) : Sp := fun vs H Q _ => ∃ x y bad, vs = [x, y] ∧ Pl K H x ∧ Pl K H y ∧
  ((isI x = false ∧ bad = x) ∨ (isI x = true ∧ inR 0 20 y = false ∧ bad = y)) ∧ ∀ p H', H p = none → Same H H' → H' p = some (.tup [bad]) → Q (.ref p) H'
section
variable {P : Program} {w : World} {K : PySem.W.Frag} {mg : Str → Option Value} {base : Heap}
theorem ok_init (T : Txt K mg) : FnOk P w K mg base CX0 1 T.fI T.fdI ["self", "number"] (spInit T.aN) := by
  refine T.F_init.ok sc_init (fun vs H Q E h => ?_) (fun cdv A outer s H vs Q E hr h => ?_)
  · obtain ⟨a, v, rfl, _⟩ := h
    rfl
  · obtain ⟨a, v, rfl, ha, q⟩ := h
    exact ⟨_, pss_one (ps_ost (pv 0) (pv 1)), _, rfl, _, rfl, a, T.aN, rfl, T.oex, T.noN, .inl ⟨ha, fun dx n ne => q dx n ne⟩⟩
/-- what raise InvalidNumber(v) asks -/
theorem out_of {C : Addr} {v : V} {H : Hp} {E : XK} (o : Out C v H E) {a dx : Addr} (ha : H a = none) (hd : (upd H a (exo a C none)) dx = none) (ne : dx ≠ a) :
    E (.ref C) (some dx) (upd (del (upd (upd (upd H a (exo a C none)) dx (exd dx [(("number" : Str), v)])) a (exo a C (some dx))) a) dx (.xd [(("number" : Str), v)])) := by
  have hd2 : H dx = none := by
    rw [upd_ne ne] at hd
    exact hd
  refine o dx _ (fun b u h => ?_) hd2 upd_same
  have nb : b ≠ dx := ne_of_none h hd2
  have na : b ≠ a := ne_of_none h ha
  rw [upd_ne nb, del_ne na, upd_ne na, upd_ne nb, upd_ne na]
  exact h
theorem mk_reads {K : PySem.W.Frag} {C : Addr} {v : V} {H : Hp} {E : XK} (o : Out C v H E) (a : Addr) (ha : H a = none) :
    spInit C (.ref a :: ([v] ++ [])) (upd H a (exo a C none)) (fun z H2 => z = .non ∧ ∃ (d : Addr) (fs : List (Str × V)), H2 a = some (exo a C (some d)) ∧ H2 d = some (exd d fs) ∧ H d = none ∧
      E (.ref C) (some d) (upd (del H2 a) d (.xd fs))) (fun _ _ _ => False) := by
  refine ⟨a, v, rfl, upd_same, fun dx n ne => ⟨rfl, dx, _, upd_same, ?_, ?_, out_of o ha n ne⟩⟩
  · rw [upd_ne ne]
    exact upd_same
  · rw [upd_ne ne] at n
    exact n
theorem ok_falling (T : Txt K mg) : FnOk P w K mg base (L2.CX P w) 4 T.a_falling T.fd_falling ["top", "times"] (spFalling K T.aN) := by
  refine T.F_falling.okX sc_falling (fun vs H Q E h => ?_) (fun cdv A outer s H vs Q E hr h => ?_)
  · obtain ⟨x, y, rfl, _⟩ := h
    rfl
  · obtain ⟨x, y, rfl, px, py, h⟩ := h
    refine ⟨_, (pss_cons (ps_if (pt_not (pt_val (pe_call (ok_is_integer T) (hr.mono (by decide)) (by rfl) T.g_is_integer T.F_is_integer.kp (b_is_integer T) .nil pass0 (pa_cons (pv 0) pa_nil)))) (pss_one (ps_raise rfl (takes_of rfl rfl rfl rfl) (pmk_oex T.oex T.iN T.tI (ok_init T) (hr.mono (by decide)) (b_init T) .nil pass0 rfl T.g_InvalidNumber (pa_cons (pv 0) pa_nil)))) pss_nil)
      (pss_cons (ps_if (pt_not (pt_val (pe_call (ok_is_integer_within T) (hr.mono (by decide)) (by rfl) T.g_is_integer_within T.F_is_integer_within.kp (b_is_integer_within T) .nil pass0 (pa_cons (pv 1) (pa_cons pe_int (pa_cons (pe_glob (v := .int 20) rfl T.g_LONGEST ⟨_, rfl⟩) pa_nil)))))) (pss_one (ps_raise rfl (takes_of rfl rfl rfl rfl) (pmk_oex T.oex T.iN T.tI (ok_init T) (hr.mono (by decide)) (b_init T) .nil pass0 rfl T.g_InvalidNumber (pa_cons (pv 1) pa_nil)))) pss_nil)
      (pss_one (ps_ret (pe_ix ix_list (pe_call (ok_fallings T) (hr.mono (by decide)) (by rfl) T.g_fallings T.F_fallings.kp (b_fallings T) .nil pass0 (pa_cons (pv 0) (pa_cons (pv 1) pa_nil))) (pv 1) (fun _ _ => rfl)))))), ?_⟩
    refine ⟨_, rfl, x, rfl, px, isI x, rfl, ?_⟩
    rcases h with ⟨e, o⟩ | ⟨e, e2, o⟩ | ⟨n, k, rfl, rfl, hn, hk, q⟩
    · rw [e]
      exact iteT ⟨_, rfl, (by show 1 ≤ 1000; decide), fun a ha => mk_reads (K := K) o a ha⟩
    · rw [e]
      refine iteF ⟨_, rfl, y, 0, 20, rfl, py, inR 0 20 y, rfl, ?_⟩
      rw [e2]
      exact iteT ⟨_, rfl, (by show 1 ≤ 1000; decide), fun a ha => mk_reads (K := K) o a ha⟩
    · refine iteF ⟨_, rfl, .int k, 0, 20, rfl, py, inR 0 20 (.int k), rfl, ?_⟩
      have e : inR 0 20 (.int k) = true := by
        show (decide ((0 : Int) ≤ k) && decide ((k : Int) ≤ 20)) = true
        rw [decide_eq_true (by omega), decide_eq_true (by omega)]
        rfl
      rw [e]
      refine iteF ⟨_, rfl, _, rfl, n, k, rfl, hn, hk, fun p H' hp sm ep => ⟨_, rfl, p, _, k, _, rfl, rfl, SqL.of ep, atI_nat (falls_get (by omega)), q H' sm⟩⟩
theorem ok_q_refused (T : Txt K mg) : FnOk P w K mg base CX0 5 T.a_q_refused T.fd_q_refused ["_law_top_here", "_law_often"] (spRefused K) := by
  refine T.F_q_refused.ok sc_q_refused (fun vs H Q E h => ?_) (fun cdv A outer s H vs Q E hr h => ?_)
  · obtain ⟨x, y, bad, rfl, _⟩ := h
    rfl
  · obtain ⟨x, y, bad, rfl, px, py, h, q⟩ := h
    refine ⟨_, pss_cons (ps_set (i := 2) sc_q_refused.nd rfl (Or.inl rfl) (pe_tup pa_nil))
      (pss_cons (ps_try_as (i := 3) (Wout := fun _ _ _ _ => False) rfl rfl sc_q_refused.nd rfl rfl ⟨rfl, by decide, .inl T.g_InputError⟩ takes0
        (fun W pn xe tk _ => pss_one (ps_expr (by exact (pe_callS (ok_falling T) (hr.mono (by decide)) rfl T.g_falling T.F_falling.kp (b_falling T) (fun σ => passAt tk σ) (by exact (pa_cons (pv 0) (pa_cons (pv 1) pa_nil)))))))
        (fun a oe cls d pn hz hf => pss_one (ps_if
          (PW.pt (pw_and (pt_val (pe_callB (call_isED T.exC hz hf) (by rfl) T.z_isinstance (by decide +kernel) (pa_cons (pv 3) (pa_cons (pe_glob (v := .ref T.aN) rfl T.g_InvalidNumber rfl) pa_nil))))
            (pw_and (pt_not (pt_val (pe_callB (call_isED T.exC hz hf) (by rfl) T.z_isinstance (by decide +kernel) (pa_cons (pv 3) (pa_cons (pe_glob (v := .ref T.aS) rfl T.g_InvalidSize rfl) pa_nil)))))
            (pw_and1 (pt_val (pe_callB (call_isED T.exC hz hf) (by rfl) T.z_isinstance (by decide +kernel) (pa_cons (pv 3) (pa_cons (pe_bltn (v := .ty "ValueError") (by rfl) T.z_ValueError (by decide +kernel) rfl) pa_nil))))))))
          (pss_one (ps_set (i := 2) sc_q_refused.nd rfl (Or.inl rfl) (pe_tup (pa_cons (pe_xf T.xf T.noN hz hf (pv 3)) pa_nil)))) pss_nil)))
      (pss_one (ps_ret (pv 2)))), ?_⟩
    refine ⟨Nat.zero_le _, fun p0 h0 => ?_⟩
    have s0 : Same H (upd H p0 (.tup [])) := same_new h0
    have fin : ∀ (d p : Addr) (H' : Hp), Same (upd H p0 (.tup [])) H' → H' p = none → Q (.ref p) (upd H' p (.tup [bad])) := fun d p H' sm hp =>
      q p _ ((s0.trans sm).free hp) ((s0.trans sm).trans (same_new hp)) upd_same
    have lk : List.lookup ("number" : Str) [(("number" : Str), bad)] = some bad := by simp [List.lookup]
    rcases h with ⟨e, rfl⟩ | ⟨e, e2, rfl⟩
    · refine ⟨_, rfl, _, rfl, _, _, rfl, px.keep s0, py.keep s0, .inl ⟨e, fun d H' sm nd ed => ⟨true, T.exm, fun _ a0 ha0 => ?_, fun q => Bool.noConfusion q⟩⟩⟩
      refine ⟨_, rfl, .ref T.aN, .ref T.aN, true, d, _, rfl, rfl, fun u h => h, rfl, ed, T.kNN, true, rfl, iteT ?_⟩
      refine ⟨_, rfl, .ref T.aS, .ref T.aS, false, d, _, rfl, rfl, fun u h => h, rfl, ed, T.kNS, false, rfl, iteT ?_⟩
      refine ⟨_, rfl, .ty "ValueError", .type "ValueError", true, d, _, rfl, rfl, fun u h => h, rfl, ed, T.kNV, true, rfl, iteT ?_⟩
      exact ⟨_, rfl, rfl, rfl, d, _, _, rfl, ed, lk, (by show 1 ≤ sizeLine; decide), fun p hp => ⟨_, rfl, fin d p H' sm hp⟩⟩
    · refine ⟨_, rfl, _, rfl, _, _, rfl, px.keep s0, py.keep s0, .inr (.inl ⟨e, e2, fun d H' sm nd ed => ⟨true, T.exm, fun _ a0 ha0 => ?_, fun q => Bool.noConfusion q⟩⟩)⟩
      refine ⟨_, rfl, .ref T.aN, .ref T.aN, true, d, _, rfl, rfl, fun u h => h, rfl, ed, T.kNN, true, rfl, iteT ?_⟩
      refine ⟨_, rfl, .ref T.aS, .ref T.aS, false, d, _, rfl, rfl, fun u h => h, rfl, ed, T.kNS, false, rfl, iteT ?_⟩
      refine ⟨_, rfl, .ty "ValueError", .type "ValueError", true, d, _, rfl, rfl, fun u h => h, rfl, ed, T.kNV, true, rfl, iteT ?_⟩
      exact ⟨_, rfl, rfl, rfl, d, _, _, rfl, ed, lk, (by show 1 ≤ sizeLine; decide), fun p hp => ⟨_, rfl, fin d p H' sm hp⟩⟩
end
end K27

set_option Elab.async false
set_option linter.all false
set_option maxRecDepth 100000
set_option maxHeartbeats 8000000
namespace K27
open PySem PySem.Spec PyProof.Rows L2 GX
theorem room_u {Z : Around} {k : Nat} (h : Room k Z) : Z.units + 110 < cLine := by
  have := h.un
  omega
/-! ### the things that are no numbers of this law, as they stand beside the purse at a -/
inductive Odd (H : Hp) (a : Addr) : V → Prop where
  | non : Odd H a .non
  | bl (b : Bool) : Odd H a (.bl b)
  | str : Odd H a (.str "3")
  | tup {p : Addr} (h : H p = some (.tup [.int 3])) (n : p ≠ a) : Odd H a (.ref p)
  | lst {p : Addr} (h : H p = some (.lst [.int 3])) (n : p ≠ a) : Odd H a (.ref p)
  | d0 {p : Addr} (h : H p = some (.dK [])) (n : p ≠ a) : Odd H a (.ref p)
  | d1 {p : Addr} (h : H p = some (.dK [(.inl 3, .int 3)])) (n : p ≠ a) : Odd H a (.ref p)
  | t0 {p : Addr} (h : H p = some (.tup [])) (n : p ≠ a) : Odd H a (.ref p)
section
variable {H H' : Hp} {a : Addr} {x : V} {K : PySem.W.Frag}
theorem Odd.but (o : Odd H a x) (b : But a H H') : Odd H' a x := by
  cases o with
  | non => exact .non
  | bl c => exact .bl c
  | str => exact .str
  | tup h n => exact .tup (b _ _ n h) n
  | lst h n => exact .lst (b _ _ n h) n
  | d0 h n => exact .d0 (b _ _ n h) n
  | d1 h n => exact .d1 (b _ _ n h) n
  | t0 h n => exact .t0 (b _ _ n h) n
theorem Odd.isI (o : Odd H a x) : isI x = false := by
  cases o <;> rfl
theorem Odd.pl (o : Odd H a x) : Pl K H x := by
  cases o with
  | non => exact pl_non
  | bl c => exact pl_bl c
  | str => exact pl_str _
  | tup h n => exact pl_tup h
  | lst h n => exact pl_lst h
  | d0 h n => exact pl_dK h
  | d1 h n => exact pl_dK h
  | t0 h n => exact pl_tup h
/-- a thing whose repr can be told -/
def Told (K : PySem.W.Frag) (H : Hp) (x : V) : Prop := ∃ d, Sh K H x d ∧ d.showable = true ∧ d.depth ≤ 100 ∧ d.shown.length ≤ sizeLine
theorem Odd.told (o : Odd H a x) : Told K H x := by
  cases o with
  | non => exact ⟨.none, .dp .non rfl, rfl, by decide, by decide +kernel⟩
  | bl c => exact ⟨.bool c, .dp (.bl c) rfl, rfl, by cases c <;> decide, by cases c <;> decide +kernel⟩
  | str => exact ⟨.str "3", .dp (.str _) rfl, rfl, by decide, by decide +kernel⟩
  | tup h n => exact ⟨.tuple [.int 3], .dp (.tup (SqT.of h) (.cons (.int 3) .nil)) rfl, by decide +kernel, by decide, by decide +kernel⟩
  | lst h n => exact ⟨.list [.int 3], .dp (.lst (SqL.of h) (.cons (.int 3) .nil)) rfl, by decide +kernel, by decide, by decide +kernel⟩
  | d0 h n => exact ⟨_, .dct (kvs := []) h, rfl, by decide, by decide +kernel⟩
  | d1 h n => exact ⟨_, .dct (kvs := [(.inl 3, 3)]) h, by decide +kernel, by decide, by decide +kernel⟩
  | t0 h n => exact ⟨.tuple [], .dp (.tup (SqT.of h) .nil) rfl, rfl, by decide, by decide +kernel⟩
theorem int_told {i : Int} (h : i.natAbs.log2 < 1920) : Told K H (.int i) := ⟨.int i, .dp (.int i) rfl, by simpa [PyData.showable] using h, by simp [PyData.depth], int_text_fits h⟩
theorem Told.keep (t : Told K H x) (s : Same H H') (o : Odd H a x ∨ ∃ i, x = .int i) : Told K H' x := by
  rcases o with o | ⟨i, rfl⟩
  · exact (o.but (But.of s)).told
  · obtain ⟨d, sh, h1, h2, h3⟩ := t
    cases sh with
    | dp q n =>
      cases q with
      | int i => exact ⟨.int i, .dp (.int i) rfl, h1, h2, h3⟩
end
def spSame (K : PySem.W.Frag) : Sp := fun vs H Q _ => ∃ (p : Addr) (x : V), vs = [.ref p, x] ∧ H p = some (.tup [x]) ∧ Told K H x ∧ Q (.bl true) H
def spRight : Sp := fun vs H Q _ => ∃ a : Addr, vs = [.ref a] ∧ Bag H a ∧ ∀ H', But a H H' → Q (.bl true) H'
/-! ### what is picked -/
theorem pick4 {j : Nat} {x : V} {A B C D : Int} (h : ([.int A, .int B, .int C, .int D] : List V)[j]? = some x) : ∃ m, x = .int m ∧ (m = A ∨ m = B ∨ m = C ∨ m = D) := by
  have m := List.mem_of_getElem? h
  simp only [List.mem_cons, List.mem_nil_iff, or_false] at m
  rcases m with rfl | rfl | rfl | rfl
  · exact ⟨_, rfl, .inl rfl⟩
  · exact ⟨_, rfl, .inr (.inl rfl)⟩
  · exact ⟨_, rfl, .inr (.inr (.inl rfl))⟩
  · exact ⟨_, rfl, .inr (.inr (.inr rfl))⟩
theorem pick3 {j : Nat} {x : V} {A B C : Int} (h : ([.int A, .int B, .int C] : List V)[j]? = some x) : ∃ m, x = .int m ∧ (m = A ∨ m = B ∨ m = C) := by
  have m := List.mem_of_getElem? h
  simp only [List.mem_cons, List.mem_nil_iff, or_false] at m
  rcases m with rfl | rfl | rfl
  · exact ⟨_, rfl, .inl rfl⟩
  · exact ⟨_, rfl, .inr (.inl rfl)⟩
  · exact ⟨_, rfl, .inr (.inr rfl)⟩
theorem pick5 {j : Nat} {x : V} {A B C D F : Int} (h : ([.int A, .int B, .int C, .int D, .int F] : List V)[j]? = some x) : ∃ m, x = .int m ∧ (m = A ∨ m = B ∨ m = C ∨ m = D ∨ m = F) := by
  have m := List.mem_of_getElem? h
  simp only [List.mem_cons, List.mem_nil_iff, or_false] at m
  rcases m with rfl | rfl | rfl | rfl | rfl
  · exact ⟨_, rfl, .inl rfl⟩
  · exact ⟨_, rfl, .inr (.inl rfl)⟩
  · exact ⟨_, rfl, .inr (.inr (.inl rfl))⟩
  · exact ⟨_, rfl, .inr (.inr (.inr (.inl rfl)))⟩
  · exact ⟨_, rfl, .inr (.inr (.inr (.inr rfl)))⟩
theorem big_lt : (10 : Int) ^ 40 < 2 ^ 133 := by decide +kernel
theorem wide_log {m : Int} (h0 : 0 < m) (h1 : m ≤ 10 ^ 40) : m.natAbs.log2 < 9000 := by
  have h2 : m.natAbs < 2 ^ 133 := by
    have := big_lt
    have e : ((2 ^ 133 : Nat) : Int) = 2 ^ 133 := by norm_cast
    omega
  exact Nat.lt_of_lt_of_le (PySem.Flt.log2_lt_of (by decide) h2) (by decide)
theorem num_lt {r c : Int} (r0 : 0 ≤ r) (r1 : r < 10 ^ 40) (c0 : 0 ≤ c) (c1 : c ≤ 10 ^ 40) : (r - c).natAbs < 2 ^ 134 := by
  have := big_lt
  have e : ((2 ^ 134 : Nat) : Int) = 2 * 2 ^ 133 := by norm_cast
  omega
theorem num_log {n : Int} (h : n.natAbs < 2 ^ 134) : n.natAbs.log2 < 1920 := Nat.lt_of_lt_of_le (PySem.Flt.log2_lt_of (by decide) h) (by decide)
section
variable {P : Program} {w : World} {K : PySem.W.Frag} {mg : Str → Option Value} {base : Heap}
theorem ok_q_same (T : Txt K mg) : FnG P w K mg base CX0 1 T.a_q_same T.fd_q_same ["_law_told", "_law_thing"] (spSame K) := by
  refine fnG0 T.F_q_same sc_q_same (fun vs H Q E h => ?_) (fun cdv A outer s H vs Q E hG hr h => ?_)
  · obtain ⟨p, x, rfl, _⟩ := h
    rfl
  · obtain ⟨p, x, rfl, hp, ⟨d, sh, h1, h2, h3⟩, q⟩ := h
    refine ⟨_, (pss_one (ps_ret (pe_and (pe_cmpR op_eq (pe_callB call_len_seq (by rfl) T.z_len (by decide +kernel) (pa_cons (pv 0) pa_nil)) pe_int (nomark _)) (pe_one (pe_cmpR op_eq (pe_callB (call_reprD hG (room_u hr)) (by rfl) T.z_repr (by decide +kernel) (pa_cons (pe_ix ix_tup (pv 0) pe_int (fun _ _ => rfl)) pa_nil)) (pe_callB (call_reprD hG (room_u hr)) (by rfl) T.z_repr (by decide +kernel) (pa_cons (pv 1) pa_nil)) (nomark _)))))), ?_⟩
    refine ⟨_, rfl, p, [x], rfl, .inr (SqT.of hp), rfl, true, congrArg V.bl (decide_eq_true rfl), iteT ?_⟩
    refine ⟨_, rfl, p, _, 0, x, rfl, rfl, SqT.of hp, atI_nat (j := 0) rfl, x, d, rfl, sh, h1, h2, h3, x, rfl, x, d, rfl, sh, h1, h2, h3, rfl, ?_⟩
    rw [decide_eq_true rfl]
    exact q
end
end K27

set_option Elab.async false
set_option linter.all false
set_option maxRecDepth 100000
set_option maxHeartbeats 8000000
namespace K27
open PySem PySem.Spec PyProof.Rows L2 GX
theorem Bag.ne {H : Hp} {a p : Addr} (b : Bag H a) (h : H p = none) : p ≠ a := by
  obtain ⟨z, g, c, e, _⟩ := b
  exact (ne_of_none e h).symm
/-- times and top by name -/
def gT {α : Type} : List α → List α → List α
  | _, [x, y] => [y, x]
  | _, _ => []
section
variable {P : Program} {w : World} {K : PySem.W.Frag} {mg : Str → Option Value} {base : Heap}
theorem kb_falling (T : Txt K mg) : KBn K T.fd_falling ["top", "times"] 0 ["times", "top"] gT gT := by
  refine ⟨fun s us ws _ l1 l2 => ?_, fun {vs us zs ws} r1 r2 => ?_⟩
  · obtain ⟨oc, od, kV, doc, pm, an, cdv, ct, osl, e, _, _⟩ := T.F_falling.ex
    rw [e]
    match us, ws, l1, l2 with
    | [], [x, y], _, _ => exact .of_eq rfl
  · match zs, ws, r2 with
    | [], _, .nil => exact .nil
    | [_], _, .cons _ .nil => exact .nil
    | [_, _], _, .cons h1 (.cons h2 .nil) => exact .cons h2 (.cons h1 .nil)
    | _ :: _ :: _ :: _, _, .cons _ (.cons _ (.cons _ _)) => exact .nil
theorem ok_q_right (T : Txt K mg) : FnG P w K mg base CX0 6 T.a_q_right T.fd_q_right ["_law_bag_here"] spRight := by
  refine fnG0 T.F_q_right sc_q_right (fun vs H Q E h => ?_) (fun cdv A outer s H vs Q E hG hr h => ?_)
  · obtain ⟨a, rfl, _⟩ := h
    rfl
  · obtain ⟨a, rfl, bag, q⟩ := h
    refine ⟨_, (pss_cons (ps_set (i := 1) sc_q_right.nd rfl (Or.inl rfl) (pe_call (ok_q_pick T) (hr.mono (by decide)) (by rfl) T.g_q_pick T.F_q_pick.kp (b_q_pick T) .nil pass0 (pa_cons (pv 0) (pa_cons (pe_lst (pa_cons pe_int (pa_cons pe_int (pa_cons (pe_op op_pow pe_int pe_int) (pa_cons (pe_op op_pow pe_int pe_int) pa_nil))))) pa_nil))))
      (pss_cons (ps_set (i := 2) sc_q_right.nd rfl (Or.inl rfl) (pe_op op_sub (pe_call (ok_q_take T) (hr.mono (by decide)) (by rfl) T.g_q_take T.F_q_take.kp (b_q_take T) .nil pass0 (pa_cons (pv 0) (pa_cons (pv 1) pa_nil))) (pe_call (ok_q_pick T) (hr.mono (by decide)) (by rfl) T.g_q_pick T.F_q_pick.kp (b_q_pick T) .nil pass0 (pa_cons (pv 0) (pa_cons (pe_lst (pa_cons pe_int (pa_cons (pe_op op_fdiv (pv 1) pe_int) (pa_cons (pv 1) pa_nil)))) pa_nil)))))
      (pss_cons (ps_par (i := 3) (j := 4) (by rfl) sc_q_right.nd rfl rfl (by decide) rfl rfl (pa_cons (pe_call (ok_q_take T) (hr.mono (by decide)) (by rfl) T.g_q_take T.F_q_take.kp (b_q_take T) .nil pass0 (pa_cons (pv 0) (pa_cons pe_int pa_nil))) (pa_cons pe_int pa_nil)) (by rfl))
      (pss_cons (ps_for PassesOwn.never rfl (pi_range1 (by rfl) T.z_range (pa_cons (pv 3) pa_nil)) (pg_name (i := 5) sc_q_right.nd rfl (Or.inl rfl)) (pss_one (ps_set (i := 4) sc_q_right.nd rfl (Or.inl rfl) (pe_op op_mulW (pv 4) (pe_op op_sub (pv 2) (pv 5))))))
      (pss_cons (ps_if (PW.pt (pw_or (pt_not (pt_val (pe_call (ok_q_int T) (hr.mono (by decide)) (by rfl) T.g_q_int T.F_q_int.kp (b_q_int T) .nil pass0 (pa_cons (pe_call (ok_falling T) (hr.mono (by decide)) (by rfl) T.g_falling T.F_falling.kp (b_falling T) .nil passL (pa_cons (pv 2) (pa_cons (pv 3) pa_nil))) pa_nil)))) (pw_or1 (pt_cmpR op_ne (pe_call (ok_falling T) (hr.mono (by decide)) (by rfl) T.g_falling T.F_falling.kp (b_falling T) .nil passL (pa_cons (pv 2) (pa_cons (pv 3) pa_nil))) (pv 4) (nomark _))))) (pss_one (ps_ret pe_bl)) pss_nil)
      (pss_cons (ps_if (PW.pt (pw_and (pt_cmpR op_lt (pv 3) pe_int (nomark _)) (pw_and1 (pt_cmpR op_ne (pe_callK0 (ok_falling T) (hr.mono (by decide)) (by rfl) T.g_falling T.F_falling.kp (kb_falling T) passL (pk_cons (pe_op op_add (pv 3) pe_int) (pk_cons (pv 2) pk_nil))) (pe_op op_mulW (pv 4) (pe_op op_sub (pv 2) (pv 3))) (nomark _))))) (pss_one (ps_ret pe_bl)) pss_nil)
      (pss_cons (ps_set (i := 6) sc_q_right.nd rfl (Or.inl rfl) (pe_call (ok_q_pick T) (hr.mono (by decide)) (by rfl) T.g_q_pick T.F_q_pick.kp (b_q_pick T) .nil pass0 (pa_cons (pv 0) (pa_cons (pe_lst (pa_cons pe_non (pa_cons pe_bl (pa_cons pe_bl (pa_cons pe_str (pa_cons (pe_tup (pa_cons pe_int pa_nil)) (pa_cons (pe_lst (pa_cons pe_int pa_nil)) (pa_cons pe_dnewK (pa_cons (pe_disp (pps_cons pe_int pe_int pps_nil) (by rfl) (by rfl) (fun z => by cases z) (by decide)) (pa_cons (pe_tup pa_nil) pa_nil)))))))))) pa_nil))))
      (pss_cons (ps_set (i := 7) sc_q_right.nd rfl (Or.inl rfl) (pe_call (ok_q_pick T) (hr.mono (by decide)) (by rfl) T.g_q_pick T.F_q_pick.kp (b_q_pick T) .nil pass0 (pa_cons (pv 0) (pa_cons (pe_lst (pa_cons pe_int (pa_cons pe_int (pa_cons (pe_op op_sub pe_int pe_int) (pa_cons (pe_op op_pow pe_int pe_int) (pa_cons (pe_op op_sub pe_int (pe_op op_pow pe_int pe_int)) pa_nil)))))) pa_nil))))
      (pss_cons (ps_if (PW.pt (pw_or (pt_not (pt_val (pe_callG hG (ok_q_same T) (hr.mono (by decide)) (by rfl) T.g_q_same T.F_q_same.kp (b_q_same T) pass0 (pa_cons (pe_call (ok_q_refused T) (hr.mono (by decide)) (by rfl) T.g_q_refused T.F_q_refused.kp (b_q_refused T) .nil pass0 (pa_cons (pv 6) (pa_cons (pv 3) pa_nil))) (pa_cons (pv 6) pa_nil))))) (pw_or1 (pt_not (pt_val (pe_callG hG (ok_q_same T) (hr.mono (by decide)) (by rfl) T.g_q_same T.F_q_same.kp (b_q_same T) pass0 (pa_cons (pe_call (ok_q_refused T) (hr.mono (by decide)) (by rfl) T.g_q_refused T.F_q_refused.kp (b_q_refused T) .nil pass0 (pa_cons (pv 2) (pa_cons (pv 6) pa_nil))) (pa_cons (pv 6) pa_nil)))))))) (pss_one (ps_ret pe_bl)) pss_nil)
      (pss_one (ps_ret (pe_and (pe_callG hG (ok_q_same T) (hr.mono (by decide)) (by rfl) T.g_q_same T.F_q_same.kp (b_q_same T) pass0 (pa_cons (pe_call (ok_q_refused T) (hr.mono (by decide)) (by rfl) T.g_q_refused T.F_q_refused.kp (b_q_refused T) .nil pass0 (pa_cons (pv 6) (pa_cons (pv 7) pa_nil))) (pa_cons (pv 6) pa_nil))) (pe_one (pe_callG hG (ok_q_same T) (hr.mono (by decide)) (by rfl) T.g_q_same T.F_q_same.kp (b_q_same T) pass0 (pa_cons (pe_call (ok_q_refused T) (hr.mono (by decide)) (by rfl) T.g_q_refused T.F_q_refused.kp (b_q_refused T) .nil pass0 (pa_cons (pv 2) (pa_cons (pv 7) pa_nil))) (pa_cons (pv 7) pa_nil)))))))))))))))), ?_⟩
    -- wide
    refine ⟨_, rfl, 10, 6, rfl, rfl, ⟨by decide, by decide, by decide⟩, 10, 40, rfl, rfl, ⟨by decide, by decide, by decide⟩, (by show 4 ≤ sizeLine; decide), fun l hl => ?_⟩
    have ne1 := bag.ne hl
    refine ⟨a, l, _, rfl, bag.keep (same_new hl), upd_same, ne1, (by show 0 < 4; decide), (by show 4 ≤ 1000; decide), fun j x H1 hx bag1 but1 => ?_⟩
    obtain ⟨m, rfl, hm⟩ := pick4 hx
    have m0 : 0 < m := by rcases hm with rfl | rfl | rfl | rfl <;> decide
    have m1 : m ≤ 10 ^ 40 := by rcases hm with rfl | rfl | rfl | rfl <;> decide
    have b1 : But a H H1 := (But.of (same_new hl)).trans but1
    clear hx hm
    -- number
    refine ⟨_, rfl, _, rfl, a, m, rfl, bag1, m0, wide_log m0 m1, fun r H2 r0 r1 bag2 but2 => ?_⟩
    refine ⟨_, rfl, _, rfl, m, 2, rfl, rfl, ⟨by decide, by decide⟩, _, rfl, (by show 3 ≤ sizeLine; decide), fun l2 hl2 => ?_⟩
    refine ⟨a, l2, _, rfl, bag2.keep (same_new hl2), upd_same, bag2.ne hl2, (by show 0 < 3; decide), (by show 3 ≤ 1000; decide), fun j x H3 hx bag3 but3 => ?_⟩
    obtain ⟨c, rfl, hc⟩ := pick3 hx
    have c0 : 0 ≤ c := by rcases hc with rfl | rfl | rfl <;> omega
    have c1 : c ≤ 10 ^ 40 := by rcases hc with rfl | rfl | rfl <;> omega
    have b3 : But a H H3 := ((b1.trans but2).same (same_new hl2)).trans but3
    refine ⟨_, _, rfl, rfl, ?_⟩
    have hn : (r - c).natAbs < 2 ^ 134 := num_lt r0 (by omega) c0 c1
    clear hx hc
    -- often, product
    refine ⟨_, rfl, a, 21, rfl, bag3, (by decide), (by decide), fun k H4 k0 k1 bag4 but4 => ⟨_, _, rfl, ?_⟩⟩
    obtain ⟨k, rfl⟩ := Int.eq_ofNat_of_zero_le k0
    have hk : k ≤ 20 := by omega
    have b4 : But a H H4 := b3.trans but4
    -- the loop
    refine ⟨_, rfl, (k : Int), rfl, by omega, by omega, ?_⟩
    refine for_range (lo := 0) (n := k) (fun i σ H' => ∃ y : Option V, σ = [some (.ref a), some (.int m), some (.int (r - c)), some (.int k), some (.int (fall (r - c) i)), y, none, none] ∧ H' = H4) ⟨none, rfl, rfl⟩ ?_ ?_
    · rintro i σ H' hi ⟨y, rfl, rfl⟩
      have e0 : (0 : Int) + (i : Int) = (i : Int) := by omega
      refine ⟨_, rfl, _, rfl, _, rfl, (r - c), _, rfl, rfl, _, _, rfl, rfl, (by rw [e0]; exact fall_mul hn (by omega)), ⟨some (.int (0 + (i : Int))), ?_, rfl⟩⟩
      rw [e0]
      rfl
    · rintro σ H' ⟨y, rfl, rfl⟩
      -- falling by position, twice
      refine ⟨_, rfl, _, rfl, .int (r - c), .int k, rfl, pl_int _, pl_int _, .inr (.inr ⟨(r - c), k, rfl, rfl, hn, hk, fun H5 sm5 => ⟨.int (fall (r - c) k), rfl, pl_int _, true, rfl, iteF ?_⟩⟩)⟩
      refine ⟨_, rfl, _, rfl, .int (r - c), .int k, rfl, pl_int _, pl_int _, .inr (.inr ⟨(r - c), k, rfl, rfl, hn, hk, fun H6 sm6 => ⟨_, rfl, rfl, _, rfl, iteNS rfl ?_⟩⟩)⟩
      have b6 : But a H H6 := (b4.same sm5).same sm6
      have bag6 : Bag H6 a := (bag4.keep sm5).keep sm6
      -- by name
      refine ⟨_, rfl, k, 20, rfl, rfl, _, rfl, ite2 (fun lt => ?_) (fun _ => iteF ?_)⟩
      · refine ⟨_, rfl, k, 1, rfl, rfl, _, rfl, rfl, rfl, .int (r - c), .int ((k : Int) + 1), rfl, pl_int _, pl_int _, .inr (.inr ⟨(r - c), k + 1, rfl, rfl, hn, ?_, fun H7 sm7 => ?_⟩)⟩
        · have := of_decide_eq_true lt
          omega
        · refine ⟨_, rfl, _, rfl, _, rfl, (r - c), k, rfl, rfl, _, _, rfl, rfl, fall_mul hn hk, rfl, _, rfl, iteNS rfl ?_⟩
          have b7 : But a H H7 := b6.same sm7
          have bag7 : Bag H7 a := bag6.keep sm7
          -- the odd thing
          refine ⟨_, rfl, (by show 1 ≤ sizeLine; decide), fun p1 h1 => ⟨(by show 1 ≤ sizeLine; decide), fun p2 h2 => fun p3 h3 => fun p4 h4 => ?_⟩⟩
          have u4 : ∀ {Hx : Hp} {o o2 : HO}, Hx p4 = none → upd (upd Hx p4 o) p4 o2 = upd Hx p4 o2 := fun _ => upd_upd
          refine ⟨upd_same, [(.inl 3, .int 3)], rfl, (by show 1 ≤ 15; decide), Nat.zero_le _, fun p5 h5 => ⟨(by show 9 ≤ sizeLine; decide), fun l3 hl3 => ?_⟩⟩
          rw [upd_upd] at h5 hl3 ⊢
          have s1 := same_new h1 (o := .tup [.int 3])
          have s2 := same_new h2 (o := .lst [.int 3])
          have s3 := same_new h3 (o := .dK [])
          have s4 := same_new h4 (o := .dK [(.inl 3, .int 3)])
          have s5 := same_new h5 (o := .tup [])
          have s6 := same_new hl3 (o := .lst [.non, .bl true, .bl false, .str "3", .ref p1, .ref p2, .ref p3, .ref p4, .ref p5])
          have g1 := s6 _ _ (s5 _ _ (s4 _ _ (s3 _ _ (s2 _ _ (upd_same (H := H7) (a := p1) (o := .tup [.int 3]))))))
          have g2 := s6 _ _ (s5 _ _ (s4 _ _ (s3 _ _ (upd_same (H := upd H7 p1 (.tup [.int 3])) (a := p2) (o := .lst [.int 3])))))
          have g3 := s6 _ _ (s5 _ _ (s4 _ _ (upd_same (H := upd (upd H7 p1 (.tup [.int 3])) p2 (.lst [.int 3])) (a := p3) (o := .dK []))))
          have g4 := s6 _ _ (s5 _ _ (upd_same (H := upd (upd (upd H7 p1 (.tup [.int 3])) p2 (.lst [.int 3])) p3 (.dK [])) (a := p4) (o := .dK [(.inl 3, .int 3)])))
          have g5 := s6 _ _ (upd_same (H := upd (upd (upd (upd H7 p1 (.tup [.int 3])) p2 (.lst [.int 3])) p3 (.dK [])) p4 (.dK [(.inl 3, .int 3)])) (a := p5) (o := .tup []))
          have bg2 := bag7.keep s1
          have bg3 := bg2.keep s2
          have bg4 := bg3.keep s3
          have bg5 := bg4.keep s4
          have bg6 := bg5.keep s5
          have n1 := bag7.ne h1
          have n2 := bg2.ne h2
          have n3 := bg3.ne h3
          have n4 := bg4.ne h4
          have n5 := bg5.ne h5
          have b8 := b7.same (((((s1.trans s2).trans s3).trans s4).trans s5).trans s6)
          refine ⟨a, l3, _, rfl, bg6.keep s6, upd_same, bg6.ne hl3, (by show 0 < 9; decide), (by show 9 ≤ 1000; decide), fun j x H9 hx bag9 but9 => ?_⟩
          have odd : Odd H9 a x := by
            have mem := List.mem_of_getElem? hx
            simp only [List.mem_cons, List.mem_nil_iff, or_false] at mem
            refine Odd.but ?_ but9
            rcases mem with rfl | rfl | rfl | rfl | rfl | rfl | rfl | rfl | rfl
            · exact .non
            · exact .bl true
            · exact .bl false
            · exact .str
            · exact .tup g1 n1
            · exact .lst g2 n2
            · exact .d0 g3 n3
            · exact .d1 g4 n4
            · exact .t0 g5 n5
          have b9 := b8.trans but9
          clear hx g1 g2 g3 g4 g5
          -- the high number
          refine ⟨_, rfl, 0, 1, rfl, rfl, 10, 30, rfl, rfl, ⟨by decide, by decide, by decide⟩, 10, 30, rfl, rfl, ⟨by decide, by decide, by decide⟩, 0, _, rfl, rfl, (by show 5 ≤ sizeLine; decide), fun l4 hl4 => ?_⟩
          refine ⟨a, l4, _, rfl, bag9.keep (same_new hl4), upd_same, bag9.ne hl4, (by show 0 < 5; decide), (by show 5 ≤ 1000; decide), fun j y H10 hy bag10 but10 => ?_⟩
          obtain ⟨v, rfl, hv⟩ := pick5 hy
          have v0 : inR 0 20 (.int v) = false := by rcases hv with rfl | rfl | rfl | rfl | rfl <;> decide
          have v1 : v.natAbs.log2 < 1920 := by rcases hv with rfl | rfl | rfl | rfl | rfl <;> decide +kernel
          have odd10 : Odd H10 a x := (odd.but (But.of (same_new hl4))).but but10
          have b10 : But a H H10 := (b9.same (same_new hl4)).trans but10
          clear hy hv
          have oR : ∀ i : Int, isI (.int i) = true := fun _ => rfl
          have xR : inR 0 20 x = false := by
            have e := odd10.isI
            cases x <;> first | rfl | cases e
          -- refused(odd, often)
          refine ⟨_, rfl, _, rfl, x, .int k, x, rfl, odd10.pl, pl_int _, .inl ⟨odd10.isI, rfl⟩, fun p H11 hp sm11 ep => ⟨_, rfl, p, x, rfl, ep, odd10.told.keep sm11 (.inl odd10), true, rfl, iteF ?_⟩⟩
          have odd11 : Odd H11 a x := odd10.but (But.of sm11)
          -- refused(number, odd)
          refine ⟨_, rfl, _, rfl, .int (r - c), x, x, rfl, pl_int _, odd11.pl, .inr ⟨rfl, xR, rfl⟩, fun p H12 hp sm12 ep => ⟨_, rfl, p, x, rfl, ep, odd11.told.keep sm12 (.inl odd11), true, rfl, iteF ?_⟩⟩
          have odd12 : Odd H12 a x := odd11.but (But.of sm12)
          -- refused(odd, high)
          refine ⟨_, rfl, _, rfl, x, .int v, x, rfl, odd12.pl, pl_int _, .inl ⟨odd12.isI, rfl⟩, fun p H13 hp sm13 ep => ⟨_, rfl, p, x, rfl, ep, odd12.told.keep sm13 (.inl odd12), true, rfl, iteT ?_⟩⟩
          -- refused(number, high)
          refine ⟨_, rfl, _, rfl, .int (r - c), .int v, .int v, rfl, pl_int _, pl_int _, .inr ⟨rfl, v0, rfl⟩, fun p H14 hp sm14 ep => ⟨_, rfl, p, .int v, rfl, ep, int_told v1, ?_⟩⟩
          exact q _ ((((b10.same sm11).same sm12).same sm13).same sm14)
      · have b7 := b6
        have bag7 := bag6
        revert b7 bag7
        generalize H6 = H7
        intro b7 bag7
        -- the odd thing
        refine ⟨_, rfl, (by show 1 ≤ sizeLine; decide), fun p1 h1 => ⟨(by show 1 ≤ sizeLine; decide), fun p2 h2 => fun p3 h3 => fun p4 h4 => ?_⟩⟩
        have u4 : ∀ {Hx : Hp} {o o2 : HO}, Hx p4 = none → upd (upd Hx p4 o) p4 o2 = upd Hx p4 o2 := fun _ => upd_upd
        refine ⟨upd_same, [(.inl 3, .int 3)], rfl, (by show 1 ≤ 15; decide), Nat.zero_le _, fun p5 h5 => ⟨(by show 9 ≤ sizeLine; decide), fun l3 hl3 => ?_⟩⟩
        rw [upd_upd] at h5 hl3 ⊢
        have s1 := same_new h1 (o := .tup [.int 3])
        have s2 := same_new h2 (o := .lst [.int 3])
        have s3 := same_new h3 (o := .dK [])
        have s4 := same_new h4 (o := .dK [(.inl 3, .int 3)])
        have s5 := same_new h5 (o := .tup [])
        have s6 := same_new hl3 (o := .lst [.non, .bl true, .bl false, .str "3", .ref p1, .ref p2, .ref p3, .ref p4, .ref p5])
        have g1 := s6 _ _ (s5 _ _ (s4 _ _ (s3 _ _ (s2 _ _ (upd_same (H := H7) (a := p1) (o := .tup [.int 3]))))))
        have g2 := s6 _ _ (s5 _ _ (s4 _ _ (s3 _ _ (upd_same (H := upd H7 p1 (.tup [.int 3])) (a := p2) (o := .lst [.int 3])))))
        have g3 := s6 _ _ (s5 _ _ (s4 _ _ (upd_same (H := upd (upd H7 p1 (.tup [.int 3])) p2 (.lst [.int 3])) (a := p3) (o := .dK []))))
        have g4 := s6 _ _ (s5 _ _ (upd_same (H := upd (upd (upd H7 p1 (.tup [.int 3])) p2 (.lst [.int 3])) p3 (.dK [])) (a := p4) (o := .dK [(.inl 3, .int 3)])))
        have g5 := s6 _ _ (upd_same (H := upd (upd (upd (upd H7 p1 (.tup [.int 3])) p2 (.lst [.int 3])) p3 (.dK [])) p4 (.dK [(.inl 3, .int 3)])) (a := p5) (o := .tup []))
        have bg2 := bag7.keep s1
        have bg3 := bg2.keep s2
        have bg4 := bg3.keep s3
        have bg5 := bg4.keep s4
        have bg6 := bg5.keep s5
        have n1 := bag7.ne h1
        have n2 := bg2.ne h2
        have n3 := bg3.ne h3
        have n4 := bg4.ne h4
        have n5 := bg5.ne h5
        have b8 := b7.same (((((s1.trans s2).trans s3).trans s4).trans s5).trans s6)
        refine ⟨a, l3, _, rfl, bg6.keep s6, upd_same, bg6.ne hl3, (by show 0 < 9; decide), (by show 9 ≤ 1000; decide), fun j x H9 hx bag9 but9 => ?_⟩
        have odd : Odd H9 a x := by
          have mem := List.mem_of_getElem? hx
          simp only [List.mem_cons, List.mem_nil_iff, or_false] at mem
          refine Odd.but ?_ but9
          rcases mem with rfl | rfl | rfl | rfl | rfl | rfl | rfl | rfl | rfl
          · exact .non
          · exact .bl true
          · exact .bl false
          · exact .str
          · exact .tup g1 n1
          · exact .lst g2 n2
          · exact .d0 g3 n3
          · exact .d1 g4 n4
          · exact .t0 g5 n5
        have b9 := b8.trans but9
        clear hx g1 g2 g3 g4 g5
        -- the high number
        refine ⟨_, rfl, 0, 1, rfl, rfl, 10, 30, rfl, rfl, ⟨by decide, by decide, by decide⟩, 10, 30, rfl, rfl, ⟨by decide, by decide, by decide⟩, 0, _, rfl, rfl, (by show 5 ≤ sizeLine; decide), fun l4 hl4 => ?_⟩
        refine ⟨a, l4, _, rfl, bag9.keep (same_new hl4), upd_same, bag9.ne hl4, (by show 0 < 5; decide), (by show 5 ≤ 1000; decide), fun j y H10 hy bag10 but10 => ?_⟩
        obtain ⟨v, rfl, hv⟩ := pick5 hy
        have v0 : inR 0 20 (.int v) = false := by rcases hv with rfl | rfl | rfl | rfl | rfl <;> decide
        have v1 : v.natAbs.log2 < 1920 := by rcases hv with rfl | rfl | rfl | rfl | rfl <;> decide +kernel
        have odd10 : Odd H10 a x := (odd.but (But.of (same_new hl4))).but but10
        have b10 : But a H H10 := (b9.same (same_new hl4)).trans but10
        clear hy hv
        have oR : ∀ i : Int, isI (.int i) = true := fun _ => rfl
        have xR : inR 0 20 x = false := by
          have e := odd10.isI
          cases x <;> first | rfl | cases e
        -- refused(odd, often)
        refine ⟨_, rfl, _, rfl, x, .int k, x, rfl, odd10.pl, pl_int _, .inl ⟨odd10.isI, rfl⟩, fun p H11 hp sm11 ep => ⟨_, rfl, p, x, rfl, ep, odd10.told.keep sm11 (.inl odd10), true, rfl, iteF ?_⟩⟩
        have odd11 : Odd H11 a x := odd10.but (But.of sm11)
        -- refused(number, odd)
        refine ⟨_, rfl, _, rfl, .int (r - c), x, x, rfl, pl_int _, odd11.pl, .inr ⟨rfl, xR, rfl⟩, fun p H12 hp sm12 ep => ⟨_, rfl, p, x, rfl, ep, odd11.told.keep sm12 (.inl odd11), true, rfl, iteF ?_⟩⟩
        have odd12 : Odd H12 a x := odd11.but (But.of sm12)
        -- refused(odd, high)
        refine ⟨_, rfl, _, rfl, x, .int v, x, rfl, odd12.pl, pl_int _, .inl ⟨odd12.isI, rfl⟩, fun p H13 hp sm13 ep => ⟨_, rfl, p, x, rfl, ep, odd12.told.keep sm13 (.inl odd12), true, rfl, iteT ?_⟩⟩
        -- refused(number, high)
        refine ⟨_, rfl, _, rfl, .int (r - c), .int v, .int v, rfl, pl_int _, pl_int _, .inr ⟨rfl, v0, rfl⟩, fun p H14 hp sm14 ep => ⟨_, rfl, p, .int v, rfl, ep, int_told v1, ?_⟩⟩
        exact q _ ((((b10.same sm11).same sm12).same sm13).same sm14)
end
end K27

set_option Elab.async false
set_option linter.all false
set_option maxRecDepth 100000
set_option maxHeartbeats 8000000
namespace K27
open PySem PySem.Spec PyProof.Rows L2 GX
def spLaw (K : PySem.W.Frag) : Sp := fun vs H Q _ => ∃ (a : Addr) (ns : List Int), vs = [.ref a] ∧ SqL K H a (ns.map V.int) ∧ ns.length ≤ 63 ∧ ∀ H', Q (.bl true) H'
theorem all_true (n : Nat) : (List.replicate n true).all id = true := by
  induction n with
  | zero => rfl
  | succ n ih =>
    rw [List.replicate_succ, List.all_cons, ih]
    rfl
theorem rep_more (n : Nat) : (List.replicate n (V.bl true)) ++ [.bl true] = List.replicate (n + 1) (.bl true) := by
  rw [List.replicate_succ']
theorem rep_all {H : Hp} {D : Addr} {n : Nat} (h : H D = some (.lst (List.replicate n (.bl true)))) : ∃ bs : List Bool, H D = some (.lst (bs.map V.bl)) ∧ bs.all id = true :=
  ⟨List.replicate n true, by rw [List.map_replicate]; exact h, all_true n⟩
section
variable {P : Program} {w : World} {K : PySem.W.Frag} {mg : Str → Option Value} {base : Heap}
theorem ok_law (T : Txt K mg) : FnG P w K mg base CX0 7 T.a_law T.fd_law ["_law_script"] (spLaw K) := by
  refine fnG0 T.F_law sc_law (fun vs H Q E h => ?_) (fun cdv A outer s H vs Q E hG hr h => ?_)
  · obtain ⟨a, ns, rfl, _⟩ := h
    rfl
  · obtain ⟨a, ns, rfl, S, hl, q⟩ := h
    refine ⟨_, (pss_one (ps_ret (pe_callB (cr_all rfl) (by rfl) T.z_all (by decide +kernel) (pa_cons (pe_lc (own := [("_law_k", 1)]) (g := gName 1) (by rfl) sc_law.nd (pi_range1 (by rfl) T.z_range (pa_cons (pe_callB (call_max2 rfl) (by rfl) T.z_max (by decide +kernel) (pa_cons pe_int (pa_cons (pe_callB (call_min2 rfl) (by rfl) T.z_min (by decide +kernel) (pa_cons pe_int (pa_cons (pe_callB call_len_seq (by rfl) T.z_len (by decide +kernel) (pa_cons (pv 0) pa_nil)) pa_nil))) pa_nil))) pa_nil)) (blkOk_by (own := [("_law_k", 1)]) (N := N_law) (sc := defScope s_law) (by decide +kernel)) (fun _ _ _ _ _ => (pg_name (i := 1) sc_law.nd rfl (Or.inl rfl))) (fun _ _ _ _ _ => pts_nil) (fun _ _ _ _ _ => (pe_callG hG (ok_q_right T) (hr.mono (by decide)) (by rfl) T.g_q_right T.F_q_right.kp (b_q_right T) pass0 (pa_cons (pe_call (ok_q_bag T) (hr.mono (by decide)) (by rfl) T.g_q_bag T.F_q_bag.kp (b_q_bag T) .nil pass0 (pa_cons (pe_call (ok_q_cell T) (hr.mono (by decide)) (by rfl) T.g_q_cell T.F_q_cell.kp (b_q_cell T) .nil pass0 (pa_cons (pv 0) (pa_cons (pv 1) pa_nil))) pa_nil)) pa_nil)))) pa_nil)))), ?_⟩
    have hl2 : (((ns.map V.int).length : Nat) : Int) ≤ 63 := by
      rw [List.length_map]
      omega
    refine ⟨_, rfl, a, _, rfl, .inl S, 12, _, rfl, 2, _, rfl, _, rfl, ?_, ?_, ?_⟩
    · split <;> split <;> omega
    · split <;> split <;> omega
    · intro D hD
      refine lc_range (lo := 0) (fun i H' => Same H H' ∧ H' D = some (.lst (List.replicate i (.bl true)))) ⟨same_new hD, upd_same⟩ (fun i H' hi h => ?_) (fun H' h => ?_)
      · obtain ⟨sm, eD⟩ := h
        have hi2 : i ≤ 63 := by
          revert hi
          split <;> split <;> omega
        have e0 : (0 : Int) + (i : Int) = (i : Int) := by omega
        refine ⟨rfl, _, rfl, _, rfl, a, ns, i, congrArg (fun z => [V.ref a, V.int z]) e0, sm.seq S, hl, hi2, fun c H1 sm1 => ?_⟩
        refine ⟨c, rfl, fun p H2 hp sm2 bag => ⟨p, rfl, bag, fun H3 but => ?_⟩⟩
        have e2 := sm2 _ _ (sm1 _ _ eD)
        have nD : D ≠ p := ne_of_none (sm1 _ _ eD) hp
        have e3 := but _ _ nD e2
        refine ⟨_, e3, ?_, fun b o h => ?_, ?_⟩
        · rw [List.length_replicate]
          exact small1000 (by omega)
        · rw [upd_ne (ne_of_none h hD)]
          have h1 := sm1 _ _ (sm _ _ h)
          exact but _ _ (ne_of_none h1 hp) (sm2 _ _ h1)
        · rw [upd_same, rep_more]
      · obtain ⟨sm, eD⟩ := h
        obtain ⟨bs, e, al⟩ := rep_all eD
        refine ⟨D, bs, rfl, SqL.of e, ?_⟩
        rw [al]
        exact q H'
end
end K27

set_option Elab.async false
set_option linter.all false
set_option maxRecDepth 100000
set_option maxHeartbeats 8000000
namespace K27
open PySem PySem.Spec PyProof.Rows L2 GX
theorem all_mk {l : PySem.W.OpenLaw} {w : World} {K : PySem.W.Frag} {h : Heap} {mg : Str → Option Value} {fa : Addr} (X : K.In h) (G : h.Ns mainGlobals mg) (hfa : mg "law" = some (.ref fa))
    {f_is_integer : Addr} {od_is_integer an_is_integer : Option Addr} {sl_is_integer : Array (Option Value)} {oc_is_integer kV_is_integer dc_is_integer pm_is_integer cd_is_integer ct_is_integer : Value}
    {f_is_integer_within : Addr} {od_is_integer_within an_is_integer_within : Option Addr} {sl_is_integer_within : Array (Option Value)} {oc_is_integer_within kV_is_integer_within dc_is_integer_within pm_is_integer_within cd_is_integer_within ct_is_integer_within : Value}
    {f_falling : Addr} {od_falling an_falling : Option Addr} {sl_falling : Array (Option Value)} {oc_falling kV_falling dc_falling pm_falling cd_falling ct_falling : Value}
    {f_fallings : Addr} {od_fallings an_fallings : Option Addr} {sl_fallings : Array (Option Value)} {oc_fallings kV_fallings dc_fallings pm_fallings cd_fallings ct_fallings : Value}
    {f_q_cell : Addr} {od_q_cell an_q_cell : Option Addr} {sl_q_cell : Array (Option Value)} {oc_q_cell kV_q_cell dc_q_cell pm_q_cell cd_q_cell ct_q_cell : Value}
    {f_q_bag : Addr} {od_q_bag an_q_bag : Option Addr} {sl_q_bag : Array (Option Value)} {oc_q_bag kV_q_bag dc_q_bag pm_q_bag cd_q_bag ct_q_bag : Value}
    {f_q_take : Addr} {od_q_take an_q_take : Option Addr} {sl_q_take : Array (Option Value)} {oc_q_take kV_q_take dc_q_take pm_q_take cd_q_take ct_q_take : Value}
    {f_q_pick : Addr} {od_q_pick an_q_pick : Option Addr} {sl_q_pick : Array (Option Value)} {oc_q_pick kV_q_pick dc_q_pick pm_q_pick cd_q_pick ct_q_pick : Value}
    {f_q_int : Addr} {od_q_int an_q_int : Option Addr} {sl_q_int : Array (Option Value)} {oc_q_int kV_q_int dc_q_int pm_q_int cd_q_int ct_q_int : Value}
    {f_q_refused : Addr} {od_q_refused an_q_refused : Option Addr} {sl_q_refused : Array (Option Value)} {oc_q_refused kV_q_refused dc_q_refused pm_q_refused cd_q_refused ct_q_refused : Value}
    {f_q_same : Addr} {od_q_same an_q_same : Option Addr} {sl_q_same : Array (Option Value)} {oc_q_same kV_q_same dc_q_same pm_q_same cd_q_same ct_q_same : Value}
    {f_q_right : Addr} {od_q_right an_q_right : Option Addr} {sl_q_right : Array (Option Value)} {oc_q_right kV_q_right dc_q_right pm_q_right cd_q_right ct_q_right : Value}
    {f_law : Addr} {od_law an_law : Option Addr} {sl_law : Array (Option Value)} {oc_law kV_law dc_law pm_law cd_law ct_law : Value}
    {tLong : Tok}
    {aN aS aI fI : Addr}
    {nm q : Str}
    {N : Addr}
    {bs : List Value}
    {sn : List Str}
    {sub : List Value}
    {ab : Bool}
    {col : Option Bool}
    {dd : Option Addr}
    {m0 m1 m2 m3 m5 : Option Value}
    {odi ani : Option Addr}
    {sli : Array (Option Value)}
    {oci kVi dci pmi cdi cti : Value}
    (a_is_integer : PySem.W.nsIn K mainGlobals "is_integer" = some (some (.ref f_is_integer))) (l_is_integer : K.lookup f_is_integer = some ⟨oc_is_integer, od_is_integer, .func (PySem.W.fnOf "is_integer" "is_integer" (defArgs s_is_integer) (defBody s_is_integer) (defScope s_is_integer) .none kV_is_integer dc_is_integer pm_is_integer an_is_integer cd_is_integer ct_is_integer), sl_is_integer⟩) (c_is_integer : PySem.W.codeIn K cd_is_integer "is_integer" = true) (k_is_integer : PySem.W.keepIn K (.ref f_is_integer) = true)
    (a_is_integer_within : PySem.W.nsIn K mainGlobals "is_integer_within" = some (some (.ref f_is_integer_within))) (l_is_integer_within : K.lookup f_is_integer_within = some ⟨oc_is_integer_within, od_is_integer_within, .func (PySem.W.fnOf "is_integer_within" "is_integer_within" (defArgs s_is_integer_within) (defBody s_is_integer_within) (defScope s_is_integer_within) .none kV_is_integer_within dc_is_integer_within pm_is_integer_within an_is_integer_within cd_is_integer_within ct_is_integer_within), sl_is_integer_within⟩) (c_is_integer_within : PySem.W.codeIn K cd_is_integer_within "is_integer_within" = true) (k_is_integer_within : PySem.W.keepIn K (.ref f_is_integer_within) = true)
    (a_falling : PySem.W.nsIn K mainGlobals "falling" = some (some (.ref f_falling))) (l_falling : K.lookup f_falling = some ⟨oc_falling, od_falling, .func (PySem.W.fnOf "falling" "falling" (defArgs s_falling) (defBody s_falling) (defScope s_falling) .none kV_falling dc_falling pm_falling an_falling cd_falling ct_falling), sl_falling⟩) (c_falling : PySem.W.codeIn K cd_falling "falling" = true) (k_falling : PySem.W.keepIn K (.ref f_falling) = true)
    (a_fallings : PySem.W.nsIn K mainGlobals "fallings" = some (some (.ref f_fallings))) (l_fallings : K.lookup f_fallings = some ⟨oc_fallings, od_fallings, .func (PySem.W.fnOf "fallings" "fallings" (defArgs s_fallings) (defBody s_fallings) (defScope s_fallings) .none kV_fallings dc_fallings pm_fallings an_fallings cd_fallings ct_fallings), sl_fallings⟩) (c_fallings : PySem.W.codeIn K cd_fallings "fallings" = true) (k_fallings : PySem.W.keepIn K (.ref f_fallings) = true)
    (a_q_cell : PySem.W.nsIn K mainGlobals "_law_cell" = some (some (.ref f_q_cell))) (l_q_cell : K.lookup f_q_cell = some ⟨oc_q_cell, od_q_cell, .func (PySem.W.fnOf "_law_cell" "_law_cell" (defArgs s_q_cell) (defBody s_q_cell) (defScope s_q_cell) .none kV_q_cell dc_q_cell pm_q_cell an_q_cell cd_q_cell ct_q_cell), sl_q_cell⟩) (c_q_cell : PySem.W.codeIn K cd_q_cell "_law_cell" = true) (k_q_cell : PySem.W.keepIn K (.ref f_q_cell) = true)
    (a_q_bag : PySem.W.nsIn K mainGlobals "_law_bag" = some (some (.ref f_q_bag))) (l_q_bag : K.lookup f_q_bag = some ⟨oc_q_bag, od_q_bag, .func (PySem.W.fnOf "_law_bag" "_law_bag" (defArgs s_q_bag) (defBody s_q_bag) (defScope s_q_bag) .none kV_q_bag dc_q_bag pm_q_bag an_q_bag cd_q_bag ct_q_bag), sl_q_bag⟩) (c_q_bag : PySem.W.codeIn K cd_q_bag "_law_bag" = true) (k_q_bag : PySem.W.keepIn K (.ref f_q_bag) = true)
    (a_q_take : PySem.W.nsIn K mainGlobals "_law_take" = some (some (.ref f_q_take))) (l_q_take : K.lookup f_q_take = some ⟨oc_q_take, od_q_take, .func (PySem.W.fnOf "_law_take" "_law_take" (defArgs s_q_take) (defBody s_q_take) (defScope s_q_take) .none kV_q_take dc_q_take pm_q_take an_q_take cd_q_take ct_q_take), sl_q_take⟩) (c_q_take : PySem.W.codeIn K cd_q_take "_law_take" = true) (k_q_take : PySem.W.keepIn K (.ref f_q_take) = true)
    (a_q_pick : PySem.W.nsIn K mainGlobals "_law_pick" = some (some (.ref f_q_pick))) (l_q_pick : K.lookup f_q_pick = some ⟨oc_q_pick, od_q_pick, .func (PySem.W.fnOf "_law_pick" "_law_pick" (defArgs s_q_pick) (defBody s_q_pick) (defScope s_q_pick) .none kV_q_pick dc_q_pick pm_q_pick an_q_pick cd_q_pick ct_q_pick), sl_q_pick⟩) (c_q_pick : PySem.W.codeIn K cd_q_pick "_law_pick" = true) (k_q_pick : PySem.W.keepIn K (.ref f_q_pick) = true)
    (a_q_int : PySem.W.nsIn K mainGlobals "_law_int" = some (some (.ref f_q_int))) (l_q_int : K.lookup f_q_int = some ⟨oc_q_int, od_q_int, .func (PySem.W.fnOf "_law_int" "_law_int" (defArgs s_q_int) (defBody s_q_int) (defScope s_q_int) .none kV_q_int dc_q_int pm_q_int an_q_int cd_q_int ct_q_int), sl_q_int⟩) (c_q_int : PySem.W.codeIn K cd_q_int "_law_int" = true) (k_q_int : PySem.W.keepIn K (.ref f_q_int) = true)
    (a_q_refused : PySem.W.nsIn K mainGlobals "_law_refused" = some (some (.ref f_q_refused))) (l_q_refused : K.lookup f_q_refused = some ⟨oc_q_refused, od_q_refused, .func (PySem.W.fnOf "_law_refused" "_law_refused" (defArgs s_q_refused) (defBody s_q_refused) (defScope s_q_refused) .none kV_q_refused dc_q_refused pm_q_refused an_q_refused cd_q_refused ct_q_refused), sl_q_refused⟩) (c_q_refused : PySem.W.codeIn K cd_q_refused "_law_refused" = true) (k_q_refused : PySem.W.keepIn K (.ref f_q_refused) = true)
    (a_q_same : PySem.W.nsIn K mainGlobals "_law_same" = some (some (.ref f_q_same))) (l_q_same : K.lookup f_q_same = some ⟨oc_q_same, od_q_same, .func (PySem.W.fnOf "_law_same" "_law_same" (defArgs s_q_same) (defBody s_q_same) (defScope s_q_same) .none kV_q_same dc_q_same pm_q_same an_q_same cd_q_same ct_q_same), sl_q_same⟩) (c_q_same : PySem.W.codeIn K cd_q_same "_law_same" = true) (k_q_same : PySem.W.keepIn K (.ref f_q_same) = true)
    (a_q_right : PySem.W.nsIn K mainGlobals "_law_right" = some (some (.ref f_q_right))) (l_q_right : K.lookup f_q_right = some ⟨oc_q_right, od_q_right, .func (PySem.W.fnOf "_law_right" "_law_right" (defArgs s_q_right) (defBody s_q_right) (defScope s_q_right) .none kV_q_right dc_q_right pm_q_right an_q_right cd_q_right ct_q_right), sl_q_right⟩) (c_q_right : PySem.W.codeIn K cd_q_right "_law_right" = true) (k_q_right : PySem.W.keepIn K (.ref f_q_right) = true)
    (a_law : PySem.W.nsIn K mainGlobals "law" = some (some (.ref f_law))) (l_law : K.lookup f_law = some ⟨oc_law, od_law, .func (PySem.W.fnOf "law" "law" (defArgs s_law) (defBody s_law) (defScope s_law) .none kV_law dc_law pm_law an_law cd_law ct_law), sl_law⟩) (c_law : PySem.W.codeIn K cd_law "law" = true) (k_law : PySem.W.keepIn K (.ref f_law) = true)
    (y_isinstance : PySem.W.nsIn K mainGlobals "isinstance" = some none)
    (y_int : PySem.W.nsIn K mainGlobals "int" = some none)
    (y_bool : PySem.W.nsIn K mainGlobals "bool" = some none)
    (y_len : PySem.W.nsIn K mainGlobals "len" = some none)
    (y_range : PySem.W.nsIn K mainGlobals "range" = some none)
    (y_abs : PySem.W.nsIn K mainGlobals "abs" = some none)
    (y_divmod : PySem.W.nsIn K mainGlobals "divmod" = some none)
    (y_repr : PySem.W.nsIn K mainGlobals "repr" = some none)
    (y_all : PySem.W.nsIn K mainGlobals "all" = some none)
    (y_max : PySem.W.nsIn K mainGlobals "max" = some none)
    (y_min : PySem.W.nsIn K mainGlobals "min" = some none)
    (y_ValueError : PySem.W.nsIn K mainGlobals "ValueError" = some none)
    (uL : PySem.W.nsIn K mainGlobals "LONGEST" = some (some (.int 20 tLong)))
    (uN : PySem.W.nsIn K mainGlobals "InvalidNumber" = some (some (.ref aN)))
    (uS : PySem.W.nsIn K mainGlobals "InvalidSize" = some (some (.ref aS)))
    (uI : PySem.W.nsIn K mainGlobals "InputError" = some (some (.ref aI)))
    (xL : K.lookup aN = some (excClassObj nm q aN N bs [.ref aI, .type "ValueError", .type "Exception", .type "BaseException", .type "object"] true sn sub ab col dd m0 m1 m2 m3 m5 "ValueError.__new__"))
    (sa : PySem.W.findIn K (.ref aN) "__setattr__" = some (some (.builtin "object.__setattr__")))
    (ga : PySem.W.findIn K (.ref aN) "__getattribute__" = some (some (.builtin "BaseException.__getattribute__")))
    (gg : PySem.W.findIn K (.ref aN) "__getattr__" = some none)
    (nb : PySem.W.findIn K (.ref aN) "number" = some none)
    (ha : PySem.W.findIn K (.ref aN) "__class__" = some (some (.builtin "object.__class__")))
    (hn : PySem.W.specialIn K (.builtin "object.__class__") "__get__" = some (some (.builtin "getset_descriptor.__get__")))
    (ht : PySem.W.takesIn K (.builtin "object.__class__") = some true)
    (hm : PySem.W.mroIn K aN (.type "object") = some true)
    (eC : PySem.W.subIn K (.ref aN) (.type "BaseException") = some true)
    (tC : PySem.W.typeIn K (.ref aN) = some (.type "type"))
    (kC : PySem.W.keepIn K (.ref aN) = true)
    (hC : PySem.W.hasDictIn K aN = true)
    (ii : PySem.W.findIn K (.ref aN) "__init__" = some (some (.ref fI)))
    (ti : PySem.W.typeIn K (.ref fI) = some (.type "function"))
    (li : K.lookup fI = some ⟨oci, odi, .func (PySem.W.fnOf "__init__" "InvalidNumber.__init__" (defArgs s_init) (defBody s_init) (defScope s_init) .none kVi dci pmi ani cdi cti), sli⟩)
    (ci : PySem.W.codeIn K cdi "InvalidNumber.__init__" = true)
    (ki : PySem.W.keepIn K (.ref fI) = true)
    (eI : PySem.W.subIn K (.ref aI) (.type "BaseException") = some true)
    (hI : PySem.W.hasDictIn K aI = true)
    (tyI : PySem.W.typeIn K (.ref aI) = some (.type "type"))
    (sNI : PySem.W.subIn K (.ref aN) (.ref aI) = some true)
    (kNN : PySem.W.kitOne K (.ref aN) (.ref aN) = some true)
    (kNS : PySem.W.kitOne K (.ref aN) (.ref aS) = some false)
    (kNV : PySem.W.kitOne K (.ref aN) (.type "ValueError") = some true) :
    ∃ fd : FuncData, (∀ (s : Shared) (v : Value), BindsTo s fd ⟨[v], []⟩ [("_law_script", v)]) ∧ ∀ base : Heap, K.In base → base.Ns mainGlobals mg → FnG l.prog w K mg base CX0 7 fa fd ["_law_script"] (spLaw K) := by
  have e := hfa.symm.trans (PySem.W.mg_of X G a_law)
  cases e
  let T : Txt K mg := {
    z_isinstance := PySem.W.mg_none_of X G y_isinstance
    z_int := PySem.W.mg_none_of X G y_int
    z_bool := PySem.W.mg_none_of X G y_bool
    z_len := PySem.W.mg_none_of X G y_len
    z_range := PySem.W.mg_none_of X G y_range
    z_abs := PySem.W.mg_none_of X G y_abs
    z_divmod := PySem.W.mg_none_of X G y_divmod
    z_repr := PySem.W.mg_none_of X G y_repr
    z_all := PySem.W.mg_none_of X G y_all
    z_max := PySem.W.mg_none_of X G y_max
    z_min := PySem.W.mg_none_of X G y_min
    z_ValueError := PySem.W.mg_none_of X G y_ValueError
    a_is_integer := f_is_integer
    fd_is_integer := _
    g_is_integer := PySem.W.mg_of X G a_is_integer
    F_is_integer := fun_mk (st := s_is_integer) l_is_integer c_is_integer k_is_integer
    a_is_integer_within := f_is_integer_within
    fd_is_integer_within := _
    g_is_integer_within := PySem.W.mg_of X G a_is_integer_within
    F_is_integer_within := fun_mk (st := s_is_integer_within) l_is_integer_within c_is_integer_within k_is_integer_within
    a_falling := f_falling
    fd_falling := _
    g_falling := PySem.W.mg_of X G a_falling
    F_falling := fun_mk (st := s_falling) l_falling c_falling k_falling
    a_fallings := f_fallings
    fd_fallings := _
    g_fallings := PySem.W.mg_of X G a_fallings
    F_fallings := fun_mk (st := s_fallings) l_fallings c_fallings k_fallings
    a_q_cell := f_q_cell
    fd_q_cell := _
    g_q_cell := PySem.W.mg_of X G a_q_cell
    F_q_cell := fun_mk (st := s_q_cell) l_q_cell c_q_cell k_q_cell
    a_q_bag := f_q_bag
    fd_q_bag := _
    g_q_bag := PySem.W.mg_of X G a_q_bag
    F_q_bag := fun_mk (st := s_q_bag) l_q_bag c_q_bag k_q_bag
    a_q_take := f_q_take
    fd_q_take := _
    g_q_take := PySem.W.mg_of X G a_q_take
    F_q_take := fun_mk (st := s_q_take) l_q_take c_q_take k_q_take
    a_q_pick := f_q_pick
    fd_q_pick := _
    g_q_pick := PySem.W.mg_of X G a_q_pick
    F_q_pick := fun_mk (st := s_q_pick) l_q_pick c_q_pick k_q_pick
    a_q_int := f_q_int
    fd_q_int := _
    g_q_int := PySem.W.mg_of X G a_q_int
    F_q_int := fun_mk (st := s_q_int) l_q_int c_q_int k_q_int
    a_q_refused := f_q_refused
    fd_q_refused := _
    g_q_refused := PySem.W.mg_of X G a_q_refused
    F_q_refused := fun_mk (st := s_q_refused) l_q_refused c_q_refused k_q_refused
    a_q_same := f_q_same
    fd_q_same := _
    g_q_same := PySem.W.mg_of X G a_q_same
    F_q_same := fun_mk (st := s_q_same) l_q_same c_q_same k_q_same
    a_q_right := f_q_right
    fd_q_right := _
    g_q_right := PySem.W.mg_of X G a_q_right
    F_q_right := fun_mk (st := s_q_right) l_q_right c_q_right k_q_right
    a_law := fa
    fd_law := _
    F_law := fun_mk (st := s_law) l_law c_law k_law
    tLong := tLong
    g_LONGEST := PySem.W.mg_of X G uL
    aN := aN
    aS := aS
    aI := aI
    fI := fI
    fdI := _
    g_InvalidNumber := PySem.W.mg_of X G uN
    g_InvalidSize := PySem.W.mg_of X G uS
    g_InputError := PySem.W.mg_of X G uI
    oex := ⟨⟨nm, q, N, bs, _, sn, sub, ab, col, dd, m0, m1, m2, m3, m5, xL, rfl⟩, sa, eC, tC, kC⟩
    xf := ⟨ga, gg, eC, hC⟩
    exC := ⟨ga, gg, eC, hC, ha, hn, ht, hm⟩
    noN := nb
    iN := ii
    tI := ti
    F_init := fun_mk (st := s_init) li ci ki
    exm := PySem.W.exm_ref eI hI tyI sNI
    kNN := kNN
    kNS := kNS
    kNV := kNV
  }
  exact ⟨T.fd_law, fun s v => .of_eq rfl, fun base _ _ => ok_law T⟩
end K27
open PySem PySem.W PyProof.Rows
set_option maxHeartbeats 0 in
theorem PySem.Challenge.cw_drawclaims_k27_falling_products_holds : PySem.Challenge.rw_drawclaims_k27_falling_products.Holds := by
  w_on; o_law; k_head; (case hw => w_witness2)
  k_fill
  refine GX.walkG (l := PySem.Challenge.rw_drawclaims_k27_falling_products) (n := 63) (k := 7) (x := "_law_script") (CX := fun _ => L2.CX0) (sp := fun w => K27.spLaw _) rfl (by decide) rfl ⟨rfl, by decide, by decide⟩ (fun w h Y => PySem.W.kIn_of Y) ?F (fun _ _ a ns hl _ hS => ⟨a, ns, rfl, hS, hl, fun _ => rfl⟩) (fun _ _ _ _ _ h => h)
  case F =>
    intro w mg fa h KX G hmg
    refine' K27.all_mk KX G hmg ?a_is_integer ?l_is_integer ?c_is_integer ?k_is_integer ?a_is_integer_within ?l_is_integer_within ?c_is_integer_within ?k_is_integer_within ?a_falling ?l_falling ?c_falling ?k_falling ?a_fallings ?l_fallings ?c_fallings ?k_fallings ?a_q_cell ?l_q_cell ?c_q_cell ?k_q_cell ?a_q_bag ?l_q_bag ?c_q_bag ?k_q_bag ?a_q_take ?l_q_take ?c_q_take ?k_q_take ?a_q_pick ?l_q_pick ?c_q_pick ?k_q_pick ?a_q_int ?l_q_int ?c_q_int ?k_q_int ?a_q_refused ?l_q_refused ?c_q_refused ?k_q_refused ?a_q_same ?l_q_same ?c_q_same ?k_q_same ?a_q_right ?l_q_right ?c_q_right ?k_q_right ?a_law ?l_law ?c_law ?k_law ?y_isinstance ?y_int ?y_bool ?y_len ?y_range ?y_abs ?y_divmod ?y_repr ?y_all ?y_max ?y_min ?y_ValueError ?uL ?uN ?uS ?uI ?xL ?sa ?ga ?gg ?nb ?ha ?hn ?ht ?hm ?eC ?tC ?kC ?hC ?ii ?ti ?li ?ci ?ki ?eI ?hI ?tyI ?sNI ?kNN ?kNS ?kNV
    (case a_is_integer => k_is)
    (case l_is_integer => k_is)
    (case c_is_integer => k_is)
    (case k_is_integer => k_is)
    (case a_is_integer_within => k_is)
    (case l_is_integer_within => k_is)
    (case c_is_integer_within => k_is)
    (case k_is_integer_within => k_is)
    (case a_falling => k_is)
    (case l_falling => k_is)
    (case c_falling => k_is)
    (case k_falling => k_is)
    (case a_fallings => k_is)
    (case l_fallings => k_is)
    (case c_fallings => k_is)
    (case k_fallings => k_is)
    (case a_q_cell => k_is)
    (case l_q_cell => k_is)
    (case c_q_cell => k_is)
    (case k_q_cell => k_is)
    (case a_q_bag => k_is)
    (case l_q_bag => k_is)
    (case c_q_bag => k_is)
    (case k_q_bag => k_is)
    (case a_q_take => k_is)
    (case l_q_take => k_is)
    (case c_q_take => k_is)
    (case k_q_take => k_is)
    (case a_q_pick => k_is)
    (case l_q_pick => k_is)
    (case c_q_pick => k_is)
    (case k_q_pick => k_is)
    (case a_q_int => k_is)
    (case l_q_int => k_is)
    (case c_q_int => k_is)
    (case k_q_int => k_is)
    (case a_q_refused => k_is)
    (case l_q_refused => k_is)
    (case c_q_refused => k_is)
    (case k_q_refused => k_is)
    (case a_q_same => k_is)
    (case l_q_same => k_is)
    (case c_q_same => k_is)
    (case k_q_same => k_is)
    (case a_q_right => k_is)
    (case l_q_right => k_is)
    (case c_q_right => k_is)
    (case k_q_right => k_is)
    (case a_law => k_is)
    (case l_law => k_is)
    (case c_law => k_is)
    (case k_law => k_is)
    (case y_isinstance => k_is)
    (case y_int => k_is)
    (case y_bool => k_is)
    (case y_len => k_is)
    (case y_range => k_is)
    (case y_abs => k_is)
    (case y_divmod => k_is)
    (case y_repr => k_is)
    (case y_all => k_is)
    (case y_max => k_is)
    (case y_min => k_is)
    (case y_ValueError => k_is)
    (case uL => k_is)
    (case uN => k_is)
    (case uS => k_is)
    (case uI => k_is)
    (case xL => k_is)
    (case sa => k_is)
    (case ga => k_is)
    (case gg => k_is)
    (case nb => k_is)
    (case ha => k_is)
    (case hn => k_is)
    (case ht => k_is)
    (case hm => k_is)
    (case eC => k_is)
    (case tC => k_is)
    (case kC => k_is)
    (case hC => k_is)
    (case ii => k_is)
    (case ti => k_is)
    (case li => k_is)
    (case ci => k_is)
    (case ki => k_is)
    (case eI => k_is)
    (case hI => k_is)
    (case tyI => k_is)
    (case sNI => first | rfl | k_is)
    (case kNN => first | rfl | k_is)
    (case kNS => first | rfl | k_is)
    (case kNV => first | rfl | k_is)
