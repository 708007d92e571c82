import PyProof.Rows.All
import Wide.All
import OpenK.AllK
import Wide.FinOn
import HandS.ForExc
import HandS.Ends
import HandS.Comp
import HandS.IsInst
import HandS.Wide
import HandS.WideBits
import HandS.Defaults
import HandS.ClsMeth
import HandS.MakeKwOnly
import KE.KFmtOwn
import HandS.ExcIs
import HandS.ExcInit
import HandS.ExcField
import HandS.Text
import HandS.StrMore
import PyProof.Rows.StrDigitsNeg
import HandS.Gcd
import HandS.FStr
import HandS.List
import PySem.Challenge.RW_drawclaims_k01_ratios_in_lowest_terms
set_option Elab.async false
set_option linter.all false
set_option maxRecDepth 100000
set_option maxHeartbeats 4000000
/-! Promises of defs that are called where no repr is under way (the list of repr guards around is empty), and what stands on them. -/
namespace GX
open PySem PySem.Spec PyProof.Rows L2

/-- a def's promise, kept where the guards around are known to be none -/
structure FnG (P : Program) (w : World) (K : PySem.W.Frag) (mg : Str → Option Value) (base : Heap) (CX : CXT)
    (k : Nat) (f : Addr) (fd : FuncData) (ps : List Str) (sp : Sp) : Prop where
  ln : ∀ (vs : List V) (H : Hp) (Q : VK) (E : XK), sp vs H Q E → vs.length = ps.length
  go : ∀ (A : Around) (outer : List Env) (s : Shared) (H : Hp) (args : Args) (us : List Value) (vs : List V) (Q : VK) (E : XK),
    A.guards = some [] → Room k A → Env0 P w K mg base A outer s H → BindsTo s fd args (ps.zip us) → Vals vs us → sp vs H Q E →
    codeAny (model P w) A (.call (.ref f) args) (CR CX outer P w H s Q E) s

section
variable {P : Program} {w : World} {K : PySem.W.Frag} {mg : Str → Option Value} {base : Heap} {CX : CXT}
  {k j : Nat} {f : Addr} {fd : FuncData} {ps N : List Str} {sp : Sp}

theorem FnG.ofOk (F : FnOk P w K mg base CX k f fd ps sp) : FnG P w K mg base CX k f fd ps sp :=
  ⟨F.len, fun A outer s H args us vs Q E _ hr he hb hv hs => F.run A outer s H args us vs Q E hr he hb hv hs⟩
theorem FnG.mono (F : FnG P w K mg base CX j f fd ps sp) (h : j ≤ k) : FnG P w K mg base CX k f fd ps sp :=
  ⟨F.ln, fun A outer s H args us vs Q E hg hr => F.go A outer s H args us vs Q E hg (hr.mono h)⟩

/-- the def's body, read where the guards are none -/
theorem fnG {x qual : Str} {st : Stmt} (F : Fun K x qual st f fd) (S : FnScope N ps (defScope st)) (len : ∀ (vs : List V) (H : Hp) (Q : VK) (E : XK), sp vs H Q E → vs.length = ps.length)
    (body : ∀ (cdv : Value) (A : Around) (outer : List Env) (s : Shared) (H : Hp) (vs : List V) (Q : VK) (E : XK), A.guards = some [] →
      Room k (A.deeper (envOfC qual (defScope st) s.heap.objs.size f cdv)) → sp vs H Q E →
      ∃ t, PSs (cxOf CX P w K mg base N qual (defScope st) f cdv A outer s H E) (defBody st) t ∧
        t { nx := fun _ H' => Q .non H', rt := Q } (start N vs) H) : FnG P w K mg base CX (k + 1) f fd ps sp := by
  obtain ⟨oc, od, kV, doc, pm, an, cdv, ct, osl, rfl, lk, hcd⟩ := F.ex
  constructor
  · exact len
  intro A outer s H args us vs Q E hG hr e0 hb rv hsp
  have KX : K.In s.heap := e0.mod.kin.keeps (fun b o e => (e0.bs b o e).1)
  have lim : s.heap.NoLimit := e0.mod.nolimit.keeps (fun b o e => (e0.bs b o e).1)
  obtain ⟨t, ht, hq⟩ := body cdv A outer s H vs Q E hG (hr.deeper _) hsp
  have kinds : ∀ y ∈ ps.zip us, (defScope st).names.lookup y.1 = some .local ∨
      ((defScope st).names.lookup y.1 = some .cell ∧ ((cellsFrom (s.heap.objs.size + 1) (defScope st).names []).lookup y.1).isSome = true) := by
    rintro ⟨n, v⟩ hy
    have hn := (List.of_mem_zip hy).1
    cases S.par n hn with
    | inl q => exact Or.inl q
    | inr q => exact Or.inr ⟨q, PySem.W.cellsFrom_some _ _ _ (Or.inl q)⟩
  refine codeAny_call_function hr.depth (KX _ _ lk) rfl S.co S.gen rfl (PySem.W.codeRec_of KX hcd) (hb _ _ _ _ ?_)
  refine wpAny_newFunctionEnv_cells S.kind kinds ?_
  rintro env rfl s1 x
  refine ⟨lim.keeps x.toInCall.keep, codeAny_func ?_⟩
  have I := inv_start (CX := CX) (E := E) S hr.hd e0 (len _ _ _ _ hsp) rv x
  refine wpAny_mono (ht.run [] s1 (start N vs) H _ I hq) ?_ (fun e s' z => z)
  intro fl s' z
  match fl, z with
  | .ret u, z =>
    obtain ⟨v, σ', H', J, r', q⟩ := z
    exact ⟨v, H', J.os, J.bare, J.base, J.hok, r', q⟩
  | .next, z =>
    obtain ⟨σ', H', J, q⟩ := z
    exact ⟨V.non, H', J.os, J.bare, J.base, J.hok, rfl, q⟩
  | .brk, z =>
    obtain ⟨_, _, _, q⟩ := z
    exact q.elim
  | .cont, z =>
    obtain ⟨_, _, _, q⟩ := z
    exact q.elim
/-- .. of which no exception leaves -/
theorem fnG0 {x qual : Str} {st : Stmt} (F : Fun K x qual st f fd) (S : FnScope N ps (defScope st)) (len : ∀ (vs : List V) (H : Hp) (Q : VK) (E : XK), sp vs H Q E → vs.length = ps.length)
    (body : ∀ (cdv : Value) (A : Around) (outer : List Env) (s : Shared) (H : Hp) (vs : List V) (Q : VK) (E : XK), A.guards = some [] →
      Room k (A.deeper (envOfC qual (defScope st) s.heap.objs.size f cdv)) → sp vs H Q E →
      ∃ t, PSs (cxOf CX0 P w K mg base N qual (defScope st) f cdv A outer s H E).nox (defBody st) t ∧
        t { nx := fun _ H' => Q .non H', rt := Q } (start N vs) H) : FnG P w K mg base CX0 (k + 1) f fd ps sp :=
  fnG F S len fun cdv A outer s H vs Q E hG hr h =>
    let ⟨t, a, b⟩ := body cdv A outer s H vs Q E hG hr h
    ⟨t, a.nox, b⟩
end

section
variable {X : Cx} {CX : CXT} {k : Nat} {f : Addr} {fd : FuncData} {ps : List Str} {sp : Sp} {E : XK} {x : Str} {p pos : Pos} {e : Expr} {es : List Expr} {t : TA}
/-- f(e, ..) of such a def -/
theorem pe_callG (hG : X.A.guards = some []) (F : FnG X.prog X.w X.K X.mg X.base CX k f fd ps sp) (hr : Room k X.A) (hg : Gl X x) (hm : X.mg x = some (.ref f))
    (hk : PySem.W.keepIn X.K (.ref f) = true) (hb : Binds X.K fd ps []) (hx : Passes CX X E) (ha : PA X (e :: es) t) (hdb : (x == ("__debug__" : Str)) = false := by decide)
    (he : starEach (e :: es) X.env = (false, eval e X.env) :: starEach es X.env := by rfl)
    (hpl : (backTo pos (starEach es X.env)).any (·.1) = false := by rfl) : PE X (.Call (.Name x p) (e :: es) [] pos) (tCall sp [] E t) := by
  constructor
  intro pins s σ H Q I h
  refine wpAny_Call_Name_kw (ld_glob I hg hm ?_ hdb)
  refine PySem.W.callWith_K (h₀ := X.base) I.ok.mod.kin hk (thn (ha.run pos pins s σ H _ I h) ?_) he hpl
  rintro us s1 ⟨vs, H1, I1, r, q⟩
  refine ⟨I1.kIn, ?_⟩
  rw [List.append_nil] at q
  have hl : us.length = ps.length := r.length.symm.trans (F.ln _ _ _ _ q)
  have bd := hb s1 us I1.kIn
  rw [List.append_nil] at bd
  refine wpAny_call (codeAny_mono (F.go _ _ _ _ _ _ _ _ _ hG hr I1.env0 (bd hl) r q) ?_)
  intro r' s' z
  match r', z with
  | .error e', z => exact hx pins σ H1 s1 e' s' I1 z
  | .ok (.ret u), z => exact I1.after z
  | .ok .next, z => exact z.elim
  | .ok .brk, z => exact z.elim
  | .ok .cont, z => exact z.elim
end
end GX

set_option Elab.async false
set_option linter.all false
set_option maxRecDepth 100000
set_option maxHeartbeats 4000000
namespace GX
open PySem PySem.Spec PyProof.Rows L2
/-! ### what kind of value -/
def isI : V → Bool
  | .int _ => true
  | _ => false
/-- the values that this law uses, and what isinstance says of them -/
structure Pl (K : PySem.W.Frag) (H : Hp) (x : V) : Prop where
  ex : ∃ (n : String) (b c : Bool), TyX K H x (.type n) ∧ PySem.W.kitOne K (.type n) (.type "int") = some b ∧ PySem.W.kitOne K (.type n) (.type "bool") = some c ∧ (b && !c) = isI x
section
variable {K : PySem.W.Frag} {H H' : Hp}
theorem pl_non : Pl K H .non := ⟨"NoneType", false, false, .base .non, kit_ty (by decide +kernel), kit_ty (by decide +kernel), rfl⟩
theorem pl_bl (b : Bool) : Pl K H (.bl b) := ⟨"bool", true, true, .base (.bl b), kit_ty (by decide +kernel), kit_ty (by decide +kernel), rfl⟩
theorem pl_int (i : Int) : Pl K H (.int i) := ⟨"int", true, false, .base (.int i), kit_ty (by decide +kernel), kit_ty (by decide +kernel), rfl⟩
theorem pl_str (x : Str) : Pl K H (.str x) := ⟨"str", false, false, .base (.str x), kit_ty (by decide +kernel), kit_ty (by decide +kernel), rfl⟩
theorem pl_tup {a : Addr} {xs : List V} (h : H a = some (.tup xs)) : Pl K H (.ref a) := ⟨"tuple", false, false, .base (.tup h), kit_ty (by decide +kernel), kit_ty (by decide +kernel), rfl⟩
theorem pl_lst {a : Addr} {xs : List V} (h : H a = some (.lst xs)) : Pl K H (.ref a) := ⟨"list", false, false, .base (.lst h), kit_ty (by decide +kernel), kit_ty (by decide +kernel), rfl⟩
theorem pl_dK {a : Addr} {xs : List (Key × V)} (h : H a = some (.dK xs)) : Pl K H (.ref a) := ⟨"dict", false, false, .base (.dK h), kit_ty (by decide +kernel), kit_ty (by decide +kernel), rfl⟩
end
/-! ### heaps -/
/-- all but what stands at a is kept -/
def But (a : Addr) (H H' : Hp) : Prop := ∀ b o, b ≠ a → H b = some o → H' b = some o
theorem But.refl (a : Addr) (H : Hp) : But a H H := fun _ _ _ h => h
theorem But.trans {a : Addr} {H H1 H2 : Hp} (x : But a H H1) (y : But a H1 H2) : But a H H2 := fun b o n h => y b o n (x b o n h)
theorem But.same {a : Addr} {H H1 H2 : Hp} (x : But a H H1) (y : Same H1 H2) : But a H H2 := fun b o n h => y b o (x b o n h)
theorem But.of {a : Addr} {H H1 : Hp} (y : Same H H1) : But a H H1 := fun b o n h => y b o h
theorem But.set {a : Addr} {H H1 : Hp} {o : HO} (x : But a H H1) : But a H (upd H1 a o) := fun b u n h => by
  rw [upd_ne n]
  exact x b u n h
theorem same_new {H : Hp} {p : Addr} {o : HO} (h : H p = none) : Same H (upd H p o) := fun b x e => by
  rw [upd_ne (ne_of_none e h)]
  exact e
/-- a purse -/
def Bag (H : Hp) (a : Addr) : Prop := ∃ z g c : Int, H a = some (.lst [.int z, .int g, .int c]) ∧ 0 ≤ g
theorem Bag.keep {H H' : Hp} {a : Addr} (b : Bag H a) (s : Same H H') : Bag H' a := by
  obtain ⟨z, g, c, h, n⟩ := b
  exact ⟨z, g, c, s a _ h, n⟩
theorem tyx_mono {K : PySem.W.Frag} {H H' : Hp} {x : V} {t : Value} (s : Same H H') (h : TyX K H x t) : TyX K H' x t := by
  cases h with
  | base h =>
    refine .base ?_
    cases h with
    | non => exact .non
    | bl b => exact .bl b
    | int i => exact .int i
    | str x => exact .str x
    | flt x => exact .flt x
    | lst e => exact .lst (s _ _ e)
    | frz e => exact .frz (s _ _ e)
    | tup e => exact .tup (s _ _ e)
    | dK e => exact .dK (s _ _ e)
    | dT e => exact .dT (s _ _ e)
    | ins e c a n k m => exact .ins (s _ _ e) c a n k m
  | byt b => exact .byt b
  | set e => exact .set (s _ _ e)
  | kList e c => exact .kList e c
  | kTuple e c => exact .kTuple e c
  | kDict e c => exact .kDict e c
  | fTuple e => exact .fTuple (s _ _ e)
  | fDict e => exact .fDict (s _ _ e)
theorem Pl.keep {K : PySem.W.Frag} {H H' : Hp} {x : V} (p : Pl K H x) (s : Same H H') : Pl K H' x := by
  obtain ⟨n, b, c, ty, k1, k2, e⟩ := p
  exact ⟨n, b, c, tyx_mono s ty, k1, k2, e⟩
theorem Bag.ne {H : Hp} {a p : Addr} (b : Bag H a) (h : H p = none) : p ≠ a := by
  obtain ⟨z, g, c, e, _⟩ := b
  exact (ne_of_none e h).symm
theorem room_u {Z : Around} {k : Nat} (h : Room k Z) : Z.units + 110 < cLine := by
  have := h.un
  omega
theorem cut_ints {ns : List Int} {lo hi : Option Int} {i : Nat} {x : V} (h : (cutV (ns.map V.int) lo hi)[i]? = some x) : ∃ z, x = .int z := by
  have m := List.mem_of_getElem? h
  have m2 := List.mem_of_mem_drop (List.mem_of_mem_take (show x ∈ ((ns.map V.int).drop _).take _ from m))
  obtain ⟨z, _, e⟩ := List.mem_map.mp m2
  exact ⟨z, e.symm⟩
def spIsI (K : PySem.W.Frag) : Sp := fun vs H Q _ => ∃ x, vs = [x] ∧ Pl K H x ∧ Q (.bl (isI x)) H
def spTake : Sp := fun vs H Q _ => ∃ (a : Addr) (m : Int), vs = [.ref a, .int m] ∧ Bag H a ∧ 0 < m ∧ m.natAbs.log2 < 9000 ∧
  ∀ r H', 0 ≤ r → r < m → Bag H' a → But a H H' → Q (.int r) H'
def spPurse (K : PySem.W.Frag) : Sp := fun vs H Q _ => ∃ (a : Addr) (ns : List Int) (k : Nat), vs = [.ref a, .int k] ∧ SqL K H a (ns.map V.int) ∧ ns.length ≤ 63 ∧ k ≤ 63 ∧
  ∀ p H', H p = none → Same H H' → Bag H' p → Q (.ref p) H'
end GX

set_option Elab.async false
set_option linter.all false
set_option maxRecDepth 100000
set_option maxHeartbeats 4000000
/-! str(o), repr(o) by the class's own methods; cls(e, ..) in a class method. -/
namespace PySem.W
open PySem PySem.Calls PyProof.Rows
section
variable {prog : Program} {w : World} {A : Around} {E : Value → Shared → Prop} {s : Shared} {K : Frag} {x C f : Addr} {ox : Obj} {od : Option Obj}
open Builtin Builtin.Str in
theorem ox_str {Q : Value → Shared → Prop} (hu : A.in1.in1.units < cLine) (X : K.In s.heap) (I : InstAt s.heap x ox C od) (hs : findIn K (.ref C) "__str__" = some (some (.ref f))) (hf : isFn K (.ref f) = true)
    (h : wpAny (model prog w) A.in1.in1 (call (.ref f) [.ref x]) (StrBack Q) E s) : wpAny (model prog w) A (call (.type "str") [.ref x]) Q E s := by
  have inner : wpAny (model prog w) A.in1.in1 (PySem.Builtin.Str.strOf (.ref x)) (fun r s₁ => ∃ y u, r = .str y u ∧ Q r s₁) E s := by
    unfold PySem.Builtin.Str.strOf
    rw [show isExactStr (.ref x) = false from rfl]
    apply wpAny_bind (m := cRoomFor _ _)
    refine wpAny_cRoomFor hu (wpAny_bind (m := callSpecial? (.ref x) (Str.ofString "__str__")) (special_fn X I hs (beq_iff_eq.mp hf) ?_))
    refine wpAny_mono h ?_ (fun _ _ y => y)
    intro r s' z
    cases r <;> first | exact z.elim | exact wpAny_pure ⟨_, _, rfl, z⟩
  apply callType_codes (T := "str") (Bi := Builtin.«object.__init__») (Q₁ := fun r s₁ => ∃ y u, r = .str y u ∧ Q r s₁) PySem.F.called_str (PySem.F.typeCall_str_1 _) PySem.F.entry_object_init
  · apply codeAny_of_tree
    show wpAny _ A.in1.in1 (do checkBuiltinCall "str.__new__" ⟨[.type "str", .ref x], []⟩; again (.builtin "str.__new__" ⟨[.type "str", .ref x], []⟩)) _ _ s
    apply wpAny_bind
    refine wpAny_of_eq (PySem.F.newCall_str_1 _) (wpAny_pure ⟨plainId_quiet (by decide +kernel) _, codeAny_builtin PySem.F.entry_str_new ?_⟩)
    rw [Around.under_plainId (by decide +kernel) _, str_new_tree]
    apply wpAny_bind
    apply wpAny_pure
    apply wpAny_bind
    refine wpAny_of_eq isSubtype_str_str ?_
    exact wpAny_bind (wpAny_mono inner (fun r s₁ hr => wpAny_pure hr) (fun _ _ y => y))
  · rintro obj s₁ ⟨y, u, rfl, hq⟩
    have ty : s₁.TypeIs (.str y u) "str" := typeIs_str _ _ _
    exact ⟨ty, PySem.F.args_object_init_2 _ _, object_init_meets PySem.F.called_str.init.lookup PySem.F.called_str.made (by decide) prog w A.in1 _ s₁ ⟨ty, rfl, hq⟩⟩
end
end PySem.W
namespace OX
open PySem PySem.Spec PyProof.Rows L2
section
variable {X : Cx} {pins : List (Addr × Obj)} {σ : L2.St} {H : Hp} {s : Shared} {k : Nat} {f C : Addr} {fd : FuncData} {ps : List Str} {sp : Sp}
/-- a def is called where more stands around -/
theorem call_at {A' : Around} {us : List Value} {vs : List V} {Q : VK} (F : FnOk X.prog X.w X.K X.mg X.base CX0 k f fd ps sp) (hr : Room k A') (hA : A'.frames = some X.stack) (hb : Binds X.K fd ps [])
    (I : Inv X pins σ H s) (r : Vals vs us) (h : sp vs H Q E0) : wpAny (model X.prog X.w) A' (call (.ref f) us) (EP X pins σ Q) X.xe s := by
  have hl : us.length = ps.length := r.length.symm.trans (F.len _ _ _ _ h)
  have bd := hb s us I.kIn
  rw [List.append_nil] at bd
  have e := I.env0
  refine wpAny_call (codeAny_mono (F.run A' X.stack s H ⟨us, []⟩ us vs Q E0 hr ⟨hA, e.mod, e.bs, e.bsz, e.funs, e.frf, e.hok, e.bare⟩ (bd hl) r h) ?_)
  intro r' s' z
  match r', z with
  | .error e', z => exact z.elim
  | .ok (.ret u), z => exact I.after z
  | .ok .next, z => exact z.elim
  | .ok .brk, z => exact z.elim
  | .ok .cont, z => exact z.elim
def rOwnS (C : Addr) (sp : Sp) : List V → Hp → VK → Prop := fun xs H Q => ∃ (a dx : Addr) (fs : List (Str × V)), xs = [.ref a] ∧ H a = some (.ins C dx fs) ∧
  sp [.ref a] H (fun v H' => ∃ z, v = .str z ∧ Q (.str z) H') E0
theorem back_str {Q : VK} {v : Value} {s' : Shared} (h : EP X pins σ (fun v H' => ∃ z, v = .str z ∧ Q (.str z) H') v s') : PySem.W.StrBack (EP X pins σ Q) v s' := by
  obtain ⟨x, H', J, r, z, e, q⟩ := h
  subst e
  obtain ⟨t, e2⟩ := (show ∃ t, v = Value.str z t from r)
  subst e2
  exact ⟨.str z, H', J, ⟨t, rfl⟩, q⟩
/-- str(o) -/
theorem call_strO (hs : PySem.W.findIn X.K (.ref C) "__str__" = some (some (.ref f))) (hf : PySem.W.isFn X.K (.ref f) = true) (F : FnOk X.prog X.w X.K X.mg X.base CX0 k f fd ps sp)
    (hr : Room (k + 2) X.A) (hb : Binds X.K fd ps []) : CallR X (.type "str") (rOwnS C sp) := by
  intro pins s σ H xs us Q I r h
  obtain ⟨a, dx, fs, rfl, ea, q⟩ := h
  rw [Vals.ref1 r]
  obtain ⟨mA, O, _⟩ := ins_get I.hok ea
  obtain ⟨od, J, _⟩ := O.look
  have hA : X.A.in1.in1.frames = some X.stack := I.ok.frames
  exact PySem.W.ox_str (by have := hr.un; show X.A.units + 1 + 1 < cLine; omega) I.kIn J hs hf (wpAny_mono (call_at F (hr.in1.in1) hA hb I (show Vals [.ref a] [.ref a] from .cons rfl .nil) q) (fun _ _ z => back_str z) fun _ _ z => z)
/-- repr(o) -/
theorem call_reprO (hs : PySem.W.findIn X.K (.ref C) "__repr__" = some (some (.ref f))) (hf : PySem.W.isFn X.K (.ref f) = true) (F : FnOk X.prog X.w X.K X.mg X.base CX0 k f fd ps sp)
    (hr : Room (k + 1) X.A) (hb : Binds X.K fd ps []) : CallR X (.builtin "repr") (rOwnS C sp) := by
  intro pins s σ H xs us Q I r h
  obtain ⟨a, dx, fs, rfl, ea, q⟩ := h
  rw [Vals.ref1 r]
  obtain ⟨mA, O, _⟩ := ins_get I.hok ea
  obtain ⟨od, J, _⟩ := O.look
  obtain ⟨m, fr⟩ := I.fr
  have hA : X.A.in1.frames = some X.stack := I.ok.frames
  exact PySem.W.repr_K (by have := hr.un; show X.A.units + 1 < cLine; omega) fr I.ok.mod.kin J hs hf (wpAny_mono (call_at F hr.in1 hA hb I (show Vals [.ref a] [.ref a] from .cons rfl .nil) q) (fun _ _ z => back_str z) fun _ _ z => z)
end
section
variable {X : Cx} {CX : CXT} {k i : Nat} {f C : Addr} {fd : FuncData} {ps : List Str} {sp : Sp} {E : XK} {x : Str} {p pos : Pos} {e : Expr} {es : List Expr} {t : TA} {ds : List Value} {dvs : List V}
def tMakeL (i : Nat) (C : Addr) (sp : Sp) (dvs : List V) (E : XK) (t : TA) : TE := fun σ H Q => σ[i]? = some (some (.ref C)) ∧ tMake C sp dvs E t σ H Q
/-- x(e, ..), the local x the class at C -/
theorem pe_makeL (M : Mk X.K C f) (F : FnOk X.prog X.w X.K X.mg X.base CX k f fd ps sp) (hr : Room (k + 1) X.A) (hN : X.N[i]? = some x) (hv : Vis X.env.scope x) (hb : Binds X.K fd ps ds) (hd : Vals dvs ds) (hx : Passes CX X E)
    (ha : PA X (e :: es) t) (hdb : (x == ("__debug__" : Str)) = false := by decide) (hcd : (x == ("__classdict__" : Str)) = false := by decide)
    (he : starEach (e :: es) X.env = (false, eval e X.env) :: starEach es X.env := by rfl)
    (hpl : (backTo pos (starEach es X.env)).any (·.1) = false := by rfl) : PE X (.Call (.Name x p) (e :: es) [] pos) (tMakeL i C sp dvs E t) := by
  constructor
  rintro pins s σ H Q I ⟨hs, ht⟩
  have look := (pe_var (pos := p) hN hv hdb hcd).run pins s σ H (fun v H1 => v = .ref C ∧ H1 = H) I ⟨.ref C, hs, rfl, rfl⟩
  refine wpAny_Call_Name_kw (thn look ?_)
  rintro u s1 ⟨v, H1, I1, r1, e1, e2⟩
  subst e1
  subst e2
  have e3 : u = Value.ref C := r1
  subst e3
  refine PySem.W.callWith_K (h₀ := X.base) I.ok.mod.kin M.kp (thn (ha.run pos pins s1 σ H1 _ I1 ht) ?_) he hpl
  rintro us s2 ⟨vs, H2, I2, r, q⟩
  exact ⟨I2.kIn, run_make M F hr hb hd hx I2 r q⟩
end
end OX

set_option Elab.async false
set_option linter.all false
set_option maxRecDepth 100000
set_option maxHeartbeats 4000000
/-! The end of a law's row over a promise that wants the guards to be none. -/
namespace GX
open PySem PySem.Spec PyProof.Rows L2

/-- the script's place in an abstract heap: tracked and locked there, or an object of the top -/
structure At0 (K : PySem.W.Frag) (P : Program) (w : World) (h : Heap) (a : Addr) (ns : List Int) (H : Hp) : Prop where
  only : Only H
  sq : SqL K H a (ns.map V.int)
  ok : HOk P w H h
  one : ∀ b u, H b = some u → b = a
  out : ∀ u, H a = some u → K.lookup a = none

section
variable {P : Program} {w : World} {K : PySem.W.Frag} {mg mb : Str → Option Value} {CX : CXT} {k : Nat} {fa a : Addr} {fd : FuncData} {x : Str} {sp : Sp} {s₁ : Shared} {vs : List Value} {ns : List Int}

theorem at0_ex (KX : K.In s₁.heap) (ha : s₁.heap.get? a = some { cls := .type "list", data := .seq vs.toArray }) (hi : IntsAre vs ns) (hl : ns.length ≤ sizeLine) :
    ∃ H, At0 K P w s₁.heap a ns H := by
  have rv := vals_ints hi
  cases hk : K.lookup a with
  | some o =>
    have e := KX a o hk
    rw [ha] at e
    have e2 := Option.some.inj e
    subst e2
    refine ⟨fun _ => none, fun _ => Or.inl rfl, Or.inr ⟨_, vs.toArray, _, hk, rfl, rfl, rfl, ?_, ?_⟩, ?_, ?_, ?_⟩
    · rw [List.size_toArray, hi.length]
      exact hl
    · simpa using rv
    · intro b u z
      cases z
    · intro b u z
      cases z
    · intro u z
      cases z
  | none =>
    have look : ∀ (b : Addr) (y u : HO), (if b = a then some y else none) = some u → b = a := by
      intro b y u z
      by_cases q : b = a
      · exact q
      · rw [if_neg q] at z
        cases z
    refine ⟨fun b => if b = a then some (.frz { cls := .type "list", data := .seq vs.toArray } (.lst (ns.map V.int))) else none, ?_, Or.inl (Or.inr ⟨{ cls := .type "list", data := .seq vs.toArray }, if_pos rfl⟩), ?_, ?_, fun _ _ => hk⟩
    · intro b
      by_cases q : b = a
      · exact Or.inr ⟨_, _, if_pos q⟩
      · exact Or.inl (if_neg q)
    · intro b u z
      have q := look b _ u z
      subst q
      have z2 : some (HO.frz { cls := .type "list", data := .seq vs.toArray } (.lst (ns.map V.int))) = some u := (if_pos rfl).symm.trans z
      cases z2
      refine ⟨ha, ?_, vs, _, rv, ha⟩
      rw [List.length_map]
      exact hl
    · intro b u z
      exact look b _ u z

theorem law_callG (KX : K.In s₁.heap) (hns : s₁.heap.Ns mainGlobals mg) (hb : s₁.heap.Ns builtinsNs mb) (hbb : ∀ y : Str, y ≠ "__name__" → mb y = bootBuiltins y) (hlim : s₁.heap.NoLimit) (hg : s₁.gens = #[])
    (ha : s₁.heap.get? a = some { cls := .type "list", data := .seq vs.toArray }) (hi : IntsAre vs ns) (hl : ns.length ≤ sizeLine) (hr : Room k callerA)
    (F : ∀ base : Heap, K.In base → base.Ns mainGlobals mg → FnG P w K mg base CX k fa fd [x] sp) (bd : ∀ (s : Shared) (u : Value), BindsTo s fd ⟨[u], []⟩ [(x, u)])
    (hsp : ∀ H : Hp, Only H → SqL K H a (ns.map V.int) → sp [.ref a] H (fun v _ => v = .bl true) fun _ _ _ => False) (hCX : ∀ H e s', CX [] H s₁ (fun _ _ _ => False) e s' → False) :
    codeAny (model P w) callerA (.call (.ref fa) ⟨[.ref a], []⟩) (fun r s' => r = .ok (.ret (.bool true)) ∧ OldK s₁.heap s'.heap ∧ s'.os = s₁.os ∧ AllBare s'.gens) s₁ := by
  obtain ⟨H, T⟩ := at0_ex (P := P) (w := w) KX ha hi hl
  have dict0 : ∀ {b : Addr} {o : Obj} {es : Array DictEntry} {ep : Nat}, s₁.heap.get? b = some o → o.data = .dict es ep → H b = none := by
    intro b o es ep e d
    cases q : H b with
    | none => rfl
    | some u =>
      have e' := T.one b u q
      subst e'
      rw [ha] at e
      cases e
      cases d
  have nsB : ∀ {b : Addr} {m : Str → Option Value}, s₁.heap.Ns b m → (hidT s₁.heap H).Ns b m := by
    rintro b m ⟨o, es, ep, e, d, r⟩
    exact ⟨o, es, ep, hidT_get e (dict0 e d), d, r⟩
  have kinB : K.In (hidT s₁.heap H) := by
    intro b o e
    refine hidT_get (KX b o e) ?_
    cases q : H b with
    | none => rfl
    | some u =>
      have e' := T.one b u q
      subst e'
      rw [T.out u q] at e
      cases e
  have hM : Mod K mg (hidT s₁.heap H) := by
    obtain ⟨mc, h1, h2⟩ := hlim
    exact ⟨kinB, nsB hns, ⟨mb, nsB hb, hbb⟩, ⟨mc, nsB h1, h2⟩⟩
  have e0 : Env0 P w K mg (hidT s₁.heap H) callerA [] s₁ H :=
    ⟨rfl, hM, fun b o e => of_hidT e, Nat.le_of_eq (hidT_size _ _), trivial, fun b z => absurd (show b ∈ ([] : List Addr) from z) (by simp), T.ok, .of_eq hg⟩
  have run := (F _ kinB (nsB hns)).go callerA [] s₁ H ⟨[.ref a], []⟩ [.ref a] [.ref a] _ _ rfl hr e0 (bd s₁ (.ref a)) (.cons rfl .nil) (hsp H T.only T.sq)
  refine codeAny_mono run ?_
  intro r s' z
  match r, z with
  | .error e, z => exact (hCX H e s' z).elim
  | .ok .next, z => exact z.elim
  | .ok .brk, z => exact z.elim
  | .ok .cont, z => exact z.elim
  | .ok (.ret u), z =>
    obtain ⟨v, H', os, bare, un, ok2, r', q⟩ := z
    have q' : v = .bl true := q
    subst q'
    have eu : u = Value.bool true := r'
    subst eu
    refine ⟨rfl, OldK.of_keep ?_, os, bare⟩
    intro b o e
    cases q2 : H b with
    | none => exact un.keep b o e q2 (fun y => absurd (show b ∈ ([] : List Addr) from y) (by simp)) (by simp)
    | some u =>
      cases T.only b with
      | inl y =>
        rw [q2] at y
        cases y
      | inr y =>
        obtain ⟨ob, xs, y⟩ := y
        have y2 := un.frzs b ob _ y
        have g1 := (T.ok b _ y).1
        have g2 := (ok2 b _ y2).1
        rw [e] at g1
        cases g1
        exact g2
end

/-- the goal behind the head, from such a promise of the law -/
theorem walkG {l : PySem.W.OpenLaw} {n k : Nat} {q : Program} {loose : List Str} {XP : (Str → Option Value) → Heap → Prop} {YP : World → Heap → Prop} {d : DefRec} {K : Params → PySem.W.Frag} {CX : World → CXT} {sp : World → Sp} {x : Str}
    (hn : l.most = some n) (hn2 : n ≤ sizeLine) (hdf : d.params.defaults = []) (hr : Room k callerA) (hY : ∀ (w : World) (h : Heap), YP w h → (K w.params).In h)
    (F : ∀ (w : World) (mg : Str → Option Value) (fa : Addr) (h : Heap), (K w.params).In h → h.Ns mainGlobals mg → mg d.name = some (.ref fa) →
      ∃ fd : FuncData, (∀ (s : Shared) (u : Value), BindsTo s fd ⟨[u], []⟩ [(x, u)]) ∧
        ∀ base : Heap, (K w.params).In base → base.Ns mainGlobals mg → FnG l.prog w (K w.params) mg base (CX w) k fa fd [x] (sp w))
    (hsp : ∀ (w : World) (H : Hp) (a : Addr) (ns : List Int), ns.length ≤ n → Only H → SqL (K w.params) H a (ns.map V.int) → sp w [.ref a] H (fun v _ => v = .bl true) fun _ _ _ => False)
    (hCX : ∀ (w : World) (H : Hp) (s : Shared) (e : Value) (s' : Shared), CX w [] H s (fun _ _ _ => False) e s' → False) : PySem.W.WalkO q loose XP YP l.row.toRowW d [] (fun f vs => PySem.call f vs) := by
  refine Att.attach_call hn hdf ?_
  intro w s₀ s₁ mg mb fa o pm cd doc a vs ns G Y ho hd hcd hmg hobj hints hlen hg
  have KX := hY w _ Y
  obtain ⟨fd, bd, hF⟩ := F w mg fa _ KX G.T.g hmg
  exact law_callG KX G.T.g G.T.b G.T.builtins G.T.nolimit hg hobj hints (Nat.le_trans hlen hn2) hr hF bd (fun H hO hS => hsp w H a ns hlen hO hS) (fun H e s' => hCX w H s₁ e s')
end GX

set_option Elab.async false
set_option linter.all false
set_option maxRecDepth 100000
set_option maxHeartbeats 4000000
/-! isinstance of a caught error that has fields; repr of data. -/
namespace PySem.W
open PySem PySem.Spec PySem.Calls PyProof.Rows
section
variable {prog : Program} {w : World} {A : Around} {E : Value → Shared → Prop} {s : Shared} {K : Frag} {x D : Addr} {ox : Obj} {od : Option Obj}
theorem gx_find {name : Str} {a g : Value} (hc : (clsIn K D).isSome = true) (ha : findIn K (.ref D) name = some (some a))
    (hg : specialIn K a "__get__" = some (some g)) (ht : takesIn K a = some true) : findObj K D od name = some (.bind g a) := by
  cases od with
  | none => exact findObj_dataN hc ha hg ht
  | some o => exact findObj_data hc ha hg ht
theorem gx_class {Q : Option Value → Shared → Prop} (C : L2.ExcC K D) (X : K.In s.heap) (I : InstAt s.heap x ox D od) (h : Q (some (.ref D)) { s with toks := s.toks + 1 }) :
    wpAny (model prog w) A (getAttr? (.ref x) "__class__") Q E s := by
  have hsome : (clsIn K D).isSome = true := by
    obtain ⟨cd, e, _⟩ := any_some C.hd
    rw [e]
    rfl
  have found : findObj K D od "__class__" = some (.bind (.builtin "getset_descriptor.__get__") (.builtin "object.__class__")) := gx_find hsome C.ha C.hn C.ht
  rcases s with ⟨hp, g, d, t, os⟩
  have l0 := I.type (M := model prog w)
  have l1 := looks_findIn (M := model prog w) X C.hg
  have l2 := looks_findIn (M := model prog w) X C.hk
  have l3 := looks_find (M := model prog w) X I found
  have isE : Looks (model prog w) hp (isInstance (.ref x) (.type "BaseException")) true := l0.andThen (looks_subIn X C.hs)
  have no2 : (Value.builtin "BaseException.__getattribute__" == Value.builtin "object.__getattribute__") = false := by
    decide +kernel
  have no1 : (onTheHeap (Value.ref D) && Value.builtin "BaseException.__getattribute__" == Value.builtin "object.__getattribute__") = false := by
    rw [no2]
    rfl
  have no0 : (false && onTheHeap (Value.builtin "BaseException.__getattribute__")) = false := rfl
  unfold getAttr? getAttrBy? getAttrBy
  apply wpAny_bind
  refine wpAny_mkText (wpAny_bind (wpAny_attempt (wpAny_holding (wpAny_bind ?_))))
  refine l0.at (wpAny_bind (l1.at ?_))
  show wpAny _ _ (if (onTheHeap (Value.ref D) && Value.builtin "BaseException.__getattribute__" == Value.builtin "object.__getattribute__") = true then _ else _) _ _ _
  rw [no1, if_neg Bool.false_ne_true]
  unfold getAttrByItsOwn hookBefore
  apply wpAny_bind
  rw [if_pos (show onTheHeap (Value.ref D) = true from rfl)]
  refine l2.at (wpAny_bind (wpAny_attempt (wpAny_holding ?_)))
  unfold callGetattribute
  rw [no0, if_neg Bool.false_ne_true]
  unfold boundAndCalled
  rw [F.excAttr_ValueError.ga.bind (.ref x)]
  apply wpAny_bind
  apply wpAny_pure
  show wpAny _ _ (call (.builtin "BaseException.__getattribute__") [.ref x, .str "__class__" t]) _ _ _
  apply wpAny_call
  refine codeAny_call_builtin F.excAttr_ValueError.ga.plain F.entry_bexc_ga ?_
  refine @check_slot (model prog w) _ _
    ⟨hp, g, d, t + 1, os⟩ "BaseException.__getattribute__" "BaseException" "__getattribute__" (.ref x) [.str "__class__" t] [] _
    (by decide +kernel) (by decide +kernel) isE (F.args_bexc_ga (.ref x) (.str "__class__" t)) ?_
  unfold Builtin.«object.__getattribute__»
  apply wpAny_bind
  refine wpAny_of_eq (a := ((Value.ref x : Value), [Value.str "__class__" t])) (by first | rfl | (simp only [slotArgs]; rfl)) ?_
  apply wpAny_bind
  refine wpAny_pure (wpAny_bind (l0.at (wpAny_bind (l3.at ?_))))
  show wpAny _ _ (holding [Value.builtin "object.__class__"] (call (.builtin "getset_descriptor.__get__") [.builtin "object.__class__", .ref x, .ref D]) >>= ret) _ _ _
  apply wpAny_bind
  refine wpAny_holding (wpAny_call (class_get (s := ⟨hp, g, d, t + 1, os⟩) (ox := ox) (od := od) X I C.hm (wpAny_pure ?_)))
  show wpAny _ _ (handedOut (.ref D)) _ _ _
  rw [handedOut_of (v := .ref D) rfl]
  first
    | exact wpAny_pure (wpAny_bind (wpAny_pure (wpAny_pure h)))
    | exact wpAny_bind (wpAny_pure (wpAny_pure h))
    | exact wpAny_pure (wpAny_pure h)
theorem gx_kit (C : L2.ExcC K D) : KitX K (.ref x) (.ref D) (fun h => ∃ ox od, InstAt h x ox D od) := by
  have Z : KitX K (.ref x) (.ref D) (fun h => InstAt h x { cls := .ref D, data := .fields #[] } D none) := handS_kitx_exc C.hg C.hk C.hs C.hd C.ha C.hn C.ht C.hm
  have hsome : ∃ cd, clsIn K D = some cd := by
    obtain ⟨cd, e, _⟩ := any_some C.hd
    exact ⟨cd, e⟩
  constructor
  · rintro M h _ ⟨ox, od, I⟩
    exact I.type
  · rintro M h X _
    obtain ⟨cd, e⟩ := hsome
    unfold clsIn at e
    split at e
    · rename_i c' d' cd' sl' ho
      intro A' Q' E' s' k q
      unfold isType loadHead
      exact wpAny_bind (wpAny_loadPart (k _ _ (X _ _ ho)) (wpAny_pure q))
    · cases e
  · exact Z.ne
  · intro prog w A E Q s X hx q
    obtain ⟨ox, od, I⟩ := hx
    exact gx_class C X I q
end
end PySem.W
namespace GX
open PySem PySem.Spec PyProof.Rows L2
/-- isinstance(e, c), e the caught error of the class at D at a, its dict d -/
def rIsED (K : PySem.W.Frag) (D a : Addr) (cls : Value) (d : Option Addr) : List V → Hp → VK → Prop := fun xs H Q =>
  ∃ (c : V) (cv : Value) (b : Bool) (dd : Addr) (fs : List (Str × V)), cls = .ref D ∧ xs = [.ref a, c] ∧ (∀ u, RelV c u → u = cv) ∧ d = some dd ∧ H dd = some (.xd fs) ∧
    PySem.W.kitOne K (.ref D) cv = some b ∧ Q (.bl b) H
theorem call_isED {X : Cx} {a D : Addr} {d : Option Addr} {cls : Value} {oe : Obj} {pn : List (Addr × Obj)} (C : ExcC X.K D) (hz : Zc cls d oe) (hf : ∃ vs, oe.data = .fields vs) :
    CallR (X.suite a ((a, oe) :: pn)) (.builtin "isinstance") (rIsED X.K D a cls d) := by
  intro pins s σ H xs us Q I r h
  obtain ⟨c, cv, b, dd, fs, hcls, rfl, hcv, hd, hH, e, q⟩ := h
  obtain ⟨u1, u2, rfl, r1, r2⟩ := vals2 r
  have e1 : u1 = Value.ref a := r1
  subst e1
  have e2 := hcv _ r2
  subst e2
  have pin := (I.pin (a, oe) (List.mem_append_left _ List.mem_cons_self)).1
  obtain ⟨mA, hns, _⟩ := (show ObjOk X.prog X.w H s.heap dd (.xd fs) from I.hok dd _ hH)
  obtain ⟨od, es, ep, ho, _⟩ := hns
  have J : PySem.W.InstAt s.heap a oe D (some od) := by
    refine ⟨pin, hz.1.trans hcls, ?_, ?_⟩
    · obtain ⟨vs, hv⟩ := hf
      unfold PySem.W.notCls
      rw [hv] <;> rfl
    · rw [hz.2, hd]
      exact ho
  exact PySem.W.kia_one (PySem.W.gx_kit C) I.kIn ⟨_, _, J⟩ e (fun z => nomatch z) (fun tk => ⟨.bl b, H, I.kept (t' := tk) (fun _ _ z => z), rfl, q⟩)

/-! ### a call by keywords alone -/
section
variable {X : Cx} {CX : CXT} {k : Nat} {f : Addr} {fd : FuncData} {ps ks : List Str} {sp : Sp} {E : XK} {x : Str} {p pos : Pos} {kws : List Keyword} {tk : TA} {g : List Value → List Value → List Value} {gV : List V → List V → List V}
theorem pe_callK0 (F : FnOk X.prog X.w X.K X.mg X.base CX k f fd ps sp) (hr : Room k X.A) (hg : Gl X x) (hm : X.mg x = some (.ref f)) (hk : PySem.W.keepIn X.K (.ref f) = true)
    (hb : KBn X.K fd ps 0 ks g gV) (hx : Passes CX X E) (hkw : PK X kws tk) (h1 : (backToKw pos (keywordEach kws X.env)).all (·.1.isSome) = true := by rfl)
    (h2 : (backToKw pos (keywordEach kws X.env)).filterMap (·.1) = ks := by rfl) (hdb : (x == ("__debug__" : Str)) = false := by decide)
    (h3 : ((backTo pos (starEach [] X.env)).any (·.1) || (backToKw pos (keywordEach kws X.env)).any (·.1.isNone)) = false := by rfl) :
    PE X (.Call (.Name x p) [] kws pos) (tCallN 0 ks.length sp gV E tNil tk) := by
  constructor
  intro pins s σ H Q I h
  refine wpAny_Call_Name_kw (ld_glob I hg hm ?_ hdb)
  refine PySem.W.callWith_KW0 (h₀ := X.base) I.ok.mod.kin hk h1 (thn (hkw.run pos pins s σ H _ I h) ?_) h3
  rintro ws s2 ⟨zs, H2, I2, rz, l1, l2, q2⟩
  refine ⟨I2.kIn, ?_⟩
  rw [h2]
  exact run_fnN (us := []) F hr hb hx I2 .nil rz l1 l2 q2
end
/-! ### repr -/
def keyD : Key → PyData
  | .inl i => .int i
  | .inr x => .str x
/-- a value as data: Dp, and dicts of ints -/
inductive Sh (K : PySem.W.Frag) (H : Hp) : V → PyData → Prop where
  | dp {x : V} {d : PyData} (h : Dp K H x d) (n : d.hasDict = false) : Sh K H x d
  | dct {a : Addr} {kvs : List (Key × Int)} (h : H a = some (.dK (kvs.map fun p => (p.1, V.int p.2)))) : Sh K H (.ref a) (.dict (kvs.map fun p => (keyD p.1, .int p.2)))
def rReprD (K : PySem.W.Frag) : List V → Hp → VK → Prop := fun xs H Q =>
  ∃ (x : V) (d : PyData), xs = [x] ∧ Sh K H x d ∧ d.showable = true ∧ d.depth ≤ 100 ∧ d.shown.length ≤ sizeLine ∧ Q (.str d.shown) H
theorem reads_keys {P : Program} {w : World} {h : Heap} : ∀ {es : List DictEntry} {kvs : List (Key × Int)} {vs : List (Key × Value)},
    KV (kvs.map fun p => (p.1, V.int p.2)) vs → Pairs (mixKind P w) es vs →
    (∃ as, ReadsAll h (es.map (·.key)) ((kvs.map fun p => (keyD p.1, PyData.int p.2)).map (·.1)) as ∧ sysModules ∉ as) ∧
    ∃ bs, ReadsAll h (es.map (·.val)) ((kvs.map fun p => (keyD p.1, PyData.int p.2)).map (·.2)) bs ∧ sysModules ∉ bs
  | [], [], _, _, _ => ⟨⟨_, .nil, by simp⟩, ⟨_, .nil, by simp⟩⟩
  | [], _ :: _, _, r, p => by
    cases r
    cases p
  | _ :: _, [], _, r, p => by
    cases r
    cases p
  | e :: es, (k, i) :: kvs, _, r, p => by
    cases r with
    | cons q r2 =>
      cases p with
      | cons hk hv p2 =>
        obtain ⟨⟨as, A1, A2⟩, ⟨bs, B1, B2⟩⟩ := reads_keys (h := h) r2 p2
        obtain ⟨q1, q2⟩ := q
        obtain ⟨t, q3⟩ := q2
        refine ⟨?_, ?_⟩
        · have q0 := q1.symm ▸ hk
          rcases keyIs_shape hk with ⟨j, u, e1, e2⟩ | ⟨z, u, e1, e2⟩
          · have ek : k = Sum.inl j := q1.trans e1
            subst ek
            refine ⟨_, .cons (as := []) ?_ A1, by simpa using A2⟩
            show Reads h e.key (.int j) []
            rw [e2]
            exact .int j u
          · have ek : k = Sum.inr z := q1.trans e1
            subst ek
            refine ⟨_, .cons (as := []) ?_ A1, by simpa using A2⟩
            show Reads h e.key (.str z) []
            rw [e2]
            exact .str z u
        · refine ⟨_, .cons (as := []) ?_ B1, by simpa using B2⟩
          show Reads h e.val (.int i) []
          rw [hv, q3]
          exact .int i t
theorem Sh.reads {X : Cx} {pins : List (Addr × Obj)} {σ : L2.St} {H : Hp} {s : Shared} (I : Inv X pins σ H s) {x : V} {d : PyData} {u : Value} (h : Sh X.K H x d) (r : RelV x u) :
    ∃ as, Reads s.heap u d as ∧ (d.hasDict = true → sysModules ∉ as) := by
  cases h with
  | dp h n =>
    obtain ⟨as, q⟩ := Dp.reads I d x u h r
    refine ⟨as, q, fun z => ?_⟩
    rw [n] at z
    cases z
  | @dct a kvs h =>
    have e : u = Value.ref a := r
    subst e
    obtain ⟨_, nsys, vs, kv, o, es, ep, h1, h2, h3, _, h5, _⟩ := (show ObjOk X.prog X.w H s.heap a (.dK _) from I.hok a _ h)
    obtain ⟨⟨as, A1, A2⟩, ⟨bs, B1, B2⟩⟩ := reads_keys (h := s.heap) kv h5
    refine ⟨_, .dict h1 h2.1 h3 A1 B1, fun _ hm => ?_⟩
    rcases List.mem_append.mp hm with hm | hm
    · rcases List.mem_cons.mp hm with e | hm
      · rw [← e] at nsys
        simp at nsys
      · exact A2 hm
    · exact B2 hm
theorem call_reprD {X : Cx} (hG : X.A.guards = some []) (hu : X.A.units + 110 < cLine) : CallR X (.builtin "repr") (rReprD X.K) := by
  intro pins s σ H xs us Q I r h
  obtain ⟨x, d, rfl, hs, h1, h2, h3, q⟩ := h
  obtain ⟨u, rfl, r1⟩ : ∃ u, us = [u] ∧ RelV x u := by
    cases r with
    | cons a b =>
      cases b
      exact ⟨_, rfl, a⟩
  obtain ⟨as, R, sys⟩ := hs.reads I r1
  have fin : ∀ h' (u : Tok) tk, (∀ b o, s.heap.get? b = some o → h'.get? b = some o) → EP X pins σ Q (.str d.shown u) { s with heap := h', toks := tk } :=
    fun h' u tk k => ⟨.str d.shown, H, I.kept (t' := tk) k, ⟨u, rfl⟩, q⟩
  cases R with
  | none => exact PySem.P.repr_of_none (fin s.heap s.toks _ (fun _ _ z => z))
  | bool b => exact PySem.P.repr_of_bool (fin s.heap s.toks _ (fun _ _ z => z))
  | int i t => exact PySem.P.repr_of_int (by simpa [PyData.showable] using h1) (fin s.heap s.toks _ (fun _ _ z => z))
  | str y t => exact PySem.P.repr_of_str (fin s.heap s.toks _ (fun _ _ z => z)) h3
  | list a1 a2 a3 a4 => exact repr_of_reads' (.list a1 a2 a3 a4) h1 sys hG (by omega) (fun _ _ z => z) fin h3
  | tuple a1 a2 a3 a4 => exact repr_of_reads' (.tuple a1 a2 a3 a4) h1 sys hG (by omega) (fun _ _ z => z) fin h3
  | dict a1 a2 a3 a4 a5 => exact repr_of_reads' (.dict a1 a2 a3 a4 a5) h1 sys hG (by omega) (fun _ _ z => z) fin h3
end GX

set_option Elab.async false
set_option linter.all false
set_option maxRecDepth 100000
set_option maxHeartbeats 4000000
/-! Texts of whole numbers and of fractions: what the methods of texts say of them. -/
namespace TX
open PySem PySem.Builtin PySem.Builtin.Str TL L2
/-- the text of a whole number -/
abbrev S (n : Int) : Str := Str.ofString (toString n)
theorem tl_nat (n : Nat) : tl (S n) = numL n := tl_num n
theorem tl_neg {n : Int} (h : n < 0) : tl (S n) = 45 :: numL n.natAbs := by
  have e : toString n = "-" ++ toString ((n.natAbs : Nat) : Int) := by
    rw [PyProof.Rows.toString_neg h]
    have : (0 : Int) - n = ((n.natAbs : Nat) : Int) := by omega
    rw [this]
  show tl (Str.ofString (toString n)) = _
  rw [e]
  have e2 : tl (Str.ofString ("-" ++ toString ((n.natAbs : Nat) : Int))) = ("-" ++ toString ((n.natAbs : Nat) : Int)).toList.map Char.toNat := tl_ofString _
  have e3 : tl (Str.ofString (toString ((n.natAbs : Nat) : Int))) = (toString ((n.natAbs : Nat) : Int)).toList.map Char.toNat := tl_ofString _
  rw [e2, String.toList_append, List.map_append, ← e3, tl_num]
  rfl
theorem nat_of {n : Int} (h : 0 ≤ n) : ∃ k : Nat, n = k := Int.eq_ofNat_of_zero_le h
theorem tl_abs (n : Int) : tl (S ((n.natAbs : Nat) : Int)) = numL n.natAbs := tl_num _
/-- no sign of a number's text but digits and - -/
theorem free_S {n : Int} {s : Nat} (h : s < 45 ∨ (45 < s ∧ s < 48) ∨ 57 < s) : s ∉ tl (S n) := by
  by_cases h0 : 0 ≤ n
  · obtain ⟨k, rfl⟩ := nat_of h0
    rw [tl_nat]
    exact numL_free (by omega)
  · rw [tl_neg (by omega)]
    intro m
    rcases List.mem_cons.mp m with e | m
    · omega
    · exact numL_free (n := n.natAbs) (s := s) (by omega) m
theorem len_S {n : Int} {k : Nat} (hk : 0 < k) (h : n.natAbs < 10 ^ k) : (S n).length ≤ k + 1 := by
  rw [len_tl]
  by_cases h0 : 0 ≤ n
  · obtain ⟨m, rfl⟩ := nat_of h0
    rw [tl_nat]
    have := numL_len hk (show m < 10 ^ k by omega)
    omega
  · rw [tl_neg (by omega), List.length_cons]
    have := numL_len hk h
    omega
theorem int_S {n : Int} {k : Nat} (hk : 0 < k) (hz : k ≤ 4000) (h : n.natAbs < 10 ^ k) : intText? (S n) = some n := by
  have hl := len_S hk h
  by_cases h0 : 0 ≤ n
  · obtain ⟨m, rfl⟩ := nat_of h0
    refine int_num ?_
    have := numL_len hk (show m < 10 ^ k by omega)
    omega
  · have e := intText_neg (x := S n) (cs := numL n.natAbs) (tl_neg (by omega)) (numL_digits _) (numL_ne _) (by omega)
    rw [numL_val] at e
    rw [e]
    congr 1
    omega
theorem ascii_S (n : Nat) : Txt.isascii (S n) = true := by
  unfold Txt.isascii
  rw [← Array.all_toList]
  show (tl (S n)).all _ = true
  rw [tl_nat, List.all_eq_true]
  intro c hc
  have := numL_digits n c hc
  exact decide_eq_true (by omega)
theorem dig : ∀ c, 48 ≤ c → c ≤ 57 → Unicode.isDigit c = true := by
  intro c h1 h2
  have : ∀ d : Nat, d < 10 → Unicode.isDigit (48 + d) = true := by decide +kernel
  have e := this (c - 48) (by omega)
  rw [show 48 + (c - 48) = c by omega] at e
  exact e
theorem digit_S (n : Nat) : Txt.isdigit (S n) = true := by
  unfold Txt.isdigit
  have h0 : (S n).length > 0 := by
    rw [len_tl, tl_nat]
    exact List.length_pos_iff.mpr (numL_ne n)
  rw [decide_eq_true h0, Bool.true_and, ← Array.all_toList]
  show (tl (S n)).all _ = true
  rw [tl_nat, List.all_eq_true]
  intro c hc
  have := numL_digits n c hc
  exact dig c (by omega) (by omega)
theorem head_S : ∀ n : Nat, 0 < n → ∃ c l, numL n = c :: l ∧ c ≠ 48 := by
  intro n
  induction n using Nat.strongRecOn with
  | _ n ih =>
    intro h
    by_cases h1 : n < 10
    · exact ⟨48 + n, [], numL_lt h1, by omega⟩
    · obtain ⟨c, l, e, ne⟩ := ih (n / 10) (by omega) (by omega)
      refine ⟨c, l ++ [48 + n % 10], ?_, ne⟩
      rw [numL_step (by omega), e]
      rfl
theorem starts_S {n : Nat} (h : 0 < n) : Txt.startswith (S n) "0" = false := by
  obtain ⟨c, l, e, ne⟩ := head_S n h
  have h0 : ¬ (subAt (S n) "0" 0 = true) := by
    rw [PySem.StrLaws.subAt_eq]
    have e2 : (S n).cps.toList = c :: l := (tl_nat n).trans e
    rw [e2]
    show ¬ ((([c] : List Nat) == [48]) = true)
    intro z
    have z2 : [c] = [48] := by simpa using z
    cases z2
    exact ne rfl
  unfold Txt.startswith
  rw [Bool.eq_false_iff.mpr h0, Bool.and_false]
theorem zero_S : S ((0 : Nat) : Int) = "0" := by decide +kernel
theorem ne_zero_S {n : Nat} (h : 0 < n) : S n ≠ "0" := by
  intro z
  have e := congrArg tl z
  rw [tl_nat] at e
  obtain ⟨c, l, e2, ne⟩ := head_S n h
  rw [e2] at e
  have e3 : c :: l = [48] := e
  cases e3
  exact ne rfl
/-- the minus ahead is taken off -/
theorem strip_S (n : Int) : Txt.removeprefix (S n) "-" = S ((n.natAbs : Nat) : Int) := by
  unfold Txt.removeprefix
  by_cases h0 : 0 ≤ n
  · obtain ⟨k, rfl⟩ := nat_of h0
    have h1 : subAt (S k) "-" 0 = false := by
      rw [PySem.StrLaws.subAt_eq]
      have e2 : (S k).cps.toList = numL k := tl_nat k
      rw [e2]
      cases e : numL k with
      | nil => exact absurd e (numL_ne k)
      | cons c l =>
        show (([c] : List Nat) == [45]) = false
        have hc := numL_digits k c (by rw [e]; exact List.mem_cons_self)
        refine Bool.eq_false_iff.mpr fun z => ?_
        have z2 : [c] = [45] := by simpa using z
        cases z2
        omega
    rw [h1]
    show S k = S (((k : Int).natAbs : Nat) : Int)
    rfl
  · have h1 : subAt (S n) "-" 0 = true := by
      rw [PySem.StrLaws.subAt_eq]
      have e2 : (S n).cps.toList = 45 :: numL n.natAbs := tl_neg (by omega)
      rw [e2]
      rfl
    rw [h1]
    have hl : (S n).length = (numL n.natAbs).length + 1 := by
      rw [len_tl, tl_neg (by omega)]
      rfl
    show (if (S n).length - 1 == (S n).length then S n else strSub (S n) 1 (S n).length) = _
    have hne : ((S n).length - 1 == (S n).length) = false := by
      rw [hl]
      simp
    rw [hne]
    refine ext_tl ?_
    show tl (strSub (S n) 1 (S n).length) = _
    rw [tl_strSub_end, tl_neg (by omega), tl_abs]
    rfl
theorem ne_minus0 (n : Int) : S n ≠ "-0" := by
  intro z
  have e := congrArg tl z
  have e0 : tl ("-0" : Str) = [45, 48] := by decide +kernel
  rw [e0] at e
  by_cases h0 : 0 ≤ n
  · obtain ⟨k, rfl⟩ := nat_of h0
    rw [tl_nat] at e
    have := numL_digits k 45 (by rw [e]; exact List.mem_cons_self)
    omega
  · rw [tl_neg (by omega)] at e
    obtain ⟨c, l, e2, ne⟩ := head_S n.natAbs (by omega)
    rw [e2] at e
    have e3 : 45 :: c :: l = [45, 48] := e
    cases e3
    exact ne rfl
theorem slash : tl ("/" : Str) = 47 :: [] := by decide +kernel
theorem part_two (a b : Int) : Txt.partition (S a ++ "/" ++ S b) "/" = (S a, ("/" : Str), S b) := partition_app slash (free_S (by omega))
theorem part_one (a : Int) : Txt.partition (S a) "/" = (S a, Str.empty, Str.empty) := partition_none slash (free_S (by omega))
theorem empty_app (x : Str) : Str.empty ++ x = x := ext_tl (by rw [tl_append]; rfl)
theorem len_app (x y : Str) : (x ++ y).length = x.length + y.length := by
  rw [len_tl, len_tl, len_tl, tl_append, List.length_append]
theorem S_pos (n : Int) : 0 < (S n).length := by
  rw [len_tl]
  by_cases h0 : 0 ≤ n
  · obtain ⟨k, rfl⟩ := nat_of h0
    rw [tl_nat]
    exact List.length_pos_iff.mpr (numL_ne k)
  · rw [tl_neg (by omega)]
    exact Nat.succ_pos _
end TX

set_option Elab.async false
set_option linter.all false
set_option maxRecDepth 100000
set_option maxHeartbeats 4000000
namespace K01
open PySem PySem.Spec PyProof.Rows L2 GX
def topS (i : Nat) : Stmt := PySem.Challenge.pw_drawclaims_k01_ratios_in_lowest_terms.main.body.getD i (.Pass ⟨0, 0, 0, 0⟩)
abbrev s_is_integer : Stmt := topS 6
abbrev N_is_integer : List Str := ["value"]
theorem sc_is_integer : FnScope N_is_integer ["value"] (defScope s_is_integer) := ⟨rfl, rfl, rfl, by decide +kernel, rfl, by decide +kernel, by decide +kernel⟩
abbrev s_is_whole_text : Stmt := topS 7
abbrev N_is_whole_text : List Str := ["text"]
theorem sc_is_whole_text : FnScope N_is_whole_text ["text"] (defScope s_is_whole_text) := ⟨rfl, rfl, rfl, by decide +kernel, rfl, by decide +kernel, by decide +kernel⟩
abbrev s_is_integer_text : Stmt := topS 8
abbrev N_is_integer_text : List Str := ["text"]
theorem sc_is_integer_text : FnScope N_is_integer_text ["text"] (defScope s_is_integer_text) := ⟨rfl, rfl, rfl, by decide +kernel, rfl, by decide +kernel, by decide +kernel⟩
abbrev s__is_ratio_text : Stmt := topS 17
abbrev N__is_ratio_text : List Str := ["text", "top", "slash", "bottom"]
theorem sc__is_ratio_text : FnScope N__is_ratio_text ["text"] (defScope s__is_ratio_text) := ⟨rfl, rfl, rfl, by decide +kernel, rfl, by decide +kernel, by decide +kernel⟩
abbrev s_q_purse : Stmt := topS 19
abbrev N_q_purse : List Str := ["_law_script", "_law_place", "_law_cell", "_law_number", "_law_mixed"]
theorem sc_q_purse : FnScope N_q_purse ["_law_script", "_law_place"] (defScope s_q_purse) := ⟨rfl, rfl, rfl, by decide +kernel, rfl, by decide +kernel, by decide +kernel⟩
abbrev s_q_draw : Stmt := topS 20
abbrev N_q_draw : List Str := ["_law_purse_here", "_law_many", "_law_mixed", "_law_step", "_law_digit"]
theorem sc_q_draw : FnScope N_q_draw ["_law_purse_here", "_law_many"] (defScope s_q_draw) := ⟨rfl, rfl, rfl, by decide +kernel, rfl, by decide +kernel, by decide +kernel⟩
abbrev s_q_great : Stmt := topS 21
abbrev N_q_great : List Str := ["_law_purse_here", "_law_many", "_law_made", "_law_turn"]
theorem sc_q_great : FnScope N_q_great ["_law_purse_here", "_law_many"] (defScope s_q_great) := ⟨rfl, rfl, rfl, by decide +kernel, rfl, by decide +kernel, by decide +kernel⟩
abbrev s_q_integer : Stmt := topS 22
abbrev N_q_integer : List Str := ["_law_purse_here", "_law_way", "_law_sign"]
theorem sc_q_integer : FnScope N_q_integer ["_law_purse_here"] (defScope s_q_integer) := ⟨rfl, rfl, rfl, by decide +kernel, rfl, by decide +kernel, by decide +kernel⟩
abbrev s_q_lowest : Stmt := topS 23
abbrev N_q_lowest : List Str := ["_law_above", "_law_under", "_law_great_here", "_law_small"]
theorem sc_q_lowest : FnScope N_q_lowest ["_law_above", "_law_under"] (defScope s_q_lowest) := ⟨rfl, rfl, rfl, by decide +kernel, rfl, by decide +kernel, by decide +kernel⟩
abbrev s_q_right : Stmt := topS 24
abbrev N_q_right : List Str := ["_law_purse_here", "_law_above", "_law_under", "_law_factor", "_law_one", "_law_told", "_law_text", "_law_again", "_law_whole", "_law_named", "_law_number"]
theorem sc_q_right : FnScope N_q_right ["_law_purse_here"] (defScope s_q_right) := ⟨rfl, rfl, rfl, by decide +kernel, rfl, by decide +kernel, by decide +kernel⟩
abbrev s_law : Stmt := topS 25
abbrev N_law : List Str := ["_law_script", "_law_place"]
theorem sc_law : FnScope N_law ["_law_script"] (defScope s_law) := ⟨rfl, rfl, rfl, by decide +kernel, rfl, by decide +kernel, by decide +kernel⟩
abbrev s_Ratio___init__ : Stmt := inClass (topS 11) 0
abbrev N_Ratio___init__ : List Str := ["self", "top", "bottom", "common"]
theorem sc_Ratio___init__ : FnScope N_Ratio___init__ ["self", "top", "bottom"] (defScope s_Ratio___init__) := ⟨rfl, rfl, rfl, by decide +kernel, rfl, by decide +kernel, by decide +kernel⟩
abbrev s_Ratio_read : Stmt := inClass (topS 11) 1
abbrev N_Ratio_read : List Str := ["cls", "text", "top", "_", "bottom"]
theorem sc_Ratio_read : FnScope N_Ratio_read ["cls", "text"] (defScope s_Ratio_read) := ⟨rfl, rfl, rfl, by decide +kernel, rfl, by decide +kernel, by decide +kernel⟩
abbrev s_Ratio___str__ : Stmt := inClass (topS 11) 16
abbrev N_Ratio___str__ : List Str := ["self"]
theorem sc_Ratio___str__ : FnScope N_Ratio___str__ ["self"] (defScope s_Ratio___str__) := ⟨rfl, rfl, rfl, by decide +kernel, rfl, by decide +kernel, by decide +kernel⟩
abbrev s_Ratio___repr__ : Stmt := inClass (topS 11) 17
abbrev N_Ratio___repr__ : List Str := ["self"]
theorem sc_Ratio___repr__ : FnScope N_Ratio___repr__ ["self"] (defScope s_Ratio___repr__) := ⟨rfl, rfl, rfl, by decide +kernel, rfl, by decide +kernel, by decide +kernel⟩
structure Txt (K : PySem.W.Frag) (mg : Str → Option Value) where
  z_isinstance : mg "isinstance" = none
  z_int : mg "int" = none
  z_bool : mg "bool" = none
  z_str : mg "str" = none
  z_len : mg "len" = none
  z_range : mg "range" = none
  z_abs : mg "abs" = none
  z_divmod : mg "divmod" = none
  z_repr : mg "repr" = none
  z_max : mg "max" = none
  z_min : mg "min" = none
  C : Addr
  mc : Value
  g_Ratio : mg "Ratio" = some (.ref C)
  g_gcd : mg "gcd" = some (.builtin "math.gcd")
  cl : Cls K C
  nT : NoAttr K C "top"
  nB : NoAttr K C "bottom"
  nF : NoAttr K C "floor"
  a_is_integer : Addr
  fd_is_integer : FuncData
  g_is_integer : mg "is_integer" = some (.ref a_is_integer)
  F_is_integer : Fun K "is_integer" "is_integer" s_is_integer a_is_integer fd_is_integer
  a_is_whole_text : Addr
  fd_is_whole_text : FuncData
  g_is_whole_text : mg "is_whole_text" = some (.ref a_is_whole_text)
  F_is_whole_text : Fun K "is_whole_text" "is_whole_text" s_is_whole_text a_is_whole_text fd_is_whole_text
  a_is_integer_text : Addr
  fd_is_integer_text : FuncData
  g_is_integer_text : mg "is_integer_text" = some (.ref a_is_integer_text)
  F_is_integer_text : Fun K "is_integer_text" "is_integer_text" s_is_integer_text a_is_integer_text fd_is_integer_text
  a__is_ratio_text : Addr
  fd__is_ratio_text : FuncData
  g__is_ratio_text : mg "_is_ratio_text" = some (.ref a__is_ratio_text)
  F__is_ratio_text : Fun K "_is_ratio_text" "_is_ratio_text" s__is_ratio_text a__is_ratio_text fd__is_ratio_text
  a_q_purse : Addr
  fd_q_purse : FuncData
  g_q_purse : mg "_law_purse" = some (.ref a_q_purse)
  F_q_purse : Fun K "_law_purse" "_law_purse" s_q_purse a_q_purse fd_q_purse
  a_q_draw : Addr
  fd_q_draw : FuncData
  g_q_draw : mg "_law_draw" = some (.ref a_q_draw)
  F_q_draw : Fun K "_law_draw" "_law_draw" s_q_draw a_q_draw fd_q_draw
  a_q_great : Addr
  fd_q_great : FuncData
  g_q_great : mg "_law_great" = some (.ref a_q_great)
  F_q_great : Fun K "_law_great" "_law_great" s_q_great a_q_great fd_q_great
  a_q_integer : Addr
  fd_q_integer : FuncData
  g_q_integer : mg "_law_integer" = some (.ref a_q_integer)
  F_q_integer : Fun K "_law_integer" "_law_integer" s_q_integer a_q_integer fd_q_integer
  a_q_lowest : Addr
  fd_q_lowest : FuncData
  g_q_lowest : mg "_law_lowest" = some (.ref a_q_lowest)
  F_q_lowest : Fun K "_law_lowest" "_law_lowest" s_q_lowest a_q_lowest fd_q_lowest
  a_q_right : Addr
  fd_q_right : FuncData
  g_q_right : mg "_law_right" = some (.ref a_q_right)
  F_q_right : Fun K "_law_right" "_law_right" s_q_right a_q_right fd_q_right
  a_law : Addr
  fd_law : FuncData
  F_law : Fun K "law" "law" s_law a_law fd_law
  a_Ratio___init__ : Addr
  fd_Ratio___init__ : FuncData
  F_Ratio___init__ : FunD K "__init__" "Ratio.__init__" (defArgs s_Ratio___init__) (defBody s_Ratio___init__) (defScope s_Ratio___init__) [.int 1] [] a_Ratio___init__ fd_Ratio___init__
  a_Ratio_read : Addr
  fd_Ratio_read : FuncData
  F_Ratio_read : Fun K "read" "Ratio.read" s_Ratio_read a_Ratio_read fd_Ratio_read
  a_Ratio___str__ : Addr
  fd_Ratio___str__ : FuncData
  F_Ratio___str__ : Fun K "__str__" "Ratio.__str__" s_Ratio___str__ a_Ratio___str__ fd_Ratio___str__
  a_Ratio___repr__ : Addr
  fd_Ratio___repr__ : FuncData
  F_Ratio___repr__ : Fun K "__repr__" "Ratio.__repr__" s_Ratio___repr__ a_Ratio___repr__ fd_Ratio___repr__
  mkR : Mk K C a_Ratio___init__
  hs : PySem.W.findIn K (.ref C) "__str__" = some (some (.ref a_Ratio___str__))
  hsf : PySem.W.isFn K (.ref a_Ratio___str__) = true
  hr : PySem.W.findIn K (.ref C) "__repr__" = some (some (.ref a_Ratio___repr__))
  hrf : PySem.W.isFn K (.ref a_Ratio___repr__) = true
  crd : ClX.CRead K C mc
  pR : Addr
  cmt : ClX.CMet K C mc "read" pR a_Ratio_read
  ha : PySem.W.findIn K (.ref C) "__class__" = some (some (.builtin "object.__class__"))
  hn : PySem.W.specialIn K (.builtin "object.__class__") "__get__" = some (some (.builtin "getset_descriptor.__get__"))
  ht : PySem.W.takesIn K (.builtin "object.__class__") = some true
  hm : PySem.W.mroIn K C (.type "object") = some true
  kCC : PySem.W.kitOne K (.ref C) (.ref C) = some true
section
variable {P : Program} {w : World} {K : PySem.W.Frag} {mg : Str → Option Value} {base : Heap}
theorem b_is_integer (T : Txt K mg) : Binds K T.fd_is_integer ["value"] [] := T.F_is_integer.binds fun _ _ _ _ _ _ us hl => match us, hl with | [_], _ => rfl
theorem b_is_whole_text (T : Txt K mg) : Binds K T.fd_is_whole_text ["text"] [] := T.F_is_whole_text.binds fun _ _ _ _ _ _ us hl => match us, hl with | [_], _ => rfl
theorem b_is_integer_text (T : Txt K mg) : Binds K T.fd_is_integer_text ["text"] [] := T.F_is_integer_text.binds fun _ _ _ _ _ _ us hl => match us, hl with | [_], _ => rfl
theorem b__is_ratio_text (T : Txt K mg) : Binds K T.fd__is_ratio_text ["text"] [] := T.F__is_ratio_text.binds fun _ _ _ _ _ _ us hl => match us, hl with | [_], _ => rfl
theorem b_q_purse (T : Txt K mg) : Binds K T.fd_q_purse ["_law_script", "_law_place"] [] := T.F_q_purse.binds fun _ _ _ _ _ _ us hl => match us, hl with | [_, _], _ => rfl
theorem b_q_draw (T : Txt K mg) : Binds K T.fd_q_draw ["_law_purse_here", "_law_many"] [] := T.F_q_draw.binds fun _ _ _ _ _ _ us hl => match us, hl with | [_, _], _ => rfl
theorem b_q_great (T : Txt K mg) : Binds K T.fd_q_great ["_law_purse_here", "_law_many"] [] := T.F_q_great.binds fun _ _ _ _ _ _ us hl => match us, hl with | [_, _], _ => rfl
theorem b_q_integer (T : Txt K mg) : Binds K T.fd_q_integer ["_law_purse_here"] [] := T.F_q_integer.binds fun _ _ _ _ _ _ us hl => match us, hl with | [_], _ => rfl
theorem b_q_lowest (T : Txt K mg) : Binds K T.fd_q_lowest ["_law_above", "_law_under"] [] := T.F_q_lowest.binds fun _ _ _ _ _ _ us hl => match us, hl with | [_, _], _ => rfl
theorem b_q_right (T : Txt K mg) : Binds K T.fd_q_right ["_law_purse_here"] [] := T.F_q_right.binds fun _ _ _ _ _ _ us hl => match us, hl with | [_], _ => rfl
theorem b_law (T : Txt K mg) : Binds K T.fd_law ["_law_script"] [] := T.F_law.binds fun _ _ _ _ _ _ us hl => match us, hl with | [_], _ => rfl
theorem b_Ratio_read (T : Txt K mg) : Binds K T.fd_Ratio_read ["cls", "text"] [] := T.F_Ratio_read.binds fun _ _ _ _ _ _ us hl => match us, hl with | [_, _], _ => rfl
theorem b_Ratio___str__ (T : Txt K mg) : Binds K T.fd_Ratio___str__ ["self"] [] := T.F_Ratio___str__.binds fun _ _ _ _ _ _ us hl => match us, hl with | [_], _ => rfl
theorem b_Ratio___repr__ (T : Txt K mg) : Binds K T.fd_Ratio___repr__ ["self"] [] := T.F_Ratio___repr__.binds fun _ _ _ _ _ _ us hl => match us, hl with | [_], _ => rfl
end
end K01

set_option Elab.async false
set_option linter.all false
set_option maxRecDepth 100000
set_option maxHeartbeats 4000000
namespace K01
open PySem PySem.Spec PyProof.Rows L2 GX OX
/-! ### numbers -/
def spGreat : Sp := fun vs H Q _ => ∃ (a : Addr) (k : Nat), vs = [.ref a, .int k] ∧ Bag H a ∧ k ≤ 10 ∧
  ∀ (v : Int) H', 0 ≤ v → v < 10 ^ (6 * k) → Bag H' a → But a H H' → Q (.int v) H'
def spInteger : Sp := fun vs H Q _ => ∃ a : Addr, vs = [.ref a] ∧ Bag H a ∧ ∀ (n : Int) H', n.natAbs < 10 ^ 60 → Bag H' a → But a H H' → Q (.int n) H'
def spLowest : Sp := fun vs H Q _ => ∃ t b : Int, vs = [.int t, .int b] ∧ 0 ≤ b ∧ Q (.bl (Nat.gcd t.natAbs b.natAbs == 1)) H
theorem pow_up {v d : Int} {k : Nat} (h0 : 0 ≤ v) (h1 : v < 10 ^ (6 * k)) (d0 : 0 ≤ d) (d1 : d < 10 ^ 6) : 0 ≤ v * 10 ^ 6 + d ∧ v * 10 ^ 6 + d < 10 ^ (6 * (k + 1)) := by
  have e : (10 : Int) ^ (6 * (k + 1)) = 10 ^ (6 * k) * 10 ^ 6 := by
    rw [← Int.pow_add]
    rfl
  have h2 : v * 10 ^ 6 ≤ (10 ^ (6 * k) - 1) * 10 ^ 6 := Int.mul_le_mul_of_nonneg_right (by omega) (by decide)
  rw [e]
  generalize (10 : Int) ^ (6 * k) = p at *
  have e6 : (10 : Int) ^ 6 = 1000000 := by decide
  rw [e6] at *
  omega
theorem pow_le10 {k : Nat} (h : k ≤ 10) : (10 : Int) ^ (6 * k) ≤ 10 ^ 60 := by
  have e : ((10 : Nat) : Int) ^ (6 * k) ≤ ((10 : Nat) : Int) ^ 60 := by
    have := Nat.pow_le_pow_right (show 0 < 10 by decide) (show 6 * k ≤ 60 by omega)
    norm_cast
  exact e
section
variable {P : Program} {w : World} {K : PySem.W.Frag} {mg : Str → Option Value} {base : Heap}
theorem ok_is_integer (T : Txt K mg) : FnOk P w K mg base CX0 1 T.a_is_integer T.fd_is_integer ["value"] (spIsI K) := by
  refine T.F_is_integer.ok sc_is_integer (fun vs H Q E h => ?_) (fun cdv A outer s H vs Q E hr h => ?_)
  · obtain ⟨x, rfl, _⟩ := h
    rfl
  · obtain ⟨x, rfl, ⟨n, b, c, ty, k1, k2, e⟩, q⟩ := h
    refine ⟨_, (pss_one (ps_ret (pe_and (pe_callB call_isi (by rfl) T.z_isinstance (by decide +kernel) (pa_cons (pv 0) (pa_cons (pe_bltn (v := .ty "int") (by rfl) T.z_int (by decide +kernel) rfl) pa_nil))) (pe_one (pe_not (pe_callB call_isi (by rfl) T.z_isinstance (by decide +kernel) (pa_cons (pv 0) (pa_cons (pe_bltn (v := .ty "bool") (by rfl) T.z_bool (by decide +kernel) rfl) pa_nil)))))))), ?_⟩
    refine ⟨x, rfl, x, .ty "int", .type n, .type "int", b, rfl, .ty "int", ty, k1, b, rfl, ?_⟩
    rw [← e] at q
    cases b with
    | false => exact iteF q
    | true => exact iteT ⟨x, rfl, x, .ty "bool", .type n, .type "bool", c, rfl, .ty "bool", ty, k2, c, rfl, q⟩
theorem ok_q_purse (T : Txt K mg) : FnOk P w K mg base CX0 1 T.a_q_purse T.fd_q_purse ["_law_script", "_law_place"] (spPurse K) := by
  refine T.F_q_purse.ok sc_q_purse (fun vs H Q E h => ?_) (fun cdv A outer s H vs Q E hr h => ?_)
  · obtain ⟨a, ns, k, rfl, _⟩ := h
    rfl
  · obtain ⟨a, ns, k, rfl, S, hl, hk, q⟩ := h
    refine ⟨_, (pss_cons (ps_set (i := 2) sc_q_purse.nd rfl (Or.inl rfl) (pe_op op_add (pe_op op_mul pe_int (pe_callB call_len_seq (by rfl) T.z_len (by decide +kernel) (pa_cons (pv 0) pa_nil))) (pe_op op_mul pe_int (pv 1))))
      (pss_cons (ps_for PassesOwn.never rfl (pi_list (pe_slice sl_list (pv 0) po_none (po_some pe_int))) (pg_name (i := 3) sc_q_purse.nd rfl (Or.inl rfl)) (pss_one (ps_set (i := 2) sc_q_purse.nd rfl (Or.inl rfl) (pe_op op_mod (pe_callTy call_int1 (by rfl) T.z_int (by decide +kernel) (pa_cons (pe_op op_add (pe_op op_mul (pv 2) pe_int) (pv 3)) pa_nil)) pe_int))))
      (pss_cons (ps_if (pt_cmpR op_lt (pv 1) (pe_callB call_len_seq (by rfl) T.z_len (by decide +kernel) (pa_cons (pv 0) pa_nil)) (nomark _)) (pss_one (ps_set (i := 2) sc_q_purse.nd rfl (Or.inl rfl) (pe_ix ix_list (pv 0) (pv 1) (fun _ _ => rfl)))) pss_nil)
      (pss_cons (ps_set (i := 4) sc_q_purse.nd rfl (Or.inl rfl) (pe_op op_pow (pe_callTy call_int1 (by rfl) T.z_int (by decide +kernel) (pa_cons (pe_op op_add (pe_op op_mod (pe_callTy call_int1 (by rfl) T.z_int (by decide +kernel) (pa_cons (pv 2) pa_nil)) pe_int) pe_int) pa_nil)) pe_int))
      (pss_one (ps_ret (pe_lst (pa_cons (pe_op op_mod (pe_callTy call_int1 (by rfl) T.z_int (by decide +kernel) (pa_cons (pv 4) pa_nil)) pe_int) (pa_cons (pe_ifExp (PW.pt (pw_or (pt_cmpR op_lt (pv 2) pe_int (nomark _)) (pw_or1 (pt_cmpR op_ge (pv 2) (pe_op op_pow pe_int pe_int) (nomark _))))) (pe_callB call_abs (by rfl) T.z_abs (by decide +kernel) (pa_cons (pv 2) pa_nil)) pe_int) (pa_cons pe_int pa_nil)))))))))), ?_⟩
    have hl2 : (((ns.map V.int).length : Nat) : Int) ≤ 63 := by
      rw [List.length_map]
      omega
    refine ⟨_, rfl, a, _, rfl, .inl S, 7, _, rfl, rfl, .inl ⟨by decide, by decide⟩, _, rfl, 11, k, rfl, rfl, .inl ⟨by decide, by decide⟩, _, _, rfl, rfl, ?_⟩
    refine ⟨_, rfl, 3, rfl, a, _, rfl, S, fun p hp => ⟨p, rfl, ⟨_, .inl (.inl upd_same)⟩, ?_⟩⟩
    refine for_list (K := K) (a := p) (xs := cutV (ns.map V.int) none (some 3)) (fun i σ H' => ∃ (t : Int) (y : Option V), σ = [some (.ref a), some (.int k), some (.int t), y, none] ∧ 0 ≤ t ∧ t < 2147483629 ∧ Same H H' ∧ H' p = some (.lst (cutV (ns.map V.int) none (some 3))))
      ⟨_, none, rfl, by omega, by omega, same_new hp, upd_same⟩ (fun i σ H' _ h => ?_) ?_ ?_
    · obtain ⟨t, y, _, _, _, _, e⟩ := h
      exact SqL.of e
    · rintro i x σ H' hx ⟨t, y, rfl, t0, t1, sm, e⟩
      obtain ⟨z, rfl⟩ := cut_ints hx
      refine ⟨_, rfl, t, 60013, rfl, rfl, .inl ⟨by omega, by omega⟩, _, rfl, _, z, rfl, rfl, .inl ⟨_, rfl, _, 2147483629, rfl, rfl, (by show (0 : Int) < 2147483629; decide), ?_⟩⟩
      exact ⟨_, some (.int z), rfl, Int.emod_nonneg _ (by decide), Int.emod_lt_of_pos _ (by decide), sm, e⟩
    · rintro σ H' ⟨t, y, rfl, t0, t1, sm, e⟩
      refine ⟨_, rfl, _, rfl, a, _, rfl, .inl (sm.seq S), _, _, rfl, rfl, _, rfl, ite2 (fun c => ?_) (fun c => ?_)⟩
      · have c2 := of_decide_eq_true c
        rw [List.length_map] at c2
        have hj : k < ns.length := by omega
        have g : (ns.map V.int)[k]? = some (.int ns[k]) := by
          rw [List.getElem?_map, List.getElem?_eq_getElem hj]
          rfl
        refine ⟨_, rfl, _, rfl, a, _, k, _, rfl, rfl, sm.seq S, atI_nat g, ?_⟩
        generalize ns[k] = z
        refine ⟨_, rfl, .inl ⟨z, rfl, z, 2147483629, rfl, rfl, (by show (0 : Int) < 2147483629; decide), _, 314159, rfl, rfl, .inl ⟨_, rfl, _, 3, rfl, rfl, ⟨by decide, by decide, ?_⟩, ?_⟩⟩⟩
        · have h1 : 0 ≤ z % 2147483629 := Int.emod_nonneg _ (by decide)
          have h2 : z % 2147483629 < 2147483629 := Int.emod_lt_of_pos _ (by decide)
          have h3 : (2 : Nat) ^ 64 = 18446744073709551616 := by decide
          show (z % 2147483629 + 314159).natAbs < 2 ^ 64
          omega
        · have fin : ∀ (m v : Int) (l : Addr), 0 ≤ v → H' l = none → Q (.ref l) (upd H' l (.lst [.int (m % 2147483629), .int v, .int 0])) := fun m v l hv hn =>
            q l _ (sm.free hn) (sm.trans (same_new hn)) ⟨_, v, 0, upd_same, hv⟩
          have abs0 : 0 ≤ (if z < 0 then -z else z) := by split <;> omega
          refine ⟨_, rfl, .inl ⟨_, rfl, _, 2147483629, rfl, rfl, (by show (0 : Int) < 2147483629; decide), _, rfl, z, 0, rfl, rfl, _, rfl, ite2 (fun _ => ?_) (fun _ => ?_)⟩⟩
          · exact iteT ⟨_, rfl, z, rfl, (by show 3 ≤ sizeLine; decide), fun l hn => fin _ _ l abs0 hn⟩
          · refine ⟨_, rfl, 10, 18, rfl, rfl, ⟨by decide, by decide, by decide⟩, z, _, rfl, rfl, _, rfl, ite2 (fun _ => ?_) (fun _ => ?_)⟩
            · exact ⟨_, rfl, z, rfl, (by show 3 ≤ sizeLine; decide), fun l hn => fin _ _ l abs0 hn⟩
            · exact ⟨(by show 3 ≤ sizeLine; decide), fun l hn => fin _ _ l (Int.le_refl 0) hn⟩
      · generalize t = z
        refine ⟨_, rfl, .inl ⟨z, rfl, z, 2147483629, rfl, rfl, (by show (0 : Int) < 2147483629; decide), _, 314159, rfl, rfl, .inl ⟨_, rfl, _, 3, rfl, rfl, ⟨by decide, by decide, ?_⟩, ?_⟩⟩⟩
        · have h1 : 0 ≤ z % 2147483629 := Int.emod_nonneg _ (by decide)
          have h2 : z % 2147483629 < 2147483629 := Int.emod_lt_of_pos _ (by decide)
          have h3 : (2 : Nat) ^ 64 = 18446744073709551616 := by decide
          show (z % 2147483629 + 314159).natAbs < 2 ^ 64
          omega
        · have fin : ∀ (m v : Int) (l : Addr), 0 ≤ v → H' l = none → Q (.ref l) (upd H' l (.lst [.int (m % 2147483629), .int v, .int 0])) := fun m v l hv hn =>
            q l _ (sm.free hn) (sm.trans (same_new hn)) ⟨_, v, 0, upd_same, hv⟩
          have abs0 : 0 ≤ (if z < 0 then -z else z) := by split <;> omega
          refine ⟨_, rfl, .inl ⟨_, rfl, _, 2147483629, rfl, rfl, (by show (0 : Int) < 2147483629; decide), _, rfl, z, 0, rfl, rfl, _, rfl, ite2 (fun _ => ?_) (fun _ => ?_)⟩⟩
          · exact iteT ⟨_, rfl, z, rfl, (by show 3 ≤ sizeLine; decide), fun l hn => fin _ _ l abs0 hn⟩
          · refine ⟨_, rfl, 10, 18, rfl, rfl, ⟨by decide, by decide, by decide⟩, z, _, rfl, rfl, _, rfl, ite2 (fun _ => ?_) (fun _ => ?_)⟩
            · exact ⟨_, rfl, z, rfl, (by show 3 ≤ sizeLine; decide), fun l hn => fin _ _ l abs0 hn⟩
            · exact ⟨(by show 3 ≤ sizeLine; decide), fun l hn => fin _ _ l (Int.le_refl 0) hn⟩
theorem ok_q_draw (T : Txt K mg) : FnOk P w K mg base CX0 1 T.a_q_draw T.fd_q_draw ["_law_purse_here", "_law_many"] spTake := by
  refine T.F_q_draw.ok sc_q_draw (fun vs H Q E h => ?_) (fun cdv A outer s H vs Q E hr h => ?_)
  · obtain ⟨a, m, rfl, _⟩ := h
    rfl
  · obtain ⟨a, m, rfl, ⟨z, g, c, ha, hg⟩, m0, m1, q⟩ := h
    refine ⟨_, (pss_cons (ps_asg (pe_op op_add (pe_ix ix_list (pv 0) pe_int (fun _ _ => rfl)) pe_int) (pg_sub (pv 0) pe_int set_list))
      (pss_cons (ps_set (i := 2) sc_q_draw.nd rfl (Or.inl rfl) (pe_callTy call_int1 (by rfl) T.z_int (by decide +kernel) (pa_cons (pe_ix ix_list (pv 0) pe_int (fun _ _ => rfl)) pa_nil)))
      (pss_cons (ps_set (i := 3) sc_q_draw.nd rfl (Or.inl rfl) (pe_op op_add (pe_op op_mod (pe_callTy call_int1 (by rfl) T.z_int (by decide +kernel) (pa_cons (pv 2) pa_nil)) pe_int) pe_int))
      (pss_cons (ps_asg (pe_op op_mod (pe_callTy call_int1 (by rfl) T.z_int (by decide +kernel) (pa_cons (pe_op op_add (pe_op op_add (pe_op op_mul (pv 2) (pv 3)) (pe_op op_mul pe_int (pe_ix ix_list (pv 0) pe_int (fun _ _ => rfl)))) pe_int) pa_nil)) pe_int) (pg_sub (pv 0) pe_int set_list))
      (pss_cons (ps_if (pt_cmpR op_gt (pe_ix ix_list (pv 0) pe_int (fun _ _ => rfl)) pe_int (nomark _)) (pss_cons (ps_asg (pe_callB call_divmodW (by rfl) T.z_divmod (by decide +kernel) (pa_cons (pe_ix ix_list (pv 0) pe_int (fun _ _ => rfl)) (pa_cons (pv 1) pa_nil))) (pg_tup (by rfl) (pgs_cons (pg_sub (pv 0) pe_int set_list) (pgs_cons (pg_name (i := 4) sc_q_draw.nd rfl (Or.inl rfl)) pgs_nil))))
          (pss_one (ps_ret (pv 4)))) pss_nil)
      (pss_one (ps_ret (pe_op op_mod (pe_callTy call_int1 (by rfl) T.z_int (by decide +kernel) (pa_cons (pe_op op_fdiv (pe_ix ix_list (pv 0) pe_int (fun _ _ => rfl)) pe_int) pa_nil)) (pv 1))))))))), ?_⟩
    refine ⟨_, rfl, a, _, 2, .int c, rfl, rfl, SqL.of ha, atI_nat (j := 2) rfl, c, 1, rfl, rfl, _, rfl, a, _, 2, 2, rfl, rfl, ha, rfl, ?_⟩
    have h1 : (upd H a (.lst [.int z, .int g, .int (c + 1)])) a = some (.lst [.int z, .int g, .int (c + 1)]) := upd_same
    refine ⟨_, rfl, a, _, 0, .int z, rfl, rfl, SqL.of h1, atI_nat (j := 0) rfl, .inl ⟨z, rfl, ?_⟩⟩
    have b1 : 0 ≤ z % 40009 := Int.emod_nonneg _ (by decide)
    have b2 : z % 40009 < 40009 := Int.emod_lt_of_pos _ (by decide)
    refine ⟨_, rfl, .inl ⟨z, rfl, z, 40009, rfl, rfl, (by show (0 : Int) < 40009; decide), _, 20011, rfl, rfl, ?_⟩⟩
    refine ⟨_, rfl, _, rfl, z, _, rfl, rfl, .inr ⟨by omega, by omega⟩, _, rfl, a, _, 2, _, rfl, rfl, SqL.of h1, atI_nat (j := 2) rfl,
      69997, c + 1, rfl, rfl, .inl ⟨by decide, by decide⟩, _, _, rfl, rfl, _, 7, rfl, rfl, .inl ⟨_, rfl, _, 2147483629, rfl, rfl, (by show (0 : Int) < 2147483629; decide), _, rfl, a, _, 0, 0, rfl, rfl, h1, rfl, ?_⟩⟩
    have h2 : ∀ v : Int, (upd (upd H a (.lst [.int z, .int g, .int (c + 1)])) a (.lst [.int v, .int g, .int (c + 1)])) a = some (.lst [.int v, .int g, .int (c + 1)]) := fun v => upd_same
    have k2 : ∀ v : Int, But a H (upd (upd H a (.lst [.int z, .int g, .int (c + 1)])) a (.lst [.int v, .int g, .int (c + 1)])) := fun v => ((But.refl a H).set).set
    refine ⟨_, rfl, a, _, 1, .int g, rfl, rfl, SqL.of (h2 _), atI_nat (j := 1) rfl, g, 0, rfl, rfl, _, rfl, ?_⟩
    by_cases cg : g > 0
    · rw [decide_eq_true cg]
      refine iteT ?_
      refine ⟨_, rfl, a, _, 1, .int g, rfl, rfl, SqL.of (h2 _), atI_nat (j := 1) rfl, _, rfl, g, m, rfl, ⟨m0, PyProof.noPylong_of_log2 m1⟩, fun p hp => ?_⟩
      have npa : a ≠ p := ne_of_none (h2 _) hp
      have h3 : ∀ v : Int, (upd (upd (upd H a (.lst [.int z, .int g, .int (c + 1)])) a (.lst [.int v, .int g, .int (c + 1)])) p (.tup [.int (g / m), .int (g % m)])) a = some (.lst [.int v, .int g, .int (c + 1)]) := fun v => (upd_ne npa).trans (h2 v)
      refine ⟨p, _, rfl, .inl (.inl upd_same), rfl, .int (g / m), [.int (g % m)], rfl, _, rfl, a, _, 1, 1, rfl, rfl, h3 _, rfl, .int (g % m), [], rfl, rfl, _, rfl, ?_⟩
      refine q _ _ (Int.emod_nonneg _ (by omega)) (Int.emod_lt_of_pos _ m0) ⟨_, g / m, c + 1, upd_same, Int.ediv_nonneg hg (by omega)⟩ ?_
      exact ((k2 _).same (same_new hp)).set
    · rw [decide_eq_false cg]
      refine iteF ?_
      refine ⟨_, rfl, a, _, 0, .int _, rfl, rfl, SqL.of (h2 _), atI_nat (j := 0) rfl, _, 97, rfl, rfl, ⟨by decide, by decide⟩, .inl ⟨_, rfl, _, rfl, _, m, rfl, rfl, m0, ?_⟩⟩
      exact q _ _ (Int.emod_nonneg _ (by omega)) (Int.emod_lt_of_pos _ m0) ⟨_, g, c + 1, h2 _, hg⟩ (k2 _)
theorem ok_q_great (T : Txt K mg) : FnOk P w K mg base CX0 2 T.a_q_great T.fd_q_great ["_law_purse_here", "_law_many"] spGreat := by
  refine T.F_q_great.ok sc_q_great (fun vs H Q E h => ?_) (fun cdv A outer s H vs Q E hr h => ?_)
  · obtain ⟨a, k, rfl, _⟩ := h
    rfl
  · obtain ⟨a, k, rfl, bag, hk, q⟩ := h
    refine ⟨_, (pss_cons (ps_set (i := 2) sc_q_great.nd rfl (Or.inl rfl) pe_int)
      (pss_cons (ps_for PassesOwn.never rfl (pi_range1 (by rfl) T.z_range (pa_cons (pv 1) pa_nil)) (pg_name (i := 3) sc_q_great.nd rfl (Or.inl rfl)) (pss_one (ps_set (i := 2) sc_q_great.nd rfl (Or.inl rfl) (pe_op op_add (pe_op op_mul (pv 2) (pe_op op_pow pe_int pe_int)) (pe_call (ok_q_draw T) (hr.mono (by decide)) (by rfl) T.g_q_draw T.F_q_draw.kp (b_q_draw T) .nil pass0 (pa_cons (pv 0) (pa_cons (pe_op op_pow pe_int pe_int) pa_nil)))))))
      (pss_one (ps_ret (pv 2))))), ?_⟩
    refine ⟨_, rfl, (k : Int), rfl, by omega, by omega, ?_⟩
    refine for_range (lo := 0) (n := k) (fun i σ H' => ∃ (v : Int) (y : Option V), σ = [some (.ref a), some (.int k), some (.int v), y] ∧ 0 ≤ v ∧ v < 10 ^ (6 * i) ∧ Bag H' a ∧ But a H H')
      ⟨0, none, rfl, Int.le_refl 0, (by show (0 : Int) < 1; decide), bag, But.refl a H⟩ ?_ ?_
    · rintro i σ H' hi ⟨v, y, rfl, v0, v1, bag1, but1⟩
      refine ⟨_, rfl, 10, 6, rfl, rfl, ⟨by decide, by decide, by decide⟩, v, _, rfl, rfl, .inr ⟨by decide, by decide⟩, _, rfl, 10, 6, rfl, rfl, ⟨by decide, by decide, by decide⟩, a, _, rfl, bag1, (by decide), (by decide), fun r H2 r0 r1 bag2 but2 => ?_⟩
      have pu := pow_up v0 v1 r0 r1
      exact ⟨_, _, rfl, rfl, _, some (.int (0 + i)), rfl, pu.1, pu.2, bag2, but1.trans but2⟩
    · rintro σ H' ⟨v, y, rfl, v0, v1, bag1, but1⟩
      exact ⟨_, rfl, q v H' v0 v1 bag1 but1⟩
end
end K01

set_option Elab.async false
set_option linter.all false
set_option maxRecDepth 100000
set_option maxHeartbeats 4000000
namespace K01
open PySem PySem.Spec PyProof.Rows L2 GX OX TX
theorem sg_lt {d r : Int} {N : Nat} (d0 : 0 ≤ d) (d1 : d < 2) (h : r.natAbs < N) : ((1 - 2 * d) * r).natAbs < N := by
  have : d = 0 ∨ d = 1 := by omega
  rcases this with rfl | rfl
  · simpa using h
  · have e : ((1 : Int) - 2 * 1) * r = -r := by omega
    rw [e, Int.natAbs_neg]
    exact h
def eight : List Int := [0, 1, 60, 100, 999, 10 ^ 9, 10 ^ 18, 10 ^ 30]
theorem eight_lt : ∀ v ∈ eight, v.natAbs < 10 ^ 60 := by decide +kernel
theorem ten_lt {r : Int} {m : Int} (r0 : 0 ≤ r) (r1 : r < m) (h : m ≤ 10 ^ 60) : r.natAbs < 10 ^ 60 := by
  have e : ((10 ^ 60 : Nat) : Int) = 10 ^ 60 := by norm_cast
  omega
section
variable {P : Program} {w : World} {K : PySem.W.Frag} {mg : Str → Option Value} {base : Heap}
theorem ok_q_integer (T : Txt K mg) : FnOk P w K mg base CX0 3 T.a_q_integer T.fd_q_integer ["_law_purse_here"] spInteger := by
  refine T.F_q_integer.ok sc_q_integer (fun vs H Q E h => ?_) (fun cdv A outer s H vs Q E hr h => ?_)
  · obtain ⟨a, rfl, _⟩ := h
    rfl
  · obtain ⟨a, rfl, bag, q⟩ := h
    refine ⟨_, (pss_cons (ps_par (i := 1) (j := 2) (by rfl) sc_q_integer.nd rfl rfl (by decide) rfl rfl (pa_cons (pe_call (ok_q_draw T) (hr.mono (by decide)) (by rfl) T.g_q_draw T.F_q_draw.kp (b_q_draw T) .nil pass0 (pa_cons (pv 0) (pa_cons pe_int pa_nil))) (pa_cons (pe_op op_sub pe_int (pe_op op_mul pe_int (pe_call (ok_q_draw T) (hr.mono (by decide)) (by rfl) T.g_q_draw T.F_q_draw.kp (b_q_draw T) .nil pass0 (pa_cons (pv 0) (pa_cons pe_int pa_nil))))) pa_nil)) (by rfl))
      (pss_cons (ps_if (pt_cmpR op_lt (pv 1) pe_int (nomark _)) (pss_one (ps_ret (pe_op op_mul (pv 2) (pe_call (ok_q_draw T) (hr.mono (by decide)) (by rfl) T.g_q_draw T.F_q_draw.kp (b_q_draw T) .nil pass0 (pa_cons (pv 0) (pa_cons pe_int pa_nil)))))) pss_nil)
      (pss_cons (ps_if (pt_cmpR op_eq (pv 1) pe_int (nomark _)) (pss_one (ps_ret (pe_op op_mul (pv 2) (pe_ix ix_list (pe_lst (pa_cons pe_int (pa_cons pe_int (pa_cons pe_int (pa_cons pe_int (pa_cons pe_int (pa_cons (pe_op op_pow pe_int pe_int) (pa_cons (pe_op op_pow pe_int pe_int) (pa_cons (pe_op op_pow pe_int pe_int) pa_nil))))))))) (pe_call (ok_q_draw T) (hr.mono (by decide)) (by rfl) T.g_q_draw T.F_q_draw.kp (b_q_draw T) .nil pass0 (pa_cons (pv 0) (pa_cons pe_int pa_nil))) (fun _ _ => rfl))))) pss_nil)
      (pss_cons (ps_if (pt_cmpR op_eq (pv 1) pe_int (nomark _)) (pss_one (ps_ret (pe_op op_mul (pv 2) (pe_call (ok_q_draw T) (hr.mono (by decide)) (by rfl) T.g_q_draw T.F_q_draw.kp (b_q_draw T) .nil pass0 (pa_cons (pv 0) (pa_cons (pe_op op_pow pe_int pe_int) pa_nil)))))) pss_nil)
      (pss_one (ps_ret (pe_op op_mul (pv 2) (pe_call (ok_q_great T) (hr.mono (by decide)) (by rfl) T.g_q_great T.F_q_great.kp (b_q_great T) .nil pass0 (pa_cons (pv 0) (pa_cons (pe_op op_add pe_int (pe_call (ok_q_draw T) (hr.mono (by decide)) (by rfl) T.g_q_draw T.F_q_draw.kp (b_q_draw T) .nil pass0 (pa_cons (pv 0) (pa_cons pe_int pa_nil)))) pa_nil)))))))))), ?_⟩
    refine ⟨_, rfl, a, 6, rfl, bag, by decide, by decide, fun way H1 w0 w1 bag1 b1 => ⟨_, rfl, a, 2, rfl, bag1, by decide, by decide, fun d H2 d0 d1 bag2 b2 => ?_⟩⟩
    have b12 := b1.trans b2
    refine ⟨2, d, rfl, rfl, .inl ⟨by decide, by decide⟩, 1, _, rfl, rfl, _, _, rfl, ?_⟩
    refine ⟨_, rfl, way, 2, rfl, rfl, _, rfl, ite2 (fun _ => ?_) (fun _ => ?_)⟩
    · exact ⟨_, rfl, _, rfl, a, 13, rfl, bag2, by decide, by decide, fun r H3 r0 r1 bag3 b3 => ⟨_, r, rfl, rfl, .inl ⟨by omega, by omega⟩, q _ H3 (sg_lt d0 d1 (ten_lt r0 r1 (by decide))) bag3 (b12.trans b3)⟩⟩
    · refine ⟨_, rfl, rfl, _, rfl, ite2 (fun _ => ?_) (fun _ => ?_)⟩
      · refine ⟨_, rfl, 10, 9, rfl, rfl, ⟨by decide, by decide, by decide⟩, 10, 18, rfl, rfl, ⟨by decide, by decide, by decide⟩, 10, 30, rfl, rfl, ⟨by decide, by decide, by decide⟩, (by show 8 ≤ sizeLine; decide), fun l hl => ?_⟩
        refine ⟨_, rfl, a, 8, rfl, bag2.keep (same_new hl), by decide, by decide, fun r H3 r0 r1 bag3 b3 => ?_⟩
        obtain ⟨j, rfl⟩ := Int.eq_ofNat_of_zero_le r0
        have hj : j < eight.length := by
          show j < 8
          omega
        have g : (eight.map V.int)[j]? = some (.int eight[j]) := by
          rw [List.getElem?_map, List.getElem?_eq_getElem hj]
          rfl
        have vb := eight_lt _ (List.getElem_mem hj)
        refine ⟨l, eight.map V.int, j, _, rfl, rfl, SqL.of (b3 _ _ (bag2.ne hl) upd_same), atI_nat g, _, _, rfl, rfl, .inl ⟨by omega, by omega⟩, ?_⟩
        exact q _ H3 (sg_lt d0 d1 vb) bag3 ((b12.same (same_new hl)).trans b3)
      · refine ⟨_, rfl, rfl, _, rfl, ite2 (fun _ => ?_) (fun _ => ?_)⟩
        · exact ⟨_, rfl, _, rfl, 10, 6, rfl, rfl, ⟨by decide, by decide, by decide⟩, a, _, rfl, bag2, (by decide), (by decide), fun r H3 r0 r1 bag3 b3 => ⟨_, r, rfl, rfl, .inl ⟨by omega, by omega⟩, q _ H3 (sg_lt d0 d1 (ten_lt r0 r1 (by decide))) bag3 (b12.trans b3)⟩⟩
        · refine ⟨_, rfl, _, rfl, _, rfl, a, 10, rfl, bag2, (by decide), (by decide), fun r H3 r0 r1 bag3 b3 => ?_⟩
          obtain ⟨j, rfl⟩ := Int.eq_ofNat_of_zero_le r0
          refine ⟨1, _, rfl, rfl, a, 1 + j, congrArg (fun z => [V.ref a, V.int z]) (by omega), bag3, by omega, fun v H4 v0 v1 bag4 b4 => ⟨_, v, rfl, rfl, .inl ⟨by omega, by omega⟩, ?_⟩⟩
          exact q _ H4 (sg_lt d0 d1 (ten_lt v0 v1 (pow_le10 (by omega)))) bag4 ((b12.trans b3).trans b4)
theorem ok_q_lowest (T : Txt K mg) : FnOk P w K mg base CX0 1 T.a_q_lowest T.fd_q_lowest ["_law_above", "_law_under"] spLowest := by
  refine T.F_q_lowest.ok sc_q_lowest (fun vs H Q E h => ?_) (fun cdv A outer s H vs Q E hr h => ?_)
  · obtain ⟨t, b, rfl, _⟩ := h
    rfl
  · obtain ⟨t, b, rfl, hb, q⟩ := h
    refine ⟨_, (pss_cons (ps_par (i := 2) (j := 3) (by rfl) sc_q_lowest.nd rfl rfl (by decide) rfl rfl (pa_cons (pe_callB call_abs (by rfl) T.z_abs (by decide +kernel) (pa_cons (pv 0) pa_nil)) (pa_cons (pv 1) pa_nil)) (by rfl))
      (pss_cons (ps_while PassesOwn.never (pt_cmpR op_gt (pv 3) pe_int (nomark _)) (pss_one (ps_par (i := 2) (j := 3) (by rfl) sc_q_lowest.nd rfl rfl (by decide) rfl rfl (pa_cons (pv 3) (pa_cons (pe_op op_mod (pe_callTy call_int1 (by rfl) T.z_int (by decide +kernel) (pa_cons (pv 2) pa_nil)) (pv 3)) pa_nil)) (by rfl))))
      (pss_one (ps_ret (pe_cmpR op_eq (pv 2) pe_int (nomark _)))))), ?_⟩
    refine ⟨_, rfl, t, rfl, _, rfl, _, _, rfl, ?_⟩
    have abs0 : (if t < 0 then -t else t) = ((t.natAbs : Nat) : Int) := by split <;> omega
    rw [abs0]
    refine while_by (fun σ H' => ∃ g s : Nat, σ = [some (.int t), some (.int b), some (.int g), some (.int s)] ∧ Nat.gcd g s = Nat.gcd t.natAbs b.natAbs ∧ H' = H)
      (fun (σ : L2.St) (_ : Hp) => match σ[3]? with | some (some (V.int s)) => s.toNat | _ => 0) ⟨t.natAbs, b.natAbs, ?_, rfl, rfl⟩ ?_ ?_
    · have e : b = ((b.natAbs : Nat) : Int) := by omega
      show [some (V.int t), some (V.int b), some (V.int ((t.natAbs : Nat) : Int)), some (V.int b)] = [some (V.int t), some (V.int b), some (V.int ((t.natAbs : Nat) : Int)), some (V.int ((b.natAbs : Nat) : Int))]
      rw [← e]
    · rintro σ H' ⟨g, s', rfl, hg, rfl⟩
      refine ⟨_, rfl, s', 0, rfl, rfl, _, rfl, ite2 (fun c => ?_) (fun c => ?_)⟩
      · have c2 := of_decide_eq_true c
        refine ⟨_, rfl, _, rfl, .inl ⟨g, rfl, _, rfl, g, s', rfl, rfl, (by show (0 : Int) < s'; omega), _, _, rfl, ⟨s', g % s', ?_, ?_, rfl⟩, ?_⟩⟩
        · have e : ((g : Int) % (s' : Int)) = ((g % s' : Nat) : Int) := by omega
          show [some (V.int t), some (V.int b), some (V.int s'), some (V.int ((g : Int) % (s' : Int)))] = _
          rw [e]
        · rw [← hg, Nat.gcd_comm g s', Nat.gcd_rec s' g, Nat.gcd_comm]
        · show ((g : Int) % (s' : Int)).toNat < (s' : Int).toNat
          have h1 : (g : Int) % (s' : Int) < s' := Int.emod_lt_of_pos _ (by omega)
          have h2 : 0 ≤ (g : Int) % (s' : Int) := Int.emod_nonneg _ (by omega)
          omega
      · have c2 : ¬ ((s' : Int) > 0) := fun z => c (decide_eq_true z)
        have s0 : s' = 0 := by omega
        subst s0
        refine ⟨_, rfl, rfl, ?_⟩
        rw [Nat.gcd_zero_right] at hg
        have e : decide (V.int (g : Int) = V.int 1) = (Nat.gcd t.natAbs b.natAbs == 1) := by
          rw [← hg, dec_int]
          refine Bool.eq_iff_iff.mpr ?_
          rw [beq_iff_eq, beq_iff_eq]
          omega
        rw [e]
        exact q
    · rintro σ H' Q1 Q2 hq ⟨v, e, i, j, e1, e2, k, e3, z⟩
      exact ⟨v, e, i, j, e1, e2, k, e3, hq _ _ z⟩
end
end K01

set_option Elab.async false
set_option linter.all false
set_option maxRecDepth 100000
set_option maxHeartbeats 4000000
namespace K01
open PySem PySem.Spec PyProof.Rows L2 GX OX TX TL
/-! ### a ratio as it stands -/
def gI (t b : Int) : Int := ((Nat.gcd t.natAbs b.natAbs : Nat) : Int)
def Rat (C : Addr) (H : Hp) (a : Addr) (t b f : Int) : Prop := ∃ (dx : Addr) (fs : List (Str × V)), H a = some (.ins C dx fs) ∧ fs.lookup ("top" : Str) = some (.int t) ∧ fs.lookup ("bottom" : Str) = some (.int b) ∧ fs.lookup ("floor" : Str) = some (.int f)
theorem Rat.keep {C : Addr} {H H' : Hp} {a : Addr} {t b f : Int} (r : Rat C H a t b f) (s : Same H H') : Rat C H' a t b f := by
  obtain ⟨dx, fs, h, r⟩ := r
  exact ⟨dx, fs, s _ _ h, r⟩
theorem f_top (x y z : V) : (putF "floor" z (putF "bottom" y (putF "top" x []))).lookup ("top" : Str) = some x := by
  rw [lookup_putF, if_neg (by decide), lookup_putF, if_neg (by decide), lookup_putF, if_pos rfl]
theorem f_bottom (x y z : V) : (putF "floor" z (putF "bottom" y (putF "top" x []))).lookup ("bottom" : Str) = some y := by
  rw [lookup_putF, if_neg (by decide), lookup_putF, if_pos rfl]
theorem f_floor (x y z : V) : (putF "floor" z (putF "bottom" y (putF "top" x []))).lookup ("floor" : Str) = some z := by
  rw [lookup_putF, if_pos rfl]
theorem f_few (x y : V) : (putF "bottom" y (putF "top" x [])).length < 1000 := by
  simp only [putF]
  split <;> simp
theorem f_few1 (x : V) : (putF "top" x []).length < 1000 := by
  simp [putF]
theorem big : (10 : Nat) ^ 80 < 2 ^ 266 := by decide +kernel
theorem wd {j : Int} (h : 0 < j) (hb : j.natAbs < 10 ^ 80) (i : Int) : CDivW i j := wide_div h (Nat.lt_trans hb big) (by decide) (by decide)
theorem lg {j : Int} (hb : j.natAbs < 10 ^ 80) : j.natAbs.log2 < 1920 := Nat.lt_of_lt_of_le (PySem.Flt.log2_lt_of (by decide) (Nat.lt_trans hb big)) (by decide)
theorem gI_pos {t b : Int} (h : 0 < b) : 0 < gI t b := by
  have : 0 < Nat.gcd t.natAbs b.natAbs := Nat.gcd_pos_of_pos_right _ (by omega)
  show (0 : Int) < ((Nat.gcd t.natAbs b.natAbs : Nat) : Int)
  omega
theorem gI_lt {t b : Int} (h : 0 < b) (hb : b.natAbs < 10 ^ 80) : (gI t b).natAbs < 10 ^ 80 := by
  have := Nat.gcd_le_right t.natAbs (show 0 < b.natAbs by omega)
  show (((Nat.gcd t.natAbs b.natAbs : Nat) : Int)).natAbs < 10 ^ 80
  omega
/-- the text of a fraction -/
def txt (t b : Int) : Str := if b = 1 then S t else S t ++ "/" ++ S b
def spInit (C : Addr) : Sp := fun vs H Q _ => ∃ (x : Addr) (t b : Int), vs = [.ref x, .int t, .int b] ∧ 0 < b ∧ b.natAbs < 10 ^ 80 ∧ (∃ dx, H x = some (.ins C dx [])) ∧
  ∀ H', But x H H' → Rat C H' x (t / gI t b) (b / gI t b) (t / b) → Q .non H'
def spStr (C : Addr) : Sp := fun vs H Q _ => ∃ (a : Addr) (t b f : Int), vs = [.ref a] ∧ Rat C H a t b f ∧ t.natAbs < 10 ^ 80 ∧ b.natAbs < 10 ^ 80 ∧ Q (.str (txt t b)) H
def rtxt (t b : Int) : Str := "Ratio(" ++ S t ++ ", " ++ S b ++ ")"
def spRepr (C : Addr) : Sp := fun vs H Q _ => ∃ (a : Addr) (t b f : Int), vs = [.ref a] ∧ Rat C H a t b f ∧ t.natAbs < 10 ^ 80 ∧ b.natAbs < 10 ^ 80 ∧ Q (.str (rtxt t b)) H
def spWhole : Sp := fun vs H Q _ => ∃ n : Nat, vs = [.str (S n)] ∧ Q (.bl true) H
structure Good (t b : Int) : Prop where
  b0 : 0 < b
  t1 : t.natAbs < 10 ^ 80
  b1 : b.natAbs < 10 ^ 80
  co : Nat.gcd t.natAbs b.natAbs = 1
def spIsR : Sp := fun vs H Q _ => ∃ t b : Int, vs = [.str (txt t b)] ∧ Good t b ∧ ∀ H', Same H H' → Q (.bl true) H'
theorem sz {n : Nat} (h : n ≤ 1000) : n ≤ sizeLine := Nat.le_of_lt (small1000 h)
theorem S_len {t : Int} (h : t.natAbs < 10 ^ 80) : (S t).length ≤ 81 := len_S (by decide) h
theorem txt_len {t b : Int} (g : Good t b) : (txt t b).length ≤ 163 := by
  have h1 := S_len g.t1
  have h2 := S_len g.b1
  unfold txt
  split
  · omega
  · rw [len_app, len_app]
    have : ("/" : Str).length = 1 := by decide
    omega
section
variable {P : Program} {w : World} {K : PySem.W.Frag} {mg : Str → Option Value} {base : Heap}
theorem ok_Ratio___init__ (T : Txt K mg) : FnOk P w K mg base CX0 2 T.a_Ratio___init__ T.fd_Ratio___init__ ["self", "top", "bottom"] (spInit T.C) := by
  refine T.F_Ratio___init__.ok sc_Ratio___init__ (fun vs H Q E h => ?_) (fun cdv A outer s H vs Q E hr h => ?_)
  · obtain ⟨x, t, b, rfl, _⟩ := h
    rfl
  · obtain ⟨x, t, b, rfl, b0, b1, ⟨dx, hx⟩, q⟩ := h
    refine ⟨_, PSs.nox (pss_cons (ps_if (pt_not (pt_val (pe_call (ok_is_integer T) (hr.mono (by decide)) (by rfl) T.g_is_integer T.F_is_integer.kp (b_is_integer T) .nil pass0 (pa_cons (pv 1) pa_nil)))) (pss_one ps_never) pss_nil)
      (pss_cons (ps_if (PW.pt (pw_or (pt_not (pt_val (pe_call (ok_is_integer T) (hr.mono (by decide)) (by rfl) T.g_is_integer T.F_is_integer.kp (b_is_integer T) .nil pass0 (pa_cons (pv 2) pa_nil)))) (pw_or1 (pt_cmpR op_lt (pv 2) pe_int (nomark _))))) (pss_one ps_never) pss_nil)
      (pss_cons (ps_set (i := 3) sc_Ratio___init__.nd rfl (Or.inl rfl) (pe_callBfun cr_gcd (by rfl) T.g_gcd (pa_cons (pv 1) (pa_cons (pv 2) pa_nil))))
      (pss_cons (ps_fld (pv 0) (pe_op op_fdivW (pv 1) (pv 3)) rfl)
      (pss_cons (ps_fld (pv 0) (pe_op op_fdivW (pv 2) (pv 3)) rfl)
      (pss_one (ps_fld (pv 0) (pe_op op_fdivW (pv 1) (pv 2)) rfl))))))), ?_⟩
    refine ⟨_, rfl, .int t, rfl, pl_int t, true, rfl, iteF ?_⟩
    refine ⟨_, rfl, .int b, rfl, pl_int b, true, rfl, iteF ?_⟩
    refine ⟨_, rfl, b, 1, rfl, rfl, false, congrArg V.bl (decide_eq_false (by omega)), iteF ?_⟩
    refine ⟨_, rfl, _, rfl, t, b, rfl, ?_⟩
    have g0 := gI_pos (t := t) b0
    have g1 := gI_lt (t := t) b0 b1
    refine ⟨_, rfl, _, rfl, t, gI t b, rfl, rfl, wd g0 g1 t, _, rfl, x, T.C, dx, [], rfl, hx, T.cl, T.nT, (by decide), ?_⟩
    refine ⟨_, rfl, _, rfl, b, gI t b, rfl, rfl, wd g0 g1 b, _, rfl, x, T.C, dx, _, rfl, upd_same, T.cl, T.nB, f_few1 _, ?_⟩
    refine ⟨_, rfl, _, rfl, t, b, rfl, rfl, wd b0 b1 t, _, rfl, x, T.C, dx, _, rfl, upd_same, T.cl, T.nF, f_few _ _, ?_⟩
    exact q _ (((But.refl x H).set).set).set ⟨dx, _, upd_same, f_top _ _ _, f_bottom _ _ _, f_floor _ _ _⟩
theorem ok_Ratio___str__ (T : Txt K mg) : FnOk P w K mg base CX0 1 T.a_Ratio___str__ T.fd_Ratio___str__ ["self"] (spStr T.C) := by
  refine T.F_Ratio___str__.ok sc_Ratio___str__ (fun vs H Q E h => ?_) (fun cdv A outer s H vs Q E hr h => ?_)
  · obtain ⟨a, t, b, f, rfl, _⟩ := h
    rfl
  · obtain ⟨a, t, b, f, rfl, ⟨dx, fs, ha, ht, hb, hf⟩, t1, b1, q⟩ := h
    refine ⟨_, (pss_cons (ps_if (pt_cmpR op_eq (pe_fld (pv 0) rfl) pe_int (nomark _)) (pss_one (ps_ret (pe_callTy call_str_int (by rfl) T.z_str (by decide +kernel) (pa_cons (pe_fld (pv 0) rfl) pa_nil)))) pss_nil)
      (pss_one (ps_ret (pe_joined (PJ.cons (pe_fmt (pe_fld (pv 0) rfl)) (PJ.cons pe_str (PJ.cons (pe_fmt (pe_fld (pv 0) rfl)) PJ.nil))))))), ?_⟩
    have l1 := S_len t1
    have l2 := S_len b1
    have l3 : ("/" : Str).length = 1 := by decide
    refine ⟨_, rfl, a, T.C, dx, fs, _, rfl, ha, T.cl, T.nB, hb, rfl, _, rfl, ite2 (fun c => ?_) (fun c => ?_)⟩
    · have e : b = 1 := V.int.inj (of_decide_eq_true c)
      have e2 : txt t b = S t := if_pos e
      rw [e2] at q
      exact ⟨_, rfl, a, T.C, dx, fs, _, rfl, ha, T.cl, T.nT, ht, t, rfl, lg t1, q⟩
    · have e2 : txt t b = S t ++ "/" ++ S b := if_neg fun e => c (decide_eq_true (by rw [e]))
      rw [e2] at q
      refine ⟨_, rfl, a, T.C, dx, fs, _, rfl, ha, T.cl, T.nT, ht, .inr ⟨t, rfl, lg t1, S t, rfl, sz (by rw [empty_app]; omega), _, rfl, sz (by rw [empty_app, len_app]; omega), ?_⟩⟩
      refine ⟨_, rfl, a, T.C, dx, fs, _, rfl, ha, T.cl, T.nB, hb, .inr ⟨b, rfl, lg b1, S b, rfl, sz (by rw [empty_app, len_app, len_app]; omega), ?_⟩⟩
      rw [empty_app]
      exact q
theorem ok_Ratio___repr__ (T : Txt K mg) : FnOk P w K mg base CX0 1 T.a_Ratio___repr__ T.fd_Ratio___repr__ ["self"] (spRepr T.C) := by
  refine T.F_Ratio___repr__.ok sc_Ratio___repr__ (fun vs H Q E h => ?_) (fun cdv A outer s H vs Q E hr h => ?_)
  · obtain ⟨a, t, b, f, rfl, _⟩ := h
    rfl
  · obtain ⟨a, t, b, f, rfl, ⟨dx, fs, ha, ht, hb, hf⟩, t1, b1, q⟩ := h
    refine ⟨_, (pss_one (ps_ret (pe_joined (PJ.cons pe_str (PJ.cons (pe_fmt (pe_fld (pv 0) rfl)) (PJ.cons pe_str (PJ.cons (pe_fmt (pe_fld (pv 0) rfl)) (PJ.cons pe_str PJ.nil)))))))), ?_⟩
    have l1 := S_len t1
    have l2 := S_len b1
    have l3 : ("Ratio(" : Str).length = 6 := by decide
    have l4 : (", " : Str).length = 2 := by decide
    have l5 : (")" : Str).length = 1 := by decide
    refine ⟨_, rfl, sz (by rw [empty_app]; omega), ?_⟩
    refine ⟨_, rfl, a, T.C, dx, fs, _, rfl, ha, T.cl, T.nT, ht, .inr ⟨t, rfl, lg t1, S t, rfl, sz (by rw [empty_app, len_app]; omega), _, rfl, sz (by rw [empty_app, len_app, len_app]; omega), ?_⟩⟩
    refine ⟨_, rfl, a, T.C, dx, fs, _, rfl, ha, T.cl, T.nB, hb, .inr ⟨b, rfl, lg b1, S b, rfl, sz (by rw [empty_app, len_app, len_app, len_app]; omega), _, rfl, sz (by rw [empty_app, len_app, len_app, len_app, len_app]; omega), ?_⟩⟩
    rw [empty_app]
    exact q
theorem ok_is_whole_text (T : Txt K mg) : FnOk P w K mg base CX0 1 T.a_is_whole_text T.fd_is_whole_text ["text"] spWhole := by
  refine T.F_is_whole_text.ok sc_is_whole_text (fun vs H Q E h => ?_) (fun cdv A outer s H vs Q E hr h => ?_)
  · obtain ⟨n, rfl, _⟩ := h
    rfl
  · obtain ⟨n, rfl, q⟩ := h
    refine ⟨_, (pss_cons (ps_if (pt_not (PW.pt (pw_and (pt_val (pe_m0 PySem.F.slot_str_isascii PySem.F.type_str_isascii mt_isascii (pv 0))) (pw_and1 (pt_val (pe_m0 PySem.F.slot_str_isdigit PySem.F.type_str_isdigit mt_isdigit (pv 0))))))) (pss_one (ps_ret pe_bl)) pss_nil)
      (pss_one (ps_ret (pe_or (pe_cmpR op_eq (pv 0) pe_str (nomark _)) (pe_one (pe_not (pe_m1 PySem.F.slot_str_startswith PySem.F.type_str_startswith mt_startswith (pv 0) pe_str))))))), ?_⟩
    refine ⟨_, rfl, ⟨_, rfl⟩, _, rfl, rfl, trivial, true, congrArg V.bl (ascii_S n), iteT ?_⟩
    refine ⟨_, rfl, ⟨_, rfl⟩, _, rfl, rfl, trivial, true, congrArg V.bl (digit_S n), iteF ?_⟩
    refine ⟨_, rfl, rfl, _, rfl, ite2 (fun _ => q) (fun c => ?_)⟩
    have n0 : 0 < n := by
      rcases Nat.eq_zero_or_pos n with z | z
      · subst z
        exact absurd (decide_eq_true (congrArg V.str zero_S)) c
      · exact z
    exact ⟨_, rfl, ⟨_, rfl⟩, _, _, rfl, rfl, false, congrArg V.bl (starts_S n0), q⟩
end
end K01

set_option Elab.async false
set_option linter.all false
set_option maxRecDepth 100000
set_option maxHeartbeats 4000000
namespace K01
open PySem PySem.Spec PyProof.Rows L2 GX OX TX TL
def spRead (C : Addr) : Sp := fun vs H Q _ => ∃ t b : Int, vs = [.ref C, .str (txt t b)] ∧ Good t b ∧ ∀ x H', H x = none → Same H H' → Rat C H' x t b (t / b) → Q (.ref x) H'
theorem gT (n : Nat) : (S n).length ≤ 4000 → True := fun _ => trivial
theorem rd_int {n : Int} (h : n.natAbs < 10 ^ 80) : intText? (S n) = some n := int_S (by decide) (by decide) h
theorem good_div {t b : Int} (g : Good t b) : gI t b = 1 := by
  unfold gI
  rw [g.co]
  rfl
theorem nat_S {b : Int} (h : 0 < b) : S ((b.natAbs : Nat) : Int) = S b := by
  have e : ((b.natAbs : Nat) : Int) = b := by omega
  rw [e]
section
variable {P : Program} {w : World} {K : PySem.W.Frag} {mg : Str → Option Value} {base : Heap}
/-! ### how __init__ takes its arguments -/
theorem bI2 (T : Txt K mg) : Binds K T.fd_Ratio___init__ ["self", "top", "bottom"] [] := by
  obtain ⟨ds, r, b⟩ := T.F_Ratio___init__.binds1 (ps := ["self", "top", "bottom"]) 3 1 (by simp) rfl (fun T kV doc pm an cdv ct us its h1 h2 => by
    match us, its, h1, h2 with
    | [_, _, _], [_], _, _ => exact ⟨_, rfl, rfl⟩)
  cases r
  exact b
theorem bI1 (T : Txt K mg) : ∃ ds, Vals [.int 1] ds ∧ Binds K T.fd_Ratio___init__ ["self", "top", "bottom"] ds := by
  obtain ⟨ds, r, b⟩ := T.F_Ratio___init__.binds1 (ps := ["self", "top", "bottom"]) 2 0 (by simp) rfl (fun T kV doc pm an cdv ct us its h1 h2 => by
    match us, its, h1, h2 with
    | [_, _], [_], _, _ => exact ⟨_, rfl, rfl⟩)
  exact ⟨ds, r, b⟩
def gK {α : Type} : List α → List α → List α
  | [x], [b, t] => [x, t, b]
  | _, _ => []
theorem kbI (T : Txt K mg) : KBn K T.fd_Ratio___init__ ["self", "top", "bottom"] 1 ["bottom", "top"] gK gK := by
  refine ⟨fun s us ws X l1 l2 => ?_, fun {vs us zs ws} r1 r2 => ?_⟩
  · obtain ⟨oc, od, dV, kV, doc, pm, an, cdv, ct, osl, e, lk, hcd, hD, hK⟩ := T.F_Ratio___init__.ex
    rw [e]
    rcases hD with ⟨e, _⟩ | ⟨_, T, o, its, m, rfl, lT, oT, rT⟩
    · cases e
    · match us, ws, its, l1, l2, rT with
      | [x], [b, t], [d], _, _, _ =>
        have h1 : ∃ k, bindArgs (PySem.W.fnOf "__init__" "Ratio.__init__" (defArgs s_Ratio___init__) (defBody s_Ratio___init__) (defScope s_Ratio___init__) (.ref T) kV doc pm an cdv ct) ⟨[x], (["bottom", "top"] : List Str).zip [b, t]⟩ = seqItems? (.ref T) >>= k ∧
            k (some ([d] : List Value).toArray) = pure ((["self", "top", "bottom"] : List Str).zip [x, t, b]) := ⟨_, rfl, rfl⟩
        obtain ⟨k, e1, e2⟩ := h1
        refine BindsTo.of_looks fun M => ?_
        rw [e1]
        exact looks_items X lT oT (.of_pure e2)
  · cases r1 with
    | nil => exact .nil
    | cons h1 r1 =>
      cases r1 with
      | cons _ _ => exact .nil
      | nil =>
        cases r2 with
        | nil => exact .nil
        | cons h2 r2 =>
          cases r2 with
          | nil => exact .nil
          | cons h3 r2 =>
            cases r2 with
            | nil => exact .cons h1 (.cons h3 (.cons h2 .nil))
            | cons _ _ => exact .nil
def spIT : Sp := fun vs H Q _ => ∃ t : Int, vs = [.str (S t)] ∧ (S t).length ≤ 1000 ∧ Q (.bl true) H
theorem ok_is_integer_text (T : Txt K mg) : FnOk P w K mg base CX0 2 T.a_is_integer_text T.fd_is_integer_text ["text"] spIT := by
  refine T.F_is_integer_text.ok sc_is_integer_text (fun vs H Q E h => ?_) (fun cdv A outer s H vs Q E hr h => ?_)
  · obtain ⟨t, rfl, _⟩ := h
    rfl
  · obtain ⟨t, rfl, l, q⟩ := h
    refine ⟨_, (pss_one (ps_ret (pe_and (pe_cmpR op_ne (pv 0) pe_str (nomark _)) (pe_one (pe_call (ok_is_whole_text T) (hr.mono (by decide)) (by rfl) T.g_is_whole_text T.F_is_whole_text.kp (b_is_whole_text T) .nil pass0 (pa_cons (pe_m1 PySem.F.slot_str_removeprefix PySem.F.type_str_removeprefix mt_removeprefix (pv 0) pe_str) pa_nil)))))), ?_⟩
    refine ⟨_, rfl, rfl, true, congrArg V.bl (by rw [decide_eq_false fun z => ne_minus0 t (V.str.inj z)]; rfl), iteT ?_⟩
    exact ⟨_, rfl, ⟨_, rfl⟩, _, "-", rfl, rfl, sz l, t.natAbs, (by rw [strip_S]; rfl), q⟩
theorem ok__is_ratio_text (T : Txt K mg) : FnOk P w K mg base CX0 3 T.a__is_ratio_text T.fd__is_ratio_text ["text"] spIsR := by
  refine T.F__is_ratio_text.ok sc__is_ratio_text (fun vs H Q E h => ?_) (fun cdv A outer s H vs Q E hr h => ?_)
  · obtain ⟨t, b, rfl, _⟩ := h
    rfl
  · obtain ⟨t, b, rfl, g, q⟩ := h
    refine ⟨_, (pss_cons (ps_asg (pe_partition (pv 0) pe_str) (pg_tup (by rfl) (pgs_cons (pg_name (i := 1) sc__is_ratio_text.nd rfl (Or.inl rfl)) (pgs_cons (pg_name (i := 2) sc__is_ratio_text.nd rfl (Or.inl rfl)) (pgs_cons (pg_name (i := 3) sc__is_ratio_text.nd rfl (Or.inl rfl)) pgs_nil)))))
      (pss_cons (ps_if (pt_not (pt_val (pe_call (ok_is_integer_text T) (hr.mono (by decide)) (by rfl) T.g_is_integer_text T.F_is_integer_text.kp (b_is_integer_text T) .nil pass0 (pa_cons (pv 1) pa_nil)))) (pss_one (ps_ret pe_bl)) pss_nil)
      (pss_cons (ps_if (pt_not (pt_truth (pv 2) (by intro _; rfl))) (pss_one (ps_ret pe_bl)) pss_nil)
      (pss_one (ps_ret (pe_and (pe_call (ok_is_whole_text T) (hr.mono (by decide)) (by rfl) T.g_is_whole_text T.F_is_whole_text.kp (b_is_whole_text T) .nil pass0 (pa_cons (pv 3) pa_nil)) (pe_and (pe_cmpR op_gt (pe_callTy call_int_str (by rfl) T.z_int (by decide +kernel) (pa_cons (pv 3) pa_nil)) pe_int (nomark _)) (pe_one (pe_cmpR op_eq (pe_callBfun cr_gcd (by rfl) T.g_gcd (pa_cons (pe_callTy call_int_str (by rfl) T.z_int (by decide +kernel) (pa_cons (pv 1) pa_nil)) (pa_cons (pe_callTy call_int_str (by rfl) T.z_int (by decide +kernel) (pa_cons (pv 3) pa_nil)) pa_nil))) pe_int (nomark _)))))))))), ?_⟩
    have len := txt_len g
    have l1 := S_len g.t1
    have l2 := S_len g.b1
    refine ⟨_, rfl, ⟨_, rfl⟩, txt t b, "/", rfl, rfl, by decide, sz (by omega), fun p hp => ?_⟩
    refine ⟨p, _, rfl, .inl (.inl upd_same), rfl, _, _, rfl, _, _, rfl, _, _, rfl, rfl, ?_⟩
    by_cases hb : b = 1
    · have e : txt t b = S t := if_pos hb
      rw [e]
      have e1 := congrArg (fun z => z.1) (part_one t)
      have e2 := congrArg (fun z => z.2.1) (part_one t)
      have e3 : (Txt.partition (S t) "/").1 = S t := e1
      have e4 : (Txt.partition (S t) "/").2.1 = Str.empty := e2
      refine ⟨_, rfl, t, congrArg (fun z => [V.str z]) e3, (by omega), true, rfl, iteF ?_⟩
      refine ⟨_, rfl, false, ⟨?_, ?_⟩, iteT ?_⟩
      · rw [e4]
        exact Nat.zero_le _
      · rw [e4]
        rfl
      · exact q _ (same_new hp)
    · have e : txt t b = S t ++ "/" ++ S b := if_neg hb
      rw [e]
      have e3 : (Txt.partition (S t ++ "/" ++ S b) "/").1 = S t := congrArg (fun z => z.1) (part_two t b)
      have e4 : (Txt.partition (S t ++ "/" ++ S b) "/").2.1 = "/" := congrArg (fun z => z.2.1) (part_two t b)
      have e5 : (Txt.partition (S t ++ "/" ++ S b) "/").2.2 = S b := congrArg (fun z => z.2.2) (part_two t b)
      have b0 := g.b0
      refine ⟨_, rfl, t, congrArg (fun z => [V.str z]) e3, (by omega), true, rfl, iteF ?_⟩
      refine ⟨_, rfl, true, ⟨?_, ?_⟩, iteF ?_⟩
      · rw [e4]
        exact sz (by decide)
      · rw [e4]
        decide
      · refine ⟨_, rfl, b.natAbs, (by rw [e5, nat_S b0]; rfl), true, rfl, iteT ?_⟩
        refine ⟨_, rfl, _, b, rfl, (by rw [e5]; exact rd_int g.b1), (by rw [e5]; omega), b, 1, rfl, rfl, true, congrArg V.bl (decide_eq_true (by omega)), iteT ?_⟩
        refine ⟨_, rfl, _, t, rfl, (by rw [e3]; exact rd_int g.t1), (by rw [e3]; omega), _, rfl, _, b, rfl, (by rw [e5]; exact rd_int g.b1), (by rw [e5]; omega), _, _, rfl, rfl, ?_⟩
        have e6 : decide (V.int ((Nat.gcd t.natAbs b.natAbs : Nat) : Int) = V.int 1) = true := by
          rw [g.co]
          rfl
        rw [e6]
        exact q _ (same_new hp)
theorem ok_read (T : Txt K mg) : FnOk P w K mg base CX0 4 T.a_Ratio_read T.fd_Ratio_read ["cls", "text"] (spRead T.C) := by
  refine T.F_Ratio_read.ok sc_Ratio_read (fun vs H Q E h => ?_) (fun cdv A outer s H vs Q E hr h => ?_)
  · obtain ⟨t, b, rfl, _⟩ := h
    rfl
  · obtain ⟨t, b, rfl, g, q⟩ := h
    refine ⟨_, (pss_cons (ps_if (PW.pt (pw_or (pt_not (pt_val (pe_callB call_isi (by rfl) T.z_isinstance (by decide +kernel) (pa_cons (pv 1) (pa_cons (pe_bltn (v := .ty "str") (by rfl) T.z_str (by decide +kernel) rfl) pa_nil))))) (pw_or1 (pt_not (pt_val (pe_call (ok__is_ratio_text T) (hr.mono (by decide)) (by rfl) T.g__is_ratio_text T.F__is_ratio_text.kp (b__is_ratio_text T) .nil pass0 (pa_cons (pv 1) pa_nil))))))) (pss_one ps_never) pss_nil)
      (pss_cons (ps_asg (pe_partition (pv 1) pe_str) (pg_tup (by rfl) (pgs_cons (pg_name (i := 2) sc_Ratio_read.nd rfl (Or.inl rfl)) (pgs_cons (pg_name (i := 3) sc_Ratio_read.nd rfl (Or.inl rfl)) (pgs_cons (pg_name (i := 4) sc_Ratio_read.nd rfl (Or.inl rfl)) pgs_nil)))))
      (pss_one (ps_ret (pe_makeL (i := 0) T.mkR (ok_Ratio___init__ T) (hr.mono (by decide)) rfl (Or.inl rfl) (bI2 T) .nil pass0  (pa_cons (pe_callTy call_int_str (by rfl) T.z_int (by decide +kernel) (pa_cons (pv 2) pa_nil)) (pa_cons (pe_ifExp (pt_truth (pv 4) (by intro _; rfl)) (pe_callTy call_int_str (by rfl) T.z_int (by decide +kernel) (pa_cons (pv 4) pa_nil)) pe_int) pa_nil))))))), ?_⟩
    have len := txt_len g
    have l1 := S_len g.t1
    have l2 := S_len g.b1
    have b0 := g.b0
    have e1 := good_div g
    refine ⟨_, rfl, .str (txt t b), .ty "str", .type "str", .type "str", true, rfl, .ty "str", .base (.str _), kit_ty (by decide +kernel), true, rfl, iteF ?_⟩
    refine ⟨_, rfl, t, b, rfl, g, fun H1 s1 => ⟨true, rfl, iteF ?_⟩⟩
    refine ⟨_, rfl, ⟨_, rfl⟩, txt t b, "/", rfl, rfl, by decide, sz (by omega), fun p hp => ?_⟩
    refine ⟨p, _, rfl, .inl (.inl upd_same), rfl, _, _, rfl, _, _, rfl, _, _, rfl, rfl, ?_⟩
    have s2 := s1.trans (same_new hp (o := .tup [.str (Txt.partition (txt t b) "/").1, .str (Txt.partition (txt t b) "/").2.1, .str (Txt.partition (txt t b) "/").2.2]))
    have fin : ∀ x dx (Hx : Hp), Same H Hx → Hx x = none → Hx dx = none → dx ≠ x → spInit T.C [.ref x, .int t, .int b] (upd (upd Hx dx (.own x)) x (.ins T.C dx [])) (fun v H2 => v = .non ∧ Q (.ref x) H2) E0 := by
      intro x dx Hx sx nx nd ne
      refine ⟨x, t, b, rfl, b0, g.b1, ⟨dx, upd_same⟩, fun H' but r => ⟨rfl, q x H' (sx.free nx) (fun c o h => ?_) ?_⟩⟩
      · have nc : c ≠ x := ne_of_none (sx _ _ h) nx
        refine but _ _ nc ?_
        rw [upd_ne nc, upd_ne (ne_of_none (sx _ _ h) nd)]
        exact sx _ _ h
      · rw [e1, Int.ediv_one, Int.ediv_one] at r
        exact r
    by_cases hb : b = 1
    · subst hb
      have e : txt t 1 = S t := if_pos rfl
      have e3 : (Txt.partition (txt t 1) "/").1 = S t := by rw [e]; exact congrArg (fun z => z.1) (part_one t)
      have e5 : (Txt.partition (txt t 1) "/").2.2 = Str.empty := by rw [e]; exact congrArg (fun z => z.2.2) (part_one t)
      refine ⟨rfl, _, rfl, _, t, rfl, (by rw [e3]; exact rd_int g.t1), (by rw [e3]; omega), ?_⟩
      refine ⟨_, rfl, false, ⟨?_, ?_⟩, iteF ?_⟩
      · rw [e5]
        exact Nat.zero_le _
      · rw [e5]
        rfl
      · intro x dx nx nd ne
        exact fin x dx _ s2 nx nd ne
    · have e : txt t b = S t ++ "/" ++ S b := if_neg hb
      have e3 : (Txt.partition (txt t b) "/").1 = S t := by rw [e]; exact congrArg (fun z => z.1) (part_two t b)
      have e5 : (Txt.partition (txt t b) "/").2.2 = S b := by rw [e]; exact congrArg (fun z => z.2.2) (part_two t b)
      refine ⟨rfl, _, rfl, _, t, rfl, (by rw [e3]; exact rd_int g.t1), (by rw [e3]; omega), ?_⟩
      have p0 := S_pos b
      refine ⟨_, rfl, true, ⟨?_, ?_⟩, iteT ?_⟩
      · rw [e5]
        exact sz (by omega)
      · rw [e5]
        have : (((S b).length : Nat) : Int) ≠ 0 := by omega
        exact (bne_iff_ne.mpr this).symm
      · refine ⟨_, rfl, _, b, rfl, (by rw [e5]; exact rd_int g.b1), (by rw [e5]; omega), ?_⟩
        intro x dx nx nd ne
        exact fin x dx _ s2 nx nd ne
end
end K01

set_option Elab.async false
set_option linter.all false
set_option maxRecDepth 100000
set_option maxHeartbeats 8000000
namespace K01
open PySem PySem.Spec PyProof.Rows L2 GX OX TX TL
def dn (u : Int) : Int := 1 + (if u < 0 then -u else u)
theorem dn_pos (u : Int) : 0 < dn u := by
  unfold dn
  split <;> omega
theorem dn_lt {u : Int} (h : u.natAbs < 10 ^ 60) : (dn u).natAbs ≤ 10 ^ 60 := by
  unfold dn
  split <;> omega
def three : List Int := [1, 12, 10 ^ 6]
theorem three_lt : ∀ v ∈ three, 0 < v ∧ v ≤ 10 ^ 6 := by decide
theorem mk_same {C : Addr} {H H' : Hp} {x dx : Addr} (nx : H x = none) (nd : H dx = none) (b : But x (upd (upd H dx (.own x)) x (.ins C dx [])) H') : Same H H' := fun c o h => by
  have nc : c ≠ x := ne_of_none h nx
  refine b _ _ nc ?_
  rw [upd_ne nc, upd_ne (ne_of_none h nd)]
  exact h
theorem mul_lt {t F : Int} (ht : t.natAbs ≤ 10 ^ 60) (F0 : 0 < F) (F1 : F ≤ 10 ^ 6) : (t * F).natAbs < 10 ^ 80 := by
  rw [Int.natAbs_mul]
  have h1 : F.natAbs ≤ 10 ^ 6 := by omega
  have h2 : t.natAbs * F.natAbs ≤ 10 ^ 60 * 10 ^ 6 := Nat.mul_le_mul ht h1
  have h3 : 10 ^ 60 * 10 ^ 6 < 10 ^ 80 := by decide +kernel
  exact Nat.lt_of_le_of_lt h2 h3
theorem p2 {n : Int} (h : n.natAbs < 10 ^ 80) : n.natAbs < 2 ^ 266 := Nat.lt_trans h big
theorem p60 {n : Nat} (h : n ≤ 10 ^ 60) : n < 10 ^ 80 := Nat.lt_of_le_of_lt h (by decide +kernel)
theorem cw {i j : Int} (hi : i.natAbs < 10 ^ 80) (hj : j.natAbs < 10 ^ 80) : CMulW i j := wide_mul (p2 hi) (p2 hj) (by decide) (by decide) (by decide)
/-- what the quotient in lowest terms is -/
structure Low (t d T B : Int) : Prop where
  good : Good (T / gI T B) (B / gI T B)
  cross : (T / gI T B) * d = t * (B / gI T B)
  fl : T / B = t / d
theorem low_of {t d F : Int} (ht : t.natAbs < 10 ^ 60) (d0 : 0 < d) (d1 : d.natAbs ≤ 10 ^ 60) (F0 : 0 < F) (F1 : F ≤ 10 ^ 6) : Low t d (t * F) (d * F) := by
  have B0 : 0 < d * F := Int.mul_pos d0 F0
  have Tl := mul_lt (Nat.le_of_lt ht) F0 F1
  have Bl := mul_lt d1 F0 F1
  generalize hT : t * F = T at *
  generalize hB : d * F = B at *
  have g0 := gI_pos (t := T) B0
  have dT : gI T B ∣ T := by
    have h1 : ((Nat.gcd T.natAbs B.natAbs : Nat) : Int) ∣ ((T.natAbs : Nat) : Int) := Int.natCast_dvd_natCast.mpr (Nat.gcd_dvd_left _ _)
    exact Int.dvd_natAbs.mp h1
  have dB : gI T B ∣ B := by
    have h1 : ((Nat.gcd T.natAbs B.natAbs : Nat) : Int) ∣ ((B.natAbs : Nat) : Int) := Int.natCast_dvd_natCast.mpr (Nat.gcd_dvd_right _ _)
    exact Int.dvd_natAbs.mp h1
  have eT : gI T B * (T / gI T B) = T := Int.mul_ediv_cancel' dT
  have eB : gI T B * (B / gI T B) = B := Int.mul_ediv_cancel' dB
  have gn : (gI T B).natAbs = Nat.gcd T.natAbs B.natAbs := rfl
  have nT : (T / gI T B).natAbs = T.natAbs / Nat.gcd T.natAbs B.natAbs := by
    have := congrArg Int.natAbs eT
    rw [Int.natAbs_mul, gn] at this
    exact (Nat.div_eq_of_eq_mul_right (Nat.gcd_pos_of_pos_right _ (by omega)) this.symm).symm
  have nB : (B / gI T B).natAbs = B.natAbs / Nat.gcd T.natAbs B.natAbs := by
    have := congrArg Int.natAbs eB
    rw [Int.natAbs_mul, gn] at this
    exact (Nat.div_eq_of_eq_mul_right (Nat.gcd_pos_of_pos_right _ (by omega)) this.symm).symm
  refine ⟨⟨?_, ?_, ?_, ?_⟩, ?_, ?_⟩
  · exact Int.ediv_pos_of_pos_of_dvd B0 (Int.le_of_lt g0) dB
  · rw [nT]
    exact Nat.lt_of_le_of_lt (Nat.div_le_self _ _) Tl
  · rw [nB]
    exact Nat.lt_of_le_of_lt (Nat.div_le_self _ _) Bl
  · rw [nT, nB]
    exact Nat.coprime_div_gcd_div_gcd (Nat.gcd_pos_of_pos_right _ (by omega))
  · have h1 : gI T B * (T / gI T B * d) = gI T B * (t * (B / gI T B)) := by
      rw [← Int.mul_assoc, eT, Int.mul_left_comm, eB, ← hT, ← hB, Int.mul_assoc, Int.mul_comm F d]
    exact Int.eq_of_mul_eq_mul_left (by omega) h1
  · rw [← hT, ← hB]
    exact Int.mul_ediv_mul_of_pos_left t d F0
theorem one_gI (t : Int) : gI t 1 = 1 := by
  unfold gI
  rw [show (1 : Int).natAbs = 1 from rfl, Nat.gcd_one_right]
  rfl
end K01

set_option Elab.async false
set_option linter.all false
set_option maxRecDepth 100000
set_option maxHeartbeats 8000000
namespace K01
open PySem PySem.Spec PyProof.Rows L2 GX OX TX TL
theorem ml {m : Int} (h : 0 < m ∧ m ≤ 10 ^ 6) : m.natAbs.log2 < 9000 := by
  have : m.natAbs < 2 ^ 266 := Nat.lt_of_le_of_lt (show m.natAbs ≤ 10 ^ 6 by omega) (by decide +kernel)
  exact Nat.lt_of_lt_of_le (PySem.Flt.log2_lt_of (by decide) this) (by decide)
def fc (f0 : Int) : Int := 1 + f0
theorem fc_pos {f0 : Int} (h : 0 ≤ f0) : 0 < fc f0 := by
  unfold fc
  omega
theorem fc_le {f0 m : Int} (h : f0 < m) (hm : m ≤ 10 ^ 6) : fc f0 ≤ 10 ^ 6 := by
  unfold fc
  omega
theorem fc8 {F : Int} (h0 : 0 < F) (h : F ≤ 10 ^ 6) : F.natAbs < 10 ^ 80 := Nat.lt_of_le_of_lt (show F.natAbs ≤ 10 ^ 6 by omega) (by decide +kernel)
theorem p61 {f : Int} (h : f.natAbs < 10 ^ 60) : (f + 1).natAbs < 10 ^ 80 := Nat.lt_of_le_of_lt (show (f + 1).natAbs ≤ 10 ^ 60 by omega) (by decide +kernel)
theorem fl_le {t d f : Int} (d0 : 0 < d) (h1 : f * d ≤ t) (h2 : t < (f + 1) * d) : f.natAbs ≤ t.natAbs := by
  by_cases c : 0 ≤ f
  · have : f * 1 ≤ f * d := Int.mul_le_mul_of_nonneg_left (by omega) c
    omega
  · have : (-(f + 1)) * 1 ≤ (-(f + 1)) * d := Int.mul_le_mul_of_nonneg_left (by omega) (by omega)
    simp only [Int.neg_mul] at this
    omega
theorem three_int {a b c : Int} {i : Nat} {z : V} (h : ([.int a, .int b, .int c] : List V)[i]? = some z) : ∃ n, z = .int n := by
  have m := List.mem_of_getElem? h
  simp only [List.mem_cons, List.not_mem_nil, or_false] at m
  rcases m with m | m | m <;> exact ⟨_, m⟩
theorem ok_tl {x : Str} (h : ∀ c ∈ tl x, c ≤ 60000) : PyData.strOk x = true := by
  unfold PyData.strOk
  rw [← Array.all_toList]
  exact List.all_eq_true.mpr fun c hc => decide_eq_true (Nat.lt_of_le_of_lt (h c hc) (by decide))
def Low6 (x : Str) : Prop := ∀ c ∈ tl x, c ≤ 60000
theorem low_S (n : Int) : Low6 (S n) := fun c hc => by
  by_cases z : c ≤ 57
  · omega
  · exact absurd hc (free_S (by omega))
theorem low_app {x y : Str} (hx : Low6 x) (hy : Low6 y) : Low6 (x ++ y) := fun c hc => by
  rw [tl_append, List.mem_append] at hc
  rcases hc with h | h
  · exact hx c h
  · exact hy c h
theorem low_c1 : Low6 "/" := by unfold Low6; decide +kernel
theorem low_c2 : Low6 "Ratio(" := by unfold Low6; decide +kernel
theorem low_c3 : Low6 ", " := by unfold Low6; decide +kernel
theorem low_c4 : Low6 ")" := by unfold Low6; decide +kernel
theorem low_two (t b : Int) : Low6 (S t ++ "/" ++ S b) := low_app (low_app (low_S t) low_c1) (low_S b)
theorem low_txt (t b : Int) : Low6 (txt t b) := by
  unfold txt
  split
  · exact low_S t
  · exact low_two t b
theorem low_rtxt (t b : Int) : Low6 (rtxt t b) := low_app (low_app (low_app (low_app low_c2 (low_S t)) low_c3) (low_S b)) low_c4
theorem sh_s2 {x y : Str} (hx : Low6 x) (hy : Low6 y) : SeqAt.shaped (.list [.str x, .str y]) = true := by
  have h1 := ok_tl hx
  have h2 := ok_tl hy
  simp [SeqAt.shaped, PyData.canLay0, PyData.canLayAll0, PyData.depth, PyData.depthAll, h1, h2]
theorem ev_s2 (x y : Str) : PyData.eqv (.list [.str x, .str y]) (.list [.str x, .str y]) = true := by simp [PyData.eqv, PyData.eqvAll]
theorem ev_i2 (x y : Int) : PyData.eqv (.list [.int x, .int y]) (.list [.int x, .int y]) = true := by simp [PyData.eqv, PyData.eqvAll]
theorem ev_i3 (x y z : Int) : PyData.eqv (.list [.int x, .int y, .int z]) (.list [.int x, .int y, .int z]) = true := by simp [PyData.eqv, PyData.eqvAll]
theorem one80 : (1 : Int).natAbs < 10 ^ 80 := by decide +kernel
def spRight : Sp := fun vs H Q _ => ∃ a : Addr, vs = [.ref a] ∧ Bag H a ∧ ∀ H', But a H H' → Q (.bl true) H'
section
variable {P : Program} {w : World} {K : PySem.W.Frag} {mg : Str → Option Value} {base : Heap}
theorem ok_q_right (T : Txt K mg) : FnOk P w K mg base CX0 6 T.a_q_right T.fd_q_right ["_law_purse_here"] spRight := by
  refine T.F_q_right.ok sc_q_right (fun vs H Q E h => ?_) (fun cdv A outer s H vs Q E hr h => ?_)
  · obtain ⟨a, rfl, _⟩ := h
    rfl
  · obtain ⟨a, rfl, bag, q⟩ := h
    obtain ⟨ds1, hd1, hb1⟩ := bI1 T
    refine ⟨_, (pss_cons (ps_par (i := 1) (j := 2) (by rfl) sc_q_right.nd rfl rfl (by decide) rfl rfl (pa_cons (pe_call (ok_q_integer T) (hr.mono (by decide)) (by rfl) T.g_q_integer T.F_q_integer.kp (b_q_integer T) .nil pass0 (pa_cons (pv 0) pa_nil)) (pa_cons (pe_op op_add pe_int (pe_callB call_abs (by rfl) T.z_abs (by decide +kernel) (pa_cons (pe_call (ok_q_integer T) (hr.mono (by decide)) (by rfl) T.g_q_integer T.F_q_integer.kp (b_q_integer T) .nil pass0 (pa_cons (pv 0) pa_nil)) pa_nil))) pa_nil)) (by rfl))
      (pss_cons (ps_set (i := 3) sc_q_right.nd rfl (Or.inl rfl) (pe_op op_add pe_int (pe_call (ok_q_draw T) (hr.mono (by decide)) (by rfl) T.g_q_draw T.F_q_draw.kp (b_q_draw T) .nil pass0 (pa_cons (pv 0) (pa_cons (pe_ix ix_list (pe_lst (pa_cons pe_int (pa_cons pe_int (pa_cons (pe_op op_pow pe_int pe_int) pa_nil)))) (pe_call (ok_q_draw T) (hr.mono (by decide)) (by rfl) T.g_q_draw T.F_q_draw.kp (b_q_draw T) .nil pass0 (pa_cons (pv 0) (pa_cons pe_int pa_nil))) (fun _ _ => rfl)) pa_nil)))))
      (pss_cons (ps_set (i := 4) sc_q_right.nd rfl (Or.inl rfl) (pe_make T.mkR (ok_Ratio___init__ T) (hr.mono (by decide)) (by rfl) T.g_Ratio (bI2 T) .nil pass0 (pa_cons (pe_op op_mulW (pv 1) (pv 3)) (pa_cons (pe_op op_mulW (pv 2) (pv 3)) pa_nil))))
      (pss_cons (ps_set (i := 5) sc_q_right.nd rfl (Or.inl rfl) (pe_lst (pa_cons (pe_fld (pv 4) rfl) (pa_cons (pe_fld (pv 4) rfl) (pa_cons (pe_fld (pv 4) rfl) pa_nil)))))
      (pss_cons (ps_if (pt_cmpR (op_neD hr.units) (pe_lc (own := [("_law_number", 10)]) (g := gName 10) (by rfl) sc_q_right.nd (pi_list (pv 5)) (blkOk_by (own := [("_law_number", 10)]) (N := N_q_right) (sc := defScope s_q_right) (by decide +kernel)) (fun _ _ _ _ _ => (pg_name (i := 10) sc_q_right.nd rfl (Or.inl rfl))) (fun _ _ _ _ _ => (pts_one (PW.pt (pw_or (pt_not (pt_val (pe_callB (id := "isinstance") (r := rIsi K) call_isi (by rfl) T.z_isinstance (by decide +kernel) (pa_cons (pv 10) (pa_cons (pe_bltn (v := .ty "int") (by rfl) T.z_int (by decide +kernel) rfl) pa_nil))))) (pw_or1 (pt_val (pe_callB (id := "isinstance") (r := rIsi K) call_isi (by rfl) T.z_isinstance (by decide +kernel) (pa_cons (pv 10) (pa_cons (pe_bltn (v := .ty "bool") (by rfl) T.z_bool (by decide +kernel) rfl) pa_nil))))))))) (fun _ _ _ _ _ => (pv 10))) (pe_lst pa_nil) (nomark _)) (pss_one (ps_ret pe_bl)) pss_nil)
      (pss_cons (ps_if (PW.pt (pw_or (pt_cmpR op_lt (pe_fld (pv 4) rfl) pe_int (nomark _)) (pw_or (pt_cmpR op_ne (pe_op op_mulW (pe_fld (pv 4) rfl) (pv 2)) (pe_op op_mulW (pv 1) (pe_fld (pv 4) rfl)) (nomark _)) (pw_or1 (pt_not (pt_val (pe_call (ok_q_lowest T) (hr.mono (by decide)) (by rfl) T.g_q_lowest T.F_q_lowest.kp (b_q_lowest T) .nil pass0 (pa_cons (pe_fld (pv 4) rfl) (pa_cons (pe_fld (pv 4) rfl) pa_nil))))))))) (pss_one (ps_ret pe_bl)) pss_nil)
      (pss_cons (ps_if (pt_not (pt_chain op_le op_lt (pe_op op_mulW (pe_fld (pv 4) rfl) (pv 2)) (pv 1) (pe_op op_mulW (pe_op op_add (pe_fld (pv 4) rfl) pe_int) (pv 2)))) (pss_one (ps_ret pe_bl)) pss_nil)
      (pss_cons (ps_set (i := 6) sc_q_right.nd rfl (Or.inl rfl) (pe_ifExp (pt_cmpR op_eq (pe_fld (pv 4) rfl) pe_int (nomark _)) (pe_callTy call_str_int (by rfl) T.z_str (by decide +kernel) (pa_cons (pe_fld (pv 4) rfl) pa_nil)) (pe_op op_add_str (pe_op op_add_str (pe_callTy call_str_int (by rfl) T.z_str (by decide +kernel) (pa_cons (pe_fld (pv 4) rfl) pa_nil)) pe_str) (pe_callTy call_str_int (by rfl) T.z_str (by decide +kernel) (pa_cons (pe_fld (pv 4) rfl) pa_nil)))))
      (pss_cons (ps_if (pt_cmpR (op_neD hr.units) (pe_lst (pa_cons (pe_callTy (call_strO T.hs T.hsf (ok_Ratio___str__ T) (hr.mono (by decide)) (b_Ratio___str__ T)) (by rfl) T.z_str (by decide +kernel) (pa_cons (pv 4) pa_nil)) (pa_cons (pe_callB (call_reprO T.hr T.hrf (ok_Ratio___repr__ T) (hr.mono (by decide)) (b_Ratio___repr__ T)) (by rfl) T.z_repr (by decide +kernel) (pa_cons (pv 4) pa_nil)) pa_nil))) (pe_lst (pa_cons (pv 6) (pa_cons (pe_op op_add_str (pe_op op_add_str (pe_op op_add_str (pe_op op_add_str pe_str (pe_callTy call_str_int (by rfl) T.z_str (by decide +kernel) (pa_cons (pe_fld (pv 4) rfl) pa_nil))) pe_str) (pe_callTy call_str_int (by rfl) T.z_str (by decide +kernel) (pa_cons (pe_fld (pv 4) rfl) pa_nil))) pe_str) pa_nil))) (nomark _)) (pss_one (ps_ret pe_bl)) pss_nil)
      (pss_cons (ps_par (i := 7) (j := 8) (by rfl) sc_q_right.nd rfl rfl (by decide) rfl rfl (pa_cons (ClX.pe_cmeth (pe_glob (v := .ref T.C) rfl T.g_Ratio rfl) T.crd T.cmt ((ok_read T).raw (b_Ratio_read T) .nil) (hr.mono (by decide)) pass0 (pa_cons (pv 6) pa_nil)) (pa_cons (pe_make T.mkR (ok_Ratio___init__ T) (hr.mono (by decide)) (by rfl) T.g_Ratio hb1 hd1 pass0 (pa_cons (pv 1) pa_nil)) pa_nil)) (by rfl))
      (pss_cons (ps_set (i := 9) sc_q_right.nd rfl (Or.inl rfl) (pe_makeK0 T.mkR (ok_Ratio___init__ T) (hr.mono (by decide)) (by rfl) T.g_Ratio (kbI T) pass0 (pk_cons (pe_op op_mulW (pv 2) (pv 3)) (pk_cons (pe_op op_mulW (pv 1) (pv 3)) pk_nil))))
      (pss_cons (ps_if (PW.pt (pw_or (pt_not (pt_val (pe_callB call_isi (by rfl) T.z_isinstance (by decide +kernel) (pa_cons (pv 7) (pa_cons (pe_glob (v := .ref T.C) rfl T.g_Ratio rfl) pa_nil))))) (pw_or1 (pt_cmpR (op_neD hr.units) (pe_lst (pa_cons (pe_fld (pv 7) rfl) (pa_cons (pe_fld (pv 7) rfl) pa_nil))) (pe_slice sl_list (pv 5) po_none (po_some pe_int)) (nomark _))))) (pss_one (ps_ret pe_bl)) pss_nil)
      (pss_cons (ps_if (pt_cmpR (op_neD hr.units) (pe_lst (pa_cons (pe_fld (pv 8) rfl) (pa_cons (pe_fld (pv 8) rfl) (pa_cons (pe_fld (pv 8) rfl) pa_nil)))) (pe_lst (pa_cons (pv 1) (pa_cons pe_int (pa_cons (pv 1) pa_nil)))) (nomark _)) (pss_one (ps_ret pe_bl)) pss_nil)
      (pss_one (ps_ret (pe_cmpR (op_eqD hr.units) (pe_lst (pa_cons (pe_fld (pv 9) rfl) (pa_cons (pe_fld (pv 9) rfl) pa_nil))) (pe_slice sl_list (pv 5) po_none (po_some pe_int)) (nomark _))))))))))))))))), ?_⟩
    refine ⟨_, rfl, a, rfl, bag, fun t H1 tb bag1 b1 => ⟨_, rfl, a, rfl, bag1, fun w0 H2 wb bag2 b2 => ⟨w0, rfl, 1, _, rfl, rfl, _, _, rfl, ?_⟩⟩⟩
    refine ⟨_, rfl, 10, 6, rfl, rfl, ⟨by decide, by decide, by decide⟩, (by show 3 ≤ sizeLine; decide), fun l hl => ?_⟩
    refine ⟨_, rfl, a, 3, rfl, bag2.keep (same_new hl), by decide, by decide, fun r H3 r0 r1 bag3 b3 => ?_⟩
    obtain ⟨j, rfl⟩ := Int.eq_ofNat_of_zero_le r0
    have hj : j < three.length := by
      show j < 3
      omega
    have g : (three.map V.int)[j]? = some (.int three[j]) := by
      rw [List.getElem?_map, List.getElem?_eq_getElem hj]
      rfl
    have vb := three_lt _ (List.getElem_mem hj)
    generalize three[j] = m at g vb
    refine ⟨l, three.map V.int, j, _, rfl, rfl, SqL.of (b3 _ _ (bag2.ne hl) upd_same), atI_nat g, ?_⟩
    refine ⟨a, m, rfl, bag3, vb.1, ml vb, fun f0 H4 f0b f1b bag4 b4 => ⟨1, _, rfl, rfl, ?_⟩⟩
    have b14 := ((b1.trans b2).trans ((But.same (But.refl a H2) (same_new hl)).trans b3)).trans b4
    have F0 : 0 < fc f0 := fc_pos f0b
    have F1 : fc f0 ≤ 10 ^ 6 := fc_le f1b vb.2
    have u0 : 0 < dn w0 := dn_pos w0
    have u1 := dn_lt wb
    have tl := mul_lt (Nat.le_of_lt tb) F0 F1
    have ul := mul_lt u1 F0 F1
    have L := low_of tb u0 u1 F0 F1
    have B0 : 0 < dn w0 * fc f0 := Int.mul_pos u0 F0
    have t8 := p60 (Nat.le_of_lt tb)
    have u8 := p60 u1
    have F8 : (fc f0).natAbs < 10 ^ 80 := fc8 F0 F1
    refine ⟨_, rfl, _, rfl, t, fc f0, rfl, rfl, cw t8 F8, _, rfl, _, rfl, dn w0, fc f0, rfl, rfl, cw u8 F8, fun x dx nx nd ne => ⟨x, t * fc f0, dn w0 * fc f0, rfl, B0, ul, ⟨dx, upd_same⟩, fun H5 b5 rat => ⟨rfl, ?_⟩⟩⟩
    have s5 := mk_same nx nd b5
    have b15 := b14.same s5
    obtain ⟨tt, htt⟩ : ∃ z, z = t * fc f0 / gI (t * fc f0) (dn w0 * fc f0) := ⟨_, rfl⟩
    obtain ⟨bb, hbb⟩ : ∃ z, z = dn w0 * fc f0 / gI (t * fc f0) (dn w0 * fc f0) := ⟨_, rfl⟩
    obtain ⟨f, hf⟩ : ∃ z, z = t * fc f0 / (dn w0 * fc f0) := ⟨_, rfl⟩
    have good := L.good
    have cross := L.cross
    have flr := L.fl
    rw [← htt, ← hbb] at good cross
    rw [← hf] at flr
    rw [← htt, ← hbb, ← hf] at rat
    have f1 : f * dn w0 ≤ t := by
      rw [flr]
      exact Int.ediv_mul_le t (by omega)
    have f2 : t < (f + 1) * dn w0 := by
      rw [flr]
      exact Int.lt_ediv_add_one_mul_self t u0
    have f8 : f.natAbs < 10 ^ 60 := Nat.lt_of_le_of_lt (fl_le u0 f1 f2) tb
    have f80 := p60 (Nat.le_of_lt f8)
    have f81 : (f + 1).natAbs < 10 ^ 80 := p61 f8
    have rat0 := rat
    obtain ⟨dy, fs, hx, ft, fb, ff⟩ := rat
    refine ⟨_, rfl, x, T.C, dy, fs, _, rfl, hx, T.cl, T.nT, ft, _, rfl, x, T.C, dy, fs, _, rfl, hx, T.cl, T.nB, fb, _, rfl, x, T.C, dy, fs, _, rfl, hx, T.cl, T.nF, ff, (by show 3 ≤ sizeLine; decide), fun l5 hl5 => ?_⟩
    have x6 := same_new (o := .lst [.int tt, .int bb, .int f]) hl5
    have e6 : upd H5 l5 (.lst [.int tt, .int bb, .int f]) l5 = some (.lst [.int tt, .int bb, .int f]) := upd_same
    have hx6 := x6 _ _ hx
    refine ⟨_, rfl, l5, rfl, ⟨_, SqL.of e6⟩, fun D hD => ?_⟩
    refine lc_list (K := K) (a := l5) (xs := [.int tt, .int bb, .int f]) (fun i H' => Same (upd H5 l5 (.lst [.int tt, .int bb, .int f])) H' ∧ H' D = some (.lst [])) ⟨same_new hD, upd_same⟩ (fun i H' _ h => SqL.of (h.1 _ _ e6)) (fun i z H' hz h => ?_) (fun H7 h => ?_)
    · obtain ⟨n, rfl⟩ := three_int hz
      exact ⟨rfl, _, rfl, .int n, .ty "int", .type "int", .type "int", true, rfl, .ty "int", .base (.int _), kit_ty (by decide +kernel), true, rfl, iteF ⟨_, rfl, .int n, .ty "bool", .type "int", .type "bool", false, rfl, .ty "bool", .base (.int _), kit_ty (by decide +kernel), false, rfl, iteF h⟩⟩
    · obtain ⟨s7, e7⟩ := h
      refine ⟨Nat.zero_le _, fun l7 hl7 => ⟨.list [], .list [], .lst (SqL.of ((same_new hl7) _ _ e7)) .nil, .lst (SqL.of upd_same) .nil, rfl, rfl, false, rfl, iteF ?_⟩⟩
      have s8 : Same H5 (upd H7 l7 (.lst [])) := (x6.trans s7).trans (same_new hl7)
      have hx8 := s8 _ _ hx
      have e8 := (s7.trans (same_new (o := .lst []) hl7)) _ _ e6
      have rat8 := rat0.keep s8
      have b18 := b15.same s8
      refine ⟨_, rfl, x, T.C, dy, fs, _, rfl, hx8, T.cl, T.nB, fb, bb, 1, rfl, rfl, false, congrArg V.bl (decide_eq_false (by have := good.b0; omega)), iteF ?_⟩
      refine ⟨_, rfl, x, T.C, dy, fs, _, rfl, hx8, T.cl, T.nT, ft, _, rfl, tt, dn w0, rfl, rfl, cw good.t1 u8, _, rfl, _, rfl, x, T.C, dy, fs, _, rfl, hx8, T.cl, T.nB, fb, t, bb, rfl, rfl, cw t8 good.b1, rfl, false, congrArg V.bl (by show (!decide (V.int (tt * dn w0) = V.int (t * bb))) = false; rw [cross, decide_eq_true rfl]; rfl), iteF ?_⟩
      refine ⟨_, rfl, x, T.C, dy, fs, _, rfl, hx8, T.cl, T.nT, ft, _, rfl, x, T.C, dy, fs, _, rfl, hx8, T.cl, T.nB, fb, tt, bb, rfl, Int.le_of_lt good.b0, true, congrArg V.bl (beq_iff_eq.mpr good.co), iteF ?_⟩
      refine ⟨_, rfl, x, T.C, dy, fs, _, rfl, hx8, T.cl, T.nF, ff, _, rfl, f, dn w0, rfl, rfl, cw f80 u8, _, rfl, _, t, rfl, rfl, true, congrArg V.bl (decide_eq_true f1), iteT ?_⟩
      refine ⟨_, rfl, x, T.C, dy, fs, _, rfl, hx8, T.cl, T.nF, ff, f, 1, rfl, rfl, _, rfl, _, dn w0, rfl, rfl, cw f81 u8, t, _, rfl, rfl, true, congrArg V.bl (decide_eq_true f2), iteF ?_⟩
      have l1 := S_len good.t1
      have l2 := S_len good.b1
      have l3 : ("/" : Str).length = 1 := by decide
      have l4 : ("Ratio(" : Str).length = 6 := by decide
      have l5' : (", " : Str).length = 2 := by decide
      have l6 : (")" : Str).length = 1 := by decide
      by_cases hb : bb = 1
      · have ez : txt tt bb = S tt := if_pos hb
        refine ⟨_, rfl, x, T.C, dy, fs, _, rfl, hx8, T.cl, T.nB, fb, rfl, true, congrArg V.bl (decide_eq_true (by rw [hb])), iteT ⟨_, rfl, x, T.C, dy, fs, _, rfl, hx8, T.cl, T.nT, ft, tt, rfl, lg good.t1, ?_⟩⟩
        refine ⟨_, rfl, x, dy, fs, rfl, hx8, x, tt, bb, f, rfl, rat8, good.t1, good.b1, txt tt bb, rfl, _, rfl, x, dy, fs, rfl, hx8, x, tt, bb, f, rfl, rat8, good.t1, good.b1, rtxt tt bb, rfl, (by show 2 ≤ sizeLine; decide), fun l9 hl9 => ?_⟩
        have s9 := same_new (o := .lst [.str (txt tt bb), .str (rtxt tt bb)]) hl9
        have hx9 := s9 _ _ hx8
        refine ⟨_, rfl, _, rfl, x, T.C, dy, fs, _, rfl, hx9, T.cl, T.nT, ft, tt, rfl, lg good.t1, "Ratio(", S tt, rfl, rfl, sz (by omega), _, ", ", rfl, rfl, sz (by rw [len_app]; omega), _, rfl, x, T.C, dy, fs, _, rfl, hx9, T.cl, T.nB, fb, bb, rfl, lg good.b1, _, S bb, rfl, rfl, sz (by rw [len_app, len_app]; omega), _, ")", rfl, rfl, sz (by rw [len_app, len_app, len_app]; omega), (by show 2 ≤ sizeLine; decide), fun l10 hl10 => ?_⟩
        have s10 := same_new (o := .lst [.str (S tt), .str (rtxt tt bb)]) hl10
        refine ⟨.list [.str (txt tt bb), .str (rtxt tt bb)], .list [.str (S tt), .str (rtxt tt bb)], .lst (SqL.of (s10 _ _ upd_same)) (.cons (.str _) (.cons (.str _) .nil)), .lst (SqL.of upd_same) (.cons (.str _) (.cons (.str _) .nil)), sh_s2 (low_txt tt bb) (low_rtxt tt bb), sh_s2 (low_S tt) (low_rtxt tt bb), false, congrArg V.bl (by rw [ez, ev_s2]; rfl), iteF ?_⟩
        have s18 := s9.trans s10
        refine ⟨rfl, _, rfl, tt, bb, congrArg (fun z => [V.ref T.C, V.str z]) ez.symm, good, fun y H10 ny sy raty => ?_⟩
        refine ⟨_, rfl, fun x2 dx2 nx2 nd2 ne2 => ⟨x2, t, 1, rfl, by decide, one80, ⟨dx2, upd_same⟩, fun H11 c11 rat2 => ⟨rfl, _, _, rfl, ?_⟩⟩⟩
        have s11 := mk_same nx2 nd2 c11
        rw [one_gI, Int.ediv_one, Int.ediv_one] at rat2
        refine ⟨_, rfl, _, rfl, dn w0, fc f0, rfl, rfl, cw u8 F8, _, rfl, _, rfl, t, fc f0, rfl, rfl, cw t8 F8, rfl, rfl, fun x3 dx3 nx3 nd3 ne3 => ⟨x3, t * fc f0, dn w0 * fc f0, rfl, B0, ul, ⟨dx3, upd_same⟩, fun H12 c12 rat3 => ⟨rfl, ?_⟩⟩⟩
        have s12 := mk_same nx3 nd3 c12
        rw [← htt, ← hbb, ← hf] at rat3
        have s8e := (((s18.trans sy).trans s11).trans s12)
        have e12 := s8e _ _ e8
        obtain ⟨dy2, fs2, hy, gt, gb, gf⟩ := (raty.keep s11).keep s12
        obtain ⟨dw, fs3, hw, kt, kb, kf⟩ := rat2.keep s12
        obtain ⟨dn3, fs4, hn, jt, jb, jf⟩ := rat3
        refine ⟨_, rfl, .ref y, .ref T.C, .ref T.C, .ref T.C, true, rfl, .own T.C, .base (.ins hy T.cl T.ha T.hn T.ht T.hm), T.kCC, true, rfl, iteF ?_⟩
        refine ⟨_, rfl, y, T.C, dy2, fs2, _, rfl, hy, T.cl, T.nT, gt, _, rfl, y, T.C, dy2, fs2, _, rfl, hy, T.cl, T.nB, gb, (by show 2 ≤ sizeLine; decide), fun l13 hl13 => ?_⟩
        have s13 := same_new (o := .lst [.int tt, .int bb]) hl13
        refine ⟨_, rfl, 2, rfl, l5, _, rfl, SqL.of (s13 _ _ e12), fun l14 hl14 => ?_⟩
        refine ⟨.list [.int tt, .int bb], .list [.int tt, .int bb], .lst (SqL.of ((same_new hl14) _ _ upd_same)) (.cons (.int _) (.cons (.int _) .nil)), .lst (SqL.of upd_same) (.cons (.int _) (.cons (.int _) .nil)), rfl, rfl, false, congrArg V.bl (by rw [ev_i2]; rfl), iteF ?_⟩
        have s14 := s13.trans (same_new (o := .lst [.int tt, .int bb]) hl14)
        have hw14 := s14 _ _ hw
        refine ⟨_, rfl, x2, T.C, dw, fs3, _, rfl, hw14, T.cl, T.nT, kt, _, rfl, x2, T.C, dw, fs3, _, rfl, hw14, T.cl, T.nB, kb, _, rfl, x2, T.C, dw, fs3, _, rfl, hw14, T.cl, T.nF, kf, (by show 3 ≤ sizeLine; decide), fun l15 hl15 => ?_⟩
        have s15 := same_new (o := .lst [.int t, .int 1, .int t]) hl15
        refine ⟨_, rfl, _, rfl, (by show 3 ≤ sizeLine; decide), fun l16 hl16 => ?_⟩
        have s16 := same_new (o := .lst [.int t, .int 1, .int t]) hl16
        refine ⟨.list [.int t, .int 1, .int t], .list [.int t, .int 1, .int t], .lst (SqL.of (s16 _ _ upd_same)) (.cons (.int _) (.cons (.int _) (.cons (.int _) .nil))), .lst (SqL.of upd_same) (.cons (.int _) (.cons (.int _) (.cons (.int _) .nil))), rfl, rfl, false, congrArg V.bl (by rw [ev_i3]; rfl), iteF ?_⟩
        have s17 := (s14.trans s15).trans s16
        have hn17 := s17 _ _ hn
        refine ⟨_, rfl, x3, T.C, dn3, fs4, _, rfl, hn17, T.cl, T.nT, jt, _, rfl, x3, T.C, dn3, fs4, _, rfl, hn17, T.cl, T.nB, jb, (by show 2 ≤ sizeLine; decide), fun l18 hl18 => ?_⟩
        have s19 := same_new (o := .lst [.int tt, .int bb]) hl18
        refine ⟨_, rfl, 2, rfl, l5, _, rfl, SqL.of (s19 _ _ (s17 _ _ e12)), fun l20 hl20 => ?_⟩
        refine ⟨.list [.int tt, .int bb], .list [.int tt, .int bb], .lst (SqL.of ((same_new hl20) _ _ upd_same)) (.cons (.int _) (.cons (.int _) .nil)), .lst (SqL.of upd_same) (.cons (.int _) (.cons (.int _) .nil)), rfl, rfl, ?_⟩
        rw [ev_i2]
        exact q _ (b18.same (((s8e.trans s17).trans s19).trans (same_new hl20)))
      · have ez : txt tt bb = S tt ++ "/" ++ S bb := if_neg hb
        refine ⟨_, rfl, x, T.C, dy, fs, _, rfl, hx8, T.cl, T.nB, fb, rfl, false, congrArg V.bl (decide_eq_false fun z => hb (V.int.inj z)), iteF ⟨_, rfl, x, T.C, dy, fs, _, rfl, hx8, T.cl, T.nT, ft, tt, rfl, lg good.t1, S tt, "/", rfl, rfl, sz (by omega), _, rfl, x, T.C, dy, fs, _, rfl, hx8, T.cl, T.nB, fb, bb, rfl, lg good.b1, _, S bb, rfl, rfl, sz (by rw [len_app]; omega), ?_⟩⟩
        refine ⟨_, rfl, x, dy, fs, rfl, hx8, x, tt, bb, f, rfl, rat8, good.t1, good.b1, txt tt bb, rfl, _, rfl, x, dy, fs, rfl, hx8, x, tt, bb, f, rfl, rat8, good.t1, good.b1, rtxt tt bb, rfl, (by show 2 ≤ sizeLine; decide), fun l9 hl9 => ?_⟩
        have s9 := same_new (o := .lst [.str (txt tt bb), .str (rtxt tt bb)]) hl9
        have hx9 := s9 _ _ hx8
        refine ⟨_, rfl, _, rfl, x, T.C, dy, fs, _, rfl, hx9, T.cl, T.nT, ft, tt, rfl, lg good.t1, "Ratio(", S tt, rfl, rfl, sz (by omega), _, ", ", rfl, rfl, sz (by rw [len_app]; omega), _, rfl, x, T.C, dy, fs, _, rfl, hx9, T.cl, T.nB, fb, bb, rfl, lg good.b1, _, S bb, rfl, rfl, sz (by rw [len_app, len_app]; omega), _, ")", rfl, rfl, sz (by rw [len_app, len_app, len_app]; omega), (by show 2 ≤ sizeLine; decide), fun l10 hl10 => ?_⟩
        have s10 := same_new (o := .lst [.str (S tt ++ "/" ++ S bb), .str (rtxt tt bb)]) hl10
        refine ⟨.list [.str (txt tt bb), .str (rtxt tt bb)], .list [.str (S tt ++ "/" ++ S bb), .str (rtxt tt bb)], .lst (SqL.of (s10 _ _ upd_same)) (.cons (.str _) (.cons (.str _) .nil)), .lst (SqL.of upd_same) (.cons (.str _) (.cons (.str _) .nil)), sh_s2 (low_txt tt bb) (low_rtxt tt bb), sh_s2 (low_two tt bb) (low_rtxt tt bb), false, congrArg V.bl (by rw [ez, ev_s2]; rfl), iteF ?_⟩
        have s18 := s9.trans s10
        refine ⟨rfl, _, rfl, tt, bb, congrArg (fun z => [V.ref T.C, V.str z]) ez.symm, good, fun y H10 ny sy raty => ?_⟩
        refine ⟨_, rfl, fun x2 dx2 nx2 nd2 ne2 => ⟨x2, t, 1, rfl, by decide, one80, ⟨dx2, upd_same⟩, fun H11 c11 rat2 => ⟨rfl, _, _, rfl, ?_⟩⟩⟩
        have s11 := mk_same nx2 nd2 c11
        rw [one_gI, Int.ediv_one, Int.ediv_one] at rat2
        refine ⟨_, rfl, _, rfl, dn w0, fc f0, rfl, rfl, cw u8 F8, _, rfl, _, rfl, t, fc f0, rfl, rfl, cw t8 F8, rfl, rfl, fun x3 dx3 nx3 nd3 ne3 => ⟨x3, t * fc f0, dn w0 * fc f0, rfl, B0, ul, ⟨dx3, upd_same⟩, fun H12 c12 rat3 => ⟨rfl, ?_⟩⟩⟩
        have s12 := mk_same nx3 nd3 c12
        rw [← htt, ← hbb, ← hf] at rat3
        have s8e := (((s18.trans sy).trans s11).trans s12)
        have e12 := s8e _ _ e8
        obtain ⟨dy2, fs2, hy, gt, gb, gf⟩ := (raty.keep s11).keep s12
        obtain ⟨dw, fs3, hw, kt, kb, kf⟩ := rat2.keep s12
        obtain ⟨dn3, fs4, hn, jt, jb, jf⟩ := rat3
        refine ⟨_, rfl, .ref y, .ref T.C, .ref T.C, .ref T.C, true, rfl, .own T.C, .base (.ins hy T.cl T.ha T.hn T.ht T.hm), T.kCC, true, rfl, iteF ?_⟩
        refine ⟨_, rfl, y, T.C, dy2, fs2, _, rfl, hy, T.cl, T.nT, gt, _, rfl, y, T.C, dy2, fs2, _, rfl, hy, T.cl, T.nB, gb, (by show 2 ≤ sizeLine; decide), fun l13 hl13 => ?_⟩
        have s13 := same_new (o := .lst [.int tt, .int bb]) hl13
        refine ⟨_, rfl, 2, rfl, l5, _, rfl, SqL.of (s13 _ _ e12), fun l14 hl14 => ?_⟩
        refine ⟨.list [.int tt, .int bb], .list [.int tt, .int bb], .lst (SqL.of ((same_new hl14) _ _ upd_same)) (.cons (.int _) (.cons (.int _) .nil)), .lst (SqL.of upd_same) (.cons (.int _) (.cons (.int _) .nil)), rfl, rfl, false, congrArg V.bl (by rw [ev_i2]; rfl), iteF ?_⟩
        have s14 := s13.trans (same_new (o := .lst [.int tt, .int bb]) hl14)
        have hw14 := s14 _ _ hw
        refine ⟨_, rfl, x2, T.C, dw, fs3, _, rfl, hw14, T.cl, T.nT, kt, _, rfl, x2, T.C, dw, fs3, _, rfl, hw14, T.cl, T.nB, kb, _, rfl, x2, T.C, dw, fs3, _, rfl, hw14, T.cl, T.nF, kf, (by show 3 ≤ sizeLine; decide), fun l15 hl15 => ?_⟩
        have s15 := same_new (o := .lst [.int t, .int 1, .int t]) hl15
        refine ⟨_, rfl, _, rfl, (by show 3 ≤ sizeLine; decide), fun l16 hl16 => ?_⟩
        have s16 := same_new (o := .lst [.int t, .int 1, .int t]) hl16
        refine ⟨.list [.int t, .int 1, .int t], .list [.int t, .int 1, .int t], .lst (SqL.of (s16 _ _ upd_same)) (.cons (.int _) (.cons (.int _) (.cons (.int _) .nil))), .lst (SqL.of upd_same) (.cons (.int _) (.cons (.int _) (.cons (.int _) .nil))), rfl, rfl, false, congrArg V.bl (by rw [ev_i3]; rfl), iteF ?_⟩
        have s17 := (s14.trans s15).trans s16
        have hn17 := s17 _ _ hn
        refine ⟨_, rfl, x3, T.C, dn3, fs4, _, rfl, hn17, T.cl, T.nT, jt, _, rfl, x3, T.C, dn3, fs4, _, rfl, hn17, T.cl, T.nB, jb, (by show 2 ≤ sizeLine; decide), fun l18 hl18 => ?_⟩
        have s19 := same_new (o := .lst [.int tt, .int bb]) hl18
        refine ⟨_, rfl, 2, rfl, l5, _, rfl, SqL.of (s19 _ _ (s17 _ _ e12)), fun l20 hl20 => ?_⟩
        refine ⟨.list [.int tt, .int bb], .list [.int tt, .int bb], .lst (SqL.of ((same_new hl20) _ _ upd_same)) (.cons (.int _) (.cons (.int _) .nil)), .lst (SqL.of upd_same) (.cons (.int _) (.cons (.int _) .nil)), rfl, rfl, ?_⟩
        rw [ev_i2]
        exact q _ (b18.same (((s8e.trans s17).trans s19).trans (same_new hl20)))
end
end K01

set_option Elab.async false
set_option linter.all false
set_option maxRecDepth 100000
set_option maxHeartbeats 8000000
namespace K01
open PySem PySem.Spec PyProof.Rows L2 GX OX TX TL
def spLaw (K : PySem.W.Frag) : Sp := fun vs H Q _ => ∃ (a : Addr) (ns : List Int), vs = [.ref a] ∧ SqL K H a (ns.map V.int) ∧ ns.length ≤ 63 ∧ ∀ H', Q (.bl true) H'
section
variable {P : Program} {w : World} {K : PySem.W.Frag} {mg : Str → Option Value} {base : Heap}
theorem ok_law (T : Txt K mg) : FnOk P w K mg base CX0 7 T.a_law T.fd_law ["_law_script"] (spLaw K) := by
  refine T.F_law.ok sc_law (fun vs H Q E h => ?_) (fun cdv A outer s H vs Q E hr h => ?_)
  · obtain ⟨a, ns, rfl, _⟩ := h
    rfl
  · obtain ⟨a, ns, rfl, S, hl, q⟩ := h
    refine ⟨_, (pss_cons (ps_for PassesOwn.never rfl (pi_range1 (by rfl) T.z_range (pa_cons (pe_callB (call_max2 rfl) (by rfl) T.z_max (by decide +kernel) (pa_cons pe_int (pa_cons (pe_callB (call_min2 rfl) (by rfl) T.z_min (by decide +kernel) (pa_cons (pe_callB call_len_seq (by rfl) T.z_len (by decide +kernel) (pa_cons (pv 0) pa_nil)) (pa_cons pe_int pa_nil))) pa_nil))) pa_nil)) (pg_name (i := 1) sc_law.nd rfl (Or.inl rfl)) (pss_one (ps_if (pt_not (pt_val (pe_call (ok_q_right T) (hr.mono (by decide)) (by rfl) T.g_q_right T.F_q_right.kp (b_q_right T) .nil pass0 (pa_cons (pe_call (ok_q_purse T) (hr.mono (by decide)) (by rfl) T.g_q_purse T.F_q_purse.kp (b_q_purse T) .nil pass0 (pa_cons (pv 0) (pa_cons (pv 1) pa_nil))) pa_nil)))) (pss_one (ps_ret pe_bl)) pss_nil)))
      (pss_one (ps_ret pe_bl))), ?_⟩
    have hl2 : (((ns.map V.int).length : Nat) : Int) ≤ 63 := by
      rw [List.length_map]
      omega
    refine ⟨_, rfl, a, _, rfl, .inl S, _, 16, rfl, 2, _, rfl, _, rfl, ?_, ?_, ?_⟩
    · split <;> split <;> omega
    · split <;> split <;> omega
    · refine for_range (lo := 0) (fun i σ H' => ∃ y : Option V, σ = [some (.ref a), y] ∧ Same H H') ⟨none, rfl, Same.refl H⟩ (fun i σ H' hi h => ?_) (fun σ H' h => ?_)
      · obtain ⟨y, rfl, sm⟩ := h
        have hi2 : i ≤ 63 := by
          revert hi
          split <;> split <;> omega
        have e0 : (0 : Int) + (i : Int) = (i : Int) := by omega
        refine ⟨_, rfl, _, rfl, a, ns, i, congrArg (fun z => [V.ref a, V.int z]) e0, sm.seq S, hl, hi2, fun p H1 hp s1 bag => ?_⟩
        refine ⟨p, rfl, bag, fun H2 but => ⟨true, rfl, iteF ⟨_, rfl, fun b o h => ?_⟩⟩⟩
        exact but _ _ (ne_of_none (sm _ _ h) hp) (s1 _ _ (sm _ _ h))
      · exact q H'
end
end K01

set_option Elab.async false
set_option linter.all false
set_option maxRecDepth 100000
set_option maxHeartbeats 8000000
namespace K01
open PySem PySem.Spec PyProof.Rows L2 GX OX
theorem all_mk {l : PySem.W.OpenLaw} {w : World} {K : PySem.W.Frag} {h : Heap} {mg : Str → Option Value} {fa : Addr} (X : K.In h) (G : h.Ns mainGlobals mg) (hfa : mg "law" = some (.ref fa))
    {f_is_integer : Addr} {od_is_integer an_is_integer : Option Addr} {sl_is_integer : Array (Option Value)} {oc_is_integer kV_is_integer dc_is_integer pm_is_integer cd_is_integer ct_is_integer : Value}
    {f_is_whole_text : Addr} {od_is_whole_text an_is_whole_text : Option Addr} {sl_is_whole_text : Array (Option Value)} {oc_is_whole_text kV_is_whole_text dc_is_whole_text pm_is_whole_text cd_is_whole_text ct_is_whole_text : Value}
    {f_is_integer_text : Addr} {od_is_integer_text an_is_integer_text : Option Addr} {sl_is_integer_text : Array (Option Value)} {oc_is_integer_text kV_is_integer_text dc_is_integer_text pm_is_integer_text cd_is_integer_text ct_is_integer_text : Value}
    {f__is_ratio_text : Addr} {od__is_ratio_text an__is_ratio_text : Option Addr} {sl__is_ratio_text : Array (Option Value)} {oc__is_ratio_text kV__is_ratio_text dc__is_ratio_text pm__is_ratio_text cd__is_ratio_text ct__is_ratio_text : Value}
    {f_q_purse : Addr} {od_q_purse an_q_purse : Option Addr} {sl_q_purse : Array (Option Value)} {oc_q_purse kV_q_purse dc_q_purse pm_q_purse cd_q_purse ct_q_purse : Value}
    {f_q_draw : Addr} {od_q_draw an_q_draw : Option Addr} {sl_q_draw : Array (Option Value)} {oc_q_draw kV_q_draw dc_q_draw pm_q_draw cd_q_draw ct_q_draw : Value}
    {f_q_great : Addr} {od_q_great an_q_great : Option Addr} {sl_q_great : Array (Option Value)} {oc_q_great kV_q_great dc_q_great pm_q_great cd_q_great ct_q_great : Value}
    {f_q_integer : Addr} {od_q_integer an_q_integer : Option Addr} {sl_q_integer : Array (Option Value)} {oc_q_integer kV_q_integer dc_q_integer pm_q_integer cd_q_integer ct_q_integer : Value}
    {f_q_lowest : Addr} {od_q_lowest an_q_lowest : Option Addr} {sl_q_lowest : Array (Option Value)} {oc_q_lowest kV_q_lowest dc_q_lowest pm_q_lowest cd_q_lowest ct_q_lowest : Value}
    {f_q_right : Addr} {od_q_right an_q_right : Option Addr} {sl_q_right : Array (Option Value)} {oc_q_right kV_q_right dc_q_right pm_q_right cd_q_right ct_q_right : Value}
    {f_law : Addr} {od_law an_law : Option Addr} {sl_law : Array (Option Value)} {oc_law kV_law dc_law pm_law cd_law ct_law : Value}
    {C fI fR pR fS fP aD : Addr}
    {tD : Tok}
    {nD : Nat}
    {rR : List Value}
    {od_init an_init : Option Addr}
    {sl_init : Array (Option Value)}
    {oc_init kV_init dc_init pm_init cd_init ct_init : Value}
    {od_read an_read : Option Addr}
    {sl_read : Array (Option Value)}
    {oc_read kV_read dc_read pm_read cd_read ct_read : Value}
    {od_str an_str : Option Addr}
    {sl_str : Array (Option Value)}
    {oc_str kV_str dc_str pm_str cd_str ct_str : Value}
    {od_repr an_repr : Option Addr}
    {sl_repr : Array (Option Value)}
    {oc_repr kV_repr dc_repr pm_repr cd_repr ct_repr : Value}
    {ocD : Value}
    {odD : Option Addr}
    {slD : Array (Option Value)}
    (a_is_integer : PySem.W.nsIn K mainGlobals "is_integer" = some (some (.ref f_is_integer))) (l_is_integer : K.lookup f_is_integer = some ⟨oc_is_integer, od_is_integer, .func (PySem.W.fnOf "is_integer" "is_integer" (defArgs s_is_integer) (defBody s_is_integer) (defScope s_is_integer) .none kV_is_integer dc_is_integer pm_is_integer an_is_integer cd_is_integer ct_is_integer), sl_is_integer⟩) (c_is_integer : PySem.W.codeIn K cd_is_integer "is_integer" = true) (k_is_integer : PySem.W.keepIn K (.ref f_is_integer) = true)
    (a_is_whole_text : PySem.W.nsIn K mainGlobals "is_whole_text" = some (some (.ref f_is_whole_text))) (l_is_whole_text : K.lookup f_is_whole_text = some ⟨oc_is_whole_text, od_is_whole_text, .func (PySem.W.fnOf "is_whole_text" "is_whole_text" (defArgs s_is_whole_text) (defBody s_is_whole_text) (defScope s_is_whole_text) .none kV_is_whole_text dc_is_whole_text pm_is_whole_text an_is_whole_text cd_is_whole_text ct_is_whole_text), sl_is_whole_text⟩) (c_is_whole_text : PySem.W.codeIn K cd_is_whole_text "is_whole_text" = true) (k_is_whole_text : PySem.W.keepIn K (.ref f_is_whole_text) = true)
    (a_is_integer_text : PySem.W.nsIn K mainGlobals "is_integer_text" = some (some (.ref f_is_integer_text))) (l_is_integer_text : K.lookup f_is_integer_text = some ⟨oc_is_integer_text, od_is_integer_text, .func (PySem.W.fnOf "is_integer_text" "is_integer_text" (defArgs s_is_integer_text) (defBody s_is_integer_text) (defScope s_is_integer_text) .none kV_is_integer_text dc_is_integer_text pm_is_integer_text an_is_integer_text cd_is_integer_text ct_is_integer_text), sl_is_integer_text⟩) (c_is_integer_text : PySem.W.codeIn K cd_is_integer_text "is_integer_text" = true) (k_is_integer_text : PySem.W.keepIn K (.ref f_is_integer_text) = true)
    (a__is_ratio_text : PySem.W.nsIn K mainGlobals "_is_ratio_text" = some (some (.ref f__is_ratio_text))) (l__is_ratio_text : K.lookup f__is_ratio_text = some ⟨oc__is_ratio_text, od__is_ratio_text, .func (PySem.W.fnOf "_is_ratio_text" "_is_ratio_text" (defArgs s__is_ratio_text) (defBody s__is_ratio_text) (defScope s__is_ratio_text) .none kV__is_ratio_text dc__is_ratio_text pm__is_ratio_text an__is_ratio_text cd__is_ratio_text ct__is_ratio_text), sl__is_ratio_text⟩) (c__is_ratio_text : PySem.W.codeIn K cd__is_ratio_text "_is_ratio_text" = true) (k__is_ratio_text : PySem.W.keepIn K (.ref f__is_ratio_text) = true)
    (a_q_purse : PySem.W.nsIn K mainGlobals "_law_purse" = some (some (.ref f_q_purse))) (l_q_purse : K.lookup f_q_purse = some ⟨oc_q_purse, od_q_purse, .func (PySem.W.fnOf "_law_purse" "_law_purse" (defArgs s_q_purse) (defBody s_q_purse) (defScope s_q_purse) .none kV_q_purse dc_q_purse pm_q_purse an_q_purse cd_q_purse ct_q_purse), sl_q_purse⟩) (c_q_purse : PySem.W.codeIn K cd_q_purse "_law_purse" = true) (k_q_purse : PySem.W.keepIn K (.ref f_q_purse) = true)
    (a_q_draw : PySem.W.nsIn K mainGlobals "_law_draw" = some (some (.ref f_q_draw))) (l_q_draw : K.lookup f_q_draw = some ⟨oc_q_draw, od_q_draw, .func (PySem.W.fnOf "_law_draw" "_law_draw" (defArgs s_q_draw) (defBody s_q_draw) (defScope s_q_draw) .none kV_q_draw dc_q_draw pm_q_draw an_q_draw cd_q_draw ct_q_draw), sl_q_draw⟩) (c_q_draw : PySem.W.codeIn K cd_q_draw "_law_draw" = true) (k_q_draw : PySem.W.keepIn K (.ref f_q_draw) = true)
    (a_q_great : PySem.W.nsIn K mainGlobals "_law_great" = some (some (.ref f_q_great))) (l_q_great : K.lookup f_q_great = some ⟨oc_q_great, od_q_great, .func (PySem.W.fnOf "_law_great" "_law_great" (defArgs s_q_great) (defBody s_q_great) (defScope s_q_great) .none kV_q_great dc_q_great pm_q_great an_q_great cd_q_great ct_q_great), sl_q_great⟩) (c_q_great : PySem.W.codeIn K cd_q_great "_law_great" = true) (k_q_great : PySem.W.keepIn K (.ref f_q_great) = true)
    (a_q_integer : PySem.W.nsIn K mainGlobals "_law_integer" = some (some (.ref f_q_integer))) (l_q_integer : K.lookup f_q_integer = some ⟨oc_q_integer, od_q_integer, .func (PySem.W.fnOf "_law_integer" "_law_integer" (defArgs s_q_integer) (defBody s_q_integer) (defScope s_q_integer) .none kV_q_integer dc_q_integer pm_q_integer an_q_integer cd_q_integer ct_q_integer), sl_q_integer⟩) (c_q_integer : PySem.W.codeIn K cd_q_integer "_law_integer" = true) (k_q_integer : PySem.W.keepIn K (.ref f_q_integer) = true)
    (a_q_lowest : PySem.W.nsIn K mainGlobals "_law_lowest" = some (some (.ref f_q_lowest))) (l_q_lowest : K.lookup f_q_lowest = some ⟨oc_q_lowest, od_q_lowest, .func (PySem.W.fnOf "_law_lowest" "_law_lowest" (defArgs s_q_lowest) (defBody s_q_lowest) (defScope s_q_lowest) .none kV_q_lowest dc_q_lowest pm_q_lowest an_q_lowest cd_q_lowest ct_q_lowest), sl_q_lowest⟩) (c_q_lowest : PySem.W.codeIn K cd_q_lowest "_law_lowest" = true) (k_q_lowest : PySem.W.keepIn K (.ref f_q_lowest) = true)
    (a_q_right : PySem.W.nsIn K mainGlobals "_law_right" = some (some (.ref f_q_right))) (l_q_right : K.lookup f_q_right = some ⟨oc_q_right, od_q_right, .func (PySem.W.fnOf "_law_right" "_law_right" (defArgs s_q_right) (defBody s_q_right) (defScope s_q_right) .none kV_q_right dc_q_right pm_q_right an_q_right cd_q_right ct_q_right), sl_q_right⟩) (c_q_right : PySem.W.codeIn K cd_q_right "_law_right" = true) (k_q_right : PySem.W.keepIn K (.ref f_q_right) = true)
    (a_law : PySem.W.nsIn K mainGlobals "law" = some (some (.ref f_law))) (l_law : K.lookup f_law = some ⟨oc_law, od_law, .func (PySem.W.fnOf "law" "law" (defArgs s_law) (defBody s_law) (defScope s_law) .none kV_law dc_law pm_law an_law cd_law ct_law), sl_law⟩) (c_law : PySem.W.codeIn K cd_law "law" = true) (k_law : PySem.W.keepIn K (.ref f_law) = true)
    (y_isinstance : PySem.W.nsIn K mainGlobals "isinstance" = some none)
    (y_int : PySem.W.nsIn K mainGlobals "int" = some none)
    (y_bool : PySem.W.nsIn K mainGlobals "bool" = some none)
    (y_str : PySem.W.nsIn K mainGlobals "str" = some none)
    (y_len : PySem.W.nsIn K mainGlobals "len" = some none)
    (y_range : PySem.W.nsIn K mainGlobals "range" = some none)
    (y_abs : PySem.W.nsIn K mainGlobals "abs" = some none)
    (y_divmod : PySem.W.nsIn K mainGlobals "divmod" = some none)
    (y_repr : PySem.W.nsIn K mainGlobals "repr" = some none)
    (y_max : PySem.W.nsIn K mainGlobals "max" = some none)
    (y_min : PySem.W.nsIn K mainGlobals "min" = some none)
    (uR : PySem.W.nsIn K mainGlobals "Ratio" = some (some (.ref C)))
    (uG : PySem.W.nsIn K mainGlobals "gcd" = some (some (.builtin "math.gcd")))
    (pg : PySem.W.plainGet K C Str.empty = true)
    (hd : PySem.W.hasDictIn K C = true)
    (po : PySem.W.plainOver K C = true)
    (sa : PySem.W.findIn K (.ref C) "__setattr__" = some (some (.builtin "object.__setattr__")))
    (nT : PySem.W.findIn K (.ref C) "top" = some none)
    (nB : PySem.W.findIn K (.ref C) "bottom" = some none)
    (nF : PySem.W.findIn K (.ref C) "floor" = some none)
    (mk : PySem.W.makesIn K C = true)
    (ii : PySem.W.findIn K (.ref C) "__init__" = some (some (.ref fI)))
    (fn : PySem.W.isFn K (.ref fI) = true)
    (kC : PySem.W.keepIn K (.ref C) = true)
    (l_init : K.lookup fI = some ⟨oc_init, od_init, .func (PySem.W.fnOf "__init__" "Ratio.__init__" (defArgs s_Ratio___init__) (defBody s_Ratio___init__) (defScope s_Ratio___init__) (.ref aD) kV_init dc_init pm_init an_init cd_init ct_init), sl_init⟩)
    (c_init : PySem.W.codeIn K cd_init "Ratio.__init__" = true)
    (k_init : PySem.W.keepIn K (.ref fI) = true)
    (lD : K.lookup aD = some ⟨ocD, odD, .seq #[.int 1 tD] nD, slD⟩)
    (rd : PySem.W.readsIn K C (.type "type") = true)
    (sg : PySem.W.specialIn K (.ref C) "__getattribute__" = some (some (.builtin "type.__getattribute__")))
    (fc : PySem.W.findCls K (.ref C) (.type "type") "read" = some (.get (.builtin "classmethod.__get__") (.ref pR) .none (.ref C)))
    (rc : PySem.W.recIn K pR "classmethod" = some (.ref fR :: rR))
    (fin : PySem.W.fnIn K fR = true)
    (l_read : K.lookup fR = some ⟨oc_read, od_read, .func (PySem.W.fnOf "read" "Ratio.read" (defArgs s_Ratio_read) (defBody s_Ratio_read) (defScope s_Ratio_read) .none kV_read dc_read pm_read an_read cd_read ct_read), sl_read⟩)
    (c_read : PySem.W.codeIn K cd_read "Ratio.read" = true)
    (k_read : PySem.W.keepIn K (.ref fR) = true)
    (hs : PySem.W.findIn K (.ref C) "__str__" = some (some (.ref fS)))
    (hsf : PySem.W.isFn K (.ref fS) = true)
    (l_str : K.lookup fS = some ⟨oc_str, od_str, .func (PySem.W.fnOf "__str__" "Ratio.__str__" (defArgs s_Ratio___str__) (defBody s_Ratio___str__) (defScope s_Ratio___str__) .none kV_str dc_str pm_str an_str cd_str ct_str), sl_str⟩)
    (c_str : PySem.W.codeIn K cd_str "Ratio.__str__" = true)
    (k_str : PySem.W.keepIn K (.ref fS) = true)
    (hr : PySem.W.findIn K (.ref C) "__repr__" = some (some (.ref fP)))
    (hrf : PySem.W.isFn K (.ref fP) = true)
    (l_repr : K.lookup fP = some ⟨oc_repr, od_repr, .func (PySem.W.fnOf "__repr__" "Ratio.__repr__" (defArgs s_Ratio___repr__) (defBody s_Ratio___repr__) (defScope s_Ratio___repr__) .none kV_repr dc_repr pm_repr an_repr cd_repr ct_repr), sl_repr⟩)
    (c_repr : PySem.W.codeIn K cd_repr "Ratio.__repr__" = true)
    (k_repr : PySem.W.keepIn K (.ref fP) = true)
    (ha : PySem.W.findIn K (.ref C) "__class__" = some (some (.builtin "object.__class__")))
    (hn : PySem.W.specialIn K (.builtin "object.__class__") "__get__" = some (some (.builtin "getset_descriptor.__get__")))
    (ht : PySem.W.takesIn K (.builtin "object.__class__") = some true)
    (hm : PySem.W.mroIn K C (.type "object") = some true)
    (kCC : PySem.W.kitOne K (.ref C) (.ref C) = some true) :
    ∃ fd : FuncData, (∀ (s : Shared) (v : Value), BindsTo s fd ⟨[v], []⟩ [("_law_script", v)]) ∧ ∀ base : Heap, K.In base → base.Ns mainGlobals mg → FnG l.prog w K mg base CX0 7 fa fd ["_law_script"] (spLaw K) := by
  have e := hfa.symm.trans (PySem.W.mg_of X G a_law)
  cases e
  let T : Txt K mg := {
    z_isinstance := PySem.W.mg_none_of X G y_isinstance
    z_int := PySem.W.mg_none_of X G y_int
    z_bool := PySem.W.mg_none_of X G y_bool
    z_str := PySem.W.mg_none_of X G y_str
    z_len := PySem.W.mg_none_of X G y_len
    z_range := PySem.W.mg_none_of X G y_range
    z_abs := PySem.W.mg_none_of X G y_abs
    z_divmod := PySem.W.mg_none_of X G y_divmod
    z_repr := PySem.W.mg_none_of X G y_repr
    z_max := PySem.W.mg_none_of X G y_max
    z_min := PySem.W.mg_none_of X G y_min
    a_is_integer := f_is_integer
    fd_is_integer := _
    g_is_integer := PySem.W.mg_of X G a_is_integer
    F_is_integer := fun_mk (st := s_is_integer) l_is_integer c_is_integer k_is_integer
    a_is_whole_text := f_is_whole_text
    fd_is_whole_text := _
    g_is_whole_text := PySem.W.mg_of X G a_is_whole_text
    F_is_whole_text := fun_mk (st := s_is_whole_text) l_is_whole_text c_is_whole_text k_is_whole_text
    a_is_integer_text := f_is_integer_text
    fd_is_integer_text := _
    g_is_integer_text := PySem.W.mg_of X G a_is_integer_text
    F_is_integer_text := fun_mk (st := s_is_integer_text) l_is_integer_text c_is_integer_text k_is_integer_text
    a__is_ratio_text := f__is_ratio_text
    fd__is_ratio_text := _
    g__is_ratio_text := PySem.W.mg_of X G a__is_ratio_text
    F__is_ratio_text := fun_mk (st := s__is_ratio_text) l__is_ratio_text c__is_ratio_text k__is_ratio_text
    a_q_purse := f_q_purse
    fd_q_purse := _
    g_q_purse := PySem.W.mg_of X G a_q_purse
    F_q_purse := fun_mk (st := s_q_purse) l_q_purse c_q_purse k_q_purse
    a_q_draw := f_q_draw
    fd_q_draw := _
    g_q_draw := PySem.W.mg_of X G a_q_draw
    F_q_draw := fun_mk (st := s_q_draw) l_q_draw c_q_draw k_q_draw
    a_q_great := f_q_great
    fd_q_great := _
    g_q_great := PySem.W.mg_of X G a_q_great
    F_q_great := fun_mk (st := s_q_great) l_q_great c_q_great k_q_great
    a_q_integer := f_q_integer
    fd_q_integer := _
    g_q_integer := PySem.W.mg_of X G a_q_integer
    F_q_integer := fun_mk (st := s_q_integer) l_q_integer c_q_integer k_q_integer
    a_q_lowest := f_q_lowest
    fd_q_lowest := _
    g_q_lowest := PySem.W.mg_of X G a_q_lowest
    F_q_lowest := fun_mk (st := s_q_lowest) l_q_lowest c_q_lowest k_q_lowest
    a_q_right := f_q_right
    fd_q_right := _
    g_q_right := PySem.W.mg_of X G a_q_right
    F_q_right := fun_mk (st := s_q_right) l_q_right c_q_right k_q_right
    a_law := fa
    fd_law := _
    F_law := fun_mk (st := s_law) l_law c_law k_law
    C := C
    mc := .type "type"
    g_Ratio := PySem.W.mg_of X G uR
    g_gcd := PySem.W.mg_of X G uG
    cl := ⟨pg, hd, po, sa⟩
    nT := nT
    nB := nB
    nF := nF
    a_Ratio___init__ := fI
    fd_Ratio___init__ := _
    F_Ratio___init__ := ⟨⟨_, _, .ref aD, _, _, _, _, _, _, _, rfl, l_init, c_init, .inr ⟨by simp, aD, _, [.int 1 tD], nD, rfl, lD, rfl, .cons ⟨tD, rfl⟩ .nil⟩, .inl rfl⟩, k_init⟩
    a_Ratio_read := fR
    fd_Ratio_read := _
    F_Ratio_read := fun_mk (st := s_Ratio_read) l_read c_read k_read
    a_Ratio___str__ := fS
    fd_Ratio___str__ := _
    F_Ratio___str__ := fun_mk (st := s_Ratio___str__) l_str c_str k_str
    a_Ratio___repr__ := fP
    fd_Ratio___repr__ := _
    F_Ratio___repr__ := fun_mk (st := s_Ratio___repr__) l_repr c_repr k_repr
    mkR := ⟨mk, ii, fn, kC⟩
    hs := hs
    hsf := hsf
    hr := hr
    hrf := hrf
    crd := ⟨rd, sg⟩
    pR := pR
    cmt := ⟨fc, ⟨rR, rc⟩, fin⟩
    ha := ha
    hn := hn
    ht := ht
    hm := hm
    kCC := kCC
  }
  exact ⟨T.fd_law, fun s v => .of_eq rfl, fun base _ _ => FnG.ofOk (ok_law T)⟩
end K01
open PySem PySem.W PyProof.Rows
set_option maxHeartbeats 0 in
theorem PySem.Challenge.cw_drawclaims_k01_ratios_in_lowest_terms_holds : PySem.Challenge.rw_drawclaims_k01_ratios_in_lowest_terms.Holds := by
  w_on; o_law; k_head; (case hw => w_witness2)
  k_fill
  refine GX.walkG (l := PySem.Challenge.rw_drawclaims_k01_ratios_in_lowest_terms) (n := 63) (k := 7) (x := "_law_script") (CX := fun _ => L2.CX0) (sp := fun w => K01.spLaw _) rfl (by decide) rfl ⟨rfl, by decide, by decide⟩ (fun w h Y => PySem.W.kIn_of Y) ?F (fun _ _ a ns hl _ hS => ⟨a, ns, rfl, hS, hl, fun _ => rfl⟩) (fun _ _ _ _ _ h => h)
  case F =>
    intro w mg fa h KX G hmg
    refine' K01.all_mk KX G hmg ?a_is_integer ?l_is_integer ?c_is_integer ?k_is_integer ?a_is_whole_text ?l_is_whole_text ?c_is_whole_text ?k_is_whole_text ?a_is_integer_text ?l_is_integer_text ?c_is_integer_text ?k_is_integer_text ?a__is_ratio_text ?l__is_ratio_text ?c__is_ratio_text ?k__is_ratio_text ?a_q_purse ?l_q_purse ?c_q_purse ?k_q_purse ?a_q_draw ?l_q_draw ?c_q_draw ?k_q_draw ?a_q_great ?l_q_great ?c_q_great ?k_q_great ?a_q_integer ?l_q_integer ?c_q_integer ?k_q_integer ?a_q_lowest ?l_q_lowest ?c_q_lowest ?k_q_lowest ?a_q_right ?l_q_right ?c_q_right ?k_q_right ?a_law ?l_law ?c_law ?k_law ?y_isinstance ?y_int ?y_bool ?y_str ?y_len ?y_range ?y_abs ?y_divmod ?y_repr ?y_max ?y_min ?uR ?uG ?pg ?hd ?po ?sa ?nT ?nB ?nF ?mk ?ii ?fn ?kC ?l_init ?c_init ?k_init ?lD ?rd ?sg ?fc ?rc ?fin ?l_read ?c_read ?k_read ?hs ?hsf ?l_str ?c_str ?k_str ?hr ?hrf ?l_repr ?c_repr ?k_repr ?ha ?hn ?ht ?hm ?kCC
    (case a_is_integer => k_is)
    (case l_is_integer => k_is)
    (case c_is_integer => k_is)
    (case k_is_integer => k_is)
    (case a_is_whole_text => k_is)
    (case l_is_whole_text => k_is)
    (case c_is_whole_text => k_is)
    (case k_is_whole_text => k_is)
    (case a_is_integer_text => k_is)
    (case l_is_integer_text => k_is)
    (case c_is_integer_text => k_is)
    (case k_is_integer_text => k_is)
    (case a__is_ratio_text => k_is)
    (case l__is_ratio_text => k_is)
    (case c__is_ratio_text => k_is)
    (case k__is_ratio_text => k_is)
    (case a_q_purse => k_is)
    (case l_q_purse => k_is)
    (case c_q_purse => k_is)
    (case k_q_purse => k_is)
    (case a_q_draw => k_is)
    (case l_q_draw => k_is)
    (case c_q_draw => k_is)
    (case k_q_draw => k_is)
    (case a_q_great => k_is)
    (case l_q_great => k_is)
    (case c_q_great => k_is)
    (case k_q_great => k_is)
    (case a_q_integer => k_is)
    (case l_q_integer => k_is)
    (case c_q_integer => k_is)
    (case k_q_integer => k_is)
    (case a_q_lowest => k_is)
    (case l_q_lowest => k_is)
    (case c_q_lowest => k_is)
    (case k_q_lowest => k_is)
    (case a_q_right => k_is)
    (case l_q_right => k_is)
    (case c_q_right => k_is)
    (case k_q_right => k_is)
    (case a_law => k_is)
    (case l_law => k_is)
    (case c_law => k_is)
    (case k_law => k_is)
    (case y_isinstance => k_is)
    (case y_int => k_is)
    (case y_bool => k_is)
    (case y_str => k_is)
    (case y_len => k_is)
    (case y_range => k_is)
    (case y_abs => k_is)
    (case y_divmod => k_is)
    (case y_repr => k_is)
    (case y_max => k_is)
    (case y_min => k_is)
    (case uR => k_is)
    (case uG => k_is)
    (case pg => k_is)
    (case hd => k_is)
    (case po => k_is)
    (case sa => k_is)
    (case nT => k_is)
    (case nB => k_is)
    (case nF => k_is)
    (case mk => k_is)
    (case ii => k_is)
    (case fn => k_is)
    (case kC => k_is)
    (case l_init => k_is)
    (case c_init => k_is)
    (case k_init => k_is)
    (case lD => k_is)
    (case rd => k_is)
    (case sg => k_is)
    (case fc => k_is)
    (case rc => k_is)
    (case fin => k_is)
    (case l_read => k_is)
    (case c_read => k_is)
    (case k_read => k_is)
    (case hs => k_is)
    (case hsf => k_is)
    (case l_str => k_is)
    (case c_str => k_is)
    (case k_str => k_is)
    (case hr => k_is)
    (case hrf => k_is)
    (case l_repr => k_is)
    (case c_repr => k_is)
    (case k_repr => k_is)
    (case ha => k_is)
    (case hn => k_is)
    (case ht => k_is)
    (case hm => k_is)
    (case kCC => first | rfl | k_is)
