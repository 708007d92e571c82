import PyProof.Rows.All
import Wide.All
import OpenK.AllK
import Wide.FinOn
import HandS.ForExc
import HandS.Ends
import HandS.Comp
import HandS.IsInst
import HandS.Wide
import HandS.WideBits
import HandS.Defaults
import HandS.ClsMeth
import HandS.MakeKwOnly
import KE.KFmtOwn
import HandS.ExcIs
import HandS.ExcInit
import HandS.ExcField
import HandS.Text
import HandS.StrMore
import PyProof.Rows.StrDigitsNeg
import PyProof.EqKinds
import PyProof.NeKinds
import KE.KOpsOwn
import HandS.Gcd
import HandS.FStr
import HandS.List
import PySem.Challenge.RW_drawclaims_k02_whole_sums_and_products_o
set_option Elab.async false
set_option linter.all false
set_option maxRecDepth 100000
set_option maxHeartbeats 4000000
/-! Promises of defs that are called where no repr is under way (the list of repr guards around is empty), and what stands on them. -/
namespace GX
open PySem PySem.Spec PyProof.Rows L2

/-- a def's promise, kept where the guards around are known to be none -/
structure FnG (P : Program) (w : World) (K : PySem.W.Frag) (mg : Str → Option Value) (base : Heap) (CX : CXT)
    (k : Nat) (f : Addr) (fd : FuncData) (ps : List Str) (sp : Sp) : Prop where
  ln : ∀ (vs : List V) (H : Hp) (Q : VK) (E : XK), sp vs H Q E → vs.length = ps.length
  go : ∀ (A : Around) (outer : List Env) (s : Shared) (H : Hp) (args : Args) (us : List Value) (vs : List V) (Q : VK) (E : XK),
    A.guards = some [] → Room k A → Env0 P w K mg base A outer s H → BindsTo s fd args (ps.zip us) → Vals vs us → sp vs H Q E →
    codeAny (model P w) A (.call (.ref f) args) (CR CX outer P w H s Q E) s

section
variable {P : Program} {w : World} {K : PySem.W.Frag} {mg : Str → Option Value} {base : Heap} {CX : CXT}
  {k j : Nat} {f : Addr} {fd : FuncData} {ps N : List Str} {sp : Sp}

theorem FnG.ofOk (F : FnOk P w K mg base CX k f fd ps sp) : FnG P w K mg base CX k f fd ps sp :=
  ⟨F.len, fun A outer s H args us vs Q E _ hr he hb hv hs => F.run A outer s H args us vs Q E hr he hb hv hs⟩
theorem FnG.mono (F : FnG P w K mg base CX j f fd ps sp) (h : j ≤ k) : FnG P w K mg base CX k f fd ps sp :=
  ⟨F.ln, fun A outer s H args us vs Q E hg hr => F.go A outer s H args us vs Q E hg (hr.mono h)⟩

/-- the def's body, read where the guards are none -/
theorem fnG {x qual : Str} {st : Stmt} (F : Fun K x qual st f fd) (S : FnScope N ps (defScope st)) (len : ∀ (vs : List V) (H : Hp) (Q : VK) (E : XK), sp vs H Q E → vs.length = ps.length)
    (body : ∀ (cdv : Value) (A : Around) (outer : List Env) (s : Shared) (H : Hp) (vs : List V) (Q : VK) (E : XK), A.guards = some [] →
      Room k (A.deeper (envOfC qual (defScope st) s.heap.objs.size f cdv)) → sp vs H Q E →
      ∃ t, PSs (cxOf CX P w K mg base N qual (defScope st) f cdv A outer s H E) (defBody st) t ∧
        t { nx := fun _ H' => Q .non H', rt := Q } (start N vs) H) : FnG P w K mg base CX (k + 1) f fd ps sp := by
  obtain ⟨oc, od, kV, doc, pm, an, cdv, ct, osl, rfl, lk, hcd⟩ := F.ex
  constructor
  · exact len
  intro A outer s H args us vs Q E hG hr e0 hb rv hsp
  have KX : K.In s.heap := e0.mod.kin.keeps (fun b o e => (e0.bs b o e).1)
  have lim : s.heap.NoLimit := e0.mod.nolimit.keeps (fun b o e => (e0.bs b o e).1)
  obtain ⟨t, ht, hq⟩ := body cdv A outer s H vs Q E hG (hr.deeper _) hsp
  have kinds : ∀ y ∈ ps.zip us, (defScope st).names.lookup y.1 = some .local ∨
      ((defScope st).names.lookup y.1 = some .cell ∧ ((cellsFrom (s.heap.objs.size + 1) (defScope st).names []).lookup y.1).isSome = true) := by
    rintro ⟨n, v⟩ hy
    have hn := (List.of_mem_zip hy).1
    cases S.par n hn with
    | inl q => exact Or.inl q
    | inr q => exact Or.inr ⟨q, PySem.W.cellsFrom_some _ _ _ (Or.inl q)⟩
  refine codeAny_call_function hr.depth (KX _ _ lk) rfl S.co S.gen rfl (PySem.W.codeRec_of KX hcd) (hb _ _ _ _ ?_)
  refine wpAny_newFunctionEnv_cells S.kind kinds ?_
  rintro env rfl s1 x
  refine ⟨lim.keeps x.toInCall.keep, codeAny_func ?_⟩
  have I := inv_start (CX := CX) (E := E) S hr.hd e0 (len _ _ _ _ hsp) rv x
  refine wpAny_mono (ht.run [] s1 (start N vs) H _ I hq) ?_ (fun e s' z => z)
  intro fl s' z
  match fl, z with
  | .ret u, z =>
    obtain ⟨v, σ', H', J, r', q⟩ := z
    exact ⟨v, H', J.os, J.bare, J.base, J.hok, r', q⟩
  | .next, z =>
    obtain ⟨σ', H', J, q⟩ := z
    exact ⟨V.non, H', J.os, J.bare, J.base, J.hok, rfl, q⟩
  | .brk, z =>
    obtain ⟨_, _, _, q⟩ := z
    exact q.elim
  | .cont, z =>
    obtain ⟨_, _, _, q⟩ := z
    exact q.elim
/-- .. of which no exception leaves -/
theorem fnG0 {x qual : Str} {st : Stmt} (F : Fun K x qual st f fd) (S : FnScope N ps (defScope st)) (len : ∀ (vs : List V) (H : Hp) (Q : VK) (E : XK), sp vs H Q E → vs.length = ps.length)
    (body : ∀ (cdv : Value) (A : Around) (outer : List Env) (s : Shared) (H : Hp) (vs : List V) (Q : VK) (E : XK), A.guards = some [] →
      Room k (A.deeper (envOfC qual (defScope st) s.heap.objs.size f cdv)) → sp vs H Q E →
      ∃ t, PSs (cxOf CX0 P w K mg base N qual (defScope st) f cdv A outer s H E).nox (defBody st) t ∧
        t { nx := fun _ H' => Q .non H', rt := Q } (start N vs) H) : FnG P w K mg base CX0 (k + 1) f fd ps sp :=
  fnG F S len fun cdv A outer s H vs Q E hG hr h =>
    let ⟨t, a, b⟩ := body cdv A outer s H vs Q E hG hr h
    ⟨t, a.nox, b⟩
end

section
variable {X : Cx} {CX : CXT} {k : Nat} {f : Addr} {fd : FuncData} {ps : List Str} {sp : Sp} {E : XK} {x : Str} {p pos : Pos} {e : Expr} {es : List Expr} {t : TA}
/-- f(e, ..) of such a def -/
theorem pe_callG (hG : X.A.guards = some []) (F : FnG X.prog X.w X.K X.mg X.base CX k f fd ps sp) (hr : Room k X.A) (hg : Gl X x) (hm : X.mg x = some (.ref f))
    (hk : PySem.W.keepIn X.K (.ref f) = true) (hb : Binds X.K fd ps []) (hx : Passes CX X E) (ha : PA X (e :: es) t) (hdb : (x == ("__debug__" : Str)) = false := by decide)
    (he : starEach (e :: es) X.env = (false, eval e X.env) :: starEach es X.env := by rfl)
    (hpl : (backTo pos (starEach es X.env)).any (·.1) = false := by rfl) : PE X (.Call (.Name x p) (e :: es) [] pos) (tCall sp [] E t) := by
  constructor
  intro pins s σ H Q I h
  refine wpAny_Call_Name_kw (ld_glob I hg hm ?_ hdb)
  refine PySem.W.callWith_K (h₀ := X.base) I.ok.mod.kin hk (thn (ha.run pos pins s σ H _ I h) ?_) he hpl
  rintro us s1 ⟨vs, H1, I1, r, q⟩
  refine ⟨I1.kIn, ?_⟩
  rw [List.append_nil] at q
  have hl : us.length = ps.length := r.length.symm.trans (F.ln _ _ _ _ q)
  have bd := hb s1 us I1.kIn
  rw [List.append_nil] at bd
  refine wpAny_call (codeAny_mono (F.go _ _ _ _ _ _ _ _ _ hG hr I1.env0 (bd hl) r q) ?_)
  intro r' s' z
  match r', z with
  | .error e', z => exact hx pins σ H1 s1 e' s' I1 z
  | .ok (.ret u), z => exact I1.after z
  | .ok .next, z => exact z.elim
  | .ok .brk, z => exact z.elim
  | .ok .cont, z => exact z.elim
end
end GX

set_option Elab.async false
set_option linter.all false
set_option maxRecDepth 100000
set_option maxHeartbeats 4000000
namespace GX
open PySem PySem.Spec PyProof.Rows L2
/-! ### what kind of value -/
def isI : V → Bool
  | .int _ => true
  | _ => false
/-- the values that this law uses, and what isinstance says of them -/
structure Pl (K : PySem.W.Frag) (H : Hp) (x : V) : Prop where
  ex : ∃ (n : String) (b c : Bool), TyX K H x (.type n) ∧ PySem.W.kitOne K (.type n) (.type "int") = some b ∧ PySem.W.kitOne K (.type n) (.type "bool") = some c ∧ (b && !c) = isI x
section
variable {K : PySem.W.Frag} {H H' : Hp}
theorem pl_non : Pl K H .non := ⟨"NoneType", false, false, .base .non, kit_ty (by decide +kernel), kit_ty (by decide +kernel), rfl⟩
theorem pl_bl (b : Bool) : Pl K H (.bl b) := ⟨"bool", true, true, .base (.bl b), kit_ty (by decide +kernel), kit_ty (by decide +kernel), rfl⟩
theorem pl_int (i : Int) : Pl K H (.int i) := ⟨"int", true, false, .base (.int i), kit_ty (by decide +kernel), kit_ty (by decide +kernel), rfl⟩
theorem pl_str (x : Str) : Pl K H (.str x) := ⟨"str", false, false, .base (.str x), kit_ty (by decide +kernel), kit_ty (by decide +kernel), rfl⟩
theorem pl_tup {a : Addr} {xs : List V} (h : H a = some (.tup xs)) : Pl K H (.ref a) := ⟨"tuple", false, false, .base (.tup h), kit_ty (by decide +kernel), kit_ty (by decide +kernel), rfl⟩
theorem pl_lst {a : Addr} {xs : List V} (h : H a = some (.lst xs)) : Pl K H (.ref a) := ⟨"list", false, false, .base (.lst h), kit_ty (by decide +kernel), kit_ty (by decide +kernel), rfl⟩
theorem pl_dK {a : Addr} {xs : List (Key × V)} (h : H a = some (.dK xs)) : Pl K H (.ref a) := ⟨"dict", false, false, .base (.dK h), kit_ty (by decide +kernel), kit_ty (by decide +kernel), rfl⟩
end
/-! ### heaps -/
/-- all but what stands at a is kept -/
def But (a : Addr) (H H' : Hp) : Prop := ∀ b o, b ≠ a → H b = some o → H' b = some o
theorem But.refl (a : Addr) (H : Hp) : But a H H := fun _ _ _ h => h
theorem But.trans {a : Addr} {H H1 H2 : Hp} (x : But a H H1) (y : But a H1 H2) : But a H H2 := fun b o n h => y b o n (x b o n h)
theorem But.same {a : Addr} {H H1 H2 : Hp} (x : But a H H1) (y : Same H1 H2) : But a H H2 := fun b o n h => y b o (x b o n h)
theorem But.of {a : Addr} {H H1 : Hp} (y : Same H H1) : But a H H1 := fun b o n h => y b o h
theorem But.set {a : Addr} {H H1 : Hp} {o : HO} (x : But a H H1) : But a H (upd H1 a o) := fun b u n h => by
  rw [upd_ne n]
  exact x b u n h
theorem same_new {H : Hp} {p : Addr} {o : HO} (h : H p = none) : Same H (upd H p o) := fun b x e => by
  rw [upd_ne (ne_of_none e h)]
  exact e
/-- a purse -/
def Bag (H : Hp) (a : Addr) : Prop := ∃ z g c : Int, H a = some (.lst [.int z, .int g, .int c]) ∧ 0 ≤ g
theorem Bag.keep {H H' : Hp} {a : Addr} (b : Bag H a) (s : Same H H') : Bag H' a := by
  obtain ⟨z, g, c, h, n⟩ := b
  exact ⟨z, g, c, s a _ h, n⟩
theorem tyx_mono {K : PySem.W.Frag} {H H' : Hp} {x : V} {t : Value} (s : Same H H') (h : TyX K H x t) : TyX K H' x t := by
  cases h with
  | base h =>
    refine .base ?_
    cases h with
    | non => exact .non
    | bl b => exact .bl b
    | int i => exact .int i
    | str x => exact .str x
    | flt x => exact .flt x
    | lst e => exact .lst (s _ _ e)
    | frz e => exact .frz (s _ _ e)
    | tup e => exact .tup (s _ _ e)
    | dK e => exact .dK (s _ _ e)
    | dT e => exact .dT (s _ _ e)
    | ins e c a n k m => exact .ins (s _ _ e) c a n k m
  | byt b => exact .byt b
  | set e => exact .set (s _ _ e)
  | kList e c => exact .kList e c
  | kTuple e c => exact .kTuple e c
  | kDict e c => exact .kDict e c
  | fTuple e => exact .fTuple (s _ _ e)
  | fDict e => exact .fDict (s _ _ e)
theorem Pl.keep {K : PySem.W.Frag} {H H' : Hp} {x : V} (p : Pl K H x) (s : Same H H') : Pl K H' x := by
  obtain ⟨n, b, c, ty, k1, k2, e⟩ := p
  exact ⟨n, b, c, tyx_mono s ty, k1, k2, e⟩
theorem Bag.ne {H : Hp} {a p : Addr} (b : Bag H a) (h : H p = none) : p ≠ a := by
  obtain ⟨z, g, c, e, _⟩ := b
  exact (ne_of_none e h).symm
theorem room_u {Z : Around} {k : Nat} (h : Room k Z) : Z.units + 110 < cLine := by
  have := h.un
  omega
theorem cut_ints {ns : List Int} {lo hi : Option Int} {i : Nat} {x : V} (h : (cutV (ns.map V.int) lo hi)[i]? = some x) : ∃ z, x = .int z := by
  have m := List.mem_of_getElem? h
  have m2 := List.mem_of_mem_drop (List.mem_of_mem_take (show x ∈ ((ns.map V.int).drop _).take _ from m))
  obtain ⟨z, _, e⟩ := List.mem_map.mp m2
  exact ⟨z, e.symm⟩
def spIsI (K : PySem.W.Frag) : Sp := fun vs H Q _ => ∃ x, vs = [x] ∧ Pl K H x ∧ Q (.bl (isI x)) H
def spTake : Sp := fun vs H Q _ => ∃ (a : Addr) (m : Int), vs = [.ref a, .int m] ∧ Bag H a ∧ 0 < m ∧ m.natAbs.log2 < 9000 ∧
  ∀ r H', 0 ≤ r → r < m → Bag H' a → But a H H' → Q (.int r) H'
def spPurse (K : PySem.W.Frag) : Sp := fun vs H Q _ => ∃ (a : Addr) (ns : List Int) (k : Nat), vs = [.ref a, .int k] ∧ SqL K H a (ns.map V.int) ∧ ns.length ≤ 63 ∧ k ≤ 63 ∧
  ∀ p H', H p = none → Same H H' → Bag H' p → Q (.ref p) H'
end GX

set_option Elab.async false
set_option linter.all false
set_option maxRecDepth 100000
set_option maxHeartbeats 4000000
/-! str(o), repr(o) by the class's own methods; cls(e, ..) in a class method. -/
namespace PySem.W
open PySem PySem.Calls PyProof.Rows
section
variable {prog : Program} {w : World} {A : Around} {E : Value → Shared → Prop} {s : Shared} {K : Frag} {x C f : Addr} {ox : Obj} {od : Option Obj}
open Builtin Builtin.Str in
theorem ox_str {Q : Value → Shared → Prop} (hu : A.in1.in1.units < cLine) (X : K.In s.heap) (I : InstAt s.heap x ox C od) (hs : findIn K (.ref C) "__str__" = some (some (.ref f))) (hf : isFn K (.ref f) = true)
    (h : wpAny (model prog w) A.in1.in1 (call (.ref f) [.ref x]) (StrBack Q) E s) : wpAny (model prog w) A (call (.type "str") [.ref x]) Q E s := by
  have inner : wpAny (model prog w) A.in1.in1 (PySem.Builtin.Str.strOf (.ref x)) (fun r s₁ => ∃ y u, r = .str y u ∧ Q r s₁) E s := by
    unfold PySem.Builtin.Str.strOf
    rw [show isExactStr (.ref x) = false from rfl]
    apply wpAny_bind (m := cRoomFor _ _)
    refine wpAny_cRoomFor hu (wpAny_bind (m := callSpecial? (.ref x) (Str.ofString "__str__")) (special_fn X I hs (beq_iff_eq.mp hf) ?_))
    refine wpAny_mono h ?_ (fun _ _ y => y)
    intro r s' z
    cases r <;> first | exact z.elim | exact wpAny_pure ⟨_, _, rfl, z⟩
  apply callType_codes (T := "str") (Bi := Builtin.«object.__init__») (Q₁ := fun r s₁ => ∃ y u, r = .str y u ∧ Q r s₁) PySem.F.called_str (PySem.F.typeCall_str_1 _) PySem.F.entry_object_init
  · apply codeAny_of_tree
    show wpAny _ A.in1.in1 (do checkBuiltinCall "str.__new__" ⟨[.type "str", .ref x], []⟩; again (.builtin "str.__new__" ⟨[.type "str", .ref x], []⟩)) _ _ s
    apply wpAny_bind
    refine wpAny_of_eq (PySem.F.newCall_str_1 _) (wpAny_pure ⟨plainId_quiet (by decide +kernel) _, codeAny_builtin PySem.F.entry_str_new ?_⟩)
    rw [Around.under_plainId (by decide +kernel) _, str_new_tree]
    apply wpAny_bind
    apply wpAny_pure
    apply wpAny_bind
    refine wpAny_of_eq isSubtype_str_str ?_
    exact wpAny_bind (wpAny_mono inner (fun r s₁ hr => wpAny_pure hr) (fun _ _ y => y))
  · rintro obj s₁ ⟨y, u, rfl, hq⟩
    have ty : s₁.TypeIs (.str y u) "str" := typeIs_str _ _ _
    exact ⟨ty, PySem.F.args_object_init_2 _ _, object_init_meets PySem.F.called_str.init.lookup PySem.F.called_str.made (by decide) prog w A.in1 _ s₁ ⟨ty, rfl, hq⟩⟩
end
end PySem.W
namespace OX
open PySem PySem.Spec PyProof.Rows L2
section
variable {X : Cx} {pins : List (Addr × Obj)} {σ : L2.St} {H : Hp} {s : Shared} {k : Nat} {f C : Addr} {fd : FuncData} {ps : List Str} {sp : Sp}
/-- a def is called where more stands around -/
theorem call_at {A' : Around} {us : List Value} {vs : List V} {Q : VK} (F : FnOk X.prog X.w X.K X.mg X.base CX0 k f fd ps sp) (hr : Room k A') (hA : A'.frames = some X.stack) (hb : Binds X.K fd ps [])
    (I : Inv X pins σ H s) (r : Vals vs us) (h : sp vs H Q E0) : wpAny (model X.prog X.w) A' (call (.ref f) us) (EP X pins σ Q) X.xe s := by
  have hl : us.length = ps.length := r.length.symm.trans (F.len _ _ _ _ h)
  have bd := hb s us I.kIn
  rw [List.append_nil] at bd
  have e := I.env0
  refine wpAny_call (codeAny_mono (F.run A' X.stack s H ⟨us, []⟩ us vs Q E0 hr ⟨hA, e.mod, e.bs, e.bsz, e.funs, e.frf, e.hok, e.bare⟩ (bd hl) r h) ?_)
  intro r' s' z
  match r', z with
  | .error e', z => exact z.elim
  | .ok (.ret u), z => exact I.after z
  | .ok .next, z => exact z.elim
  | .ok .brk, z => exact z.elim
  | .ok .cont, z => exact z.elim
def rOwnS (C : Addr) (sp : Sp) : List V → Hp → VK → Prop := fun xs H Q => ∃ (a dx : Addr) (fs : List (Str × V)), xs = [.ref a] ∧ H a = some (.ins C dx fs) ∧
  sp [.ref a] H (fun v H' => ∃ z, v = .str z ∧ Q (.str z) H') E0
theorem back_str {Q : VK} {v : Value} {s' : Shared} (h : EP X pins σ (fun v H' => ∃ z, v = .str z ∧ Q (.str z) H') v s') : PySem.W.StrBack (EP X pins σ Q) v s' := by
  obtain ⟨x, H', J, r, z, e, q⟩ := h
  subst e
  obtain ⟨t, e2⟩ := (show ∃ t, v = Value.str z t from r)
  subst e2
  exact ⟨.str z, H', J, ⟨t, rfl⟩, q⟩
/-- str(o) -/
theorem call_strO (hs : PySem.W.findIn X.K (.ref C) "__str__" = some (some (.ref f))) (hf : PySem.W.isFn X.K (.ref f) = true) (F : FnOk X.prog X.w X.K X.mg X.base CX0 k f fd ps sp)
    (hr : Room (k + 2) X.A) (hb : Binds X.K fd ps []) : CallR X (.type "str") (rOwnS C sp) := by
  intro pins s σ H xs us Q I r h
  obtain ⟨a, dx, fs, rfl, ea, q⟩ := h
  rw [Vals.ref1 r]
  obtain ⟨mA, O, _⟩ := ins_get I.hok ea
  obtain ⟨od, J, _⟩ := O.look
  have hA : X.A.in1.in1.frames = some X.stack := I.ok.frames
  exact PySem.W.ox_str (by have := hr.un; show X.A.units + 1 + 1 < cLine; omega) I.kIn J hs hf (wpAny_mono (call_at F (hr.in1.in1) hA hb I (show Vals [.ref a] [.ref a] from .cons rfl .nil) q) (fun _ _ z => back_str z) fun _ _ z => z)
/-- repr(o) -/
theorem call_reprO (hs : PySem.W.findIn X.K (.ref C) "__repr__" = some (some (.ref f))) (hf : PySem.W.isFn X.K (.ref f) = true) (F : FnOk X.prog X.w X.K X.mg X.base CX0 k f fd ps sp)
    (hr : Room (k + 1) X.A) (hb : Binds X.K fd ps []) : CallR X (.builtin "repr") (rOwnS C sp) := by
  intro pins s σ H xs us Q I r h
  obtain ⟨a, dx, fs, rfl, ea, q⟩ := h
  rw [Vals.ref1 r]
  obtain ⟨mA, O, _⟩ := ins_get I.hok ea
  obtain ⟨od, J, _⟩ := O.look
  obtain ⟨m, fr⟩ := I.fr
  have hA : X.A.in1.frames = some X.stack := I.ok.frames
  exact PySem.W.repr_K (by have := hr.un; show X.A.units + 1 < cLine; omega) fr I.ok.mod.kin J hs hf (wpAny_mono (call_at F hr.in1 hA hb I (show Vals [.ref a] [.ref a] from .cons rfl .nil) q) (fun _ _ z => back_str z) fun _ _ z => z)
end
section
variable {X : Cx} {CX : CXT} {k i : Nat} {f C : Addr} {fd : FuncData} {ps : List Str} {sp : Sp} {E : XK} {x : Str} {p pos : Pos} {e : Expr} {es : List Expr} {t : TA} {ds : List Value} {dvs : List V}
def tMakeL (i : Nat) (C : Addr) (sp : Sp) (dvs : List V) (E : XK) (t : TA) : TE := fun σ H Q => σ[i]? = some (some (.ref C)) ∧ tMake C sp dvs E t σ H Q
/-- x(e, ..), the local x the class at C -/
theorem pe_makeL (M : Mk X.K C f) (F : FnOk X.prog X.w X.K X.mg X.base CX k f fd ps sp) (hr : Room (k + 1) X.A) (hN : X.N[i]? = some x) (hv : Vis X.env.scope x) (hb : Binds X.K fd ps ds) (hd : Vals dvs ds) (hx : Passes CX X E)
    (ha : PA X (e :: es) t) (hdb : (x == ("__debug__" : Str)) = false := by decide) (hcd : (x == ("__classdict__" : Str)) = false := by decide)
    (he : starEach (e :: es) X.env = (false, eval e X.env) :: starEach es X.env := by rfl)
    (hpl : (backTo pos (starEach es X.env)).any (·.1) = false := by rfl) : PE X (.Call (.Name x p) (e :: es) [] pos) (tMakeL i C sp dvs E t) := by
  constructor
  rintro pins s σ H Q I ⟨hs, ht⟩
  have look := (pe_var (pos := p) hN hv hdb hcd).run pins s σ H (fun v H1 => v = .ref C ∧ H1 = H) I ⟨.ref C, hs, rfl, rfl⟩
  refine wpAny_Call_Name_kw (thn look ?_)
  rintro u s1 ⟨v, H1, I1, r1, e1, e2⟩
  subst e1
  subst e2
  have e3 : u = Value.ref C := r1
  subst e3
  refine PySem.W.callWith_K (h₀ := X.base) I.ok.mod.kin M.kp (thn (ha.run pos pins s1 σ H1 _ I1 ht) ?_) he hpl
  rintro us s2 ⟨vs, H2, I2, r, q⟩
  exact ⟨I2.kIn, run_make M F hr hb hd hx I2 r q⟩
end
end OX

set_option Elab.async false
set_option linter.all false
set_option maxRecDepth 100000
set_option maxHeartbeats 4000000
/-! The end of a law's row over a promise that wants the guards to be none. -/
namespace GX
open PySem PySem.Spec PyProof.Rows L2

/-- the script's place in an abstract heap: tracked and locked there, or an object of the top -/
structure At0 (K : PySem.W.Frag) (P : Program) (w : World) (h : Heap) (a : Addr) (ns : List Int) (H : Hp) : Prop where
  only : Only H
  sq : SqL K H a (ns.map V.int)
  ok : HOk P w H h
  one : ∀ b u, H b = some u → b = a
  out : ∀ u, H a = some u → K.lookup a = none

section
variable {P : Program} {w : World} {K : PySem.W.Frag} {mg mb : Str → Option Value} {CX : CXT} {k : Nat} {fa a : Addr} {fd : FuncData} {x : Str} {sp : Sp} {s₁ : Shared} {vs : List Value} {ns : List Int}

theorem at0_ex (KX : K.In s₁.heap) (ha : s₁.heap.get? a = some { cls := .type "list", data := .seq vs.toArray }) (hi : IntsAre vs ns) (hl : ns.length ≤ sizeLine) :
    ∃ H, At0 K P w s₁.heap a ns H := by
  have rv := vals_ints hi
  cases hk : K.lookup a with
  | some o =>
    have e := KX a o hk
    rw [ha] at e
    have e2 := Option.some.inj e
    subst e2
    refine ⟨fun _ => none, fun _ => Or.inl rfl, Or.inr ⟨_, vs.toArray, _, hk, rfl, rfl, rfl, ?_, ?_⟩, ?_, ?_, ?_⟩
    · rw [List.size_toArray, hi.length]
      exact hl
    · simpa using rv
    · intro b u z
      cases z
    · intro b u z
      cases z
    · intro u z
      cases z
  | none =>
    have look : ∀ (b : Addr) (y u : HO), (if b = a then some y else none) = some u → b = a := by
      intro b y u z
      by_cases q : b = a
      · exact q
      · rw [if_neg q] at z
        cases z
    refine ⟨fun b => if b = a then some (.frz { cls := .type "list", data := .seq vs.toArray } (.lst (ns.map V.int))) else none, ?_, Or.inl (Or.inr ⟨{ cls := .type "list", data := .seq vs.toArray }, if_pos rfl⟩), ?_, ?_, fun _ _ => hk⟩
    · intro b
      by_cases q : b = a
      · exact Or.inr ⟨_, _, if_pos q⟩
      · exact Or.inl (if_neg q)
    · intro b u z
      have q := look b _ u z
      subst q
      have z2 : some (HO.frz { cls := .type "list", data := .seq vs.toArray } (.lst (ns.map V.int))) = some u := (if_pos rfl).symm.trans z
      cases z2
      refine ⟨ha, ?_, vs, _, rv, ha⟩
      rw [List.length_map]
      exact hl
    · intro b u z
      exact look b _ u z

theorem law_callG (KX : K.In s₁.heap) (hns : s₁.heap.Ns mainGlobals mg) (hb : s₁.heap.Ns builtinsNs mb) (hbb : ∀ y : Str, y ≠ "__name__" → mb y = bootBuiltins y) (hlim : s₁.heap.NoLimit) (hg : s₁.gens = #[])
    (ha : s₁.heap.get? a = some { cls := .type "list", data := .seq vs.toArray }) (hi : IntsAre vs ns) (hl : ns.length ≤ sizeLine) (hr : Room k callerA)
    (F : ∀ base : Heap, K.In base → base.Ns mainGlobals mg → FnG P w K mg base CX k fa fd [x] sp) (bd : ∀ (s : Shared) (u : Value), BindsTo s fd ⟨[u], []⟩ [(x, u)])
    (hsp : ∀ H : Hp, Only H → SqL K H a (ns.map V.int) → sp [.ref a] H (fun v _ => v = .bl true) fun _ _ _ => False) (hCX : ∀ H e s', CX [] H s₁ (fun _ _ _ => False) e s' → False) :
    codeAny (model P w) callerA (.call (.ref fa) ⟨[.ref a], []⟩) (fun r s' => r = .ok (.ret (.bool true)) ∧ OldK s₁.heap s'.heap ∧ s'.os = s₁.os ∧ AllBare s'.gens) s₁ := by
  obtain ⟨H, T⟩ := at0_ex (P := P) (w := w) KX ha hi hl
  have dict0 : ∀ {b : Addr} {o : Obj} {es : Array DictEntry} {ep : Nat}, s₁.heap.get? b = some o → o.data = .dict es ep → H b = none := by
    intro b o es ep e d
    cases q : H b with
    | none => rfl
    | some u =>
      have e' := T.one b u q
      subst e'
      rw [ha] at e
      cases e
      cases d
  have nsB : ∀ {b : Addr} {m : Str → Option Value}, s₁.heap.Ns b m → (hidT s₁.heap H).Ns b m := by
    rintro b m ⟨o, es, ep, e, d, r⟩
    exact ⟨o, es, ep, hidT_get e (dict0 e d), d, r⟩
  have kinB : K.In (hidT s₁.heap H) := by
    intro b o e
    refine hidT_get (KX b o e) ?_
    cases q : H b with
    | none => rfl
    | some u =>
      have e' := T.one b u q
      subst e'
      rw [T.out u q] at e
      cases e
  have hM : Mod K mg (hidT s₁.heap H) := by
    obtain ⟨mc, h1, h2⟩ := hlim
    exact ⟨kinB, nsB hns, ⟨mb, nsB hb, hbb⟩, ⟨mc, nsB h1, h2⟩⟩
  have e0 : Env0 P w K mg (hidT s₁.heap H) callerA [] s₁ H :=
    ⟨rfl, hM, fun b o e => of_hidT e, Nat.le_of_eq (hidT_size _ _), trivial, fun b z => absurd (show b ∈ ([] : List Addr) from z) (by simp), T.ok, .of_eq hg⟩
  have run := (F _ kinB (nsB hns)).go callerA [] s₁ H ⟨[.ref a], []⟩ [.ref a] [.ref a] _ _ rfl hr e0 (bd s₁ (.ref a)) (.cons rfl .nil) (hsp H T.only T.sq)
  refine codeAny_mono run ?_
  intro r s' z
  match r, z with
  | .error e, z => exact (hCX H e s' z).elim
  | .ok .next, z => exact z.elim
  | .ok .brk, z => exact z.elim
  | .ok .cont, z => exact z.elim
  | .ok (.ret u), z =>
    obtain ⟨v, H', os, bare, un, ok2, r', q⟩ := z
    have q' : v = .bl true := q
    subst q'
    have eu : u = Value.bool true := r'
    subst eu
    refine ⟨rfl, OldK.of_keep ?_, os, bare⟩
    intro b o e
    cases q2 : H b with
    | none => exact un.keep b o e q2 (fun y => absurd (show b ∈ ([] : List Addr) from y) (by simp)) (by simp)
    | some u =>
      cases T.only b with
      | inl y =>
        rw [q2] at y
        cases y
      | inr y =>
        obtain ⟨ob, xs, y⟩ := y
        have y2 := un.frzs b ob _ y
        have g1 := (T.ok b _ y).1
        have g2 := (ok2 b _ y2).1
        rw [e] at g1
        cases g1
        exact g2
end

/-- the goal behind the head, from such a promise of the law -/
theorem walkG {l : PySem.W.OpenLaw} {n k : Nat} {q : Program} {loose : List Str} {XP : (Str → Option Value) → Heap → Prop} {YP : World → Heap → Prop} {d : DefRec} {K : Params → PySem.W.Frag} {CX : World → CXT} {sp : World → Sp} {x : Str}
    (hn : l.most = some n) (hn2 : n ≤ sizeLine) (hdf : d.params.defaults = []) (hr : Room k callerA) (hY : ∀ (w : World) (h : Heap), YP w h → (K w.params).In h)
    (F : ∀ (w : World) (mg : Str → Option Value) (fa : Addr) (h : Heap), (K w.params).In h → h.Ns mainGlobals mg → mg d.name = some (.ref fa) →
      ∃ fd : FuncData, (∀ (s : Shared) (u : Value), BindsTo s fd ⟨[u], []⟩ [(x, u)]) ∧
        ∀ base : Heap, (K w.params).In base → base.Ns mainGlobals mg → FnG l.prog w (K w.params) mg base (CX w) k fa fd [x] (sp w))
    (hsp : ∀ (w : World) (H : Hp) (a : Addr) (ns : List Int), ns.length ≤ n → Only H → SqL (K w.params) H a (ns.map V.int) → sp w [.ref a] H (fun v _ => v = .bl true) fun _ _ _ => False)
    (hCX : ∀ (w : World) (H : Hp) (s : Shared) (e : Value) (s' : Shared), CX w [] H s (fun _ _ _ => False) e s' → False) : PySem.W.WalkO q loose XP YP l.row.toRowW d [] (fun f vs => PySem.call f vs) := by
  refine Att.attach_call hn hdf ?_
  intro w s₀ s₁ mg mb fa o pm cd doc a vs ns G Y ho hd hcd hmg hobj hints hlen hg
  have KX := hY w _ Y
  obtain ⟨fd, bd, hF⟩ := F w mg fa _ KX G.T.g hmg
  exact law_callG KX G.T.g G.T.b G.T.builtins G.T.nolimit hg hobj hints (Nat.le_trans hlen hn2) hr hF bd (fun H hO hS => hsp w H a ns hlen hO hS) (fun H e s' => hCX w H s₁ e s')
end GX

set_option Elab.async false
set_option linter.all false
set_option maxRecDepth 100000
set_option maxHeartbeats 4000000
/-! isinstance of a caught error that has fields; repr of data. -/
namespace PySem.W
open PySem PySem.Spec PySem.Calls PyProof.Rows
section
variable {prog : Program} {w : World} {A : Around} {E : Value → Shared → Prop} {s : Shared} {K : Frag} {x D : Addr} {ox : Obj} {od : Option Obj}
theorem gx_find {name : Str} {a g : Value} (hc : (clsIn K D).isSome = true) (ha : findIn K (.ref D) name = some (some a))
    (hg : specialIn K a "__get__" = some (some g)) (ht : takesIn K a = some true) : findObj K D od name = some (.bind g a) := by
  cases od with
  | none => exact findObj_dataN hc ha hg ht
  | some o => exact findObj_data hc ha hg ht
theorem gx_class {Q : Option Value → Shared → Prop} (C : L2.ExcC K D) (X : K.In s.heap) (I : InstAt s.heap x ox D od) (h : Q (some (.ref D)) { s with toks := s.toks + 1 }) :
    wpAny (model prog w) A (getAttr? (.ref x) "__class__") Q E s := by
  have hsome : (clsIn K D).isSome = true := by
    obtain ⟨cd, e, _⟩ := any_some C.hd
    rw [e]
    rfl
  have found : findObj K D od "__class__" = some (.bind (.builtin "getset_descriptor.__get__") (.builtin "object.__class__")) := gx_find hsome C.ha C.hn C.ht
  rcases s with ⟨hp, g, d, t, os⟩
  have l0 := I.type (M := model prog w)
  have l1 := looks_findIn (M := model prog w) X C.hg
  have l2 := looks_findIn (M := model prog w) X C.hk
  have l3 := looks_find (M := model prog w) X I found
  have isE : Looks (model prog w) hp (isInstance (.ref x) (.type "BaseException")) true := l0.andThen (looks_subIn X C.hs)
  have no2 : (Value.builtin "BaseException.__getattribute__" == Value.builtin "object.__getattribute__") = false := by
    decide +kernel
  have no1 : (onTheHeap (Value.ref D) && Value.builtin "BaseException.__getattribute__" == Value.builtin "object.__getattribute__") = false := by
    rw [no2]
    rfl
  have no0 : (false && onTheHeap (Value.builtin "BaseException.__getattribute__")) = false := rfl
  unfold getAttr? getAttrBy? getAttrBy
  apply wpAny_bind
  refine wpAny_mkText (wpAny_bind (wpAny_attempt (wpAny_holding (wpAny_bind ?_))))
  refine l0.at (wpAny_bind (l1.at ?_))
  show wpAny _ _ (if (onTheHeap (Value.ref D) && Value.builtin "BaseException.__getattribute__" == Value.builtin "object.__getattribute__") = true then _ else _) _ _ _
  rw [no1, if_neg Bool.false_ne_true]
  unfold getAttrByItsOwn hookBefore
  apply wpAny_bind
  rw [if_pos (show onTheHeap (Value.ref D) = true from rfl)]
  refine l2.at (wpAny_bind (wpAny_attempt (wpAny_holding ?_)))
  unfold callGetattribute
  rw [no0, if_neg Bool.false_ne_true]
  unfold boundAndCalled
  rw [F.excAttr_ValueError.ga.bind (.ref x)]
  apply wpAny_bind
  apply wpAny_pure
  show wpAny _ _ (call (.builtin "BaseException.__getattribute__") [.ref x, .str "__class__" t]) _ _ _
  apply wpAny_call
  refine codeAny_call_builtin F.excAttr_ValueError.ga.plain F.entry_bexc_ga ?_
  refine @check_slot (model prog w) _ _
    ⟨hp, g, d, t + 1, os⟩ "BaseException.__getattribute__" "BaseException" "__getattribute__" (.ref x) [.str "__class__" t] [] _
    (by decide +kernel) (by decide +kernel) isE (F.args_bexc_ga (.ref x) (.str "__class__" t)) ?_
  unfold Builtin.«object.__getattribute__»
  apply wpAny_bind
  refine wpAny_of_eq (a := ((Value.ref x : Value), [Value.str "__class__" t])) (by first | rfl | (simp only [slotArgs]; rfl)) ?_
  apply wpAny_bind
  refine wpAny_pure (wpAny_bind (l0.at (wpAny_bind (l3.at ?_))))
  show wpAny _ _ (holding [Value.builtin "object.__class__"] (call (.builtin "getset_descriptor.__get__") [.builtin "object.__class__", .ref x, .ref D]) >>= ret) _ _ _
  apply wpAny_bind
  refine wpAny_holding (wpAny_call (class_get (s := ⟨hp, g, d, t + 1, os⟩) (ox := ox) (od := od) X I C.hm (wpAny_pure ?_)))
  show wpAny _ _ (handedOut (.ref D)) _ _ _
  rw [handedOut_of (v := .ref D) rfl]
  first
    | exact wpAny_pure (wpAny_bind (wpAny_pure (wpAny_pure h)))
    | exact wpAny_bind (wpAny_pure (wpAny_pure h))
    | exact wpAny_pure (wpAny_pure h)
theorem gx_kit (C : L2.ExcC K D) : KitX K (.ref x) (.ref D) (fun h => ∃ ox od, InstAt h x ox D od) := by
  have Z : KitX K (.ref x) (.ref D) (fun h => InstAt h x { cls := .ref D, data := .fields #[] } D none) := handS_kitx_exc C.hg C.hk C.hs C.hd C.ha C.hn C.ht C.hm
  have hsome : ∃ cd, clsIn K D = some cd := by
    obtain ⟨cd, e, _⟩ := any_some C.hd
    exact ⟨cd, e⟩
  constructor
  · rintro M h _ ⟨ox, od, I⟩
    exact I.type
  · rintro M h X _
    obtain ⟨cd, e⟩ := hsome
    unfold clsIn at e
    split at e
    · rename_i c' d' cd' sl' ho
      intro A' Q' E' s' k q
      unfold isType loadHead
      exact wpAny_bind (wpAny_loadPart (k _ _ (X _ _ ho)) (wpAny_pure q))
    · cases e
  · exact Z.ne
  · intro prog w A E Q s X hx q
    obtain ⟨ox, od, I⟩ := hx
    exact gx_class C X I q
end
end PySem.W
namespace GX
open PySem PySem.Spec PyProof.Rows L2
/-- isinstance(e, c), e the caught error of the class at D at a, its dict d -/
def rIsED (K : PySem.W.Frag) (D a : Addr) (cls : Value) (d : Option Addr) : List V → Hp → VK → Prop := fun xs H Q =>
  ∃ (c : V) (cv : Value) (b : Bool) (dd : Addr) (fs : List (Str × V)), cls = .ref D ∧ xs = [.ref a, c] ∧ (∀ u, RelV c u → u = cv) ∧ d = some dd ∧ H dd = some (.xd fs) ∧
    PySem.W.kitOne K (.ref D) cv = some b ∧ Q (.bl b) H
theorem call_isED {X : Cx} {a D : Addr} {d : Option Addr} {cls : Value} {oe : Obj} {pn : List (Addr × Obj)} (C : ExcC X.K D) (hz : Zc cls d oe) (hf : ∃ vs, oe.data = .fields vs) :
    CallR (X.suite a ((a, oe) :: pn)) (.builtin "isinstance") (rIsED X.K D a cls d) := by
  intro pins s σ H xs us Q I r h
  obtain ⟨c, cv, b, dd, fs, hcls, rfl, hcv, hd, hH, e, q⟩ := h
  obtain ⟨u1, u2, rfl, r1, r2⟩ := vals2 r
  have e1 : u1 = Value.ref a := r1
  subst e1
  have e2 := hcv _ r2
  subst e2
  have pin := (I.pin (a, oe) (List.mem_append_left _ List.mem_cons_self)).1
  obtain ⟨mA, hns, _⟩ := (show ObjOk X.prog X.w H s.heap dd (.xd fs) from I.hok dd _ hH)
  obtain ⟨od, es, ep, ho, _⟩ := hns
  have J : PySem.W.InstAt s.heap a oe D (some od) := by
    refine ⟨pin, hz.1.trans hcls, ?_, ?_⟩
    · obtain ⟨vs, hv⟩ := hf
      unfold PySem.W.notCls
      rw [hv] <;> rfl
    · rw [hz.2, hd]
      exact ho
  exact PySem.W.kia_one (PySem.W.gx_kit C) I.kIn ⟨_, _, J⟩ e (fun z => nomatch z) (fun tk => ⟨.bl b, H, I.kept (t' := tk) (fun _ _ z => z), rfl, q⟩)

/-! ### a call by keywords alone -/
section
variable {X : Cx} {CX : CXT} {k : Nat} {f : Addr} {fd : FuncData} {ps ks : List Str} {sp : Sp} {E : XK} {x : Str} {p pos : Pos} {kws : List Keyword} {tk : TA} {g : List Value → List Value → List Value} {gV : List V → List V → List V}
theorem pe_callK0 (F : FnOk X.prog X.w X.K X.mg X.base CX k f fd ps sp) (hr : Room k X.A) (hg : Gl X x) (hm : X.mg x = some (.ref f)) (hk : PySem.W.keepIn X.K (.ref f) = true)
    (hb : KBn X.K fd ps 0 ks g gV) (hx : Passes CX X E) (hkw : PK X kws tk) (h1 : (backToKw pos (keywordEach kws X.env)).all (·.1.isSome) = true := by rfl)
    (h2 : (backToKw pos (keywordEach kws X.env)).filterMap (·.1) = ks := by rfl) (hdb : (x == ("__debug__" : Str)) = false := by decide)
    (h3 : ((backTo pos (starEach [] X.env)).any (·.1) || (backToKw pos (keywordEach kws X.env)).any (·.1.isNone)) = false := by rfl) :
    PE X (.Call (.Name x p) [] kws pos) (tCallN 0 ks.length sp gV E tNil tk) := by
  constructor
  intro pins s σ H Q I h
  refine wpAny_Call_Name_kw (ld_glob I hg hm ?_ hdb)
  refine PySem.W.callWith_KW0 (h₀ := X.base) I.ok.mod.kin hk h1 (thn (hkw.run pos pins s σ H _ I h) ?_) h3
  rintro ws s2 ⟨zs, H2, I2, rz, l1, l2, q2⟩
  refine ⟨I2.kIn, ?_⟩
  rw [h2]
  exact run_fnN (us := []) F hr hb hx I2 .nil rz l1 l2 q2
end
/-! ### repr -/
def keyD : Key → PyData
  | .inl i => .int i
  | .inr x => .str x
/-- a value as data: Dp, and dicts of ints -/
inductive Sh (K : PySem.W.Frag) (H : Hp) : V → PyData → Prop where
  | dp {x : V} {d : PyData} (h : Dp K H x d) (n : d.hasDict = false) : Sh K H x d
  | dct {a : Addr} {kvs : List (Key × Int)} (h : H a = some (.dK (kvs.map fun p => (p.1, V.int p.2)))) : Sh K H (.ref a) (.dict (kvs.map fun p => (keyD p.1, .int p.2)))
def rReprD (K : PySem.W.Frag) : List V → Hp → VK → Prop := fun xs H Q =>
  ∃ (x : V) (d : PyData), xs = [x] ∧ Sh K H x d ∧ d.showable = true ∧ d.depth ≤ 100 ∧ d.shown.length ≤ sizeLine ∧ Q (.str d.shown) H
theorem reads_keys {P : Program} {w : World} {h : Heap} : ∀ {es : List DictEntry} {kvs : List (Key × Int)} {vs : List (Key × Value)},
    KV (kvs.map fun p => (p.1, V.int p.2)) vs → Pairs (mixKind P w) es vs →
    (∃ as, ReadsAll h (es.map (·.key)) ((kvs.map fun p => (keyD p.1, PyData.int p.2)).map (·.1)) as ∧ sysModules ∉ as) ∧
    ∃ bs, ReadsAll h (es.map (·.val)) ((kvs.map fun p => (keyD p.1, PyData.int p.2)).map (·.2)) bs ∧ sysModules ∉ bs
  | [], [], _, _, _ => ⟨⟨_, .nil, by simp⟩, ⟨_, .nil, by simp⟩⟩
  | [], _ :: _, _, r, p => by
    cases r
    cases p
  | _ :: _, [], _, r, p => by
    cases r
    cases p
  | e :: es, (k, i) :: kvs, _, r, p => by
    cases r with
    | cons q r2 =>
      cases p with
      | cons hk hv p2 =>
        obtain ⟨⟨as, A1, A2⟩, ⟨bs, B1, B2⟩⟩ := reads_keys (h := h) r2 p2
        obtain ⟨q1, q2⟩ := q
        obtain ⟨t, q3⟩ := q2
        refine ⟨?_, ?_⟩
        · have q0 := q1.symm ▸ hk
          rcases keyIs_shape hk with ⟨j, u, e1, e2⟩ | ⟨z, u, e1, e2⟩
          · have ek : k = Sum.inl j := q1.trans e1
            subst ek
            refine ⟨_, .cons (as := []) ?_ A1, by simpa using A2⟩
            show Reads h e.key (.int j) []
            rw [e2]
            exact .int j u
          · have ek : k = Sum.inr z := q1.trans e1
            subst ek
            refine ⟨_, .cons (as := []) ?_ A1, by simpa using A2⟩
            show Reads h e.key (.str z) []
            rw [e2]
            exact .str z u
        · refine ⟨_, .cons (as := []) ?_ B1, by simpa using B2⟩
          show Reads h e.val (.int i) []
          rw [hv, q3]
          exact .int i t
theorem Sh.reads {X : Cx} {pins : List (Addr × Obj)} {σ : L2.St} {H : Hp} {s : Shared} (I : Inv X pins σ H s) {x : V} {d : PyData} {u : Value} (h : Sh X.K H x d) (r : RelV x u) :
    ∃ as, Reads s.heap u d as ∧ (d.hasDict = true → sysModules ∉ as) := by
  cases h with
  | dp h n =>
    obtain ⟨as, q⟩ := Dp.reads I d x u h r
    refine ⟨as, q, fun z => ?_⟩
    rw [n] at z
    cases z
  | @dct a kvs h =>
    have e : u = Value.ref a := r
    subst e
    obtain ⟨_, nsys, vs, kv, o, es, ep, h1, h2, h3, _, h5, _⟩ := (show ObjOk X.prog X.w H s.heap a (.dK _) from I.hok a _ h)
    obtain ⟨⟨as, A1, A2⟩, ⟨bs, B1, B2⟩⟩ := reads_keys (h := s.heap) kv h5
    refine ⟨_, .dict h1 h2.1 h3 A1 B1, fun _ hm => ?_⟩
    rcases List.mem_append.mp hm with hm | hm
    · rcases List.mem_cons.mp hm with e | hm
      · rw [← e] at nsys
        simp at nsys
      · exact A2 hm
    · exact B2 hm
theorem call_reprD {X : Cx} (hG : X.A.guards = some []) (hu : X.A.units + 110 < cLine) : CallR X (.builtin "repr") (rReprD X.K) := by
  intro pins s σ H xs us Q I r h
  obtain ⟨x, d, rfl, hs, h1, h2, h3, q⟩ := h
  obtain ⟨u, rfl, r1⟩ : ∃ u, us = [u] ∧ RelV x u := by
    cases r with
    | cons a b =>
      cases b
      exact ⟨_, rfl, a⟩
  obtain ⟨as, R, sys⟩ := hs.reads I r1
  have fin : ∀ h' (u : Tok) tk, (∀ b o, s.heap.get? b = some o → h'.get? b = some o) → EP X pins σ Q (.str d.shown u) { s with heap := h', toks := tk } :=
    fun h' u tk k => ⟨.str d.shown, H, I.kept (t' := tk) k, ⟨u, rfl⟩, q⟩
  cases R with
  | none => exact PySem.P.repr_of_none (fin s.heap s.toks _ (fun _ _ z => z))
  | bool b => exact PySem.P.repr_of_bool (fin s.heap s.toks _ (fun _ _ z => z))
  | int i t => exact PySem.P.repr_of_int (by simpa [PyData.showable] using h1) (fin s.heap s.toks _ (fun _ _ z => z))
  | str y t => exact PySem.P.repr_of_str (fin s.heap s.toks _ (fun _ _ z => z)) h3
  | list a1 a2 a3 a4 => exact repr_of_reads' (.list a1 a2 a3 a4) h1 sys hG (by omega) (fun _ _ z => z) fin h3
  | tuple a1 a2 a3 a4 => exact repr_of_reads' (.tuple a1 a2 a3 a4) h1 sys hG (by omega) (fun _ _ z => z) fin h3
  | dict a1 a2 a3 a4 a5 => exact repr_of_reads' (.dict a1 a2 a3 a4 a5) h1 sys hG (by omega) (fun _ _ z => z) fin h3
end GX

set_option Elab.async false
set_option linter.all false
set_option maxRecDepth 100000
set_option maxHeartbeats 4000000
/-! Texts of whole numbers and of fractions: what the methods of texts say of them. -/
namespace TX
open PySem PySem.Builtin PySem.Builtin.Str TL L2
/-- the text of a whole number -/
abbrev S (n : Int) : Str := Str.ofString (toString n)
theorem tl_nat (n : Nat) : tl (S n) = numL n := tl_num n
theorem tl_neg {n : Int} (h : n < 0) : tl (S n) = 45 :: numL n.natAbs := by
  have e : toString n = "-" ++ toString ((n.natAbs : Nat) : Int) := by
    rw [PyProof.Rows.toString_neg h]
    have : (0 : Int) - n = ((n.natAbs : Nat) : Int) := by omega
    rw [this]
  show tl (Str.ofString (toString n)) = _
  rw [e]
  have e2 : tl (Str.ofString ("-" ++ toString ((n.natAbs : Nat) : Int))) = ("-" ++ toString ((n.natAbs : Nat) : Int)).toList.map Char.toNat := tl_ofString _
  have e3 : tl (Str.ofString (toString ((n.natAbs : Nat) : Int))) = (toString ((n.natAbs : Nat) : Int)).toList.map Char.toNat := tl_ofString _
  rw [e2, String.toList_append, List.map_append, ← e3, tl_num]
  rfl
theorem nat_of {n : Int} (h : 0 ≤ n) : ∃ k : Nat, n = k := Int.eq_ofNat_of_zero_le h
theorem tl_abs (n : Int) : tl (S ((n.natAbs : Nat) : Int)) = numL n.natAbs := tl_num _
/-- no sign of a number's text but digits and - -/
theorem free_S {n : Int} {s : Nat} (h : s < 45 ∨ (45 < s ∧ s < 48) ∨ 57 < s) : s ∉ tl (S n) := by
  by_cases h0 : 0 ≤ n
  · obtain ⟨k, rfl⟩ := nat_of h0
    rw [tl_nat]
    exact numL_free (by omega)
  · rw [tl_neg (by omega)]
    intro m
    rcases List.mem_cons.mp m with e | m
    · omega
    · exact numL_free (n := n.natAbs) (s := s) (by omega) m
theorem len_S {n : Int} {k : Nat} (hk : 0 < k) (h : n.natAbs < 10 ^ k) : (S n).length ≤ k + 1 := by
  rw [len_tl]
  by_cases h0 : 0 ≤ n
  · obtain ⟨m, rfl⟩ := nat_of h0
    rw [tl_nat]
    have := numL_len hk (show m < 10 ^ k by omega)
    omega
  · rw [tl_neg (by omega), List.length_cons]
    have := numL_len hk h
    omega
theorem int_S {n : Int} {k : Nat} (hk : 0 < k) (hz : k ≤ 4000) (h : n.natAbs < 10 ^ k) : intText? (S n) = some n := by
  have hl := len_S hk h
  by_cases h0 : 0 ≤ n
  · obtain ⟨m, rfl⟩ := nat_of h0
    refine int_num ?_
    have := numL_len hk (show m < 10 ^ k by omega)
    omega
  · have e := intText_neg (x := S n) (cs := numL n.natAbs) (tl_neg (by omega)) (numL_digits _) (numL_ne _) (by omega)
    rw [numL_val] at e
    rw [e]
    congr 1
    omega
theorem ascii_S (n : Nat) : Txt.isascii (S n) = true := by
  unfold Txt.isascii
  rw [← Array.all_toList]
  show (tl (S n)).all _ = true
  rw [tl_nat, List.all_eq_true]
  intro c hc
  have := numL_digits n c hc
  exact decide_eq_true (by omega)
theorem dig : ∀ c, 48 ≤ c → c ≤ 57 → Unicode.isDigit c = true := by
  intro c h1 h2
  have : ∀ d : Nat, d < 10 → Unicode.isDigit (48 + d) = true := by decide +kernel
  have e := this (c - 48) (by omega)
  rw [show 48 + (c - 48) = c by omega] at e
  exact e
theorem digit_S (n : Nat) : Txt.isdigit (S n) = true := by
  unfold Txt.isdigit
  have h0 : (S n).length > 0 := by
    rw [len_tl, tl_nat]
    exact List.length_pos_iff.mpr (numL_ne n)
  rw [decide_eq_true h0, Bool.true_and, ← Array.all_toList]
  show (tl (S n)).all _ = true
  rw [tl_nat, List.all_eq_true]
  intro c hc
  have := numL_digits n c hc
  exact dig c (by omega) (by omega)
theorem head_S : ∀ n : Nat, 0 < n → ∃ c l, numL n = c :: l ∧ c ≠ 48 := by
  intro n
  induction n using Nat.strongRecOn with
  | _ n ih =>
    intro h
    by_cases h1 : n < 10
    · exact ⟨48 + n, [], numL_lt h1, by omega⟩
    · obtain ⟨c, l, e, ne⟩ := ih (n / 10) (by omega) (by omega)
      refine ⟨c, l ++ [48 + n % 10], ?_, ne⟩
      rw [numL_step (by omega), e]
      rfl
theorem starts_S {n : Nat} (h : 0 < n) : Txt.startswith (S n) "0" = false := by
  obtain ⟨c, l, e, ne⟩ := head_S n h
  have h0 : ¬ (subAt (S n) "0" 0 = true) := by
    rw [PySem.StrLaws.subAt_eq]
    have e2 : (S n).cps.toList = c :: l := (tl_nat n).trans e
    rw [e2]
    show ¬ ((([c] : List Nat) == [48]) = true)
    intro z
    have z2 : [c] = [48] := by simpa using z
    cases z2
    exact ne rfl
  unfold Txt.startswith
  rw [Bool.eq_false_iff.mpr h0, Bool.and_false]
theorem zero_S : S ((0 : Nat) : Int) = "0" := by decide +kernel
theorem ne_zero_S {n : Nat} (h : 0 < n) : S n ≠ "0" := by
  intro z
  have e := congrArg tl z
  rw [tl_nat] at e
  obtain ⟨c, l, e2, ne⟩ := head_S n h
  rw [e2] at e
  have e3 : c :: l = [48] := e
  cases e3
  exact ne rfl
/-- the minus ahead is taken off -/
theorem strip_S (n : Int) : Txt.removeprefix (S n) "-" = S ((n.natAbs : Nat) : Int) := by
  unfold Txt.removeprefix
  by_cases h0 : 0 ≤ n
  · obtain ⟨k, rfl⟩ := nat_of h0
    have h1 : subAt (S k) "-" 0 = false := by
      rw [PySem.StrLaws.subAt_eq]
      have e2 : (S k).cps.toList = numL k := tl_nat k
      rw [e2]
      cases e : numL k with
      | nil => exact absurd e (numL_ne k)
      | cons c l =>
        show (([c] : List Nat) == [45]) = false
        have hc := numL_digits k c (by rw [e]; exact List.mem_cons_self)
        refine Bool.eq_false_iff.mpr fun z => ?_
        have z2 : [c] = [45] := by simpa using z
        cases z2
        omega
    rw [h1]
    show S k = S (((k : Int).natAbs : Nat) : Int)
    rfl
  · have h1 : subAt (S n) "-" 0 = true := by
      rw [PySem.StrLaws.subAt_eq]
      have e2 : (S n).cps.toList = 45 :: numL n.natAbs := tl_neg (by omega)
      rw [e2]
      rfl
    rw [h1]
    have hl : (S n).length = (numL n.natAbs).length + 1 := by
      rw [len_tl, tl_neg (by omega)]
      rfl
    show (if (S n).length - 1 == (S n).length then S n else strSub (S n) 1 (S n).length) = _
    have hne : ((S n).length - 1 == (S n).length) = false := by
      rw [hl]
      simp
    rw [hne]
    refine ext_tl ?_
    show tl (strSub (S n) 1 (S n).length) = _
    rw [tl_strSub_end, tl_neg (by omega), tl_abs]
    rfl
theorem ne_minus0 (n : Int) : S n ≠ "-0" := by
  intro z
  have e := congrArg tl z
  have e0 : tl ("-0" : Str) = [45, 48] := by decide +kernel
  rw [e0] at e
  by_cases h0 : 0 ≤ n
  · obtain ⟨k, rfl⟩ := nat_of h0
    rw [tl_nat] at e
    have := numL_digits k 45 (by rw [e]; exact List.mem_cons_self)
    omega
  · rw [tl_neg (by omega)] at e
    obtain ⟨c, l, e2, ne⟩ := head_S n.natAbs (by omega)
    rw [e2] at e
    have e3 : 45 :: c :: l = [45, 48] := e
    cases e3
    exact ne rfl
theorem slash : tl ("/" : Str) = 47 :: [] := by decide +kernel
theorem part_two (a b : Int) : Txt.partition (S a ++ "/" ++ S b) "/" = (S a, ("/" : Str), S b) := partition_app slash (free_S (by omega))
theorem part_one (a : Int) : Txt.partition (S a) "/" = (S a, Str.empty, Str.empty) := partition_none slash (free_S (by omega))
theorem empty_app (x : Str) : Str.empty ++ x = x := ext_tl (by rw [tl_append]; rfl)
theorem len_app (x y : Str) : (x ++ y).length = x.length + y.length := by
  rw [len_tl, len_tl, len_tl, tl_append, List.length_append]
theorem S_pos (n : Int) : 0 < (S n).length := by
  rw [len_tl]
  by_cases h0 : 0 ≤ n
  · obtain ⟨k, rfl⟩ := nat_of h0
    rw [tl_nat]
    exact List.length_pos_iff.mpr (numL_ne k)
  · rw [tl_neg (by omega)]
    exact Nat.succ_pos _
end TX

set_option Elab.async false
set_option linter.all false
set_option maxRecDepth 100000
set_option maxHeartbeats 4000000
/-! Comparisons and operations with an own object on the right. -/
namespace PySem.W
open PySem PySem.Calls PyProof.Rows
def DecI (B : Builtin) (v : Value) : Prop := ∀ (l C dx : Addr), Meets (B ⟨[v, .ref l], []⟩) (fun _ R s => s.heap.get? l = some (instObj C dx) ∧ R (.ok (.ret .notImplemented)) s)
theorem dec_int_lt (b : Int) (u : Tok) : DecI Builtin.«int.__lt__» (.int b u) := fun l C dx => .of_wp fun prog w A R s h => by obtain ⟨hp, g, d, tk, os⟩ := s; obtain ⟨hl, h⟩ := h; wp_walk using wpAny_loadPart' hl, wpAny_load hl; exact ⟨_, rfl, h⟩
theorem dec_int_le (b : Int) (u : Tok) : DecI Builtin.«int.__le__» (.int b u) := fun l C dx => .of_wp fun prog w A R s h => by obtain ⟨hp, g, d, tk, os⟩ := s; obtain ⟨hl, h⟩ := h; wp_walk using wpAny_loadPart' hl, wpAny_load hl; exact ⟨_, rfl, h⟩
theorem dec_int_gt (b : Int) (u : Tok) : DecI Builtin.«int.__gt__» (.int b u) := fun l C dx => .of_wp fun prog w A R s h => by obtain ⟨hp, g, d, tk, os⟩ := s; obtain ⟨hl, h⟩ := h; wp_walk using wpAny_loadPart' hl, wpAny_load hl; exact ⟨_, rfl, h⟩
theorem dec_int_ge (b : Int) (u : Tok) : DecI Builtin.«int.__ge__» (.int b u) := fun l C dx => .of_wp fun prog w A R s h => by obtain ⟨hp, g, d, tk, os⟩ := s; obtain ⟨hl, h⟩ := h; wp_walk using wpAny_loadPart' hl, wpAny_load hl; exact ⟨_, rfl, h⟩
theorem dec_int_eq (b : Int) (u : Tok) : DecI Builtin.«int.__eq__» (.int b u) := fun l C dx => .of_wp fun prog w A R s h => by obtain ⟨hp, g, d, tk, os⟩ := s; obtain ⟨hl, h⟩ := h; wp_walk using wpAny_loadPart' hl, wpAny_load hl; exact ⟨_, rfl, h⟩
theorem dec_int_ne (b : Int) (u : Tok) : DecI Builtin.«int.__ne__» (.int b u) := fun l C dx => .of_wp fun prog w A R s h => by obtain ⟨hp, g, d, tk, os⟩ := s; obtain ⟨hl, h⟩ := h; wp_walk using wpAny_loadPart' hl, wpAny_load hl; exact ⟨_, rfl, h⟩
theorem dec_bool_eq (b : Bool) : DecI Builtin.«int.__eq__» (.bool b) := fun l C dx => .of_wp fun prog w A R s h => by obtain ⟨hp, g, d, tk, os⟩ := s; obtain ⟨hl, h⟩ := h; wp_walk using wpAny_loadPart' hl, wpAny_load hl; exact ⟨_, rfl, h⟩
theorem dec_str_eq (b : Str) (u : Tok) : DecI Builtin.«str.__eq__» (.str b u) := fun l C dx => .of_wp fun prog w A R s h => by obtain ⟨hp, g, d, tk, os⟩ := s; obtain ⟨hl, h⟩ := h; wp_walk using wpAny_loadPart' hl, wpAny_load hl; exact ⟨_, rfl, h⟩
theorem dec_none_eq : DecI Builtin.«NoneType.__eq__» .none := fun l C dx => .of_wp fun prog w A R s h => by obtain ⟨hp, g, d, tk, os⟩ := s; obtain ⟨hl, h⟩ := h; wp_walk using wpAny_loadPart' hl, wpAny_load hl; exact ⟨_, rfl, h⟩
section
variable {prog : Program} {w : World} {A : Around} {E : Value → Shared → Prop} {s : Shared} {K : Frag} {x C f : Addr} {ox : Obj} {od : Option Obj}
/-- a op o, where a's own method declines: o's reflected method answers -/
theorem cmp_R {op : CmpOp} {a : Value} {T id : String} {Q : Value → Shared → Prop} (hu : A.units < cLine) (X : K.In s.heap) (I : InstAt s.heap x ox C od) (hT : s.TypeIs a T) (hsub : subIn K (.ref C) (.type T) = some false)
    (hsl : Slot T (cmpInfo op).2.1 id) (hd : ∀ Q', Q' Value.notImplemented s → wpAny (model prog w) A (call (.builtin id) [a, .ref x]) Q' E s)
    (hs : findIn K (.ref C) (cmpInfo op).2.2 = some (some (.ref f))) (hf : isFn K (.ref f) = true)
    (h : wpAny (model prog w) A (call (.ref f) [.ref x, a]) (CmpBack Q) E s) : wpAny (model prog w) A (richCompare op a (.ref x)) Q E s := by
  have one : wpAny (model prog w) A (tryCompare (.ref x) (cmpInfo op).2.2 a) (fun r s' => ∃ v, r = some v ∧ Q v s') E s := by
    unfold tryCompare
    refine wpAny_bind (ifBound_K X I hs hf (wpAny_mono h (fun v s' hv => ?_) fun _ _ e => e))
    cases v <;> first | exact hv.elim | exact wpAny_pure ⟨_, rfl, hv⟩
  unfold richCompare
  simp only [hT.oneThing_none]
  refine wpAny_holding (wpAny_bind (wpAny_cRoomFor hu ?_))
  refine wpAny_bind (wpAny_typeOf hT (wpAny_bind (I.type.here ?_)))
  have hne : (Value.type T != Value.ref C) = true := by rw [bne_iff_ne]; intro q; cases q
  simp only [hne, if_true]
  refine wpAny_bind ((looks_subIn X hsub).here ?_)
  simp only [Bool.false_eq_true, if_false, Bool.not_false, if_true]
  refine wpAny_bind (m := tryCompare a _ _) (wpAny_tryCompare_declines hT hsl (hd _ ⟨rfl, ?_⟩))
  refine wpAny_bind (wpAny_mono one (fun r s' z => ?_) fun _ _ e => e)
  obtain ⟨v, rfl, hq⟩ := z
  exact wpAny_pure hq
end
end PySem.W

set_option Elab.async false
set_option linter.all false
set_option maxRecDepth 100000
set_option maxHeartbeats 4000000
namespace PySem.W
open PySem PySem.Calls PyProof.Rows
def DecK (K : Frag) (B : Builtin) (v : Value) : Prop := ∀ (l C dx : Addr), Meets (B ⟨[v, .ref l], []⟩) (fun _ R s => K.In s.heap ∧ s.heap.get? l = some (instObj C dx) ∧ R (.ok (.ret .notImplemented)) s)
theorem dec_list_eq {K : Frag} {a l C dx : Addr} (hs : subIn K (.ref C) (.type "list") = some false) : Meets (Builtin.«list.__eq__» ⟨[.ref a, .ref l], []⟩) (fun _ R s => K.In s.heap ∧ s.heap.get? l = some (instObj C dx) ∧ R (.ok (.ret .notImplemented)) s) :=
  .of_wp fun prog w A R s h => by
    obtain ⟨hp, g, d, tk, os⟩ := s; obtain ⟨X, hl, h⟩ := h
    have L := looks_subIn (M := model prog w) X hs
    wp_walk using wpAny_loadPart' hl, wpAny_load hl, L.at
    exact ⟨_, rfl, h⟩
theorem dec_tuple_eq {K : Frag} {a l C dx : Addr} (hs : subIn K (.ref C) (.type "tuple") = some false) : Meets (Builtin.«tuple.__eq__» ⟨[.ref a, .ref l], []⟩) (fun _ R s => K.In s.heap ∧ s.heap.get? l = some (instObj C dx) ∧ R (.ok (.ret .notImplemented)) s) :=
  .of_wp fun prog w A R s h => by
    obtain ⟨hp, g, d, tk, os⟩ := s; obtain ⟨X, hl, h⟩ := h
    have L := looks_subIn (M := model prog w) X hs
    wp_walk using wpAny_loadPart' hl, wpAny_load hl, L.at
    exact ⟨_, rfl, h⟩
theorem dec_dict_eq {K : Frag} {a l C dx : Addr} (hs : subIn K (.ref C) (.type "dict") = some false) : Meets (Builtin.«dict.__eq__» ⟨[.ref a, .ref l], []⟩) (fun _ R s => K.In s.heap ∧ s.heap.get? l = some (instObj C dx) ∧ R (.ok (.ret .notImplemented)) s) :=
  .of_wp fun prog w A R s h => by
    obtain ⟨hp, g, d, tk, os⟩ := s; obtain ⟨X, hl, h⟩ := h
    have L := looks_subIn (M := model prog w) X hs
    wp_walk using wpAny_loadPart' hl, wpAny_load hl, L.at
    exact ⟨_, rfl, h⟩
end PySem.W

set_option Elab.async false
set_option linter.all false
set_option maxRecDepth 100000
set_option maxHeartbeats 4000000
/-! o op x and x op o, o an object of an own class with the methods of both sides. -/
namespace OX
open PySem PySem.Spec PyProof.Rows L2
inductive KT
  | int | bl | non | str | lst | tup | dct
def KT.nm : KT → String
  | .int => "int" | .bl => "bool" | .non => "NoneType" | .str => "str" | .lst => "list" | .tup => "tuple" | .dct => "dict"
/-- values of built-in kinds -/
inductive KV : Value → KT → Prop
  | int (i : Int) (t : Tok) : KV (.int i t) .int
  | bl (b : Bool) : KV (.bool b) .bl
  | non : KV .none .non
  | str (x : Str) (t : Tok) : KV (.str x t) .str
  | lst (a : Addr) : KV (.ref a) .lst
  | tup (a : Addr) : KV (.ref a) .tup
  | dct (a : Addr) : KV (.ref a) .dct
inductive Kd (H : Hp) : V → KT → Prop
  | int (i : Int) : Kd H (.int i) .int
  | bl (b : Bool) : Kd H (.bl b) .bl
  | non : Kd H .non .non
  | str (x : Str) : Kd H (.str x) .str
  | lst {a : Addr} {xs : List V} (e : H a = some (.lst xs)) : Kd H (.ref a) .lst
  | tup {a : Addr} {xs : List V} (e : H a = some (.tup xs)) : Kd H (.ref a) .tup
  | dK {a : Addr} {kvs : List (Key × V)} (e : H a = some (.dK kvs)) : Kd H (.ref a) .dct
theorem Kd.keep {H H' : Hp} {x : V} {T : KT} (k : Kd H x T) (s : ∀ b o, H b = some o → H' b = some o) : Kd H' x T := by
  cases k with
  | int i => exact .int i
  | bl b => exact .bl b
  | non => exact .non
  | str x => exact .str x
  | lst e => exact .lst (s _ _ e)
  | tup e => exact .tup (s _ _ e)
  | dK e => exact .dK (s _ _ e)
/-- a's own method for the operation declines an object of the class -/
def Decl (P : Program) (w : World) (K : PySem.W.Frag) (C : Addr) (op : CmpOp) (T : KT) : Prop :=
  ∃ id, Slot T.nm (cmpInfo op).2.1 id ∧ ∀ (A : Around) (E : Value → Shared → Prop) (s : Shared) (v : Value) (l dx : Addr) (Q : Value → Shared → Prop), KV v T → s.TypeIs v T.nm → K.In s.heap → s.heap.get? l = some (PySem.W.instObj C dx) →
    Q .notImplemented s → wpAny (model P w) A (call (.builtin id) [v, .ref l]) Q E s
section
variable {P : Program} {w : World} {K : PySem.W.Frag} {C : Addr}
theorem decl_int {op : CmpOp} {id : String} {B : Builtin} (sl : Slot "int" (cmpInfo op).2.1 id) (en : entryFor table id = some B) (ar : ∀ a b, argsOk id ⟨[a, b], []⟩) (d : ∀ i t, PySem.W.DecI B (.int i t)) : Decl P w K C op .int := by
  refine ⟨id, sl, fun A E s v l dx Q k ty X hl q => ?_⟩
  cases k with
  | int i t => exact call_meets sl ty en (ar _ _) (d i t l C dx) ⟨hl, q⟩
theorem decl_lt : Decl P w K C .Lt .int := decl_int F.slot_int_lt F.entry_int_lt F.args_int_lt_2 PySem.W.dec_int_lt
theorem decl_le : Decl P w K C .LtE .int := decl_int F.slot_int_le F.entry_int_le F.args_int_le_2 PySem.W.dec_int_le
theorem decl_gt : Decl P w K C .Gt .int := decl_int F.slot_int_gt F.entry_int_gt F.args_int_gt_2 PySem.W.dec_int_gt
theorem decl_ge : Decl P w K C .GtE .int := decl_int F.slot_int_ge F.entry_int_ge F.args_int_ge_2 PySem.W.dec_int_ge
theorem decl_eq : Decl P w K C .Eq .int := decl_int F.slot_int_eq F.entry_int_eq F.args_int_eq_2 PySem.W.dec_int_eq
theorem decl_ne : Decl P w K C .NotEq .int := decl_int F.slot_int_ne F.entry_int_ne F.args_int_ne_2 PySem.W.dec_int_ne
theorem decl_bool : Decl P w K C .Eq .bl := by
  refine ⟨_, F.slot_bool_eq, fun A E s v l dx Q k ty X hl q => ?_⟩
  cases k with
  | bl b => exact call_meets F.slot_bool_eq ty F.entry_int_eq (F.args_int_eq_2 _ _) (PySem.W.dec_bool_eq b l C dx) ⟨hl, q⟩
theorem decl_none : Decl P w K C .Eq .non := by
  refine ⟨_, F.slot_NoneType_eq, fun A E s v l dx Q k ty X hl q => ?_⟩
  cases k with
  | non => exact call_meets F.slot_NoneType_eq ty F.entry_NoneType_eq (F.args_NoneType_eq_2 _ _) (PySem.W.dec_none_eq l C dx) ⟨hl, q⟩
theorem decl_str : Decl P w K C .Eq .str := by
  refine ⟨_, F.slot_str_eq, fun A E s v l dx Q k ty X hl q => ?_⟩
  cases k with
  | str b t => exact call_meets F.slot_str_eq ty F.entry_str_eq (F.args_str_eq_2 _ _) (PySem.W.dec_str_eq b t l C dx) ⟨hl, q⟩
theorem decl_list (h : PySem.W.subIn K (.ref C) (.type "list") = some false) : Decl P w K C .Eq .lst := by
  refine ⟨_, F.slot_list_eq, fun A E s v l dx Q k ty X hl q => ?_⟩
  cases k with
  | lst a => exact call_meets F.slot_list_eq ty F.entry_list_eq (F.args_list_eq_2 _ _) (PySem.W.dec_list_eq (dx := dx) h) ⟨X, hl, q⟩
theorem decl_tuple (h : PySem.W.subIn K (.ref C) (.type "tuple") = some false) : Decl P w K C .Eq .tup := by
  refine ⟨_, F.slot_tuple_eq, fun A E s v l dx Q k ty X hl q => ?_⟩
  cases k with
  | tup a => exact call_meets F.slot_tuple_eq ty F.entry_tuple_eq (F.args_tuple_eq_2 _ _) (PySem.W.dec_tuple_eq (dx := dx) h) ⟨X, hl, q⟩
theorem decl_dict (h : PySem.W.subIn K (.ref C) (.type "dict") = some false) : Decl P w K C .Eq .dct := by
  refine ⟨_, F.slot_dict_eq, fun A E s v l dx Q k ty X hl q => ?_⟩
  cases k with
  | dct a => exact call_meets F.slot_dict_eq ty F.entry_dict_eq (F.args_dict_eq_2 _ _) (PySem.W.dec_dict_eq (dx := dx) h) ⟨X, hl, q⟩
end
section
variable {X : Cx} {pins : List (Addr × Obj)} {σ : L2.St} {H : Hp} {s : Shared}
theorem Kd.val {x : V} {u : Value} {T : KT} (I : Inv X pins σ H s) (k : Kd H x T) (r : RelV x u) : KV u T ∧ s.TypeIs u T.nm := by
  cases k with
  | int i => obtain ⟨t, rfl⟩ := (show ∃ t, u = Value.int i t from r); exact ⟨.int i t, rfl⟩
  | bl b => cases (show u = Value.bool b from r); exact ⟨.bl b, rfl⟩
  | non => cases (show u = Value.none from r); exact ⟨.non, rfl⟩
  | str y => obtain ⟨t, rfl⟩ := (show ∃ t, u = Value.str y t from r); exact ⟨.str y t, rfl⟩
  | @lst a xs ea =>
    cases (show u = Value.ref a from r)
    obtain ⟨_, _, n, _, h1⟩ := (show ObjOk X.prog X.w H s.heap a (.lst xs) from I.hok a _ ea)
    exact ⟨.lst a, _, h1, rfl⟩
  | @tup a xs ea =>
    cases (show u = Value.ref a from r)
    obtain ⟨_, _, _, p⟩ := (show ObjOk X.prog X.w H s.heap a (.tup xs) from I.hok a _ ea)
    obtain ⟨o, h1, h2, _⟩ := p
    exact ⟨.tup a, o, h1, h2⟩
  | @dK a kvs ea =>
    cases (show u = Value.ref a from r)
    obtain ⟨_, _, vs, _, p⟩ := (show ObjOk X.prog X.w H s.heap a (.dK kvs) from I.hok a _ ea)
    obtain ⟨o, es, ep, h1, h2, _⟩ := p
    exact ⟨.dct a, o, h1, h2.1⟩
theorem look_ty {P : Program} {w : World} {u : Value} {T : KT} (k : KV u T) (ty : s.TypeIs u T.nm) : PySem.W.Looks (model P w) s.heap (typeOf u) (.type T.nm) := by
  intro A Q E s' kp q
  have ty2 : s'.TypeIs u T.nm := by
    cases k with
    | int i t => rfl
    | bl b => rfl
    | non => rfl
    | str x t => rfl
    | lst a => obtain ⟨o, h1, h2⟩ := ty; exact ⟨o, kp _ _ h1, h2⟩
    | tup a => obtain ⟨o, h1, h2⟩ := ty; exact ⟨o, kp _ _ h1, h2⟩
    | dct a => obtain ⟨o, h1, h2⟩ := ty; exact ⟨o, kp _ _ h1, h2⟩
  exact wpAny_typeOf ty2 q
theorem back_bl {Q : VK} {v : Value} {s' : Shared} (h : EP X pins σ (fun v H' => ∃ c, v = .bl c ∧ Q (.bl c) H') v s') : PySem.W.CmpBack (EP X pins σ Q) v s' := by
  obtain ⟨x, H', J, r, c, e, q⟩ := h
  subst e
  cases (show v = Value.bool c from r)
  exact ⟨.bl c, H', J, rfl, q⟩
def rOwnC (C : Addr) (Ls Rs : List KT) (spL spR : Sp) : R2 := fun x y H Q =>
  (∃ (a dx : Addr) (fs : List (Str × V)), x = .ref a ∧ H a = some (.ins C dx fs) ∧ ((∃ T, T ∈ Rs ∧ Kd H y T) ∨ ∃ (b dy : Addr) (gs : List (Str × V)), y = .ref b ∧ H b = some (.ins C dy gs)) ∧
    spL [.ref a, y] H (fun v H' => ∃ c, v = .bl c ∧ Q (.bl c) H') E0) ∨
  (∃ (b dy : Addr) (gs : List (Str × V)) (T : KT), y = .ref b ∧ H b = some (.ins C dy gs) ∧ T ∈ Ls ∧ Kd H x T ∧ spR [.ref b, x] H (fun v H' => ∃ c, v = .bl c ∧ Q (.bl c) H') E0)
variable {k : Nat} {f g C : Addr} {fd gd : FuncData} {ps qs : List Str} {spL spR : Sp} {Ls Rs : List KT} {op : CmpOp}
theorem op_own (hop : ∀ a b, compareOp op a b = richCompare op a b) (hs : PySem.W.findIn X.K (.ref C) (cmpInfo op).2.1 = some (some (.ref f))) (hf : PySem.W.isFn X.K (.ref f) = true) (F : FnOk X.prog X.w X.K X.mg X.base CX0 k f fd ps spL) (hb : Binds X.K fd ps [])
    (hs2 : PySem.W.findIn X.K (.ref C) (cmpInfo op).2.2 = some (some (.ref g))) (hf2 : PySem.W.isFn X.K (.ref g) = true) (G : FnOk X.prog X.w X.K X.mg X.base CX0 k g gd qs spR) (hb2 : Binds X.K gd qs [])
    (hR : ∀ T ∈ Rs, PySem.W.subIn X.K (.type T.nm) (.ref C) = some false) (hL : ∀ T ∈ Ls, PySem.W.subIn X.K (.ref C) (.type T.nm) = some false ∧ Decl X.prog X.w X.K C op T)
    (hr : Room k X.A) : OpR X (compareOp op) (rOwnC C Ls Rs spL spR) := by
  intro pins s σ H x y v u Q I rx ry h
  have hu : X.A.units < cLine := by have := hr.un; omega
  rw [hop]
  obtain ⟨m, fr⟩ := I.fr
  have hA : X.A.frames = some X.stack := I.ok.frames
  rcases h with ⟨a, dx, fs, rfl, ea, hy, q⟩ | ⟨b, dy, gs, T, rfl, eb, hT, hx, q⟩
  · cases (show v = Value.ref a from rx)
    obtain ⟨mA, O, _⟩ := ins_get I.hok ea
    obtain ⟨od, J, _⟩ := O.look
    have call := call_at F hr hA hb I (show Vals [.ref a, y] [.ref a, u] from .cons rfl (.cons ry .nil)) q
    have fin := wpAny_mono call (fun _ _ z => back_bl z) fun _ _ z => z
    rcases hy with ⟨T, hT, hy⟩ | ⟨b, dy, gs, rfl, eb⟩
    · obtain ⟨kv, ty⟩ := hy.val I ry
      exact PySem.W.cmp_K hu fr I.ok.mod.kin J (look_ty kv ty) (by unfold PySem.W.notFirst; rw [hR T hT]; simp) hs hf fin
    · cases (show u = Value.ref b from ry)
      obtain ⟨mB, O2, _⟩ := ins_get I.hok eb
      obtain ⟨od2, J2, _⟩ := O2.look
      exact PySem.W.cmp_K hu fr I.ok.mod.kin J J2.type (by unfold PySem.W.notFirst; simp) hs hf fin
  · cases (show u = Value.ref b from ry)
    obtain ⟨d0, z0, ne0, ob, _⟩ := (show ObjOk X.prog X.w H s.heap b (.ins C dy gs) from I.hok b _ eb)
    obtain ⟨mB, O2, _⟩ := ins_get I.hok eb
    obtain ⟨od2, J2, _⟩ := O2.look
    obtain ⟨kv, ty⟩ := hx.val I rx
    obtain ⟨hsub, id, sl, dc⟩ := hL T hT
    have call := call_at G hr hA hb2 I (show Vals [.ref b, x] [.ref b, v] from .cons rfl (.cons rx .nil)) q
    have fin := wpAny_mono call (fun _ _ z => back_bl z) fun _ _ z => z
    exact PySem.W.cmp_R hu I.kIn J2 ty hsub sl (fun Q' q' => dc _ _ _ _ _ _ _ kv ty I.kIn ob q') hs2 hf2 fin
end
end OX

set_option Elab.async false
set_option linter.all false
set_option maxRecDepth 100000
set_option maxHeartbeats 4000000
/-! a op o and o op a for + - *, o an own object. -/
namespace PySem.W
open PySem PySem.Calls PyProof.Rows
theorem dec_int_add (b : Int) (u : Tok) : DecI Builtin.«int.__add__» (.int b u) := fun l C dx => .of_wp fun prog w A R s h => by obtain ⟨hp, g, d, tk, os⟩ := s; obtain ⟨hl, h⟩ := h; wp_walk using wpAny_loadPart' hl, wpAny_load hl; exact ⟨_, rfl, h⟩
theorem dec_int_sub (b : Int) (u : Tok) : DecI Builtin.«int.__sub__» (.int b u) := fun l C dx => .of_wp fun prog w A R s h => by obtain ⟨hp, g, d, tk, os⟩ := s; obtain ⟨hl, h⟩ := h; wp_walk using wpAny_loadPart' hl, wpAny_load hl; exact ⟨_, rfl, h⟩
theorem dec_int_mul (b : Int) (u : Tok) : DecI Builtin.«int.__mul__» (.int b u) := fun l C dx => .of_wp fun prog w A R s h => by obtain ⟨hp, g, d, tk, os⟩ := s; obtain ⟨hl, h⟩ := h; wp_walk using wpAny_loadPart' hl, wpAny_load hl; exact ⟨_, rfl, h⟩
section
variable {prog : Program} {w : World} {A : Around} {E : Value → Shared → Prop} {s : Shared} {K : Frag} {x C f f1 : Addr} {ox : Obj} {od : Option Obj}
theorem bin_R {op : Operator} {a : Value} {T id : String} {fo ro : Option Value} {Q : Value → Shared → Prop} (X : K.In s.heap) (I : InstAt s.heap x ox C od) (hc : selfFirst K C = true) (hT : s.TypeIs a T)
    (hs1 : findIn K (.ref C) (PySem.dunder op.info.2) = some (some (.ref f1))) (hs : findIn K (.ref C) (dunderR op.info.2) = some (some (.ref f))) (hf : isFn K (.ref f) = true)
    (h1 : findIn K (.type T) (PySem.dunder op.info.2) = some fo) (h2 : findIn K (.type T) (dunderR op.info.2) = some ro) (hlr : ((fo.isSome && !isSeqSlot fo) || (ro.isSome && !isSeqSlot ro)) = true)
    (hsub : subIn K (.ref C) (.type T) = some false) (hsl : Slot T (PySem.dunder op.info.2) id) (hd : ∀ Q', Q' Value.notImplemented s → wpAny (model prog w) A (call (.builtin id) [a, .ref x]) Q' E s)
    (h : wpAny (model prog w) A (call (.ref f) [.ref x, a]) (CmpBack Q) E s) : wpAny (model prog w) A (binaryOp op a (.ref x)) Q E s := by
  obtain ⟨cd, rest, hcd, hm⟩ := ksp_first hc
  rcases hi : op.info with ⟨sym, nm'⟩
  rw [hi] at hs hs1 h1 h2 hsl
  dsimp only at hs hs1 h1 h2 hsl
  have one := ksp_try X I hs hf h
  obtain ⟨hh, g, d, tt, os⟩ := s
  have L2 : Looks (model prog w) hh (typeOf (.ref x)) (.ref C) := I.type
  have L3 : Looks (model prog w) hh (fillsNumberSlot (.type T) nm') true := hlr ▸ ksp_fillsT X h1 h2
  have L4 : Looks (model prog w) hh (fillsNumberSlot (.ref C) nm') true := fills_K X hcd hm hs1
  have L5 : Looks (model prog w) hh (isSubtype (.ref C) (.type T)) false := looks_subIn X hsub
  have hne : (Value.type T == Value.ref C) = false := Bool.eq_false_iff.mpr fun q => by cases beq_iff_eq.mp q
  simp only [binaryOp, hi]
  refine wpAny_holding (wpAny_bind ?_)
  unfold binaryOp1
  refine wpAny_bind (wpAny_typeOf hT (wpAny_bind (L2.at (wpAny_bind (L3.at ?_)))))
  simp only [hne, Bool.false_eq_true, if_false]
  refine wpAny_bind (L4.at ?_)
  simp only [Bool.and_self, if_true]
  refine wpAny_bind (L5.at ?_)
  have hpy : numberSlotInPython (.type T) nm' = pure false := rfl
  simp only [Bool.false_eq_true, if_false, pure_bind, Bool.not_false, Bool.and_self, if_true, hpy]
  refine wpAny_bind (m := tryMethod a _ _) (wpAny_tryMethod_declines hT hsl (hd _ ⟨rfl, ?_⟩))
  simp only [Bool.false_eq_true, if_false, pure_bind, Bool.not_false, Bool.and_self, if_true, hpy]
  refine wpAny_bind (wpAny_mono one (fun r s' z => ?_) fun _ _ e => e)
  obtain ⟨v, rfl, hq⟩ := z
  refine wpAny_bind (wpAny_rule (wpAny_pure ?_))
  exact wpAny_pure hq
end
end PySem.W

set_option Elab.async false
set_option linter.all false
set_option maxRecDepth 100000
set_option maxHeartbeats 4000000
namespace PySem.W
open PySem PySem.Calls PyProof.Rows
section
variable {prog : Program} {w : World} {A : Around} {E : Value → Shared → Prop} {s : Shared} {K : Frag} {x C f f1 : Addr} {ox : Obj} {od : Option Obj} {h₀ : Heap} {L : Addr} {m : Str → Option Value}
theorem ox_bool {Q : Value → Shared → Prop} (F : Fr h₀ L s.heap m) (X₀ : K.In h₀) (I : InstAt s.heap x ox C od) (hs : findIn K (.ref C) "__bool__" = some (some (.ref f))) (hf : isFn K (.ref f) = true)
    (h : wpAny (model prog w) A.in1.in1 (call (.ref f) [.ref x]) (BoolBack fun b s' => Q (.bool b) s') E s) : wpAny (model prog w) A (call (.type "bool") [.ref x]) Q E s := by
  have inner : wpAny (model prog w) A.in1.in1 (truthy (.ref x)) (fun b s₁ => Q (.bool b) s₁) E s := truthy_K F X₀ I hs hf h
  apply callType_codes (T := "bool") (Bi := Builtin.«object.__init__») (Q₁ := fun r s₁ => ∃ b, r = .bool b ∧ Q r s₁) PySem.F.called_bool (PySem.F.typeCall_bool_1 _) PySem.F.entry_object_init
  · apply codeAny_of_tree
    show wpAny _ A.in1.in1 (do checkBuiltinCall "bool.__new__" ⟨[.type "bool", .ref x], []⟩; again (.builtin "bool.__new__" ⟨[.type "bool", .ref x], []⟩)) _ _ s
    apply wpAny_bind
    refine wpAny_of_eq (PySem.F.newCall_bool_1 _) (wpAny_pure ⟨plainId_quiet (by decide +kernel) _, codeAny_builtin PySem.F.entry_bool_new ?_⟩)
    rw [Around.under_plainId (by decide +kernel) _]
    have f1 := PySem.F.conv_sub_bool
    obtain ⟨hp, g, d, tk, os⟩ := s
    have step : ∀ Q', (∀ b s₁, Q (.bool b) s₁ → Q' b s₁) → wpAny (model prog w) A.in1.in1 (truthy (.ref x)) Q' E ⟨hp, g, d, tk, os⟩ := fun Q' hq => wpAny_mono inner (fun b s₁ z => hq b s₁ z) fun _ _ y => y
    repeat (any_goals (first | assumption | with_reducible apply step | wp_step))
    all_goals exact fun b s₁ z => wpAny_pure ⟨b, rfl, z⟩
  · rintro obj s₁ ⟨b, rfl, hq⟩
    have ty : s₁.TypeIs (.bool b) "bool" := rfl
    exact ⟨ty, PySem.F.args_object_init_2 _ _, object_init_meets PySem.F.called_bool.init.lookup PySem.F.called_bool.made (by decide) prog w A.in1 _ s₁ ⟨ty, rfl, hq⟩⟩
end
end PySem.W

set_option Elab.async false
set_option linter.all false
set_option maxRecDepth 100000
set_option maxHeartbeats 4000000
namespace OX
open PySem PySem.Spec PyProof.Rows L2
section
variable {X : Cx} {pins : List (Addr × Obj)} {σ : L2.St} {H : Hp} {s : Shared}
theorem back_ref {Q : VK} {v : Value} {s' : Shared} (h : EP X pins σ (fun v H' => ∃ c, v = .ref c ∧ Q (.ref c) H') v s') : PySem.W.CmpBack (EP X pins σ Q) v s' := by
  obtain ⟨x, H', J, r, c, e, q⟩ := h
  subst e
  cases (show v = Value.ref c from r)
  exact ⟨.ref c, H', J, rfl, q⟩
theorem back_bool {Q : VK} {v : Value} {s' : Shared} (h : EP X pins σ (fun v H' => ∃ c, v = .bl c ∧ Q (.bl c) H') v s') : PySem.W.BoolBack (fun b s' => EP X pins σ Q (.bool b) s') v s' := by
  obtain ⟨x, H', J, r, c, e, q⟩ := h
  subst e
  cases (show v = Value.bool c from r)
  exact ⟨.bl c, H', J, rfl, q⟩
def rOwnB (C : Addr) (spL spR : Sp) : R2 := fun x y H Q =>
  (∃ (a dx : Addr) (fs : List (Str × V)), x = .ref a ∧ H a = some (.ins C dx fs) ∧ ((∃ i, y = .int i) ∨ ∃ (b dy : Addr) (gs : List (Str × V)), y = .ref b ∧ H b = some (.ins C dy gs)) ∧
    spL [.ref a, y] H (fun v H' => ∃ c, v = .ref c ∧ Q (.ref c) H') E0) ∨
  (∃ (b dy : Addr) (gs : List (Str × V)) (i : Int), y = .ref b ∧ H b = some (.ins C dy gs) ∧ x = .int i ∧ spR [.ref b, .int i] H (fun v H' => ∃ c, v = .ref c ∧ Q (.ref c) H') E0)
variable {k : Nat} {f g C : Addr} {fd gd : FuncData} {ps qs : List Str} {sp spL spR : Sp} {op : Operator} {id : String} {B : Builtin} {fo ro : Option Value}
theorem op_ownB (hc : PySem.W.selfFirst X.K C = true) (hs : PySem.W.findIn X.K (.ref C) (PySem.dunder op.info.2) = some (some (.ref f))) (hf : PySem.W.isFn X.K (.ref f) = true) (F : FnOk X.prog X.w X.K X.mg X.base CX0 k f fd ps spL) (hb : Binds X.K fd ps [])
    (hs2 : PySem.W.findIn X.K (.ref C) (dunderR op.info.2) = some (some (.ref g))) (hf2 : PySem.W.isFn X.K (.ref g) = true) (G : FnOk X.prog X.w X.K X.mg X.base CX0 k g gd qs spR) (hb2 : Binds X.K gd qs [])
    (h1 : PySem.W.findIn X.K (.type "int") (PySem.dunder op.info.2) = some fo) (h2 : PySem.W.findIn X.K (.type "int") (dunderR op.info.2) = some ro) (hlr : ((fo.isSome && !isSeqSlot fo) || (ro.isSome && !isSeqSlot ro)) = true)
    (hR : PySem.W.subIn X.K (.type "int") (.ref C) = some false) (hL : PySem.W.subIn X.K (.ref C) (.type "int") = some false)
    (sl : Slot "int" (PySem.dunder op.info.2) id) (en : entryFor table id = some B) (ar : ∀ a b, argsOk id ⟨[a, b], []⟩) (d : ∀ i t, PySem.W.DecI B (.int i t))
    (hr : Room k X.A) : OpR X (binaryOp op) (rOwnB C spL spR) := by
  intro pins s σ H x y v u Q I rx ry h
  obtain ⟨m, fr⟩ := I.fr
  have hA : X.A.frames = some X.stack := I.ok.frames
  rcases h with ⟨a, dx, fs, rfl, ea, hy, q⟩ | ⟨b, dy, gs, i, rfl, eb, rfl, q⟩
  · cases (show v = Value.ref a from rx)
    obtain ⟨mA, O, _⟩ := ins_get I.hok ea
    obtain ⟨od, J, _⟩ := O.look
    have call := call_at F hr hA hb I (show Vals [.ref a, y] [.ref a, u] from .cons rfl (.cons ry .nil)) q
    have fin := wpAny_mono call (fun _ _ z => back_ref z) fun _ _ z => z
    rcases hy with ⟨i, rfl⟩ | ⟨b, dy, gs, rfl, eb⟩
    · obtain ⟨t, rfl⟩ := (show ∃ t, u = Value.int i t from ry)
      exact PySem.W.ksp_binT fr I.ok.mod.kin J (show typeOf (.int i t) = pure (.type "int") from rfl) hc hs hf hs2 (.inr ⟨g, rfl⟩) h1 h2 hR fin
    · cases (show u = Value.ref b from ry)
      obtain ⟨mB, O2, _⟩ := ins_get I.hok eb
      obtain ⟨od2, J2, _⟩ := O2.look
      exact PySem.W.binop_K fr I.ok.mod.kin J J2.type hc hs hf fin
  · cases (show u = Value.ref b from ry)
    obtain ⟨d0, z0, ne0, ob, _⟩ := (show ObjOk X.prog X.w H s.heap b (.ins C dy gs) from I.hok b _ eb)
    obtain ⟨mB, O2, _⟩ := ins_get I.hok eb
    obtain ⟨od2, J2, _⟩ := O2.look
    obtain ⟨t, rfl⟩ := (show ∃ t, v = Value.int i t from rx)
    have call := call_at G hr hA hb2 I (show Vals [.ref b, .int i] [.ref b, .int i t] from .cons rfl (.cons ⟨t, rfl⟩ .nil)) q
    have fin := wpAny_mono call (fun _ _ z => back_ref z) fun _ _ z => z
    exact PySem.W.bin_R I.kIn J2 hc (typeIs_int s i t) hs hs2 hf2 h1 h2 hlr hL sl (fun Q' q' => call_meets sl (typeIs_int s i t) en (ar _ _) (d i t b C dy) ⟨ob, q'⟩) fin
def rOwnU (C : Addr) (sp : Sp) : V → Hp → VK → Prop := fun x H Q => ∃ (a dx : Addr) (fs : List (Str × V)), x = .ref a ∧ H a = some (.ins C dx fs) ∧ sp [.ref a] H Q E0
theorem un_ownNeg (hs : PySem.W.findIn X.K (.ref C) "__neg__" = some (some (.ref f))) (hf : PySem.W.isFn X.K (.ref f) = true) (F : FnOk X.prog X.w X.K X.mg X.base CX0 k f fd ps sp) (hb : Binds X.K fd ps []) (hr : Room k X.A) : UnR X (unaryOp .USub) (rOwnU C sp) := by
  intro pins s σ H x v Q I rx h
  obtain ⟨m, fr⟩ := I.fr
  have hA : X.A.frames = some X.stack := I.ok.frames
  obtain ⟨a, dx, fs, rfl, ea, q⟩ := h
  cases (show v = Value.ref a from rx)
  obtain ⟨mA, O, _⟩ := ins_get I.hok ea
  obtain ⟨od, J, _⟩ := O.look
  exact PySem.W.ksp_neg fr I.ok.mod.kin J hs hf (call_at F hr hA hb I (show Vals [.ref a] [.ref a] from .cons rfl .nil) q)
def rOwnT (C : Addr) (sp : Sp) : List V → Hp → VK → Prop := fun xs H Q => ∃ (a dx : Addr) (fs : List (Str × V)), xs = [.ref a] ∧ H a = some (.ins C dx fs) ∧ sp [.ref a] H (fun v H' => ∃ c, v = .bl c ∧ Q (.bl c) H') E0
theorem call_boolO (hs : PySem.W.findIn X.K (.ref C) "__bool__" = some (some (.ref f))) (hf : PySem.W.isFn X.K (.ref f) = true) (F : FnOk X.prog X.w X.K X.mg X.base CX0 k f fd ps sp) (hr : Room (k + 2) X.A) (hb : Binds X.K fd ps []) : CallR X (.type "bool") (rOwnT C sp) := by
  intro pins s σ H xs us Q I r h
  obtain ⟨a, dx, fs, rfl, ea, q⟩ := h
  rw [Vals.ref1 r]
  obtain ⟨mA, O, _⟩ := ins_get I.hok ea
  obtain ⟨od, J, _⟩ := O.look
  obtain ⟨m, fr⟩ := I.fr
  have hA : X.A.in1.in1.frames = some X.stack := I.ok.frames
  exact PySem.W.ox_bool fr I.ok.mod.kin J hs hf (wpAny_mono (call_at F (hr.in1.in1) hA hb I (show Vals [.ref a] [.ref a] from .cons rfl .nil) q) (fun _ _ z => back_bool z) fun _ _ z => z)
end
end OX

set_option Elab.async false
set_option linter.all false
set_option maxRecDepth 100000
set_option maxHeartbeats 4000000
namespace K02
open PySem PySem.Spec PyProof.Rows L2 GX
def topS (i : Nat) : Stmt := PySem.Challenge.pw_drawclaims_k02_whole_sums_and_products_o.main.body.getD i (.Pass ⟨0, 0, 0, 0⟩)
abbrev s_is_integer : Stmt := topS 6
abbrev N_is_integer : List Str := ["value"]
theorem sc_is_integer : FnScope N_is_integer ["value"] (defScope s_is_integer) := ⟨rfl, rfl, rfl, by decide +kernel, rfl, by decide +kernel, by decide +kernel⟩
abbrev s_is_number : Stmt := topS 10
abbrev N_is_number : List Str := ["value"]
theorem sc_is_number : FnScope N_is_number ["value"] (defScope s_is_number) := ⟨rfl, rfl, rfl, by decide +kernel, rfl, by decide +kernel, by decide +kernel⟩
abbrev s__top_of : Stmt := topS 12
abbrev N__top_of : List Str := ["number"]
theorem sc__top_of : FnScope N__top_of ["number"] (defScope s__top_of) := ⟨rfl, rfl, rfl, by decide +kernel, rfl, by decide +kernel, by decide +kernel⟩
abbrev s__bottom_of : Stmt := topS 13
abbrev N__bottom_of : List Str := ["number"]
theorem sc__bottom_of : FnScope N__bottom_of ["number"] (defScope s__bottom_of) := ⟨rfl, rfl, rfl, by decide +kernel, rfl, by decide +kernel, by decide +kernel⟩
abbrev s__sum_of : Stmt := topS 14
abbrev N__sum_of : List Str := ["ratio", "number", "top"]
theorem sc__sum_of : FnScope N__sum_of ["ratio", "number"] (defScope s__sum_of) := ⟨rfl, rfl, rfl, by decide +kernel, rfl, by decide +kernel, by decide +kernel⟩
abbrev s__product_of : Stmt := topS 15
abbrev N__product_of : List Str := ["ratio", "number"]
theorem sc__product_of : FnScope N__product_of ["ratio", "number"] (defScope s__product_of) := ⟨rfl, rfl, rfl, by decide +kernel, rfl, by decide +kernel, by decide +kernel⟩
abbrev s__lead : Stmt := topS 16
abbrev N__lead : List Str := ["ratio", "number"]
theorem sc__lead : FnScope N__lead ["ratio", "number"] (defScope s__lead) := ⟨rfl, rfl, rfl, by decide +kernel, rfl, by decide +kernel, by decide +kernel⟩
abbrev s_q_purse : Stmt := topS 19
abbrev N_q_purse : List Str := ["_law_script", "_law_place", "_law_cell", "_law_number", "_law_mixed"]
theorem sc_q_purse : FnScope N_q_purse ["_law_script", "_law_place"] (defScope s_q_purse) := ⟨rfl, rfl, rfl, by decide +kernel, rfl, by decide +kernel, by decide +kernel⟩
abbrev s_q_draw : Stmt := topS 20
abbrev N_q_draw : List Str := ["_law_purse_here", "_law_many", "_law_mixed", "_law_step", "_law_digit"]
theorem sc_q_draw : FnScope N_q_draw ["_law_purse_here", "_law_many"] (defScope s_q_draw) := ⟨rfl, rfl, rfl, by decide +kernel, rfl, by decide +kernel, by decide +kernel⟩
abbrev s_q_great : Stmt := topS 21
abbrev N_q_great : List Str := ["_law_purse_here", "_law_many", "_law_made", "_law_turn"]
theorem sc_q_great : FnScope N_q_great ["_law_purse_here", "_law_many"] (defScope s_q_great) := ⟨rfl, rfl, rfl, by decide +kernel, rfl, by decide +kernel, by decide +kernel⟩
abbrev s_q_integer : Stmt := topS 22
abbrev N_q_integer : List Str := ["_law_purse_here", "_law_way", "_law_sign"]
theorem sc_q_integer : FnScope N_q_integer ["_law_purse_here"] (defScope s_q_integer) := ⟨rfl, rfl, rfl, by decide +kernel, rfl, by decide +kernel, by decide +kernel⟩
abbrev s_q_lowest : Stmt := topS 23
abbrev N_q_lowest : List Str := ["_law_top", "_law_bottom", "_law_great_here", "_law_small"]
theorem sc_q_lowest : FnScope N_q_lowest ["_law_top", "_law_bottom"] (defScope s_q_lowest) := ⟨rfl, rfl, rfl, by decide +kernel, rfl, by decide +kernel, by decide +kernel⟩
abbrev s_q_is : Stmt := topS 24
abbrev N_q_is : List Str := ["_law_found", "_law_top", "_law_bottom"]
theorem sc_q_is : FnScope N_q_is ["_law_found", "_law_top", "_law_bottom"] (defScope s_q_is) := ⟨rfl, rfl, rfl, by decide +kernel, rfl, by decide +kernel, by decide +kernel⟩
abbrev s_q_pair : Stmt := topS 25
abbrev N_q_pair : List Str := ["_law_purse_here", "_law_bottom"]
theorem sc_q_pair : FnScope N_q_pair ["_law_purse_here"] (defScope s_q_pair) := ⟨rfl, rfl, rfl, by decide +kernel, rfl, by decide +kernel, by decide +kernel⟩
abbrev s_q_two_right : Stmt := topS 26
abbrev N_q_two_right : List Str := ["_law_one", "_law_two", "_law_first", "_law_second", "_law_a", "_law_b", "_law_c", "_law_d"]
theorem sc_q_two_right : FnScope N_q_two_right ["_law_one", "_law_two", "_law_first", "_law_second"] (defScope s_q_two_right) := ⟨rfl, rfl, rfl, by decide +kernel, rfl, by decide +kernel, by decide +kernel⟩
abbrev s_q_whole_right : Stmt := topS 27
abbrev N_q_whole_right : List Str := ["_law_one", "_law_first", "_law_number", "_law_a", "_law_b", "_law_sums", "_law_found"]
theorem sc_q_whole_right : FnScope N_q_whole_right ["_law_one", "_law_first", "_law_number"] (defScope s_q_whole_right) := ⟨rfl, rfl, rfl, by decide +kernel, rfl, by decide +kernel, by decide +kernel⟩
abbrev s_q_right : Stmt := topS 28
abbrev N_q_right : List Str := ["_law_purse_here", "_law_first", "_law_second", "_law_number", "_law_factor", "_law_one", "_law_two", "_law_before", "_law_three"]
theorem sc_q_right : FnScope N_q_right ["_law_purse_here"] (defScope s_q_right) := ⟨rfl, rfl, rfl, by decide +kernel, rfl, by decide +kernel, by decide +kernel⟩
abbrev s_law : Stmt := topS 29
abbrev N_law : List Str := ["_law_script", "_law_place"]
theorem sc_law : FnScope N_law ["_law_script"] (defScope s_law) := ⟨rfl, rfl, rfl, by decide +kernel, rfl, by decide +kernel, by decide +kernel⟩
abbrev s_Ratio___init__ : Stmt := inClass (topS 11) 0
abbrev N_Ratio___init__ : List Str := ["self", "top", "bottom", "common"]
theorem sc_Ratio___init__ : FnScope N_Ratio___init__ ["self", "top", "bottom"] (defScope s_Ratio___init__) := ⟨rfl, rfl, rfl, by decide +kernel, rfl, by decide +kernel, by decide +kernel⟩
abbrev s_Ratio___add__ : Stmt := inClass (topS 11) 2
abbrev N_Ratio___add__ : List Str := ["self", "other"]
theorem sc_Ratio___add__ : FnScope N_Ratio___add__ ["self", "other"] (defScope s_Ratio___add__) := ⟨rfl, rfl, rfl, by decide +kernel, rfl, by decide +kernel, by decide +kernel⟩
abbrev s_Ratio___radd__ : Stmt := inClass (topS 11) 3
abbrev N_Ratio___radd__ : List Str := ["self", "other"]
theorem sc_Ratio___radd__ : FnScope N_Ratio___radd__ ["self", "other"] (defScope s_Ratio___radd__) := ⟨rfl, rfl, rfl, by decide +kernel, rfl, by decide +kernel, by decide +kernel⟩
abbrev s_Ratio___sub__ : Stmt := inClass (topS 11) 4
abbrev N_Ratio___sub__ : List Str := ["self", "other"]
theorem sc_Ratio___sub__ : FnScope N_Ratio___sub__ ["self", "other"] (defScope s_Ratio___sub__) := ⟨rfl, rfl, rfl, by decide +kernel, rfl, by decide +kernel, by decide +kernel⟩
abbrev s_Ratio___rsub__ : Stmt := inClass (topS 11) 5
abbrev N_Ratio___rsub__ : List Str := ["self", "other"]
theorem sc_Ratio___rsub__ : FnScope N_Ratio___rsub__ ["self", "other"] (defScope s_Ratio___rsub__) := ⟨rfl, rfl, rfl, by decide +kernel, rfl, by decide +kernel, by decide +kernel⟩
abbrev s_Ratio___mul__ : Stmt := inClass (topS 11) 6
abbrev N_Ratio___mul__ : List Str := ["self", "other"]
theorem sc_Ratio___mul__ : FnScope N_Ratio___mul__ ["self", "other"] (defScope s_Ratio___mul__) := ⟨rfl, rfl, rfl, by decide +kernel, rfl, by decide +kernel, by decide +kernel⟩
abbrev s_Ratio___rmul__ : Stmt := inClass (topS 11) 7
abbrev N_Ratio___rmul__ : List Str := ["self", "other"]
theorem sc_Ratio___rmul__ : FnScope N_Ratio___rmul__ ["self", "other"] (defScope s_Ratio___rmul__) := ⟨rfl, rfl, rfl, by decide +kernel, rfl, by decide +kernel, by decide +kernel⟩
abbrev s_Ratio___neg__ : Stmt := inClass (topS 11) 8
abbrev N_Ratio___neg__ : List Str := ["self"]
theorem sc_Ratio___neg__ : FnScope N_Ratio___neg__ ["self"] (defScope s_Ratio___neg__) := ⟨rfl, rfl, rfl, by decide +kernel, rfl, by decide +kernel, by decide +kernel⟩
abbrev s_Ratio___eq__ : Stmt := inClass (topS 11) 13
abbrev N_Ratio___eq__ : List Str := ["self", "other"]
theorem sc_Ratio___eq__ : FnScope N_Ratio___eq__ ["self", "other"] (defScope s_Ratio___eq__) := ⟨rfl, rfl, rfl, by decide +kernel, rfl, by decide +kernel, by decide +kernel⟩
abbrev s_Ratio___bool__ : Stmt := inClass (topS 11) 15
abbrev N_Ratio___bool__ : List Str := ["self"]
theorem sc_Ratio___bool__ : FnScope N_Ratio___bool__ ["self"] (defScope s_Ratio___bool__) := ⟨rfl, rfl, rfl, by decide +kernel, rfl, by decide +kernel, by decide +kernel⟩
abbrev s_Ratio___repr__ : Stmt := inClass (topS 11) 17
abbrev N_Ratio___repr__ : List Str := ["self"]
theorem sc_Ratio___repr__ : FnScope N_Ratio___repr__ ["self"] (defScope s_Ratio___repr__) := ⟨rfl, rfl, rfl, by decide +kernel, rfl, by decide +kernel, by decide +kernel⟩
structure Txt (K : PySem.W.Frag) (mg : Str → Option Value) where
  z_isinstance : mg "isinstance" = none
  z_int : mg "int" = none
  z_bool : mg "bool" = none
  z_str : mg "str" = none
  z_len : mg "len" = none
  z_range : mg "range" = none
  z_abs : mg "abs" = none
  z_divmod : mg "divmod" = none
  z_repr : mg "repr" = none
  z_max : mg "max" = none
  z_min : mg "min" = none
  z_all : mg "all" = none
  C : Addr
  g_Ratio : mg "Ratio" = some (.ref C)
  g_gcd : mg "gcd" = some (.builtin "math.gcd")
  cl : Cls K C
  nT : NoAttr K C "top"
  nB : NoAttr K C "bottom"
  nF : NoAttr K C "floor"
  a_is_integer : Addr
  fd_is_integer : FuncData
  g_is_integer : mg "is_integer" = some (.ref a_is_integer)
  F_is_integer : Fun K "is_integer" "is_integer" s_is_integer a_is_integer fd_is_integer
  a_is_number : Addr
  fd_is_number : FuncData
  g_is_number : mg "is_number" = some (.ref a_is_number)
  F_is_number : Fun K "is_number" "is_number" s_is_number a_is_number fd_is_number
  a__top_of : Addr
  fd__top_of : FuncData
  g__top_of : mg "_top_of" = some (.ref a__top_of)
  F__top_of : Fun K "_top_of" "_top_of" s__top_of a__top_of fd__top_of
  a__bottom_of : Addr
  fd__bottom_of : FuncData
  g__bottom_of : mg "_bottom_of" = some (.ref a__bottom_of)
  F__bottom_of : Fun K "_bottom_of" "_bottom_of" s__bottom_of a__bottom_of fd__bottom_of
  a__sum_of : Addr
  fd__sum_of : FuncData
  g__sum_of : mg "_sum_of" = some (.ref a__sum_of)
  F__sum_of : Fun K "_sum_of" "_sum_of" s__sum_of a__sum_of fd__sum_of
  a__product_of : Addr
  fd__product_of : FuncData
  g__product_of : mg "_product_of" = some (.ref a__product_of)
  F__product_of : Fun K "_product_of" "_product_of" s__product_of a__product_of fd__product_of
  a__lead : Addr
  fd__lead : FuncData
  g__lead : mg "_lead" = some (.ref a__lead)
  F__lead : Fun K "_lead" "_lead" s__lead a__lead fd__lead
  a_q_purse : Addr
  fd_q_purse : FuncData
  g_q_purse : mg "_law_purse" = some (.ref a_q_purse)
  F_q_purse : Fun K "_law_purse" "_law_purse" s_q_purse a_q_purse fd_q_purse
  a_q_draw : Addr
  fd_q_draw : FuncData
  g_q_draw : mg "_law_draw" = some (.ref a_q_draw)
  F_q_draw : Fun K "_law_draw" "_law_draw" s_q_draw a_q_draw fd_q_draw
  a_q_great : Addr
  fd_q_great : FuncData
  g_q_great : mg "_law_great" = some (.ref a_q_great)
  F_q_great : Fun K "_law_great" "_law_great" s_q_great a_q_great fd_q_great
  a_q_integer : Addr
  fd_q_integer : FuncData
  g_q_integer : mg "_law_integer" = some (.ref a_q_integer)
  F_q_integer : Fun K "_law_integer" "_law_integer" s_q_integer a_q_integer fd_q_integer
  a_q_lowest : Addr
  fd_q_lowest : FuncData
  g_q_lowest : mg "_law_lowest" = some (.ref a_q_lowest)
  F_q_lowest : Fun K "_law_lowest" "_law_lowest" s_q_lowest a_q_lowest fd_q_lowest
  a_q_is : Addr
  fd_q_is : FuncData
  g_q_is : mg "_law_is" = some (.ref a_q_is)
  F_q_is : Fun K "_law_is" "_law_is" s_q_is a_q_is fd_q_is
  a_q_pair : Addr
  fd_q_pair : FuncData
  g_q_pair : mg "_law_pair" = some (.ref a_q_pair)
  F_q_pair : Fun K "_law_pair" "_law_pair" s_q_pair a_q_pair fd_q_pair
  a_q_two_right : Addr
  fd_q_two_right : FuncData
  g_q_two_right : mg "_law_two_right" = some (.ref a_q_two_right)
  F_q_two_right : Fun K "_law_two_right" "_law_two_right" s_q_two_right a_q_two_right fd_q_two_right
  a_q_whole_right : Addr
  fd_q_whole_right : FuncData
  g_q_whole_right : mg "_law_whole_right" = some (.ref a_q_whole_right)
  F_q_whole_right : Fun K "_law_whole_right" "_law_whole_right" s_q_whole_right a_q_whole_right fd_q_whole_right
  a_q_right : Addr
  fd_q_right : FuncData
  g_q_right : mg "_law_right" = some (.ref a_q_right)
  F_q_right : Fun K "_law_right" "_law_right" s_q_right a_q_right fd_q_right
  a_law : Addr
  fd_law : FuncData
  F_law : Fun K "law" "law" s_law a_law fd_law
  a_Ratio___init__ : Addr
  fd_Ratio___init__ : FuncData
  F_Ratio___init__ : FunD K "__init__" "Ratio.__init__" (defArgs s_Ratio___init__) (defBody s_Ratio___init__) (defScope s_Ratio___init__) [.int 1] [] a_Ratio___init__ fd_Ratio___init__
  a_Ratio___add__ : Addr
  fd_Ratio___add__ : FuncData
  F_Ratio___add__ : Fun K "__add__" "Ratio.__add__" s_Ratio___add__ a_Ratio___add__ fd_Ratio___add__
  a_Ratio___radd__ : Addr
  fd_Ratio___radd__ : FuncData
  F_Ratio___radd__ : Fun K "__radd__" "Ratio.__radd__" s_Ratio___radd__ a_Ratio___radd__ fd_Ratio___radd__
  a_Ratio___sub__ : Addr
  fd_Ratio___sub__ : FuncData
  F_Ratio___sub__ : Fun K "__sub__" "Ratio.__sub__" s_Ratio___sub__ a_Ratio___sub__ fd_Ratio___sub__
  a_Ratio___rsub__ : Addr
  fd_Ratio___rsub__ : FuncData
  F_Ratio___rsub__ : Fun K "__rsub__" "Ratio.__rsub__" s_Ratio___rsub__ a_Ratio___rsub__ fd_Ratio___rsub__
  a_Ratio___mul__ : Addr
  fd_Ratio___mul__ : FuncData
  F_Ratio___mul__ : Fun K "__mul__" "Ratio.__mul__" s_Ratio___mul__ a_Ratio___mul__ fd_Ratio___mul__
  a_Ratio___rmul__ : Addr
  fd_Ratio___rmul__ : FuncData
  F_Ratio___rmul__ : Fun K "__rmul__" "Ratio.__rmul__" s_Ratio___rmul__ a_Ratio___rmul__ fd_Ratio___rmul__
  a_Ratio___neg__ : Addr
  fd_Ratio___neg__ : FuncData
  F_Ratio___neg__ : Fun K "__neg__" "Ratio.__neg__" s_Ratio___neg__ a_Ratio___neg__ fd_Ratio___neg__
  a_Ratio___eq__ : Addr
  fd_Ratio___eq__ : FuncData
  F_Ratio___eq__ : Fun K "__eq__" "Ratio.__eq__" s_Ratio___eq__ a_Ratio___eq__ fd_Ratio___eq__
  a_Ratio___bool__ : Addr
  fd_Ratio___bool__ : FuncData
  F_Ratio___bool__ : Fun K "__bool__" "Ratio.__bool__" s_Ratio___bool__ a_Ratio___bool__ fd_Ratio___bool__
  a_Ratio___repr__ : Addr
  fd_Ratio___repr__ : FuncData
  F_Ratio___repr__ : Fun K "__repr__" "Ratio.__repr__" s_Ratio___repr__ a_Ratio___repr__ fd_Ratio___repr__
  mkR : Mk K C a_Ratio___init__
  sf : PySem.W.selfFirst K C = true
  o_add : PySem.W.findIn K (.ref C) "__add__" = some (some (.ref a_Ratio___add__))
  f_add : PySem.W.isFn K (.ref a_Ratio___add__) = true
  o_radd : PySem.W.findIn K (.ref C) "__radd__" = some (some (.ref a_Ratio___radd__))
  f_radd : PySem.W.isFn K (.ref a_Ratio___radd__) = true
  o_sub : PySem.W.findIn K (.ref C) "__sub__" = some (some (.ref a_Ratio___sub__))
  f_sub : PySem.W.isFn K (.ref a_Ratio___sub__) = true
  o_rsub : PySem.W.findIn K (.ref C) "__rsub__" = some (some (.ref a_Ratio___rsub__))
  f_rsub : PySem.W.isFn K (.ref a_Ratio___rsub__) = true
  o_mul : PySem.W.findIn K (.ref C) "__mul__" = some (some (.ref a_Ratio___mul__))
  f_mul : PySem.W.isFn K (.ref a_Ratio___mul__) = true
  o_rmul : PySem.W.findIn K (.ref C) "__rmul__" = some (some (.ref a_Ratio___rmul__))
  f_rmul : PySem.W.isFn K (.ref a_Ratio___rmul__) = true
  o_neg : PySem.W.findIn K (.ref C) "__neg__" = some (some (.ref a_Ratio___neg__))
  f_neg : PySem.W.isFn K (.ref a_Ratio___neg__) = true
  o_eq : PySem.W.findIn K (.ref C) "__eq__" = some (some (.ref a_Ratio___eq__))
  f_eq : PySem.W.isFn K (.ref a_Ratio___eq__) = true
  o_bool : PySem.W.findIn K (.ref C) "__bool__" = some (some (.ref a_Ratio___bool__))
  f_bool : PySem.W.isFn K (.ref a_Ratio___bool__) = true
  o_repr : PySem.W.findIn K (.ref C) "__repr__" = some (some (.ref a_Ratio___repr__))
  f_repr : PySem.W.isFn K (.ref a_Ratio___repr__) = true
  i_add : PySem.W.findIn K (.type "int") "__add__" = some (some (.builtin "int.__add__"))
  ir_add : PySem.W.findIn K (.type "int") "__radd__" = some (some (.builtin "int.__radd__"))
  i_sub : PySem.W.findIn K (.type "int") "__sub__" = some (some (.builtin "int.__sub__"))
  ir_sub : PySem.W.findIn K (.type "int") "__rsub__" = some (some (.builtin "int.__rsub__"))
  i_mul : PySem.W.findIn K (.type "int") "__mul__" = some (some (.builtin "int.__mul__"))
  ir_mul : PySem.W.findIn K (.type "int") "__rmul__" = some (some (.builtin "int.__rmul__"))
  ha : PySem.W.findIn K (.ref C) "__class__" = some (some (.builtin "object.__class__"))
  hn : PySem.W.specialIn K (.builtin "object.__class__") "__get__" = some (some (.builtin "getset_descriptor.__get__"))
  ht : PySem.W.takesIn K (.builtin "object.__class__") = some true
  hm : PySem.W.mroIn K C (.type "object") = some true
  kCC : PySem.W.kitOne K (.ref C) (.ref C) = some true
  sI : PySem.W.subIn K (.type "int") (.ref C) = some false
  sC : PySem.W.subIn K (.ref C) (.type "int") = some false
  kI : PySem.W.kitOne K (.type "int") (.ref C) = some false
section
variable {P : Program} {w : World} {K : PySem.W.Frag} {mg : Str → Option Value} {base : Heap}
theorem b_is_integer (T : Txt K mg) : Binds K T.fd_is_integer ["value"] [] := T.F_is_integer.binds fun _ _ _ _ _ _ us hl => match us, hl with | [_], _ => rfl
theorem b_is_number (T : Txt K mg) : Binds K T.fd_is_number ["value"] [] := T.F_is_number.binds fun _ _ _ _ _ _ us hl => match us, hl with | [_], _ => rfl
theorem b__top_of (T : Txt K mg) : Binds K T.fd__top_of ["number"] [] := T.F__top_of.binds fun _ _ _ _ _ _ us hl => match us, hl with | [_], _ => rfl
theorem b__bottom_of (T : Txt K mg) : Binds K T.fd__bottom_of ["number"] [] := T.F__bottom_of.binds fun _ _ _ _ _ _ us hl => match us, hl with | [_], _ => rfl
theorem b__sum_of (T : Txt K mg) : Binds K T.fd__sum_of ["ratio", "number"] [] := T.F__sum_of.binds fun _ _ _ _ _ _ us hl => match us, hl with | [_, _], _ => rfl
theorem b__product_of (T : Txt K mg) : Binds K T.fd__product_of ["ratio", "number"] [] := T.F__product_of.binds fun _ _ _ _ _ _ us hl => match us, hl with | [_, _], _ => rfl
theorem b__lead (T : Txt K mg) : Binds K T.fd__lead ["ratio", "number"] [] := T.F__lead.binds fun _ _ _ _ _ _ us hl => match us, hl with | [_, _], _ => rfl
theorem b_q_purse (T : Txt K mg) : Binds K T.fd_q_purse ["_law_script", "_law_place"] [] := T.F_q_purse.binds fun _ _ _ _ _ _ us hl => match us, hl with | [_, _], _ => rfl
theorem b_q_draw (T : Txt K mg) : Binds K T.fd_q_draw ["_law_purse_here", "_law_many"] [] := T.F_q_draw.binds fun _ _ _ _ _ _ us hl => match us, hl with | [_, _], _ => rfl
theorem b_q_great (T : Txt K mg) : Binds K T.fd_q_great ["_law_purse_here", "_law_many"] [] := T.F_q_great.binds fun _ _ _ _ _ _ us hl => match us, hl with | [_, _], _ => rfl
theorem b_q_integer (T : Txt K mg) : Binds K T.fd_q_integer ["_law_purse_here"] [] := T.F_q_integer.binds fun _ _ _ _ _ _ us hl => match us, hl with | [_], _ => rfl
theorem b_q_lowest (T : Txt K mg) : Binds K T.fd_q_lowest ["_law_top", "_law_bottom"] [] := T.F_q_lowest.binds fun _ _ _ _ _ _ us hl => match us, hl with | [_, _], _ => rfl
theorem b_q_is (T : Txt K mg) : Binds K T.fd_q_is ["_law_found", "_law_top", "_law_bottom"] [] := T.F_q_is.binds fun _ _ _ _ _ _ us hl => match us, hl with | [_, _, _], _ => rfl
theorem b_q_pair (T : Txt K mg) : Binds K T.fd_q_pair ["_law_purse_here"] [] := T.F_q_pair.binds fun _ _ _ _ _ _ us hl => match us, hl with | [_], _ => rfl
theorem b_q_two_right (T : Txt K mg) : Binds K T.fd_q_two_right ["_law_one", "_law_two", "_law_first", "_law_second"] [] := T.F_q_two_right.binds fun _ _ _ _ _ _ us hl => match us, hl with | [_, _, _, _], _ => rfl
theorem b_q_whole_right (T : Txt K mg) : Binds K T.fd_q_whole_right ["_law_one", "_law_first", "_law_number"] [] := T.F_q_whole_right.binds fun _ _ _ _ _ _ us hl => match us, hl with | [_, _, _], _ => rfl
theorem b_q_right (T : Txt K mg) : Binds K T.fd_q_right ["_law_purse_here"] [] := T.F_q_right.binds fun _ _ _ _ _ _ us hl => match us, hl with | [_], _ => rfl
theorem b_law (T : Txt K mg) : Binds K T.fd_law ["_law_script"] [] := T.F_law.binds fun _ _ _ _ _ _ us hl => match us, hl with | [_], _ => rfl
theorem b_Ratio___add__ (T : Txt K mg) : Binds K T.fd_Ratio___add__ ["self", "other"] [] := T.F_Ratio___add__.binds fun _ _ _ _ _ _ us hl => match us, hl with | [_, _], _ => rfl
theorem b_Ratio___radd__ (T : Txt K mg) : Binds K T.fd_Ratio___radd__ ["self", "other"] [] := T.F_Ratio___radd__.binds fun _ _ _ _ _ _ us hl => match us, hl with | [_, _], _ => rfl
theorem b_Ratio___sub__ (T : Txt K mg) : Binds K T.fd_Ratio___sub__ ["self", "other"] [] := T.F_Ratio___sub__.binds fun _ _ _ _ _ _ us hl => match us, hl with | [_, _], _ => rfl
theorem b_Ratio___rsub__ (T : Txt K mg) : Binds K T.fd_Ratio___rsub__ ["self", "other"] [] := T.F_Ratio___rsub__.binds fun _ _ _ _ _ _ us hl => match us, hl with | [_, _], _ => rfl
theorem b_Ratio___mul__ (T : Txt K mg) : Binds K T.fd_Ratio___mul__ ["self", "other"] [] := T.F_Ratio___mul__.binds fun _ _ _ _ _ _ us hl => match us, hl with | [_, _], _ => rfl
theorem b_Ratio___rmul__ (T : Txt K mg) : Binds K T.fd_Ratio___rmul__ ["self", "other"] [] := T.F_Ratio___rmul__.binds fun _ _ _ _ _ _ us hl => match us, hl with | [_, _], _ => rfl
theorem b_Ratio___neg__ (T : Txt K mg) : Binds K T.fd_Ratio___neg__ ["self"] [] := T.F_Ratio___neg__.binds fun _ _ _ _ _ _ us hl => match us, hl with | [_], _ => rfl
theorem b_Ratio___eq__ (T : Txt K mg) : Binds K T.fd_Ratio___eq__ ["self", "other"] [] := T.F_Ratio___eq__.binds fun _ _ _ _ _ _ us hl => match us, hl with | [_, _], _ => rfl
theorem b_Ratio___bool__ (T : Txt K mg) : Binds K T.fd_Ratio___bool__ ["self"] [] := T.F_Ratio___bool__.binds fun _ _ _ _ _ _ us hl => match us, hl with | [_], _ => rfl
theorem b_Ratio___repr__ (T : Txt K mg) : Binds K T.fd_Ratio___repr__ ["self"] [] := T.F_Ratio___repr__.binds fun _ _ _ _ _ _ us hl => match us, hl with | [_], _ => rfl
end
end K02

set_option Elab.async false
set_option linter.all false
set_option maxRecDepth 100000
set_option maxHeartbeats 4000000
namespace K02
open PySem PySem.Spec PyProof.Rows L2 GX OX
/-! ### numbers -/
def spGreat : Sp := fun vs H Q _ => ∃ (a : Addr) (k : Nat), vs = [.ref a, .int k] ∧ Bag H a ∧ k ≤ 10 ∧
  ∀ (v : Int) H', 0 ≤ v → v < 10 ^ (6 * k) → Bag H' a → But a H H' → Q (.int v) H'
def spInteger : Sp := fun vs H Q _ => ∃ a : Addr, vs = [.ref a] ∧ Bag H a ∧ ∀ (n : Int) H', n.natAbs < 10 ^ 60 → Bag H' a → But a H H' → Q (.int n) H'
def spLowest : Sp := fun vs H Q _ => ∃ t b : Int, vs = [.int t, .int b] ∧ 0 ≤ b ∧ Q (.bl (Nat.gcd t.natAbs b.natAbs == 1)) H
theorem pow_up {v d : Int} {k : Nat} (h0 : 0 ≤ v) (h1 : v < 10 ^ (6 * k)) (d0 : 0 ≤ d) (d1 : d < 10 ^ 6) : 0 ≤ v * 10 ^ 6 + d ∧ v * 10 ^ 6 + d < 10 ^ (6 * (k + 1)) := by
  have e : (10 : Int) ^ (6 * (k + 1)) = 10 ^ (6 * k) * 10 ^ 6 := by
    rw [← Int.pow_add]
    rfl
  have h2 : v * 10 ^ 6 ≤ (10 ^ (6 * k) - 1) * 10 ^ 6 := Int.mul_le_mul_of_nonneg_right (by omega) (by decide)
  rw [e]
  generalize (10 : Int) ^ (6 * k) = p at *
  have e6 : (10 : Int) ^ 6 = 1000000 := by decide
  rw [e6] at *
  omega
theorem pow_le10 {k : Nat} (h : k ≤ 10) : (10 : Int) ^ (6 * k) ≤ 10 ^ 60 := by
  have e : ((10 : Nat) : Int) ^ (6 * k) ≤ ((10 : Nat) : Int) ^ 60 := by
    have := Nat.pow_le_pow_right (show 0 < 10 by decide) (show 6 * k ≤ 60 by omega)
    norm_cast
  exact e
section
variable {P : Program} {w : World} {K : PySem.W.Frag} {mg : Str → Option Value} {base : Heap}
theorem ok_is_integer (T : Txt K mg) : FnOk P w K mg base CX0 1 T.a_is_integer T.fd_is_integer ["value"] (spIsI K) := by
  refine T.F_is_integer.ok sc_is_integer (fun vs H Q E h => ?_) (fun cdv A outer s H vs Q E hr h => ?_)
  · obtain ⟨x, rfl, _⟩ := h
    rfl
  · obtain ⟨x, rfl, ⟨n, b, c, ty, k1, k2, e⟩, q⟩ := h
    refine ⟨_, (pss_one (ps_ret (pe_and (pe_callB call_isi (by rfl) T.z_isinstance (by decide +kernel) (pa_cons (pv 0) (pa_cons (pe_bltn (v := .ty "int") (by rfl) T.z_int (by decide +kernel) rfl) pa_nil))) (pe_one (pe_not (pe_callB call_isi (by rfl) T.z_isinstance (by decide +kernel) (pa_cons (pv 0) (pa_cons (pe_bltn (v := .ty "bool") (by rfl) T.z_bool (by decide +kernel) rfl) pa_nil)))))))), ?_⟩
    refine ⟨x, rfl, x, .ty "int", .type n, .type "int", b, rfl, .ty "int", ty, k1, b, rfl, ?_⟩
    rw [← e] at q
    cases b with
    | false => exact iteF q
    | true => exact iteT ⟨x, rfl, x, .ty "bool", .type n, .type "bool", c, rfl, .ty "bool", ty, k2, c, rfl, q⟩
theorem ok_q_purse (T : Txt K mg) : FnOk P w K mg base CX0 1 T.a_q_purse T.fd_q_purse ["_law_script", "_law_place"] (spPurse K) := by
  refine T.F_q_purse.ok sc_q_purse (fun vs H Q E h => ?_) (fun cdv A outer s H vs Q E hr h => ?_)
  · obtain ⟨a, ns, k, rfl, _⟩ := h
    rfl
  · obtain ⟨a, ns, k, rfl, S, hl, hk, q⟩ := h
    refine ⟨_, (pss_cons (ps_set (i := 2) sc_q_purse.nd rfl (Or.inl rfl) (pe_op op_add (pe_op op_mul pe_int (pe_callB call_len_seq (by rfl) T.z_len (by decide +kernel) (pa_cons (pv 0) pa_nil))) (pe_op op_mul pe_int (pv 1))))
      (pss_cons (ps_for PassesOwn.never rfl (pi_list (pe_slice sl_list (pv 0) po_none (po_some pe_int))) (pg_name (i := 3) sc_q_purse.nd rfl (Or.inl rfl)) (pss_one (ps_set (i := 2) sc_q_purse.nd rfl (Or.inl rfl) (pe_op op_mod (pe_callTy call_int1 (by rfl) T.z_int (by decide +kernel) (pa_cons (pe_op op_add (pe_op op_mul (pv 2) pe_int) (pv 3)) pa_nil)) pe_int))))
      (pss_cons (ps_if (pt_cmpR op_lt (pv 1) (pe_callB call_len_seq (by rfl) T.z_len (by decide +kernel) (pa_cons (pv 0) pa_nil)) (nomark _)) (pss_one (ps_set (i := 2) sc_q_purse.nd rfl (Or.inl rfl) (pe_ix ix_list (pv 0) (pv 1) (fun _ _ => rfl)))) pss_nil)
      (pss_cons (ps_set (i := 4) sc_q_purse.nd rfl (Or.inl rfl) (pe_op op_pow (pe_callTy call_int1 (by rfl) T.z_int (by decide +kernel) (pa_cons (pe_op op_add (pe_op op_mod (pe_callTy call_int1 (by rfl) T.z_int (by decide +kernel) (pa_cons (pv 2) pa_nil)) pe_int) pe_int) pa_nil)) pe_int))
      (pss_one (ps_ret (pe_lst (pa_cons (pe_op op_mod (pe_callTy call_int1 (by rfl) T.z_int (by decide +kernel) (pa_cons (pv 4) pa_nil)) pe_int) (pa_cons (pe_ifExp (PW.pt (pw_or (pt_cmpR op_lt (pv 2) pe_int (nomark _)) (pw_or1 (pt_cmpR op_ge (pv 2) (pe_op op_pow pe_int pe_int) (nomark _))))) (pe_callB call_abs (by rfl) T.z_abs (by decide +kernel) (pa_cons (pv 2) pa_nil)) pe_int) (pa_cons pe_int pa_nil)))))))))), ?_⟩
    have hl2 : (((ns.map V.int).length : Nat) : Int) ≤ 63 := by
      rw [List.length_map]
      omega
    refine ⟨_, rfl, a, _, rfl, .inl S, 7, _, rfl, rfl, .inl ⟨by decide, by decide⟩, _, rfl, 11, k, rfl, rfl, .inl ⟨by decide, by decide⟩, _, _, rfl, rfl, ?_⟩
    refine ⟨_, rfl, 3, rfl, a, _, rfl, S, fun p hp => ⟨p, rfl, ⟨_, .inl (.inl upd_same)⟩, ?_⟩⟩
    refine for_list (K := K) (a := p) (xs := cutV (ns.map V.int) none (some 3)) (fun i σ H' => ∃ (t : Int) (y : Option V), σ = [some (.ref a), some (.int k), some (.int t), y, none] ∧ 0 ≤ t ∧ t < 2147483629 ∧ Same H H' ∧ H' p = some (.lst (cutV (ns.map V.int) none (some 3))))
      ⟨_, none, rfl, by omega, by omega, same_new hp, upd_same⟩ (fun i σ H' _ h => ?_) ?_ ?_
    · obtain ⟨t, y, _, _, _, _, e⟩ := h
      exact SqL.of e
    · rintro i x σ H' hx ⟨t, y, rfl, t0, t1, sm, e⟩
      obtain ⟨z, rfl⟩ := cut_ints hx
      refine ⟨_, rfl, t, 60013, rfl, rfl, .inl ⟨by omega, by omega⟩, _, rfl, _, z, rfl, rfl, .inl ⟨_, rfl, _, 2147483629, rfl, rfl, (by show (0 : Int) < 2147483629; decide), ?_⟩⟩
      exact ⟨_, some (.int z), rfl, Int.emod_nonneg _ (by decide), Int.emod_lt_of_pos _ (by decide), sm, e⟩
    · rintro σ H' ⟨t, y, rfl, t0, t1, sm, e⟩
      refine ⟨_, rfl, _, rfl, a, _, rfl, .inl (sm.seq S), _, _, rfl, rfl, _, rfl, ite2 (fun c => ?_) (fun c => ?_)⟩
      · have c2 := of_decide_eq_true c
        rw [List.length_map] at c2
        have hj : k < ns.length := by omega
        have g : (ns.map V.int)[k]? = some (.int ns[k]) := by
          rw [List.getElem?_map, List.getElem?_eq_getElem hj]
          rfl
        refine ⟨_, rfl, _, rfl, a, _, k, _, rfl, rfl, sm.seq S, atI_nat g, ?_⟩
        generalize ns[k] = z
        refine ⟨_, rfl, .inl ⟨z, rfl, z, 2147483629, rfl, rfl, (by show (0 : Int) < 2147483629; decide), _, 314159, rfl, rfl, .inl ⟨_, rfl, _, 3, rfl, rfl, ⟨by decide, by decide, ?_⟩, ?_⟩⟩⟩
        · have h1 : 0 ≤ z % 2147483629 := Int.emod_nonneg _ (by decide)
          have h2 : z % 2147483629 < 2147483629 := Int.emod_lt_of_pos _ (by decide)
          have h3 : (2 : Nat) ^ 64 = 18446744073709551616 := by decide
          show (z % 2147483629 + 314159).natAbs < 2 ^ 64
          omega
        · have fin : ∀ (m v : Int) (l : Addr), 0 ≤ v → H' l = none → Q (.ref l) (upd H' l (.lst [.int (m % 2147483629), .int v, .int 0])) := fun m v l hv hn =>
            q l _ (sm.free hn) (sm.trans (same_new hn)) ⟨_, v, 0, upd_same, hv⟩
          have abs0 : 0 ≤ (if z < 0 then -z else z) := by split <;> omega
          refine ⟨_, rfl, .inl ⟨_, rfl, _, 2147483629, rfl, rfl, (by show (0 : Int) < 2147483629; decide), _, rfl, z, 0, rfl, rfl, _, rfl, ite2 (fun _ => ?_) (fun _ => ?_)⟩⟩
          · exact iteT ⟨_, rfl, z, rfl, (by show 3 ≤ sizeLine; decide), fun l hn => fin _ _ l abs0 hn⟩
          · refine ⟨_, rfl, 10, 18, rfl, rfl, ⟨by decide, by decide, by decide⟩, z, _, rfl, rfl, _, rfl, ite2 (fun _ => ?_) (fun _ => ?_)⟩
            · exact ⟨_, rfl, z, rfl, (by show 3 ≤ sizeLine; decide), fun l hn => fin _ _ l abs0 hn⟩
            · exact ⟨(by show 3 ≤ sizeLine; decide), fun l hn => fin _ _ l (Int.le_refl 0) hn⟩
      · generalize t = z
        refine ⟨_, rfl, .inl ⟨z, rfl, z, 2147483629, rfl, rfl, (by show (0 : Int) < 2147483629; decide), _, 314159, rfl, rfl, .inl ⟨_, rfl, _, 3, rfl, rfl, ⟨by decide, by decide, ?_⟩, ?_⟩⟩⟩
        · have h1 : 0 ≤ z % 2147483629 := Int.emod_nonneg _ (by decide)
          have h2 : z % 2147483629 < 2147483629 := Int.emod_lt_of_pos _ (by decide)
          have h3 : (2 : Nat) ^ 64 = 18446744073709551616 := by decide
          show (z % 2147483629 + 314159).natAbs < 2 ^ 64
          omega
        · have fin : ∀ (m v : Int) (l : Addr), 0 ≤ v → H' l = none → Q (.ref l) (upd H' l (.lst [.int (m % 2147483629), .int v, .int 0])) := fun m v l hv hn =>
            q l _ (sm.free hn) (sm.trans (same_new hn)) ⟨_, v, 0, upd_same, hv⟩
          have abs0 : 0 ≤ (if z < 0 then -z else z) := by split <;> omega
          refine ⟨_, rfl, .inl ⟨_, rfl, _, 2147483629, rfl, rfl, (by show (0 : Int) < 2147483629; decide), _, rfl, z, 0, rfl, rfl, _, rfl, ite2 (fun _ => ?_) (fun _ => ?_)⟩⟩
          · exact iteT ⟨_, rfl, z, rfl, (by show 3 ≤ sizeLine; decide), fun l hn => fin _ _ l abs0 hn⟩
          · refine ⟨_, rfl, 10, 18, rfl, rfl, ⟨by decide, by decide, by decide⟩, z, _, rfl, rfl, _, rfl, ite2 (fun _ => ?_) (fun _ => ?_)⟩
            · exact ⟨_, rfl, z, rfl, (by show 3 ≤ sizeLine; decide), fun l hn => fin _ _ l abs0 hn⟩
            · exact ⟨(by show 3 ≤ sizeLine; decide), fun l hn => fin _ _ l (Int.le_refl 0) hn⟩
theorem ok_q_draw (T : Txt K mg) : FnOk P w K mg base CX0 1 T.a_q_draw T.fd_q_draw ["_law_purse_here", "_law_many"] spTake := by
  refine T.F_q_draw.ok sc_q_draw (fun vs H Q E h => ?_) (fun cdv A outer s H vs Q E hr h => ?_)
  · obtain ⟨a, m, rfl, _⟩ := h
    rfl
  · obtain ⟨a, m, rfl, ⟨z, g, c, ha, hg⟩, m0, m1, q⟩ := h
    refine ⟨_, (pss_cons (ps_asg (pe_op op_add (pe_ix ix_list (pv 0) pe_int (fun _ _ => rfl)) pe_int) (pg_sub (pv 0) pe_int set_list))
      (pss_cons (ps_set (i := 2) sc_q_draw.nd rfl (Or.inl rfl) (pe_callTy call_int1 (by rfl) T.z_int (by decide +kernel) (pa_cons (pe_ix ix_list (pv 0) pe_int (fun _ _ => rfl)) pa_nil)))
      (pss_cons (ps_set (i := 3) sc_q_draw.nd rfl (Or.inl rfl) (pe_op op_add (pe_op op_mod (pe_callTy call_int1 (by rfl) T.z_int (by decide +kernel) (pa_cons (pv 2) pa_nil)) pe_int) pe_int))
      (pss_cons (ps_asg (pe_op op_mod (pe_callTy call_int1 (by rfl) T.z_int (by decide +kernel) (pa_cons (pe_op op_add (pe_op op_add (pe_op op_mul (pv 2) (pv 3)) (pe_op op_mul pe_int (pe_ix ix_list (pv 0) pe_int (fun _ _ => rfl)))) pe_int) pa_nil)) pe_int) (pg_sub (pv 0) pe_int set_list))
      (pss_cons (ps_if (pt_cmpR op_gt (pe_ix ix_list (pv 0) pe_int (fun _ _ => rfl)) pe_int (nomark _)) (pss_cons (ps_asg (pe_callB call_divmodW (by rfl) T.z_divmod (by decide +kernel) (pa_cons (pe_ix ix_list (pv 0) pe_int (fun _ _ => rfl)) (pa_cons (pv 1) pa_nil))) (pg_tup (by rfl) (pgs_cons (pg_sub (pv 0) pe_int set_list) (pgs_cons (pg_name (i := 4) sc_q_draw.nd rfl (Or.inl rfl)) pgs_nil))))
          (pss_one (ps_ret (pv 4)))) pss_nil)
      (pss_one (ps_ret (pe_op op_mod (pe_callTy call_int1 (by rfl) T.z_int (by decide +kernel) (pa_cons (pe_op op_fdiv (pe_ix ix_list (pv 0) pe_int (fun _ _ => rfl)) pe_int) pa_nil)) (pv 1))))))))), ?_⟩
    refine ⟨_, rfl, a, _, 2, .int c, rfl, rfl, SqL.of ha, atI_nat (j := 2) rfl, c, 1, rfl, rfl, _, rfl, a, _, 2, 2, rfl, rfl, ha, rfl, ?_⟩
    have h1 : (upd H a (.lst [.int z, .int g, .int (c + 1)])) a = some (.lst [.int z, .int g, .int (c + 1)]) := upd_same
    refine ⟨_, rfl, a, _, 0, .int z, rfl, rfl, SqL.of h1, atI_nat (j := 0) rfl, .inl ⟨z, rfl, ?_⟩⟩
    have b1 : 0 ≤ z % 40009 := Int.emod_nonneg _ (by decide)
    have b2 : z % 40009 < 40009 := Int.emod_lt_of_pos _ (by decide)
    refine ⟨_, rfl, .inl ⟨z, rfl, z, 40009, rfl, rfl, (by show (0 : Int) < 40009; decide), _, 20011, rfl, rfl, ?_⟩⟩
    refine ⟨_, rfl, _, rfl, z, _, rfl, rfl, .inr ⟨by omega, by omega⟩, _, rfl, a, _, 2, _, rfl, rfl, SqL.of h1, atI_nat (j := 2) rfl,
      69997, c + 1, rfl, rfl, .inl ⟨by decide, by decide⟩, _, _, rfl, rfl, _, 7, rfl, rfl, .inl ⟨_, rfl, _, 2147483629, rfl, rfl, (by show (0 : Int) < 2147483629; decide), _, rfl, a, _, 0, 0, rfl, rfl, h1, rfl, ?_⟩⟩
    have h2 : ∀ v : Int, (upd (upd H a (.lst [.int z, .int g, .int (c + 1)])) a (.lst [.int v, .int g, .int (c + 1)])) a = some (.lst [.int v, .int g, .int (c + 1)]) := fun v => upd_same
    have k2 : ∀ v : Int, But a H (upd (upd H a (.lst [.int z, .int g, .int (c + 1)])) a (.lst [.int v, .int g, .int (c + 1)])) := fun v => ((But.refl a H).set).set
    refine ⟨_, rfl, a, _, 1, .int g, rfl, rfl, SqL.of (h2 _), atI_nat (j := 1) rfl, g, 0, rfl, rfl, _, rfl, ?_⟩
    by_cases cg : g > 0
    · rw [decide_eq_true cg]
      refine iteT ?_
      refine ⟨_, rfl, a, _, 1, .int g, rfl, rfl, SqL.of (h2 _), atI_nat (j := 1) rfl, _, rfl, g, m, rfl, ⟨m0, PyProof.noPylong_of_log2 m1⟩, fun p hp => ?_⟩
      have npa : a ≠ p := ne_of_none (h2 _) hp
      have h3 : ∀ v : Int, (upd (upd (upd H a (.lst [.int z, .int g, .int (c + 1)])) a (.lst [.int v, .int g, .int (c + 1)])) p (.tup [.int (g / m), .int (g % m)])) a = some (.lst [.int v, .int g, .int (c + 1)]) := fun v => (upd_ne npa).trans (h2 v)
      refine ⟨p, _, rfl, .inl (.inl upd_same), rfl, .int (g / m), [.int (g % m)], rfl, _, rfl, a, _, 1, 1, rfl, rfl, h3 _, rfl, .int (g % m), [], rfl, rfl, _, rfl, ?_⟩
      refine q _ _ (Int.emod_nonneg _ (by omega)) (Int.emod_lt_of_pos _ m0) ⟨_, g / m, c + 1, upd_same, Int.ediv_nonneg hg (by omega)⟩ ?_
      exact ((k2 _).same (same_new hp)).set
    · rw [decide_eq_false cg]
      refine iteF ?_
      refine ⟨_, rfl, a, _, 0, .int _, rfl, rfl, SqL.of (h2 _), atI_nat (j := 0) rfl, _, 97, rfl, rfl, ⟨by decide, by decide⟩, .inl ⟨_, rfl, _, rfl, _, m, rfl, rfl, m0, ?_⟩⟩
      exact q _ _ (Int.emod_nonneg _ (by omega)) (Int.emod_lt_of_pos _ m0) ⟨_, g, c + 1, h2 _, hg⟩ (k2 _)
theorem ok_q_great (T : Txt K mg) : FnOk P w K mg base CX0 2 T.a_q_great T.fd_q_great ["_law_purse_here", "_law_many"] spGreat := by
  refine T.F_q_great.ok sc_q_great (fun vs H Q E h => ?_) (fun cdv A outer s H vs Q E hr h => ?_)
  · obtain ⟨a, k, rfl, _⟩ := h
    rfl
  · obtain ⟨a, k, rfl, bag, hk, q⟩ := h
    refine ⟨_, (pss_cons (ps_set (i := 2) sc_q_great.nd rfl (Or.inl rfl) pe_int)
      (pss_cons (ps_for PassesOwn.never rfl (pi_range1 (by rfl) T.z_range (pa_cons (pv 1) pa_nil)) (pg_name (i := 3) sc_q_great.nd rfl (Or.inl rfl)) (pss_one (ps_set (i := 2) sc_q_great.nd rfl (Or.inl rfl) (pe_op op_add (pe_op op_mul (pv 2) (pe_op op_pow pe_int pe_int)) (pe_call (ok_q_draw T) (hr.mono (by decide)) (by rfl) T.g_q_draw T.F_q_draw.kp (b_q_draw T) .nil pass0 (pa_cons (pv 0) (pa_cons (pe_op op_pow pe_int pe_int) pa_nil)))))))
      (pss_one (ps_ret (pv 2))))), ?_⟩
    refine ⟨_, rfl, (k : Int), rfl, by omega, by omega, ?_⟩
    refine for_range (lo := 0) (n := k) (fun i σ H' => ∃ (v : Int) (y : Option V), σ = [some (.ref a), some (.int k), some (.int v), y] ∧ 0 ≤ v ∧ v < 10 ^ (6 * i) ∧ Bag H' a ∧ But a H H')
      ⟨0, none, rfl, Int.le_refl 0, (by show (0 : Int) < 1; decide), bag, But.refl a H⟩ ?_ ?_
    · rintro i σ H' hi ⟨v, y, rfl, v0, v1, bag1, but1⟩
      refine ⟨_, rfl, 10, 6, rfl, rfl, ⟨by decide, by decide, by decide⟩, v, _, rfl, rfl, .inr ⟨by decide, by decide⟩, _, rfl, 10, 6, rfl, rfl, ⟨by decide, by decide, by decide⟩, a, _, rfl, bag1, (by decide), (by decide), fun r H2 r0 r1 bag2 but2 => ?_⟩
      have pu := pow_up v0 v1 r0 r1
      exact ⟨_, _, rfl, rfl, _, some (.int (0 + i)), rfl, pu.1, pu.2, bag2, but1.trans but2⟩
    · rintro σ H' ⟨v, y, rfl, v0, v1, bag1, but1⟩
      exact ⟨_, rfl, q v H' v0 v1 bag1 but1⟩
end
end K02

set_option Elab.async false
set_option linter.all false
set_option maxRecDepth 100000
set_option maxHeartbeats 4000000
namespace K02
open PySem PySem.Spec PyProof.Rows L2 GX OX TX
theorem sg_lt {d r : Int} {N : Nat} (d0 : 0 ≤ d) (d1 : d < 2) (h : r.natAbs < N) : ((1 - 2 * d) * r).natAbs < N := by
  have : d = 0 ∨ d = 1 := by omega
  rcases this with rfl | rfl
  · simpa using h
  · have e : ((1 : Int) - 2 * 1) * r = -r := by omega
    rw [e, Int.natAbs_neg]
    exact h
def eight : List Int := [0, 1, 60, 100, 999, 10 ^ 9, 10 ^ 18, 10 ^ 30]
theorem eight_lt : ∀ v ∈ eight, v.natAbs < 10 ^ 60 := by decide +kernel
theorem ten_lt {r : Int} {m : Int} (r0 : 0 ≤ r) (r1 : r < m) (h : m ≤ 10 ^ 60) : r.natAbs < 10 ^ 60 := by
  have e : ((10 ^ 60 : Nat) : Int) = 10 ^ 60 := by norm_cast
  omega
section
variable {P : Program} {w : World} {K : PySem.W.Frag} {mg : Str → Option Value} {base : Heap}
theorem ok_q_integer (T : Txt K mg) : FnOk P w K mg base CX0 3 T.a_q_integer T.fd_q_integer ["_law_purse_here"] spInteger := by
  refine T.F_q_integer.ok sc_q_integer (fun vs H Q E h => ?_) (fun cdv A outer s H vs Q E hr h => ?_)
  · obtain ⟨a, rfl, _⟩ := h
    rfl
  · obtain ⟨a, rfl, bag, q⟩ := h
    refine ⟨_, (pss_cons (ps_par (i := 1) (j := 2) (by rfl) sc_q_integer.nd rfl rfl (by decide) rfl rfl (pa_cons (pe_call (ok_q_draw T) (hr.mono (by decide)) (by rfl) T.g_q_draw T.F_q_draw.kp (b_q_draw T) .nil pass0 (pa_cons (pv 0) (pa_cons pe_int pa_nil))) (pa_cons (pe_op op_sub pe_int (pe_op op_mul pe_int (pe_call (ok_q_draw T) (hr.mono (by decide)) (by rfl) T.g_q_draw T.F_q_draw.kp (b_q_draw T) .nil pass0 (pa_cons (pv 0) (pa_cons pe_int pa_nil))))) pa_nil)) (by rfl))
      (pss_cons (ps_if (pt_cmpR op_lt (pv 1) pe_int (nomark _)) (pss_one (ps_ret (pe_op op_mul (pv 2) (pe_call (ok_q_draw T) (hr.mono (by decide)) (by rfl) T.g_q_draw T.F_q_draw.kp (b_q_draw T) .nil pass0 (pa_cons (pv 0) (pa_cons pe_int pa_nil)))))) pss_nil)
      (pss_cons (ps_if (pt_cmpR op_eq (pv 1) pe_int (nomark _)) (pss_one (ps_ret (pe_op op_mul (pv 2) (pe_ix ix_list (pe_lst (pa_cons pe_int (pa_cons pe_int (pa_cons pe_int (pa_cons pe_int (pa_cons pe_int (pa_cons (pe_op op_pow pe_int pe_int) (pa_cons (pe_op op_pow pe_int pe_int) (pa_cons (pe_op op_pow pe_int pe_int) pa_nil))))))))) (pe_call (ok_q_draw T) (hr.mono (by decide)) (by rfl) T.g_q_draw T.F_q_draw.kp (b_q_draw T) .nil pass0 (pa_cons (pv 0) (pa_cons pe_int pa_nil))) (fun _ _ => rfl))))) pss_nil)
      (pss_cons (ps_if (pt_cmpR op_eq (pv 1) pe_int (nomark _)) (pss_one (ps_ret (pe_op op_mul (pv 2) (pe_call (ok_q_draw T) (hr.mono (by decide)) (by rfl) T.g_q_draw T.F_q_draw.kp (b_q_draw T) .nil pass0 (pa_cons (pv 0) (pa_cons (pe_op op_pow pe_int pe_int) pa_nil)))))) pss_nil)
      (pss_one (ps_ret (pe_op op_mul (pv 2) (pe_call (ok_q_great T) (hr.mono (by decide)) (by rfl) T.g_q_great T.F_q_great.kp (b_q_great T) .nil pass0 (pa_cons (pv 0) (pa_cons (pe_op op_add pe_int (pe_call (ok_q_draw T) (hr.mono (by decide)) (by rfl) T.g_q_draw T.F_q_draw.kp (b_q_draw T) .nil pass0 (pa_cons (pv 0) (pa_cons pe_int pa_nil)))) pa_nil)))))))))), ?_⟩
    refine ⟨_, rfl, a, 6, rfl, bag, by decide, by decide, fun way H1 w0 w1 bag1 b1 => ⟨_, rfl, a, 2, rfl, bag1, by decide, by decide, fun d H2 d0 d1 bag2 b2 => ?_⟩⟩
    have b12 := b1.trans b2
    refine ⟨2, d, rfl, rfl, .inl ⟨by decide, by decide⟩, 1, _, rfl, rfl, _, _, rfl, ?_⟩
    refine ⟨_, rfl, way, 2, rfl, rfl, _, rfl, ite2 (fun _ => ?_) (fun _ => ?_)⟩
    · exact ⟨_, rfl, _, rfl, a, 13, rfl, bag2, by decide, by decide, fun r H3 r0 r1 bag3 b3 => ⟨_, r, rfl, rfl, .inl ⟨by omega, by omega⟩, q _ H3 (sg_lt d0 d1 (ten_lt r0 r1 (by decide))) bag3 (b12.trans b3)⟩⟩
    · refine ⟨_, rfl, rfl, _, rfl, ite2 (fun _ => ?_) (fun _ => ?_)⟩
      · refine ⟨_, rfl, 10, 9, rfl, rfl, ⟨by decide, by decide, by decide⟩, 10, 18, rfl, rfl, ⟨by decide, by decide, by decide⟩, 10, 30, rfl, rfl, ⟨by decide, by decide, by decide⟩, (by show 8 ≤ sizeLine; decide), fun l hl => ?_⟩
        refine ⟨_, rfl, a, 8, rfl, bag2.keep (same_new hl), by decide, by decide, fun r H3 r0 r1 bag3 b3 => ?_⟩
        obtain ⟨j, rfl⟩ := Int.eq_ofNat_of_zero_le r0
        have hj : j < eight.length := by
          show j < 8
          omega
        have g : (eight.map V.int)[j]? = some (.int eight[j]) := by
          rw [List.getElem?_map, List.getElem?_eq_getElem hj]
          rfl
        have vb := eight_lt _ (List.getElem_mem hj)
        refine ⟨l, eight.map V.int, j, _, rfl, rfl, SqL.of (b3 _ _ (bag2.ne hl) upd_same), atI_nat g, _, _, rfl, rfl, .inl ⟨by omega, by omega⟩, ?_⟩
        exact q _ H3 (sg_lt d0 d1 vb) bag3 ((b12.same (same_new hl)).trans b3)
      · refine ⟨_, rfl, rfl, _, rfl, ite2 (fun _ => ?_) (fun _ => ?_)⟩
        · exact ⟨_, rfl, _, rfl, 10, 6, rfl, rfl, ⟨by decide, by decide, by decide⟩, a, _, rfl, bag2, (by decide), (by decide), fun r H3 r0 r1 bag3 b3 => ⟨_, r, rfl, rfl, .inl ⟨by omega, by omega⟩, q _ H3 (sg_lt d0 d1 (ten_lt r0 r1 (by decide))) bag3 (b12.trans b3)⟩⟩
        · refine ⟨_, rfl, _, rfl, _, rfl, a, 10, rfl, bag2, (by decide), (by decide), fun r H3 r0 r1 bag3 b3 => ?_⟩
          obtain ⟨j, rfl⟩ := Int.eq_ofNat_of_zero_le r0
          refine ⟨1, _, rfl, rfl, a, 1 + j, congrArg (fun z => [V.ref a, V.int z]) (by omega), bag3, by omega, fun v H4 v0 v1 bag4 b4 => ⟨_, v, rfl, rfl, .inl ⟨by omega, by omega⟩, ?_⟩⟩
          exact q _ H4 (sg_lt d0 d1 (ten_lt v0 v1 (pow_le10 (by omega)))) bag4 ((b12.trans b3).trans b4)
theorem ok_q_lowest (T : Txt K mg) : FnOk P w K mg base CX0 1 T.a_q_lowest T.fd_q_lowest ["_law_top", "_law_bottom"] spLowest := by
  refine T.F_q_lowest.ok sc_q_lowest (fun vs H Q E h => ?_) (fun cdv A outer s H vs Q E hr h => ?_)
  · obtain ⟨t, b, rfl, _⟩ := h
    rfl
  · obtain ⟨t, b, rfl, hb, q⟩ := h
    refine ⟨_, (pss_cons (ps_par (i := 2) (j := 3) (by rfl) sc_q_lowest.nd rfl rfl (by decide) rfl rfl (pa_cons (pe_callB call_abs (by rfl) T.z_abs (by decide +kernel) (pa_cons (pv 0) pa_nil)) (pa_cons (pv 1) pa_nil)) (by rfl))
      (pss_cons (ps_while PassesOwn.never (pt_cmpR op_gt (pv 3) pe_int (nomark _)) (pss_one (ps_par (i := 2) (j := 3) (by rfl) sc_q_lowest.nd rfl rfl (by decide) rfl rfl (pa_cons (pv 3) (pa_cons (pe_op op_mod (pe_callTy call_int1 (by rfl) T.z_int (by decide +kernel) (pa_cons (pv 2) pa_nil)) (pv 3)) pa_nil)) (by rfl))))
      (pss_one (ps_ret (pe_cmpR op_eq (pv 2) pe_int (nomark _)))))), ?_⟩
    refine ⟨_, rfl, t, rfl, _, rfl, _, _, rfl, ?_⟩
    have abs0 : (if t < 0 then -t else t) = ((t.natAbs : Nat) : Int) := by split <;> omega
    rw [abs0]
    refine while_by (fun σ H' => ∃ g s : Nat, σ = [some (.int t), some (.int b), some (.int g), some (.int s)] ∧ Nat.gcd g s = Nat.gcd t.natAbs b.natAbs ∧ H' = H)
      (fun (σ : L2.St) (_ : Hp) => match σ[3]? with | some (some (V.int s)) => s.toNat | _ => 0) ⟨t.natAbs, b.natAbs, ?_, rfl, rfl⟩ ?_ ?_
    · have e : b = ((b.natAbs : Nat) : Int) := by omega
      show [some (V.int t), some (V.int b), some (V.int ((t.natAbs : Nat) : Int)), some (V.int b)] = [some (V.int t), some (V.int b), some (V.int ((t.natAbs : Nat) : Int)), some (V.int ((b.natAbs : Nat) : Int))]
      rw [← e]
    · rintro σ H' ⟨g, s', rfl, hg, rfl⟩
      refine ⟨_, rfl, s', 0, rfl, rfl, _, rfl, ite2 (fun c => ?_) (fun c => ?_)⟩
      · have c2 := of_decide_eq_true c
        refine ⟨_, rfl, _, rfl, .inl ⟨g, rfl, _, rfl, g, s', rfl, rfl, (by show (0 : Int) < s'; omega), _, _, rfl, ⟨s', g % s', ?_, ?_, rfl⟩, ?_⟩⟩
        · have e : ((g : Int) % (s' : Int)) = ((g % s' : Nat) : Int) := by omega
          show [some (V.int t), some (V.int b), some (V.int s'), some (V.int ((g : Int) % (s' : Int)))] = _
          rw [e]
        · rw [← hg, Nat.gcd_comm g s', Nat.gcd_rec s' g, Nat.gcd_comm]
        · show ((g : Int) % (s' : Int)).toNat < (s' : Int).toNat
          have h1 : (g : Int) % (s' : Int) < s' := Int.emod_lt_of_pos _ (by omega)
          have h2 : 0 ≤ (g : Int) % (s' : Int) := Int.emod_nonneg _ (by omega)
          omega
      · have c2 : ¬ ((s' : Int) > 0) := fun z => c (decide_eq_true z)
        have s0 : s' = 0 := by omega
        subst s0
        refine ⟨_, rfl, rfl, ?_⟩
        rw [Nat.gcd_zero_right] at hg
        have e : decide (V.int (g : Int) = V.int 1) = (Nat.gcd t.natAbs b.natAbs == 1) := by
          rw [← hg, dec_int]
          refine Bool.eq_iff_iff.mpr ?_
          rw [beq_iff_eq, beq_iff_eq]
          omega
        rw [e]
        exact q
    · rintro σ H' Q1 Q2 hq ⟨v, e, i, j, e1, e2, k, e3, z⟩
      exact ⟨v, e, i, j, e1, e2, k, e3, hq _ _ z⟩
end
end K02

set_option Elab.async false
set_option linter.all false
set_option maxRecDepth 100000
set_option maxHeartbeats 4000000
namespace K02
open PySem PySem.Spec PyProof.Rows L2 GX OX TX TL
/-! ### a ratio as it stands -/
def gI (t b : Int) : Int := ((Nat.gcd t.natAbs b.natAbs : Nat) : Int)
def Rat (C : Addr) (H : Hp) (a : Addr) (t b f : Int) : Prop := ∃ (dx : Addr) (fs : List (Str × V)), H a = some (.ins C dx fs) ∧ fs.lookup ("top" : Str) = some (.int t) ∧ fs.lookup ("bottom" : Str) = some (.int b) ∧ fs.lookup ("floor" : Str) = some (.int f)
theorem Rat.keep {C : Addr} {H H' : Hp} {a : Addr} {t b f : Int} (r : Rat C H a t b f) (s : Same H H') : Rat C H' a t b f := by
  obtain ⟨dx, fs, h, r⟩ := r
  exact ⟨dx, fs, s _ _ h, r⟩
theorem f_top (x y z : V) : (putF "floor" z (putF "bottom" y (putF "top" x []))).lookup ("top" : Str) = some x := by
  rw [lookup_putF, if_neg (by decide), lookup_putF, if_neg (by decide), lookup_putF, if_pos rfl]
theorem f_bottom (x y z : V) : (putF "floor" z (putF "bottom" y (putF "top" x []))).lookup ("bottom" : Str) = some y := by
  rw [lookup_putF, if_neg (by decide), lookup_putF, if_pos rfl]
theorem f_floor (x y z : V) : (putF "floor" z (putF "bottom" y (putF "top" x []))).lookup ("floor" : Str) = some z := by
  rw [lookup_putF, if_pos rfl]
theorem f_few (x y : V) : (putF "bottom" y (putF "top" x [])).length < 1000 := by
  simp only [putF]
  split <;> simp
theorem f_few1 (x : V) : (putF "top" x []).length < 1000 := by
  simp [putF]
theorem wd {j : Int} (h : 0 < j) (hb : j.natAbs < 2 ^ 3000) (i : Int) : CDivW i j := wide_div h hb (by decide) (by decide)
theorem gI_pos {t b : Int} (h : 0 < b) : 0 < gI t b := by
  have : 0 < Nat.gcd t.natAbs b.natAbs := Nat.gcd_pos_of_pos_right _ (by omega)
  show (0 : Int) < ((Nat.gcd t.natAbs b.natAbs : Nat) : Int)
  omega
theorem gI_lt {t b : Int} (h : 0 < b) (hb : b.natAbs < 2 ^ 3000) : (gI t b).natAbs < 2 ^ 3000 := by
  have := Nat.gcd_le_right t.natAbs (show 0 < b.natAbs by omega)
  show (((Nat.gcd t.natAbs b.natAbs : Nat) : Int)).natAbs < 2 ^ 3000
  omega
def spInit (C : Addr) : Sp := fun vs H Q _ => ∃ (x : Addr) (t b : Int), vs = [.ref x, .int t, .int b] ∧ 0 < b ∧ b.natAbs < 2 ^ 3000 ∧ (∃ dx, H x = some (.ins C dx [])) ∧
  ∀ H', But x H H' → Rat C H' x (t / gI t b) (b / gI t b) (t / b) → Q .non H'
theorem sz {n : Nat} (h : n ≤ 1000) : n ≤ sizeLine := Nat.le_of_lt (small1000 h)
section
variable {P : Program} {w : World} {K : PySem.W.Frag} {mg : Str → Option Value} {base : Heap}
theorem ok_Ratio___init__ (T : Txt K mg) : FnOk P w K mg base CX0 2 T.a_Ratio___init__ T.fd_Ratio___init__ ["self", "top", "bottom"] (spInit T.C) := by
  refine T.F_Ratio___init__.ok sc_Ratio___init__ (fun vs H Q E h => ?_) (fun cdv A outer s H vs Q E hr h => ?_)
  · obtain ⟨x, t, b, rfl, _⟩ := h
    rfl
  · obtain ⟨x, t, b, rfl, b0, b1, ⟨dx, hx⟩, q⟩ := h
    refine ⟨_, PSs.nox (pss_cons (ps_if (pt_not (pt_val (pe_call (ok_is_integer T) (hr.mono (by decide)) (by rfl) T.g_is_integer T.F_is_integer.kp (b_is_integer T) .nil pass0 (pa_cons (pv 1) pa_nil)))) (pss_one ps_never) pss_nil)
      (pss_cons (ps_if (PW.pt (pw_or (pt_not (pt_val (pe_call (ok_is_integer T) (hr.mono (by decide)) (by rfl) T.g_is_integer T.F_is_integer.kp (b_is_integer T) .nil pass0 (pa_cons (pv 2) pa_nil)))) (pw_or1 (pt_cmpR op_lt (pv 2) pe_int (nomark _))))) (pss_one ps_never) pss_nil)
      (pss_cons (ps_set (i := 3) sc_Ratio___init__.nd rfl (Or.inl rfl) (pe_callBfun cr_gcd (by rfl) T.g_gcd (pa_cons (pv 1) (pa_cons (pv 2) pa_nil))))
      (pss_cons (ps_fld (pv 0) (pe_op op_fdivW (pv 1) (pv 3)) rfl)
      (pss_cons (ps_fld (pv 0) (pe_op op_fdivW (pv 2) (pv 3)) rfl)
      (pss_one (ps_fld (pv 0) (pe_op op_fdivW (pv 1) (pv 2)) rfl))))))), ?_⟩
    refine ⟨_, rfl, .int t, rfl, pl_int t, true, rfl, iteF ?_⟩
    refine ⟨_, rfl, .int b, rfl, pl_int b, true, rfl, iteF ?_⟩
    refine ⟨_, rfl, b, 1, rfl, rfl, false, congrArg V.bl (decide_eq_false (by omega)), iteF ?_⟩
    refine ⟨_, rfl, _, rfl, t, b, rfl, ?_⟩
    have g0 := gI_pos (t := t) b0
    have g1 := gI_lt (t := t) b0 b1
    refine ⟨_, rfl, _, rfl, t, gI t b, rfl, rfl, wd g0 g1 t, _, rfl, x, T.C, dx, [], rfl, hx, T.cl, T.nT, (by decide), ?_⟩
    refine ⟨_, rfl, _, rfl, b, gI t b, rfl, rfl, wd g0 g1 b, _, rfl, x, T.C, dx, _, rfl, upd_same, T.cl, T.nB, f_few1 _, ?_⟩
    refine ⟨_, rfl, _, rfl, t, b, rfl, rfl, wd b0 b1 t, _, rfl, x, T.C, dx, _, rfl, upd_same, T.cl, T.nF, f_few _ _, ?_⟩
    exact q _ (((But.refl x H).set).set).set ⟨dx, _, upd_same, f_top _ _ _, f_bottom _ _ _, f_floor _ _ _⟩
end
end K02

set_option Elab.async false
set_option linter.all false
set_option maxRecDepth 100000
set_option maxHeartbeats 4000000
namespace K02
open PySem PySem.Spec PyProof.Rows L2 GX OX TX
theorem pe_bot {X : Cx} {e : Expr} : PE X e (fun _ _ _ => False) := ⟨fun _ _ _ _ _ _ h => h.elim⟩
theorem mk_same {C : Addr} {H H' : Hp} {x dx : Addr} (nx : H x = none) (nd : H dx = none) (b : But x (upd (upd H dx (.own x)) x (.ins C dx [])) H') : Same H H' := fun c o h => by
  have nc : c ≠ x := ne_of_none h nx
  refine b _ _ nc ?_
  rw [upd_ne nc, upd_ne (ne_of_none h nd)]
  exact h

def Fit (n : Nat) (t b : Int) : Prop := t.natAbs < 2 ^ n ∧ b.natAbs < 2 ^ n
structure RV (C : Addr) (H : Hp) (a : Addr) (t b : Int) (n : Nat) : Prop where
  rat : ∃ f, Rat C H a t b f
  b0 : 0 < b
  fit : Fit n t b
  co : Nat.gcd t.natAbs b.natAbs = 1
theorem RV.keep {C : Addr} {H H' : Hp} {a : Addr} {t b : Int} {n : Nat} (r : RV C H a t b n) (s : Same H H') : RV C H' a t b n := by
  obtain ⟨⟨f, x⟩, y, z, w⟩ := r
  exact ⟨⟨f, x.keep s⟩, y, z, w⟩
theorem RV.pos {C : Addr} {H : Hp} {a : Addr} {t b : Int} {n : Nat} (r : RV C H a t b n) : 0 < n := by
  rcases Nat.eq_zero_or_pos n with rfl | z
  · have h1 := r.fit.2
    have h2 := r.b0
    rw [Nat.pow_zero] at h1
    omega
  · exact z
inductive Num (C : Addr) (H : Hp) (y : V) (t b : Int) (n : Nat) : Prop
  | own (a : Addr) (e : y = .ref a) (r : RV C H a t b n)
  | int (e : y = .int t) (e1 : b = 1) (h : t.natAbs < 2 ^ n) (h0 : 0 < n)
theorem Num.keep {C : Addr} {H H' : Hp} {y : V} {t b : Int} {n : Nat} (r : Num C H y t b n) (s : Same H H') : Num C H' y t b n := by
  cases r with
  | own a e r => exact .own a e (r.keep s)
  | int e e1 h h0 => exact .int e e1 h h0
theorem Num.fit {C : Addr} {H : Hp} {y : V} {t b : Int} {n : Nat} (r : Num C H y t b n) : Fit n t b ∧ 0 < b ∧ 0 < n := by
  cases r with
  | own a e r => exact ⟨r.fit, r.b0, r.pos⟩
  | int e e1 h h0 =>
    subst e1
    exact ⟨⟨h, Nat.one_lt_two_pow (by omega)⟩, by decide, h0⟩
theorem cw {n m : Nat} {i j : Int} (hi : i.natAbs < 2 ^ n) (hj : j.natAbs < 2 ^ m) (n0 : 0 < n) (m0 : 0 < m) (h : n + m ≤ 3000) : CMulW i j := wide_mul hi hj n0 m0 (by omega)
theorem p3 {n k : Nat} {i : Nat} (h : i < 2 ^ n) (hk : n ≤ k) : i < 2 ^ k := Nat.lt_of_lt_of_le h (Nat.pow_le_pow_right (by decide) hk)
theorem mlt {n m : Nat} {i j : Int} (hi : i.natAbs < 2 ^ n) (hj : j.natAbs < 2 ^ m) : (i * j).natAbs < 2 ^ (n + m) := wide_lt hi hj
theorem alt {k : Nat} {i j : Int} (hi : i.natAbs < 2 ^ k) (hj : j.natAbs < 2 ^ k) : (i + j).natAbs < 2 ^ (k + 1) := by
  rw [Nat.pow_succ]
  generalize 2 ^ k = p at *
  omega
theorem slt {k : Nat} {i j : Int} (hi : i.natAbs < 2 ^ k) (hj : j.natAbs < 2 ^ k) : (i - j).natAbs < 2 ^ (k + 1) := by
  rw [Nat.pow_succ]
  generalize 2 ^ k = p at *
  omega
theorem made {C : Addr} {H : Hp} {x : Addr} {T B f : Int} {k : Nat} (B0 : 0 < B) (h : Fit k T B) (r : Rat C H x (T / gI T B) (B / gI T B) f) : ∃ t b, RV C H x t b k ∧ t * B = T * b := by
  have g0 := gI_pos (t := T) B0
  have dT : gI T B ∣ T := by
    have h1 : ((Nat.gcd T.natAbs B.natAbs : Nat) : Int) ∣ ((T.natAbs : Nat) : Int) := Int.natCast_dvd_natCast.mpr (Nat.gcd_dvd_left _ _)
    exact Int.dvd_natAbs.mp h1
  have dB : gI T B ∣ B := by
    have h1 : ((Nat.gcd T.natAbs B.natAbs : Nat) : Int) ∣ ((B.natAbs : Nat) : Int) := Int.natCast_dvd_natCast.mpr (Nat.gcd_dvd_right _ _)
    exact Int.dvd_natAbs.mp h1
  have eT : gI T B * (T / gI T B) = T := Int.mul_ediv_cancel' dT
  have eB : gI T B * (B / gI T B) = B := Int.mul_ediv_cancel' dB
  have gn : (gI T B).natAbs = Nat.gcd T.natAbs B.natAbs := rfl
  have nT : (T / gI T B).natAbs = T.natAbs / Nat.gcd T.natAbs B.natAbs := by
    have := congrArg Int.natAbs eT
    rw [Int.natAbs_mul, gn] at this
    exact (Nat.div_eq_of_eq_mul_right (Nat.gcd_pos_of_pos_right _ (by omega)) this.symm).symm
  have nB : (B / gI T B).natAbs = B.natAbs / Nat.gcd T.natAbs B.natAbs := by
    have := congrArg Int.natAbs eB
    rw [Int.natAbs_mul, gn] at this
    exact (Nat.div_eq_of_eq_mul_right (Nat.gcd_pos_of_pos_right _ (by omega)) this.symm).symm
  refine ⟨_, _, ⟨⟨f, r⟩, ?_, ⟨?_, ?_⟩, ?_⟩, ?_⟩
  · exact Int.ediv_pos_of_pos_of_dvd B0 (Int.le_of_lt g0) dB
  · rw [nT]
    exact Nat.lt_of_le_of_lt (Nat.div_le_self _ _) h.1
  · rw [nB]
    exact Nat.lt_of_le_of_lt (Nat.div_le_self _ _) h.2
  · rw [nT, nB]
    exact Nat.coprime_div_gcd_div_gcd (Nat.gcd_pos_of_pos_right _ (by omega))
  · have h1 : gI T B * (T / gI T B * B) = gI T B * (T * (B / gI T B)) := by
      rw [← Int.mul_assoc, eT, Int.mul_left_comm, eB]
    exact Int.eq_of_mul_eq_mul_left (by omega) h1
theorem mk_fin {C : Addr} {H : Hp} {x dx : Addr} {T B : Int} {k : Nat} {Q : VK} (nx : H x = none) (nd : H dx = none) (B0 : 0 < B) (hB : Fit k T B) (hk : k ≤ 3000)
    (q : ∀ x t b H', H x = none → Same H H' → RV C H' x t b k → t * B = T * b → Q (.ref x) H') :
    spInit C [.ref x, .int T, .int B] (upd (upd H dx (.own x)) x (.ins C dx [])) (fun v H2 => v = .non ∧ Q (.ref x) H2) E0 := by
  refine ⟨x, T, B, rfl, B0, p3 hB.2 hk, ⟨dx, upd_same⟩, fun H' but rat => ⟨rfl, ?_⟩⟩
  obtain ⟨t, b, rv, e⟩ := made B0 hB rat
  exact q x t b H' nx (mk_same nx nd but) rv e
theorem kd_pl {K : PySem.W.Frag} {H : Hp} {i : Int} : Pl K H (.int i) ∧ isI (.int i) = true := ⟨pl_int i, rfl⟩
def spIsNum (C : Addr) : Sp := fun vs H Q _ => ∃ (y : V) (t b : Int) (n : Nat), vs = [y] ∧ Num C H y t b n ∧ Q (.bl true) H
def spTop (C : Addr) : Sp := fun vs H Q _ => ∃ (y : V) (t b : Int) (n : Nat), vs = [y] ∧ Num C H y t b n ∧ Q (.int t) H
def spBot (C : Addr) : Sp := fun vs H Q _ => ∃ (y : V) (t b : Int) (n : Nat), vs = [y] ∧ Num C H y t b n ∧ Q (.int b) H
def spLead (C : Addr) : Sp := fun vs H Q _ => ∃ (a : Addr) (y : V) (t1 b1 t2 b2 : Int) (n m : Nat), vs = [.ref a, y] ∧ RV C H a t1 b1 n ∧ Num C H y t2 b2 m ∧ n + m + 1 ≤ 3000 ∧ Q (.int (t1 * b2 - t2 * b1)) H
def spEq (C : Addr) : Sp := fun vs H Q _ => ∃ (a : Addr) (y : V) (t1 b1 t2 b2 : Int) (n m : Nat), vs = [.ref a, y] ∧ RV C H a t1 b1 n ∧ Num C H y t2 b2 m ∧ n + m + 1 ≤ 3000 ∧ Q (.bl (t1 * b2 - t2 * b1 == 0)) H
def spBin (C : Addr) (num : Int → Int → Int → Int → Int) : Sp := fun vs H Q _ => ∃ (a : Addr) (y : V) (t1 b1 t2 b2 : Int) (n m : Nat), vs = [.ref a, y] ∧ RV C H a t1 b1 n ∧ Num C H y t2 b2 m ∧ n + m + 1 ≤ 3000 ∧
  ∀ x t b H', H x = none → Same H H' → RV C H' x t b (n + m + 1) → t * (b1 * b2) = num t1 b1 t2 b2 * b → Q (.ref x) H'
def spNeg (C : Addr) : Sp := fun vs H Q _ => ∃ (a : Addr) (t1 b1 : Int) (n : Nat), vs = [.ref a] ∧ RV C H a t1 b1 n ∧ n ≤ 3000 ∧ ∀ x t b H', H x = none → Same H H' → RV C H' x t b n → t * b1 = (-t1) * b → Q (.ref x) H'
def spBool (C : Addr) : Sp := fun vs H Q _ => ∃ (a : Addr) (t1 b1 : Int) (n : Nat), vs = [.ref a] ∧ RV C H a t1 b1 n ∧ Q (.bl (!(t1 == 0))) H
abbrev nAdd (t1 b1 t2 b2 : Int) : Int := t1 * b2 + t2 * b1
abbrev nSub (t1 b1 t2 b2 : Int) : Int := t1 * b2 - t2 * b1
abbrev nRsub (t1 b1 t2 b2 : Int) : Int := -(t1 * b2 - t2 * b1)
abbrev nMul (t1 _b1 t2 _b2 : Int) : Int := t1 * t2
theorem swap {n m : Nat} {x : Nat} (h : x < 2 ^ (m + n)) : x < 2 ^ (n + m) := by rw [Nat.add_comm]; exact h
theorem fitB {n m : Nat} {b1 b2 : Int} (h1 : b1.natAbs < 2 ^ n) (h2 : b2.natAbs < 2 ^ m) : (b1 * b2).natAbs < 2 ^ (n + m + 1) := p3 (mlt h1 h2) (by omega)
theorem fit_add {n m : Nat} {t1 b1 t2 b2 : Int} (h1 : Fit n t1 b1) (h2 : Fit m t2 b2) : Fit (n + m + 1) (nAdd t1 b1 t2 b2) (b1 * b2) := ⟨alt (mlt h1.1 h2.2) (swap (mlt h2.1 h1.2)), fitB h1.2 h2.2⟩
theorem fit_sub {n m : Nat} {t1 b1 t2 b2 : Int} (h1 : Fit n t1 b1) (h2 : Fit m t2 b2) : Fit (n + m + 1) (nSub t1 b1 t2 b2) (b1 * b2) := ⟨slt (mlt h1.1 h2.2) (swap (mlt h2.1 h1.2)), fitB h1.2 h2.2⟩
theorem fit_rsub {n m : Nat} {t1 b1 t2 b2 : Int} (h1 : Fit n t1 b1) (h2 : Fit m t2 b2) : Fit (n + m + 1) (nRsub t1 b1 t2 b2) (b1 * b2) := ⟨by rw [Int.natAbs_neg]; exact (fit_sub h1 h2).1, fitB h1.2 h2.2⟩
theorem fit_mul {n m : Nat} {t1 b1 t2 b2 : Int} (h1 : Fit n t1 b1) (h2 : Fit m t2 b2) : Fit (n + m + 1) (nMul t1 b1 t2 b2) (b1 * b2) := ⟨p3 (mlt h1.1 h2.1) (by omega), fitB h1.2 h2.2⟩
section
variable {P : Program} {w : World} {K : PySem.W.Frag} {mg : Str → Option Value} {base : Heap}
theorem bI2 (T : Txt K mg) : Binds K T.fd_Ratio___init__ ["self", "top", "bottom"] [] := by
  obtain ⟨ds, r, b⟩ := T.F_Ratio___init__.binds1 (ps := ["self", "top", "bottom"]) 3 1 (by simp) rfl (fun T kV doc pm an cdv ct us its h1 h2 => by
    match us, its, h1, h2 with
    | [_, _, _], [_], _, _ => exact ⟨_, rfl, rfl⟩)
  cases r
  exact b
theorem ok_is_number (T : Txt K mg) : FnOk P w K mg base CX0 2 T.a_is_number T.fd_is_number ["value"] (spIsNum T.C) := by
  refine T.F_is_number.ok sc_is_number (fun vs H Q E h => ?_) (fun cdv A outer s H vs Q E hr h => ?_)
  · obtain ⟨y, _, _, _, rfl, _⟩ := h
    rfl
  · obtain ⟨y, t, b, n, rfl, h, q⟩ := h
    refine ⟨_, (pss_one (ps_ret (pe_or (pe_callB call_isi (by rfl) T.z_isinstance (by decide +kernel) (pa_cons (pv 0) (pa_cons (pe_glob (v := .ref T.C) rfl T.g_Ratio rfl) pa_nil))) (pe_one (pe_call (ok_is_integer T) (hr.mono (by decide)) (by rfl) T.g_is_integer T.F_is_integer.kp (b_is_integer T) .nil pass0 (pa_cons (pv 0) pa_nil)))))), ?_⟩
    cases h with
    | own a e r =>
      subst e
      obtain ⟨f, dx, fs, ea, _⟩ := r.rat
      exact ⟨_, rfl, .ref a, .ref T.C, .ref T.C, .ref T.C, true, rfl, .own T.C, .base (.ins ea T.cl T.ha T.hn T.ht T.hm), T.kCC, true, rfl, iteT q⟩
    | int e e1 hh h0 =>
      subst e
      exact ⟨_, rfl, .int t, .ref T.C, _, .ref T.C, false, rfl, .own T.C, .base (.int t), T.kI, false, rfl, iteF ⟨_, rfl, .int t, rfl, pl_int t, q⟩⟩
theorem ok__top_of (T : Txt K mg) : FnOk P w K mg base CX0 1 T.a__top_of T.fd__top_of ["number"] (spTop T.C) := by
  refine T.F__top_of.ok sc__top_of (fun vs H Q E h => ?_) (fun cdv A outer s H vs Q E hr h => ?_)
  · obtain ⟨y, _, _, _, rfl, _⟩ := h
    rfl
  · obtain ⟨y, t, b, n, rfl, h, q⟩ := h
    refine ⟨_, (pss_one (ps_ret (pe_ifExp (pt_val (pe_callB call_isi (by rfl) T.z_isinstance (by decide +kernel) (pa_cons (pv 0) (pa_cons (pe_glob (v := .ref T.C) rfl T.g_Ratio rfl) pa_nil)))) (pe_fld (pv 0) rfl) (pv 0)))), ?_⟩
    cases h with
    | own a e r =>
      subst e
      obtain ⟨f, dx, fs, ea, ft, fb, _⟩ := r.rat
      exact ⟨_, rfl, .ref a, .ref T.C, .ref T.C, .ref T.C, true, rfl, .own T.C, .base (.ins ea T.cl T.ha T.hn T.ht T.hm), T.kCC, true, rfl, iteT ⟨_, rfl, a, T.C, dx, fs, _, rfl, ea, T.cl, T.nT, ft, q⟩⟩
    | int e e1 hh h0 =>
      subst e
      subst e1
      exact ⟨_, rfl, .int t, .ref T.C, _, .ref T.C, false, rfl, .own T.C, .base (.int t), T.kI, false, rfl, iteF ⟨_, rfl, q⟩⟩
theorem ok__bottom_of (T : Txt K mg) : FnOk P w K mg base CX0 1 T.a__bottom_of T.fd__bottom_of ["number"] (spBot T.C) := by
  refine T.F__bottom_of.ok sc__bottom_of (fun vs H Q E h => ?_) (fun cdv A outer s H vs Q E hr h => ?_)
  · obtain ⟨y, _, _, _, rfl, _⟩ := h
    rfl
  · obtain ⟨y, t, b, n, rfl, h, q⟩ := h
    refine ⟨_, (pss_one (ps_ret (pe_ifExp (pt_val (pe_callB call_isi (by rfl) T.z_isinstance (by decide +kernel) (pa_cons (pv 0) (pa_cons (pe_glob (v := .ref T.C) rfl T.g_Ratio rfl) pa_nil)))) (pe_fld (pv 0) rfl) pe_int))), ?_⟩
    cases h with
    | own a e r =>
      subst e
      obtain ⟨f, dx, fs, ea, ft, fb, _⟩ := r.rat
      exact ⟨_, rfl, .ref a, .ref T.C, .ref T.C, .ref T.C, true, rfl, .own T.C, .base (.ins ea T.cl T.ha T.hn T.ht T.hm), T.kCC, true, rfl, iteT ⟨_, rfl, a, T.C, dx, fs, _, rfl, ea, T.cl, T.nB, fb, q⟩⟩
    | int e e1 hh h0 =>
      subst e
      subst e1
      exact ⟨_, rfl, .int t, .ref T.C, _, .ref T.C, false, rfl, .own T.C, .base (.int t), T.kI, false, rfl, iteF q⟩
theorem ok__lead (T : Txt K mg) : FnOk P w K mg base CX0 2 T.a__lead T.fd__lead ["ratio", "number"] (spLead T.C) := by
  refine T.F__lead.ok sc__lead (fun vs H Q E h => ?_) (fun cdv A outer s H vs Q E hr h => ?_)
  · obtain ⟨a, y, _, _, _, _, _, _, rfl, _⟩ := h
    rfl
  · obtain ⟨a, y, t1, b1, t2, b2, n, m, rfl, r, nm, hk, q⟩ := h
    refine ⟨_, (pss_one (ps_ret (pe_op op_sub (pe_op op_mulW (pe_fld (pv 0) rfl) (pe_call (ok__bottom_of T) (hr.mono (by decide)) (by rfl) T.g__bottom_of T.F__bottom_of.kp (b__bottom_of T) .nil pass0 (pa_cons (pv 1) pa_nil))) (pe_op op_mulW (pe_call (ok__top_of T) (hr.mono (by decide)) (by rfl) T.g__top_of T.F__top_of.kp (b__top_of T) .nil pass0 (pa_cons (pv 1) pa_nil)) (pe_fld (pv 0) rfl))))), ?_⟩
    obtain ⟨f, dx, fs, ea, ft, fb, ff⟩ := r.rat
    obtain ⟨z2, c0, m0⟩ := nm.fit
    have n0 := r.pos
    refine ⟨_, rfl, a, T.C, dx, fs, _, rfl, ea, T.cl, T.nT, ft, _, rfl, y, t2, b2, m, rfl, nm, t1, b2, rfl, rfl, cw r.fit.1 z2.2 n0 m0 (by omega), ?_⟩
    exact ⟨_, rfl, y, t2, b2, m, rfl, nm, _, rfl, a, T.C, dx, fs, _, rfl, ea, T.cl, T.nB, fb, t2, b1, rfl, rfl, cw z2.1 r.fit.2 m0 n0 (by omega), _, _, rfl, rfl, q⟩
theorem ok__sum_of (T : Txt K mg) : FnOk P w K mg base CX0 4 T.a__sum_of T.fd__sum_of ["ratio", "number"] (spBin T.C nAdd) := by
  refine T.F__sum_of.ok sc__sum_of (fun vs H Q E h => ?_) (fun cdv A outer s H vs Q E hr h => ?_)
  · obtain ⟨a, y, _, _, _, _, _, _, rfl, _⟩ := h
    rfl
  · obtain ⟨a, y, t1, b1, t2, b2, n, m, rfl, r, nm, hk, q⟩ := h
    refine ⟨_, (pss_cons (ps_set (i := 2) sc__sum_of.nd rfl (Or.inl rfl) (pe_op op_add (pe_op op_mulW (pe_fld (pv 0) rfl) (pe_call (ok__bottom_of T) (hr.mono (by decide)) (by rfl) T.g__bottom_of T.F__bottom_of.kp (b__bottom_of T) .nil pass0 (pa_cons (pv 1) pa_nil))) (pe_op op_mulW (pe_call (ok__top_of T) (hr.mono (by decide)) (by rfl) T.g__top_of T.F__top_of.kp (b__top_of T) .nil pass0 (pa_cons (pv 1) pa_nil)) (pe_fld (pv 0) rfl))))
      (pss_one (ps_ret (pe_make T.mkR (ok_Ratio___init__ T) (hr.mono (by decide)) (by rfl) T.g_Ratio (bI2 T) .nil pass0 (pa_cons (pv 2) (pa_cons (pe_op op_mulW (pe_fld (pv 0) rfl) (pe_call (ok__bottom_of T) (hr.mono (by decide)) (by rfl) T.g__bottom_of T.F__bottom_of.kp (b__bottom_of T) .nil pass0 (pa_cons (pv 1) pa_nil))) pa_nil)))))), ?_⟩
    obtain ⟨f, dx, fs, ea, ft, fb, ff⟩ := r.rat
    obtain ⟨z2, c0, m0⟩ := nm.fit
    have n0 := r.pos
    refine ⟨_, rfl, a, T.C, dx, fs, _, rfl, ea, T.cl, T.nT, ft, _, rfl, y, t2, b2, m, rfl, nm, t1, b2, rfl, rfl, cw r.fit.1 z2.2 n0 m0 (by omega), ?_⟩
    refine ⟨_, rfl, y, t2, b2, m, rfl, nm, _, rfl, a, T.C, dx, fs, _, rfl, ea, T.cl, T.nB, fb, t2, b1, rfl, rfl, cw z2.1 r.fit.2 m0 n0 (by omega), _, _, rfl, rfl, ?_⟩
    exact ⟨_, rfl, _, rfl, a, T.C, dx, fs, _, rfl, ea, T.cl, T.nB, fb, _, rfl, y, t2, b2, m, rfl, nm, b1, b2, rfl, rfl, cw r.fit.2 z2.2 n0 m0 (by omega), fun x dx2 nx nd ne => mk_fin nx nd (Int.mul_pos r.b0 c0) (fit_add r.fit z2) (by omega) q⟩
theorem ok__product_of (T : Txt K mg) : FnOk P w K mg base CX0 4 T.a__product_of T.fd__product_of ["ratio", "number"] (spBin T.C nMul) := by
  refine T.F__product_of.ok sc__product_of (fun vs H Q E h => ?_) (fun cdv A outer s H vs Q E hr h => ?_)
  · obtain ⟨a, y, _, _, _, _, _, _, rfl, _⟩ := h
    rfl
  · obtain ⟨a, y, t1, b1, t2, b2, n, m, rfl, r, nm, hk, q⟩ := h
    refine ⟨_, (pss_one (ps_ret (pe_make T.mkR (ok_Ratio___init__ T) (hr.mono (by decide)) (by rfl) T.g_Ratio (bI2 T) .nil pass0 (pa_cons (pe_op op_mulW (pe_fld (pv 0) rfl) (pe_call (ok__top_of T) (hr.mono (by decide)) (by rfl) T.g__top_of T.F__top_of.kp (b__top_of T) .nil pass0 (pa_cons (pv 1) pa_nil))) (pa_cons (pe_op op_mulW (pe_fld (pv 0) rfl) (pe_call (ok__bottom_of T) (hr.mono (by decide)) (by rfl) T.g__bottom_of T.F__bottom_of.kp (b__bottom_of T) .nil pass0 (pa_cons (pv 1) pa_nil))) pa_nil))))), ?_⟩
    obtain ⟨f, dx, fs, ea, ft, fb, ff⟩ := r.rat
    obtain ⟨z2, c0, m0⟩ := nm.fit
    have n0 := r.pos
    refine ⟨_, rfl, a, T.C, dx, fs, _, rfl, ea, T.cl, T.nT, ft, _, rfl, y, t2, b2, m, rfl, nm, t1, t2, rfl, rfl, cw r.fit.1 z2.1 n0 m0 (by omega), ?_⟩
    exact ⟨_, rfl, a, T.C, dx, fs, _, rfl, ea, T.cl, T.nB, fb, _, rfl, y, t2, b2, m, rfl, nm, b1, b2, rfl, rfl, cw r.fit.2 z2.2 n0 m0 (by omega), fun x dx2 nx nd ne => mk_fin nx nd (Int.mul_pos r.b0 c0) (fit_mul r.fit z2) (by omega) q⟩
theorem ok_Ratio___add__ (T : Txt K mg) : FnOk P w K mg base CX0 5 T.a_Ratio___add__ T.fd_Ratio___add__ ["self", "other"] (spBin T.C nAdd) := by
  refine T.F_Ratio___add__.ok sc_Ratio___add__ (fun vs H Q E h => ?_) (fun cdv A outer s H vs Q E hr h => ?_)
  · obtain ⟨a, y, _, _, _, _, _, _, rfl, _⟩ := h
    rfl
  · obtain ⟨a, y, t1, b1, t2, b2, n, m, rfl, r, nm, hk, q⟩ := h
    refine ⟨_, (pss_cons (ps_if (pt_not (pt_val (pe_call (ok_is_number T) (hr.mono (by decide)) (by rfl) T.g_is_number T.F_is_number.kp (b_is_number T) .nil pass0 (pa_cons (pv 1) pa_nil)))) (pss_one (ps_ret pe_bot)) pss_nil)
      (pss_one (ps_ret (pe_call (ok__sum_of T) (hr.mono (by decide)) (by rfl) T.g__sum_of T.F__sum_of.kp (b__sum_of T) .nil pass0 (pa_cons (pv 0) (pa_cons (pv 1) pa_nil)))))), ?_⟩
    exact ⟨_, rfl, y, t2, b2, m, rfl, nm, true, rfl, iteF ⟨_, rfl, _, rfl, a, y, t1, b1, t2, b2, n, m, rfl, r, nm, hk, q⟩⟩
theorem ok_Ratio___radd__ (T : Txt K mg) : FnOk P w K mg base CX0 5 T.a_Ratio___radd__ T.fd_Ratio___radd__ ["self", "other"] (spBin T.C nAdd) := by
  refine T.F_Ratio___radd__.ok sc_Ratio___radd__ (fun vs H Q E h => ?_) (fun cdv A outer s H vs Q E hr h => ?_)
  · obtain ⟨a, y, _, _, _, _, _, _, rfl, _⟩ := h
    rfl
  · obtain ⟨a, y, t1, b1, t2, b2, n, m, rfl, r, nm, hk, q⟩ := h
    refine ⟨_, (pss_cons (ps_if (pt_not (pt_val (pe_call (ok_is_number T) (hr.mono (by decide)) (by rfl) T.g_is_number T.F_is_number.kp (b_is_number T) .nil pass0 (pa_cons (pv 1) pa_nil)))) (pss_one (ps_ret pe_bot)) pss_nil)
      (pss_one (ps_ret (pe_call (ok__sum_of T) (hr.mono (by decide)) (by rfl) T.g__sum_of T.F__sum_of.kp (b__sum_of T) .nil pass0 (pa_cons (pv 0) (pa_cons (pv 1) pa_nil)))))), ?_⟩
    exact ⟨_, rfl, y, t2, b2, m, rfl, nm, true, rfl, iteF ⟨_, rfl, _, rfl, a, y, t1, b1, t2, b2, n, m, rfl, r, nm, hk, q⟩⟩
theorem ok_Ratio___mul__ (T : Txt K mg) : FnOk P w K mg base CX0 5 T.a_Ratio___mul__ T.fd_Ratio___mul__ ["self", "other"] (spBin T.C nMul) := by
  refine T.F_Ratio___mul__.ok sc_Ratio___mul__ (fun vs H Q E h => ?_) (fun cdv A outer s H vs Q E hr h => ?_)
  · obtain ⟨a, y, _, _, _, _, _, _, rfl, _⟩ := h
    rfl
  · obtain ⟨a, y, t1, b1, t2, b2, n, m, rfl, r, nm, hk, q⟩ := h
    refine ⟨_, (pss_cons (ps_if (pt_not (pt_val (pe_call (ok_is_number T) (hr.mono (by decide)) (by rfl) T.g_is_number T.F_is_number.kp (b_is_number T) .nil pass0 (pa_cons (pv 1) pa_nil)))) (pss_one (ps_ret pe_bot)) pss_nil)
      (pss_one (ps_ret (pe_call (ok__product_of T) (hr.mono (by decide)) (by rfl) T.g__product_of T.F__product_of.kp (b__product_of T) .nil pass0 (pa_cons (pv 0) (pa_cons (pv 1) pa_nil)))))), ?_⟩
    exact ⟨_, rfl, y, t2, b2, m, rfl, nm, true, rfl, iteF ⟨_, rfl, _, rfl, a, y, t1, b1, t2, b2, n, m, rfl, r, nm, hk, q⟩⟩
theorem ok_Ratio___rmul__ (T : Txt K mg) : FnOk P w K mg base CX0 5 T.a_Ratio___rmul__ T.fd_Ratio___rmul__ ["self", "other"] (spBin T.C nMul) := by
  refine T.F_Ratio___rmul__.ok sc_Ratio___rmul__ (fun vs H Q E h => ?_) (fun cdv A outer s H vs Q E hr h => ?_)
  · obtain ⟨a, y, _, _, _, _, _, _, rfl, _⟩ := h
    rfl
  · obtain ⟨a, y, t1, b1, t2, b2, n, m, rfl, r, nm, hk, q⟩ := h
    refine ⟨_, (pss_cons (ps_if (pt_not (pt_val (pe_call (ok_is_number T) (hr.mono (by decide)) (by rfl) T.g_is_number T.F_is_number.kp (b_is_number T) .nil pass0 (pa_cons (pv 1) pa_nil)))) (pss_one (ps_ret pe_bot)) pss_nil)
      (pss_one (ps_ret (pe_call (ok__product_of T) (hr.mono (by decide)) (by rfl) T.g__product_of T.F__product_of.kp (b__product_of T) .nil pass0 (pa_cons (pv 0) (pa_cons (pv 1) pa_nil)))))), ?_⟩
    exact ⟨_, rfl, y, t2, b2, m, rfl, nm, true, rfl, iteF ⟨_, rfl, _, rfl, a, y, t1, b1, t2, b2, n, m, rfl, r, nm, hk, q⟩⟩
theorem ok_Ratio___sub__ (T : Txt K mg) : FnOk P w K mg base CX0 5 T.a_Ratio___sub__ T.fd_Ratio___sub__ ["self", "other"] (spBin T.C nSub) := by
  refine T.F_Ratio___sub__.ok sc_Ratio___sub__ (fun vs H Q E h => ?_) (fun cdv A outer s H vs Q E hr h => ?_)
  · obtain ⟨a, y, _, _, _, _, _, _, rfl, _⟩ := h
    rfl
  · obtain ⟨a, y, t1, b1, t2, b2, n, m, rfl, r, nm, hk, q⟩ := h
    refine ⟨_, (pss_cons (ps_if (pt_not (pt_val (pe_call (ok_is_number T) (hr.mono (by decide)) (by rfl) T.g_is_number T.F_is_number.kp (b_is_number T) .nil pass0 (pa_cons (pv 1) pa_nil)))) (pss_one (ps_ret pe_bot)) pss_nil)
      (pss_one (ps_ret (pe_make T.mkR (ok_Ratio___init__ T) (hr.mono (by decide)) (by rfl) T.g_Ratio (bI2 T) .nil pass0 (pa_cons (pe_call (ok__lead T) (hr.mono (by decide)) (by rfl) T.g__lead T.F__lead.kp (b__lead T) .nil pass0 (pa_cons (pv 0) (pa_cons (pv 1) pa_nil))) (pa_cons (pe_op op_mulW (pe_fld (pv 0) rfl) (pe_call (ok__bottom_of T) (hr.mono (by decide)) (by rfl) T.g__bottom_of T.F__bottom_of.kp (b__bottom_of T) .nil pass0 (pa_cons (pv 1) pa_nil))) pa_nil)))))), ?_⟩
    obtain ⟨f, dx, fs, ea, ft, fb, ff⟩ := r.rat
    obtain ⟨z2, c0, m0⟩ := nm.fit
    have n0 := r.pos
    refine ⟨_, rfl, y, t2, b2, m, rfl, nm, true, rfl, iteF ⟨_, rfl, _, rfl, a, y, t1, b1, t2, b2, n, m, rfl, r, nm, hk, ?_⟩⟩
    exact ⟨_, rfl, a, T.C, dx, fs, _, rfl, ea, T.cl, T.nB, fb, _, rfl, y, t2, b2, m, rfl, nm, b1, b2, rfl, rfl, cw r.fit.2 z2.2 n0 m0 (by omega), fun x dx2 nx nd ne => mk_fin nx nd (Int.mul_pos r.b0 c0) (fit_sub r.fit z2) (by omega) q⟩
theorem ok_Ratio___rsub__ (T : Txt K mg) : FnOk P w K mg base CX0 5 T.a_Ratio___rsub__ T.fd_Ratio___rsub__ ["self", "other"] (spBin T.C nRsub) := by
  refine T.F_Ratio___rsub__.ok sc_Ratio___rsub__ (fun vs H Q E h => ?_) (fun cdv A outer s H vs Q E hr h => ?_)
  · obtain ⟨a, y, _, _, _, _, _, _, rfl, _⟩ := h
    rfl
  · obtain ⟨a, y, t1, b1, t2, b2, n, m, rfl, r, nm, hk, q⟩ := h
    refine ⟨_, (pss_cons (ps_if (pt_not (pt_val (pe_call (ok_is_number T) (hr.mono (by decide)) (by rfl) T.g_is_number T.F_is_number.kp (b_is_number T) .nil pass0 (pa_cons (pv 1) pa_nil)))) (pss_one (ps_ret pe_bot)) pss_nil)
      (pss_one (ps_ret (pe_make T.mkR (ok_Ratio___init__ T) (hr.mono (by decide)) (by rfl) T.g_Ratio (bI2 T) .nil pass0 (pa_cons (pe_un un_neg (pe_call (ok__lead T) (hr.mono (by decide)) (by rfl) T.g__lead T.F__lead.kp (b__lead T) .nil pass0 (pa_cons (pv 0) (pa_cons (pv 1) pa_nil)))) (pa_cons (pe_op op_mulW (pe_fld (pv 0) rfl) (pe_call (ok__bottom_of T) (hr.mono (by decide)) (by rfl) T.g__bottom_of T.F__bottom_of.kp (b__bottom_of T) .nil pass0 (pa_cons (pv 1) pa_nil))) pa_nil)))))), ?_⟩
    obtain ⟨f, dx, fs, ea, ft, fb, ff⟩ := r.rat
    obtain ⟨z2, c0, m0⟩ := nm.fit
    have n0 := r.pos
    refine ⟨_, rfl, y, t2, b2, m, rfl, nm, true, rfl, iteF ⟨_, rfl, _, rfl, a, y, t1, b1, t2, b2, n, m, rfl, r, nm, hk, _, rfl, ?_⟩⟩
    exact ⟨_, rfl, a, T.C, dx, fs, _, rfl, ea, T.cl, T.nB, fb, _, rfl, y, t2, b2, m, rfl, nm, b1, b2, rfl, rfl, cw r.fit.2 z2.2 n0 m0 (by omega), fun x dx2 nx nd ne => mk_fin nx nd (Int.mul_pos r.b0 c0) (fit_rsub r.fit z2) (by omega) q⟩
theorem ok_Ratio___neg__ (T : Txt K mg) : FnOk P w K mg base CX0 4 T.a_Ratio___neg__ T.fd_Ratio___neg__ ["self"] (spNeg T.C) := by
  refine T.F_Ratio___neg__.ok sc_Ratio___neg__ (fun vs H Q E h => ?_) (fun cdv A outer s H vs Q E hr h => ?_)
  · obtain ⟨a, _, _, _, rfl, _⟩ := h
    rfl
  · obtain ⟨a, t1, b1, n, rfl, r, hk, q⟩ := h
    refine ⟨_, (pss_one (ps_ret (pe_make T.mkR (ok_Ratio___init__ T) (hr.mono (by decide)) (by rfl) T.g_Ratio (bI2 T) .nil pass0 (pa_cons (pe_un un_neg (pe_fld (pv 0) rfl)) (pa_cons (pe_fld (pv 0) rfl) pa_nil))))), ?_⟩
    obtain ⟨f, dx, fs, ea, ft, fb, ff⟩ := r.rat
    exact ⟨_, rfl, a, T.C, dx, fs, _, rfl, ea, T.cl, T.nT, ft, t1, rfl, _, rfl, a, T.C, dx, fs, _, rfl, ea, T.cl, T.nB, fb, fun x dx2 nx nd ne => mk_fin nx nd r.b0 ⟨by rw [Int.natAbs_neg]; exact r.fit.1, r.fit.2⟩ hk q⟩
theorem ok_Ratio___bool__ (T : Txt K mg) : FnOk P w K mg base CX0 1 T.a_Ratio___bool__ T.fd_Ratio___bool__ ["self"] (spBool T.C) := by
  refine T.F_Ratio___bool__.ok sc_Ratio___bool__ (fun vs H Q E h => ?_) (fun cdv A outer s H vs Q E hr h => ?_)
  · obtain ⟨a, _, _, _, rfl, _⟩ := h
    rfl
  · obtain ⟨a, t1, b1, n, rfl, r, q⟩ := h
    refine ⟨_, (pss_one (ps_ret (pe_callTy call_bool1 (by rfl) T.z_bool (by decide +kernel) (pa_cons (pe_cmpR op_ne (pe_fld (pv 0) rfl) pe_int (nomark _)) pa_nil)))), ?_⟩
    obtain ⟨f, dx, fs, ea, ft, fb, ff⟩ := r.rat
    refine ⟨_, rfl, a, T.C, dx, fs, _, rfl, ea, T.cl, T.nT, ft, rfl, .inr ⟨_, rfl, ?_⟩⟩
    rw [dec_int]
    exact q
theorem ok_Ratio___eq__ (T : Txt K mg) : FnOk P w K mg base CX0 3 T.a_Ratio___eq__ T.fd_Ratio___eq__ ["self", "other"] (spEq T.C) := by
  refine T.F_Ratio___eq__.ok sc_Ratio___eq__ (fun vs H Q E h => ?_) (fun cdv A outer s H vs Q E hr h => ?_)
  · obtain ⟨a, y, _, _, _, _, _, _, rfl, _⟩ := h
    rfl
  · obtain ⟨a, y, t1, b1, t2, b2, n, m, rfl, r, nm, hk, q⟩ := h
    refine ⟨_, (pss_one (ps_ret (pe_and (pe_call (ok_is_number T) (hr.mono (by decide)) (by rfl) T.g_is_number T.F_is_number.kp (b_is_number T) .nil pass0 (pa_cons (pv 1) pa_nil)) (pe_one (pe_cmpR op_eq (pe_call (ok__lead T) (hr.mono (by decide)) (by rfl) T.g__lead T.F__lead.kp (b__lead T) .nil pass0 (pa_cons (pv 0) (pa_cons (pv 1) pa_nil))) pe_int (nomark _)))))), ?_⟩
    refine ⟨_, rfl, y, t2, b2, m, rfl, nm, true, rfl, iteT ⟨_, rfl, _, rfl, a, y, t1, b1, t2, b2, n, m, rfl, r, nm, hk, rfl, ?_⟩⟩
    rw [dec_int]
    exact q
end
end K02

set_option Elab.async false
set_option linter.all false
set_option maxRecDepth 100000
set_option maxHeartbeats 8000000
namespace K02
open PySem PySem.Spec PyProof.Rows L2 GX OX TX
theorem big : (10 : Nat) ^ 80 < 2 ^ 266 := by decide +kernel
theorem lg {j : Int} (hb : j.natAbs < 10 ^ 80) : j.natAbs.log2 < 1920 := Nat.lt_of_lt_of_le (PySem.Flt.log2_lt_of (by decide) (Nat.lt_trans hb big)) (by decide)
theorem S_len {t : Int} (h : t.natAbs < 10 ^ 80) : (S t).length ≤ 81 := len_S (by decide) h
def rtxt (t b : Int) : Str := "Ratio(" ++ S t ++ ", " ++ S b ++ ")"
def spRepr (C : Addr) : Sp := fun vs H Q _ => ∃ (a : Addr) (t b f : Int), vs = [.ref a] ∧ Rat C H a t b f ∧ t.natAbs < 10 ^ 80 ∧ b.natAbs < 10 ^ 80 ∧ Q (.str (rtxt t b)) H
def dn (u : Int) : Int := 1 + (if u < 0 then -u else u)
theorem dn_pos (u : Int) : 0 < dn u := by
  unfold dn
  split <;> omega
theorem dn_lt {u : Int} (h : u.natAbs < 10 ^ 60) : (dn u).natAbs ≤ 10 ^ 60 := by
  unfold dn
  split <;> omega
theorem p200 {n : Nat} (h : n ≤ 10 ^ 60) : n < 2 ^ 200 := Nat.lt_of_le_of_lt h (by decide +kernel)
def spIs (C : Addr) : Sp := fun vs H Q _ => ∃ (x : Addr) (t b T B : Int) (n : Nat), vs = [.ref x, .int T, .int B] ∧ RV C H x t b n ∧ n ≤ 1500 ∧ Fit 1500 T B ∧ t * B = T * b ∧ Q (.bl true) H
def spPair : Sp := fun vs H Q _ => ∃ a : Addr, vs = [.ref a] ∧ Bag H a ∧ ∀ (l : Addr) (t b : Int) H', H' l = some (.tup [.int t, .int b]) → t.natAbs < 10 ^ 60 → 0 < b → b.natAbs ≤ 10 ^ 60 → Bag H' a → But a H H' → l ≠ a → Q (.ref l) H'
section
variable {P : Program} {w : World} {K : PySem.W.Frag} {mg : Str → Option Value} {base : Heap}
theorem ok_Ratio___repr__ (T : Txt K mg) : FnOk P w K mg base CX0 1 T.a_Ratio___repr__ T.fd_Ratio___repr__ ["self"] (spRepr T.C) := by
  refine T.F_Ratio___repr__.ok sc_Ratio___repr__ (fun vs H Q E h => ?_) (fun cdv A outer s H vs Q E hr h => ?_)
  · obtain ⟨a, t, b, f, rfl, _⟩ := h
    rfl
  · obtain ⟨a, t, b, f, rfl, ⟨dx, fs, ha, ht, hb, hf⟩, t1, b1, q⟩ := h
    refine ⟨_, (pss_one (ps_ret (pe_joined (PJ.cons pe_str (PJ.cons (pe_fmt (pe_fld (pv 0) rfl)) (PJ.cons pe_str (PJ.cons (pe_fmt (pe_fld (pv 0) rfl)) (PJ.cons pe_str PJ.nil)))))))), ?_⟩
    have l1 := S_len t1
    have l2 := S_len b1
    have l3 : ("Ratio(" : Str).length = 6 := by decide
    have l4 : (", " : Str).length = 2 := by decide
    have l5 : (")" : Str).length = 1 := by decide
    refine ⟨_, rfl, sz (by rw [empty_app]; omega), ?_⟩
    refine ⟨_, rfl, a, T.C, dx, fs, _, rfl, ha, T.cl, T.nT, ht, .inr ⟨t, rfl, lg t1, S t, rfl, sz (by rw [empty_app, len_app]; omega), _, rfl, sz (by rw [empty_app, len_app, len_app]; omega), ?_⟩⟩
    refine ⟨_, rfl, a, T.C, dx, fs, _, rfl, ha, T.cl, T.nB, hb, .inr ⟨b, rfl, lg b1, S b, rfl, sz (by rw [empty_app, len_app, len_app, len_app]; omega), _, rfl, sz (by rw [empty_app, len_app, len_app, len_app, len_app]; omega), ?_⟩⟩
    rw [empty_app]
    exact q
theorem ok_q_is (T : Txt K mg) : FnOk P w K mg base CX0 3 T.a_q_is T.fd_q_is ["_law_found", "_law_top", "_law_bottom"] (spIs T.C) := by
  refine T.F_q_is.ok sc_q_is (fun vs H Q E h => ?_) (fun cdv A outer s H vs Q E hr h => ?_)
  · obtain ⟨_, _, _, _, _, _, rfl, _⟩ := h
    rfl
  · obtain ⟨x, t, b, U, B, n, rfl, r, hn, z, e, q⟩ := h
    refine ⟨_, (pss_cons (ps_if (PW.pt (pw_or (pt_not (pt_val (pe_callB call_isi (by rfl) T.z_isinstance (by decide +kernel) (pa_cons (pv 0) (pa_cons (pe_glob (v := .ref T.C) rfl T.g_Ratio rfl) pa_nil))))) (pw_or (pt_cmpR op_lt (pe_fld (pv 0) rfl) pe_int (nomark _)) (pw_or1 (pt_not (pt_val (pe_call (ok_q_lowest T) (hr.mono (by decide)) (by rfl) T.g_q_lowest T.F_q_lowest.kp (b_q_lowest T) .nil pass0 (pa_cons (pe_fld (pv 0) rfl) (pa_cons (pe_fld (pv 0) rfl) pa_nil))))))))) (pss_one (ps_ret pe_bl)) pss_nil)
      (pss_one (ps_ret (pe_cmpR op_eq (pe_op op_mulW (pe_fld (pv 0) rfl) (pv 2)) (pe_op op_mulW (pv 1) (pe_fld (pv 0) rfl)) (nomark _))))), ?_⟩
    obtain ⟨f, dx, fs, ea, ft, fb, ff⟩ := r.rat
    have b0 := r.b0
    refine ⟨_, rfl, .ref x, .ref T.C, .ref T.C, .ref T.C, true, rfl, .own T.C, .base (.ins ea T.cl T.ha T.hn T.ht T.hm), T.kCC, true, rfl, iteF ?_⟩
    refine ⟨_, rfl, x, T.C, dx, fs, _, rfl, ea, T.cl, T.nB, fb, b, 1, rfl, rfl, false, congrArg V.bl (decide_eq_false (by omega)), iteF ?_⟩
    refine ⟨_, rfl, x, T.C, dx, fs, _, rfl, ea, T.cl, T.nT, ft, _, rfl, x, T.C, dx, fs, _, rfl, ea, T.cl, T.nB, fb, t, b, rfl, Int.le_of_lt b0, true, congrArg V.bl (beq_iff_eq.mpr r.co), iteF ?_⟩
    refine ⟨_, rfl, x, T.C, dx, fs, _, rfl, ea, T.cl, T.nT, ft, _, rfl, t, B, rfl, rfl, cw (p3 r.fit.1 hn) z.2 (by decide) (by decide) (by decide), _, rfl, _, rfl, x, T.C, dx, fs, _, rfl, ea, T.cl, T.nB, fb, U, b, rfl, rfl, cw z.1 (p3 r.fit.2 hn) (by decide) (by decide) (by decide), rfl, ?_⟩
    have e2 : decide (V.int (t * B) = V.int (U * b)) = true := by rw [e, decide_eq_true rfl]
    exact e2 ▸ q
theorem ok_q_pair (T : Txt K mg) : FnOk P w K mg base CX0 4 T.a_q_pair T.fd_q_pair ["_law_purse_here"] spPair := by
  refine T.F_q_pair.ok sc_q_pair (fun vs H Q E h => ?_) (fun cdv A outer s H vs Q E hr h => ?_)
  · obtain ⟨_, rfl, _⟩ := h
    rfl
  · obtain ⟨a, rfl, bag, q⟩ := h
    refine ⟨_, (pss_cons (ps_set (i := 1) sc_q_pair.nd rfl (Or.inl rfl) (pe_ifExp (pt_cmpR op_eq (pe_call (ok_q_draw T) (hr.mono (by decide)) (by rfl) T.g_q_draw T.F_q_draw.kp (b_q_draw T) .nil pass0 (pa_cons (pv 0) (pa_cons pe_int pa_nil))) pe_int (nomark _)) pe_int (pe_op op_add pe_int (pe_callB call_abs (by rfl) T.z_abs (by decide +kernel) (pa_cons (pe_call (ok_q_integer T) (hr.mono (by decide)) (by rfl) T.g_q_integer T.F_q_integer.kp (b_q_integer T) .nil pass0 (pa_cons (pv 0) pa_nil)) pa_nil)))))
      (pss_one (ps_ret (pe_tup (pa_cons (pe_call (ok_q_integer T) (hr.mono (by decide)) (by rfl) T.g_q_integer T.F_q_integer.kp (b_q_integer T) .nil pass0 (pa_cons (pv 0) pa_nil)) (pa_cons (pv 1) pa_nil)))))), ?_⟩
    refine ⟨_, rfl, a, 4, rfl, bag, by decide, by decide, fun r H1 r0 r1 bag1 c1 => ⟨rfl, _, rfl, ite2 (fun _ => ?_) (fun _ => ?_)⟩⟩
    · refine ⟨_, rfl, a, rfl, bag1, fun t H2 tb bag2 c2 => ⟨_, rfl, (by show 2 ≤ sizeLine; decide), fun l h => ?_⟩⟩
      exact q l t 1 _ upd_same tb (by decide) (by decide +kernel) (bag2.keep (same_new h)) ((c1.trans c2).same (same_new h)) (bag2.ne h)
    · refine ⟨_, rfl, a, rfl, bag1, fun u H2 ub bag2 c2 => ⟨u, rfl, 1, _, rfl, rfl, ?_⟩⟩
      refine ⟨_, rfl, a, rfl, bag2, fun t H3 tb bag3 c3 => ⟨_, rfl, (by show 2 ≤ sizeLine; decide), fun l h => ?_⟩⟩
      exact q l t (dn u) _ upd_same tb (dn_pos u) (dn_lt ub) (bag3.keep (same_new h)) (((c1.trans c2).trans c3).same (same_new h)) (bag3.ne h)
end
end K02

set_option Elab.async false
set_option linter.all false
set_option maxRecDepth 100000
set_option maxHeartbeats 8000000
namespace K02
open PySem PySem.Spec PyProof.Rows L2 GX OX TX
def Hom (num : Int → Int → Int → Int → Int) : Prop := ∀ t b t1 b1 A1 B1 t2 b2 A2 B2 : Int, 0 < b1 → 0 < b2 → t1 * B1 = A1 * b1 → t2 * B2 = A2 * b2 → t * (b1 * b2) = num t1 b1 t2 b2 * b → t * (B1 * B2) = num A1 B1 A2 B2 * b
theorem hom_of {num : Int → Int → Int → Int → Int} (h : ∀ t b t1 b1 A1 B1 t2 b2 A2 B2 : Int, t1 * B1 = A1 * b1 → t2 * B2 = A2 * b2 → t * (b1 * b2) = num t1 b1 t2 b2 * b → (t * (B1 * B2)) * (b1 * b2) = (num A1 B1 A2 B2 * b) * (b1 * b2)) : Hom num :=
  fun t b t1 b1 A1 B1 t2 b2 A2 B2 p1 p2 e1 e2 e => Int.eq_of_mul_eq_mul_right (Int.ne_of_gt (Int.mul_pos p1 p2)) (h t b t1 b1 A1 B1 t2 b2 A2 B2 e1 e2 e)
theorem hom_add : Hom nAdd := hom_of fun t b t1 b1 A1 B1 t2 b2 A2 B2 e1 e2 e => by unfold nAdd at *; grind
theorem hom_sub : Hom nSub := hom_of fun t b t1 b1 A1 B1 t2 b2 A2 B2 e1 e2 e => by unfold nSub at *; grind
theorem hom_rsub : Hom nRsub := hom_of fun t b t1 b1 A1 B1 t2 b2 A2 B2 e1 e2 e => by unfold nRsub at *; grind
theorem hom_mul : Hom nMul := hom_of fun t b t1 b1 A1 B1 t2 b2 A2 B2 e1 e2 e => by unfold nMul at *; grind
def W (C : Addr) (H : Hp) (x : Addr) (A B : Int) (n : Nat) : Prop := ∃ t b, RV C H x t b n ∧ t * B = A * b
theorem W.keep {C : Addr} {H H' : Hp} {x : Addr} {A B : Int} {n : Nat} (w : W C H x A B n) (s : Same H H') : W C H' x A B n := by
  obtain ⟨t, b, r, e⟩ := w
  exact ⟨t, b, r.keep s, e⟩
inductive WN (C : Addr) (H : Hp) (y : V) (A B : Int) (n : Nat) : Prop
  | own (x : Addr) (e : y = .ref x) (w : W C H x A B n)
  | int (e : y = .int A) (e1 : B = 1) (h : A.natAbs < 2 ^ n) (h0 : 0 < n)
def isO (y : V) : Prop := ∃ a, y = .ref a
theorem r_bin {C : Addr} {H : Hp} {Q : VK} {x y : V} {A1 B1 A2 B2 : Int} {n m : Nat} {num rnum : Int → Int → Int → Int → Int} (hm : Hom num) (hm2 : Hom rnum) (sw : ∀ t1 b1 t2 b2, rnum t1 b1 t2 b2 = num t2 b2 t1 b1) (wx : WN C H x A1 B1 n) (wy : WN C H y A2 B2 m) (o : isO x ∨ isO y) (hk : n + m + 1 ≤ 3000)
    (q : ∀ z H', H z = none → Same H H' → W C H' z (num A1 B1 A2 B2) (B1 * B2) (n + m + 1) → Q (.ref z) H') : rOwnB C (spBin C num) (spBin C rnum) x y H Q := by
  cases wx with
  | own a e w =>
    subst e
    obtain ⟨t1, b1, r, e1⟩ := w
    obtain ⟨f, dx, fs, ea, _⟩ := r.rat
    cases wy with
    | own c e w =>
      subst e
      obtain ⟨t2, b2, r2, e2⟩ := w
      obtain ⟨f2, dy, gs, eb, _⟩ := r2.rat
      exact .inl ⟨a, dx, fs, rfl, ea, .inr ⟨c, dy, gs, rfl, eb⟩, a, _, t1, b1, t2, b2, n, m, rfl, r, .own c rfl r2, hk, fun z t b H' nz sz rz ez => ⟨z, rfl, q z H' nz sz ⟨t, b, rz, hm _ _ _ _ _ _ _ _ _ _ r.b0 r2.b0 e1 e2 ez⟩⟩⟩
    | int e e1' h h0 =>
      subst e
      subst e1'
      exact .inl ⟨a, dx, fs, rfl, ea, .inl ⟨_, rfl⟩, a, _, t1, b1, A2, 1, n, m, rfl, r, .int rfl rfl h h0, hk, fun z t b H' nz sz rz ez => ⟨z, rfl, q z H' nz sz ⟨t, b, rz, hm _ _ _ _ _ _ _ _ _ _ r.b0 (by decide) e1 rfl ez⟩⟩⟩
  | int e e1' h h0 =>
    subst e
    subst e1'
    cases wy with
    | own c e w =>
      subst e
      obtain ⟨t2, b2, r2, e2⟩ := w
      obtain ⟨f2, dy, gs, eb, _⟩ := r2.rat
      refine .inr ⟨c, dy, gs, A1, rfl, eb, rfl, c, _, t2, b2, A1, 1, m, n, rfl, r2, .int rfl rfl h h0, by omega, fun z t b H' nz sz rz ez => ⟨z, rfl, q z H' nz sz ⟨t, b, ?_, ?_⟩⟩⟩
      · rw [Nat.add_comm n m]
        exact rz
      · have h1 := hm2 _ _ _ _ _ _ _ _ _ _ r2.b0 (by decide) e2 (show A1 * 1 = A1 * 1 from rfl) ez
        rw [sw] at h1
        rw [Int.mul_comm 1 B2]
        exact h1
    | int e e1' h h0 =>
      subst e
      rcases o with ⟨a, e⟩ | ⟨a, e⟩ <;> cases e
theorem sw_add (t1 b1 t2 b2 : Int) : nAdd t1 b1 t2 b2 = nAdd t2 b2 t1 b1 := Int.add_comm _ _
theorem sw_sub (t1 b1 t2 b2 : Int) : nRsub t1 b1 t2 b2 = nSub t2 b2 t1 b1 := Int.neg_sub _ _
theorem sw_mul (t1 b1 t2 b2 : Int) : nMul t1 b1 t2 b2 = nMul t2 b2 t1 b1 := Int.mul_comm _ _
theorem r_neg {C : Addr} {H : Hp} {Q : VK} {x : Addr} {A B : Int} {n : Nat} (w : W C H x A B n) (hn : n ≤ 3000) (q : ∀ z H', H z = none → Same H H' → W C H' z (0 - A) B n → Q (.ref z) H') : rOwnU C (spNeg C) (.ref x) H Q := by
  obtain ⟨t, b, r, e⟩ := w
  obtain ⟨f, dx, fs, ea, _⟩ := r.rat
  refine ⟨x, dx, fs, rfl, ea, x, t, b, n, rfl, r, hn, fun z t' b' H' nz sz rz ez => q z H' nz sz ⟨t', b', rz, ?_⟩⟩
  refine Int.eq_of_mul_eq_mul_right (Int.ne_of_gt r.b0) ?_
  grind
theorem w_zero {A B t b : Int} (b0 : 0 < b) (B0 : 0 < B) (e : t * B = A * b) : (t == 0) = (A == 0) := Bool.eq_iff_iff.mpr (by
  rw [beq_iff_eq, beq_iff_eq]
  constructor
  · intro z
    rw [z, Int.zero_mul] at e
    rcases Int.mul_eq_zero.mp e.symm with h | h
    · exact h
    · omega
  · intro z
    rw [z, Int.zero_mul] at e
    rcases Int.mul_eq_zero.mp e with h | h
    · exact h
    · omega)
def spTwo (C : Addr) : Sp := fun vs H Q _ => ∃ (x y l1 l2 : Addr) (A1 B1 A2 B2 : Int), vs = [.ref x, .ref y, .ref l1, .ref l2] ∧ W C H x A1 B1 204 ∧ W C H y A2 B2 204 ∧ H l1 = some (.tup [.int A1, .int B1]) ∧ H l2 = some (.tup [.int A2, .int B2]) ∧ 0 < B1 ∧ 0 < B2 ∧ Fit 200 A1 B1 ∧ Fit 200 A2 B2 ∧
  ∀ H', Same H H' → Q (.bl true) H'
theorem all_true (n : Nat) : (List.replicate n true).all id = true := by
  induction n with
  | zero => rfl
  | succ n ih =>
    rw [List.replicate_succ, List.all_cons, ih]
    rfl
theorem rep_more (n : Nat) : (List.replicate n (V.bl true)) ++ [.bl true] = List.replicate (n + 1) (.bl true) := by
  rw [List.replicate_succ']
theorem rep_all {H : Hp} {D : Addr} {n : Nat} (h : H D = some (.lst (List.replicate n (.bl true)))) : ∃ bs : List Bool, H D = some (.lst (bs.map V.bl)) ∧ bs.all id = true :=
  ⟨List.replicate n true, by rw [List.map_replicate]; exact h, all_true n⟩
def spWhole (C : Addr) : Sp := fun vs H Q _ => ∃ (x l1 : Addr) (A1 B1 N : Int), vs = [.ref x, .ref l1, .int N] ∧ W C H x A1 B1 204 ∧ H l1 = some (.tup [.int A1, .int B1]) ∧ 0 < B1 ∧ Fit 200 A1 B1 ∧ N.natAbs < 2 ^ 200 ∧
  ∀ H', Same H H' → Q (.bl true) H'
theorem W.cast {C : Addr} {H : Hp} {x : Addr} {A B A' B' : Int} {n : Nat} (w : W C H x A B n) (hA : A = A') (hB : B = B') : W C H x A' B' n := hA ▸ hB ▸ w
theorem up {n : Nat} {t b : Int} (h : Fit n t b) (hn : n ≤ 1500) : Fit 1500 t b := ⟨p3 h.1 hn, p3 h.2 hn⟩
theorem bd1 (b : Bool) : (PyData.bool b).hasDict = false := by simp [PyData.hasDict]
theorem bd2 (b : Bool) : (PyData.bool b).showable = true := by simp [PyData.showable]
theorem bd3 (b : Bool) : (PyData.bool b).depth ≤ 100 := by simp [PyData.depth]
theorem bd4' : ∀ b : Bool, (PyData.bool b).shown.length ≤ 100 := by decide +kernel
theorem bd4 (b : Bool) : (PyData.bool b).shown.length ≤ sizeLine := sz (Nat.le_trans (bd4' b) (by decide))
section
variable {P : Program} {w : World} {K : PySem.W.Frag} {mg : Str → Option Value} {base : Heap}
theorem ok_q_two_right (T : Txt K mg) : FnG P w K mg base CX0 7 T.a_q_two_right T.fd_q_two_right ["_law_one", "_law_two", "_law_first", "_law_second"] (spTwo T.C) := by
  refine fnG0 T.F_q_two_right sc_q_two_right (fun vs H Q E h => ?_) (fun cdv A outer s H vs Q E hG hr h => ?_)
  · obtain ⟨_, _, _, _, _, _, _, _, rfl, _⟩ := h
    rfl
  · obtain ⟨x, y, l1, l2, A1, B1, A2, B2, rfl, wx, wy, e1, e2, p1, p2, z1, z2, q⟩ := h
    have hu := room_u hr
    refine ⟨_, (pss_cons (ps_asg (pe_tup (pa_cons (pv 2) (pa_cons (pv 3) pa_nil))) (pg_tup (by rfl) (pgs_cons (pg_tup (by rfl) (pgs_cons (pg_name (i := 4) sc_q_two_right.nd rfl (Or.inl rfl)) (pgs_cons (pg_name (i := 5) sc_q_two_right.nd rfl (Or.inl rfl)) pgs_nil))) (pgs_cons (pg_tup (by rfl) (pgs_cons (pg_name (i := 6) sc_q_two_right.nd rfl (Or.inl rfl)) (pgs_cons (pg_name (i := 7) sc_q_two_right.nd rfl (Or.inl rfl)) pgs_nil))) pgs_nil))))
      (pss_cons (ps_if (PW.pt (pw_or (pt_not (pt_val (pe_call (ok_q_is T) (hr.mono (by decide)) (by rfl) T.g_q_is T.F_q_is.kp (b_q_is T) .nil pass0 (pa_cons (pe_op (op_ownB (op := .Add) T.sf T.o_add T.f_add (ok_Ratio___add__ T) (b_Ratio___add__ T) T.o_radd T.f_radd (ok_Ratio___radd__ T) (b_Ratio___radd__ T) T.i_add T.ir_add (by decide +kernel) T.sI T.sC F.slot_int_add F.entry_int_add F.args_int_add_2 PySem.W.dec_int_add (hr.mono (by decide))) (pv 0) (pv 1)) (pa_cons (pe_op op_add (pe_op op_mulW (pv 4) (pv 7)) (pe_op op_mulW (pv 6) (pv 5))) (pa_cons (pe_op op_mulW (pv 5) (pv 7)) pa_nil)))))) (pw_or1 (pt_not (pt_val (pe_call (ok_q_is T) (hr.mono (by decide)) (by rfl) T.g_q_is T.F_q_is.kp (b_q_is T) .nil pass0 (pa_cons (pe_op (op_ownB (op := .Sub) T.sf T.o_sub T.f_sub (ok_Ratio___sub__ T) (b_Ratio___sub__ T) T.o_rsub T.f_rsub (ok_Ratio___rsub__ T) (b_Ratio___rsub__ T) T.i_sub T.ir_sub (by decide +kernel) T.sI T.sC F.slot_int_sub F.entry_int_sub F.args_int_sub_2 PySem.W.dec_int_sub (hr.mono (by decide))) (pv 0) (pv 1)) (pa_cons (pe_op op_sub (pe_op op_mulW (pv 4) (pv 7)) (pe_op op_mulW (pv 6) (pv 5))) (pa_cons (pe_op op_mulW (pv 5) (pv 7)) pa_nil))))))))) (pss_one (ps_ret pe_bl)) pss_nil)
      (pss_cons (ps_if (PW.pt (pw_or (pt_not (pt_val (pe_call (ok_q_is T) (hr.mono (by decide)) (by rfl) T.g_q_is T.F_q_is.kp (b_q_is T) .nil pass0 (pa_cons (pe_op (op_ownB (op := .Mult) T.sf T.o_mul T.f_mul (ok_Ratio___mul__ T) (b_Ratio___mul__ T) T.o_rmul T.f_rmul (ok_Ratio___rmul__ T) (b_Ratio___rmul__ T) T.i_mul T.ir_mul (by decide +kernel) T.sI T.sC F.slot_int_mul F.entry_int_mul F.args_int_mul_2 PySem.W.dec_int_mul (hr.mono (by decide))) (pv 0) (pv 1)) (pa_cons (pe_op op_mulW (pv 4) (pv 6)) (pa_cons (pe_op op_mulW (pv 5) (pv 7)) pa_nil)))))) (pw_or1 (pt_not (pt_val (pe_call (ok_q_is T) (hr.mono (by decide)) (by rfl) T.g_q_is T.F_q_is.kp (b_q_is T) .nil pass0 (pa_cons (pe_un (un_ownNeg T.o_neg T.f_neg (ok_Ratio___neg__ T) (b_Ratio___neg__ T) (hr.mono (by decide))) (pv 0)) (pa_cons (pe_op op_sub pe_int (pv 4)) (pa_cons (pv 5) pa_nil))))))))) (pss_one (ps_ret pe_bl)) pss_nil)
      (pss_one (ps_ret (pe_cmpR op_eq (pe_callB (call_reprD hG hu) (by rfl) T.z_repr (by decide +kernel) (pa_cons (pe_callTy (call_boolO T.o_bool T.f_bool (ok_Ratio___bool__ T) (hr.mono (by decide)) (b_Ratio___bool__ T)) (by rfl) T.z_bool (by decide +kernel) (pa_cons (pv 0) pa_nil)) pa_nil)) (pe_callB (call_reprD hG hu) (by rfl) T.z_repr (by decide +kernel) (pa_cons (pe_cmpR op_ne (pv 4) pe_int (nomark _)) pa_nil)) (nomark _))))))), ?_⟩
    refine ⟨_, rfl, _, rfl, (by show 2 ≤ sizeLine; decide), fun p hp => ?_⟩
    have sp := same_new (o := .tup [.ref l1, .ref l2]) hp
    refine ⟨p, _, rfl, .inl (.inl upd_same), rfl, _, _, rfl, ?_⟩
    refine ⟨l1, _, rfl, .inl (.inl (sp _ _ e1)), rfl, _, _, rfl, _, _, rfl, rfl, _, _, rfl, ?_⟩
    refine ⟨l2, _, rfl, .inl (.inl (sp _ _ e2)), rfl, _, _, rfl, _, _, rfl, rfl, rfl, ?_⟩
    have c1 : ∀ {i j : Int}, i.natAbs < 2 ^ 200 → j.natAbs < 2 ^ 200 → CMulW i j := fun h1 h2 => cw h1 h2 (by decide) (by decide) (by decide)
    refine ⟨_, rfl, _, rfl, r_bin hom_add hom_add sw_add (.own x rfl (wx.keep sp)) (.own y rfl (wy.keep sp)) (.inl ⟨x, rfl⟩) (by decide) (fun za Ha na sa wa => ?_)⟩
    refine ⟨_, rfl, _, rfl, A1, B2, rfl, rfl, c1 z1.1 z2.2, _, rfl, _, rfl, A2, B1, rfl, rfl, c1 z2.1 z1.2, _, _, rfl, rfl, _, rfl, _, rfl, B1, B2, rfl, rfl, c1 z1.2 z2.2, ?_⟩
    obtain ⟨t, b, rv, e⟩ := wa
    refine ⟨za, t, b, _, _, _, rfl, rv, by decide, up (fit_add z1 z2) (by decide), e, true, rfl, iteF ?_⟩
    have sA := sp.trans sa
    refine ⟨_, rfl, _, rfl, r_bin hom_sub hom_rsub sw_sub (.own x rfl (wx.keep sA)) (.own y rfl (wy.keep sA)) (.inl ⟨x, rfl⟩) (by decide) (fun zb Hb nb sb wb => ?_)⟩
    refine ⟨_, rfl, _, rfl, A1, B2, rfl, rfl, c1 z1.1 z2.2, _, rfl, _, rfl, A2, B1, rfl, rfl, c1 z2.1 z1.2, _, _, rfl, rfl, _, rfl, _, rfl, B1, B2, rfl, rfl, c1 z1.2 z2.2, ?_⟩
    obtain ⟨t, b, rv, e⟩ := wb
    refine ⟨zb, t, b, _, _, _, rfl, rv, by decide, up (fit_sub z1 z2) (by decide), e, true, rfl, iteF ?_⟩
    have sB := sA.trans sb
    refine ⟨_, rfl, _, rfl, r_bin hom_mul hom_mul sw_mul (.own x rfl (wx.keep sB)) (.own y rfl (wy.keep sB)) (.inl ⟨x, rfl⟩) (by decide) (fun zc Hc nc sc wc => ?_)⟩
    refine ⟨_, rfl, _, rfl, A1, A2, rfl, rfl, c1 z1.1 z2.1, _, rfl, _, rfl, B1, B2, rfl, rfl, c1 z1.2 z2.2, ?_⟩
    obtain ⟨t, b, rv, e⟩ := wc
    refine ⟨zc, t, b, _, _, _, rfl, rv, by decide, up (fit_mul z1 z2) (by decide), e, true, rfl, iteF ?_⟩
    have sC := sB.trans sc
    refine ⟨_, rfl, r_neg (wx.keep sC) (by decide) (fun zd Hd nd sd wd => ?_)⟩
    obtain ⟨t, b, rv, e⟩ := wd
    refine ⟨_, rfl, 0, A1, rfl, rfl, _, rfl, zd, t, b, _, _, _, rfl, rv, by decide, up (n := 200) ⟨by show (0 - A1).natAbs < _; have := z1.1; omega, z1.2⟩ (by decide), e, true, rfl, iteF ?_⟩
    have sD := sC.trans sd
    obtain ⟨t1, b1, rv1, e1'⟩ := wx.keep sD
    obtain ⟨f, dx, fs, ea, ft, fb, ff⟩ := rv1.rat
    refine ⟨_, rfl, x, dx, fs, rfl, ea, x, t1, b1, 204, rfl, rv1, _, rfl, ?_⟩
    refine ⟨_, .bool _, rfl, .dp (.bl _) (bd1 _), bd2 _, bd3 _, bd4 _, ?_⟩
    refine ⟨_, rfl, rfl, ?_⟩
    refine ⟨_, .bool _, rfl, .dp (.bl _) (bd1 _), bd2 _, bd3 _, bd4 _, rfl, ?_⟩
    have e2 : decide (V.str (PyData.bool (!(t1 == 0))).shown = V.str (PyData.bool (!decide (V.int A1 = V.int 0))).shown) = true := by
      rw [dec_int, w_zero rv1.b0 p1 e1', decide_eq_true rfl]
    exact e2 ▸ q _ sD
theorem ok_q_whole_right (T : Txt K mg) : FnOk P w K mg base CX0 7 T.a_q_whole_right T.fd_q_whole_right ["_law_one", "_law_first", "_law_number"] (spWhole T.C) := by
  refine T.F_q_whole_right.ok sc_q_whole_right (fun vs H Q E h => ?_) (fun cdv A outer s H vs Q E hr h => ?_)
  · obtain ⟨_, _, _, _, _, rfl, _⟩ := h
    rfl
  · obtain ⟨x, l1, A1, B1, N, rfl, wx, e1, p1, z1, zN, q⟩ := h
    refine ⟨_, (pss_cons (ps_asg (pv 1) (pg_tup (by rfl) (pgs_cons (pg_name (i := 3) sc_q_whole_right.nd rfl (Or.inr rfl)) (pgs_cons (pg_name (i := 4) sc_q_whole_right.nd rfl (Or.inr rfl)) pgs_nil))))
      (pss_cons (ps_set (i := 5) sc_q_whole_right.nd rfl (Or.inl rfl) (pe_lst (pa_cons (pe_op (op_ownB (op := .Add) T.sf T.o_add T.f_add (ok_Ratio___add__ T) (b_Ratio___add__ T) T.o_radd T.f_radd (ok_Ratio___radd__ T) (b_Ratio___radd__ T) T.i_add T.ir_add (by decide +kernel) T.sI T.sC F.slot_int_add F.entry_int_add F.args_int_add_2 PySem.W.dec_int_add (hr.mono (by decide))) (pv 0) (pv 2)) (pa_cons (pe_op (op_ownB (op := .Add) T.sf T.o_add T.f_add (ok_Ratio___add__ T) (b_Ratio___add__ T) T.o_radd T.f_radd (ok_Ratio___radd__ T) (b_Ratio___radd__ T) T.i_add T.ir_add (by decide +kernel) T.sI T.sC F.slot_int_add F.entry_int_add F.args_int_add_2 PySem.W.dec_int_add (hr.mono (by decide))) (pv 2) (pv 0)) pa_nil))))
      (pss_cons (ps_if (pt_not (pt_val (pe_callB (cr_all rfl) (by rfl) T.z_all (by decide +kernel) (pa_cons (pe_lc (own := [("_law_found", 6)]) (g := gName 6) (by rfl) sc_q_whole_right.nd (pi_list (pv 5)) (blkOk_by (own := [("_law_found", 6)]) (N := N_q_whole_right) (sc := defScope s_q_whole_right) (by decide +kernel)) (fun _ _ _ _ _ => (pg_name (i := 6) sc_q_whole_right.nd rfl (Or.inl rfl))) (fun _ _ _ _ _ => pts_nil) (fun _ _ _ _ _ => (pe_call (ok_q_is T) (hr.mono (by decide)) (by rfl) T.g_q_is T.F_q_is.kp (b_q_is T) .nil pass0 (pa_cons (pv 6) (pa_cons (pe_op op_add (pv 3) (pe_op op_mulW (pv 2) (pv 4))) (pa_cons (pv 4) pa_nil)))))) pa_nil)))) (pss_one (ps_ret pe_bl)) pss_nil)
      (pss_cons (ps_if (PW.pt (pw_or (pt_not (pt_val (pe_call (ok_q_is T) (hr.mono (by decide)) (by rfl) T.g_q_is T.F_q_is.kp (b_q_is T) .nil pass0 (pa_cons (pe_op (op_ownB (op := .Sub) T.sf T.o_sub T.f_sub (ok_Ratio___sub__ T) (b_Ratio___sub__ T) T.o_rsub T.f_rsub (ok_Ratio___rsub__ T) (b_Ratio___rsub__ T) T.i_sub T.ir_sub (by decide +kernel) T.sI T.sC F.slot_int_sub F.entry_int_sub F.args_int_sub_2 PySem.W.dec_int_sub (hr.mono (by decide))) (pv 0) (pv 2)) (pa_cons (pe_op op_sub (pv 3) (pe_op op_mulW (pv 2) (pv 4))) (pa_cons (pv 4) pa_nil)))))) (pw_or1 (pt_not (pt_val (pe_call (ok_q_is T) (hr.mono (by decide)) (by rfl) T.g_q_is T.F_q_is.kp (b_q_is T) .nil pass0 (pa_cons (pe_op (op_ownB (op := .Sub) T.sf T.o_sub T.f_sub (ok_Ratio___sub__ T) (b_Ratio___sub__ T) T.o_rsub T.f_rsub (ok_Ratio___rsub__ T) (b_Ratio___rsub__ T) T.i_sub T.ir_sub (by decide +kernel) T.sI T.sC F.slot_int_sub F.entry_int_sub F.args_int_sub_2 PySem.W.dec_int_sub (hr.mono (by decide))) (pv 2) (pv 0)) (pa_cons (pe_op op_sub (pe_op op_mulW (pv 2) (pv 4)) (pv 3)) (pa_cons (pv 4) pa_nil))))))))) (pss_one (ps_ret pe_bl)) pss_nil)
      (pss_one (ps_ret (pe_and (pe_call (ok_q_is T) (hr.mono (by decide)) (by rfl) T.g_q_is T.F_q_is.kp (b_q_is T) .nil pass0 (pa_cons (pe_op (op_ownB (op := .Mult) T.sf T.o_mul T.f_mul (ok_Ratio___mul__ T) (b_Ratio___mul__ T) T.o_rmul T.f_rmul (ok_Ratio___rmul__ T) (b_Ratio___rmul__ T) T.i_mul T.ir_mul (by decide +kernel) T.sI T.sC F.slot_int_mul F.entry_int_mul F.args_int_mul_2 PySem.W.dec_int_mul (hr.mono (by decide))) (pv 0) (pv 2)) (pa_cons (pe_op op_mulW (pv 3) (pv 2)) (pa_cons (pv 4) pa_nil)))) (pe_one (pe_call (ok_q_is T) (hr.mono (by decide)) (by rfl) T.g_q_is T.F_q_is.kp (b_q_is T) .nil pass0 (pa_cons (pe_op (op_ownB (op := .Mult) T.sf T.o_mul T.f_mul (ok_Ratio___mul__ T) (b_Ratio___mul__ T) T.o_rmul T.f_rmul (ok_Ratio___rmul__ T) (b_Ratio___rmul__ T) T.i_mul T.ir_mul (by decide +kernel) T.sI T.sC F.slot_int_mul F.entry_int_mul F.args_int_mul_2 PySem.W.dec_int_mul (hr.mono (by decide))) (pv 2) (pv 0)) (pa_cons (pe_op op_mulW (pv 3) (pv 2)) (pa_cons (pv 4) pa_nil)))))))))))), ?_⟩
    have c1 : ∀ {i j : Int}, i.natAbs < 2 ^ 200 → j.natAbs < 2 ^ 200 → CMulW i j := fun h1 h2 => cw h1 h2 (by decide) (by decide) (by decide)
    have z2 : Fit 200 N 1 := ⟨zN, by decide +kernel⟩
    refine ⟨_, rfl, l1, _, rfl, .inl (.inl e1), rfl, _, _, rfl, _, _, rfl, rfl, ?_⟩
    refine ⟨_, rfl, _, rfl, r_bin hom_add hom_add sw_add (.own x rfl wx) (.int rfl rfl zN (by decide)) (.inl ⟨x, rfl⟩) (by decide) (fun za Ha na sa wa => ?_)⟩
    refine ⟨_, rfl, _, rfl, r_bin hom_add hom_add sw_add (.int rfl rfl zN (by decide)) (.own x rfl (wx.keep sa)) (.inr ⟨x, rfl⟩) (by decide) (fun zb Hb nb sb wb => ?_)⟩
    refine ⟨(by show 2 ≤ sizeLine; decide), fun ls hls => ?_⟩
    have sl := same_new (o := .lst [.ref za, .ref zb]) hls
    have wa2 : W T.C (upd Hb ls (.lst [.ref za, .ref zb])) za (A1 + N * B1) B1 405 := ((wa.keep sb).keep sl).cast (by unfold nAdd; omega) (by omega)
    have wb2 : W T.C (upd Hb ls (.lst [.ref za, .ref zb])) zb (A1 + N * B1) B1 405 := (wb.keep sl).cast (by unfold nAdd; omega) (by omega)
    have el := upd_same (H := Hb) (a := ls) (o := .lst [.ref za, .ref zb])
    have fA : Fit 1500 (A1 + N * B1) B1 := by
      have := up (fit_add z1 z2) (by decide : 200 + 200 + 1 ≤ 1500)
      simp only [nAdd, Int.mul_one] at this
      exact this
    have fS : Fit 1500 (A1 - N * B1) B1 := by
      have := up (fit_sub z1 z2) (by decide : 200 + 200 + 1 ≤ 1500)
      simp only [nSub, Int.mul_one] at this
      exact this
    have fR : Fit 1500 (N * B1 - A1) B1 := by
      have := up (fit_sub z2 z1) (by decide : 200 + 200 + 1 ≤ 1500)
      simp only [nSub, Int.mul_one, Int.one_mul] at this
      exact this
    have fM : Fit 1500 (A1 * N) B1 := by
      have := up (fit_mul z1 z2) (by decide : 200 + 200 + 1 ≤ 1500)
      simp only [nMul, Int.mul_one] at this
      exact this
    have sAll := (sa.trans sb).trans sl
    refine ⟨_, rfl, ls, rfl, ⟨_, SqL.of el⟩, fun D hD => ?_⟩
    refine lc_list (K := K) (a := ls) (xs := [.ref za, .ref zb]) (fun i H' => Same (upd Hb ls (.lst [.ref za, .ref zb])) H' ∧ H' D = some (.lst (List.replicate i (.bl true)))) ⟨same_new hD, upd_same⟩ (fun i H' _ h => SqL.of (h.1 _ _ el)) (fun i z H' hz h => ?_) (fun H' h => ?_)
    · obtain ⟨sm, eD⟩ := h
      have hi : i < 2 := (List.getElem?_eq_some_iff.mp hz).1
      obtain ⟨zz, rfl, wz⟩ : ∃ zz, z = .ref zz ∧ W T.C (upd Hb ls (.lst [.ref za, .ref zb])) zz (A1 + N * B1) B1 405 := by
        have m := List.mem_of_getElem? hz
        simp only [List.mem_cons, List.not_mem_nil, or_false] at m
        rcases m with m | m
        · exact ⟨_, m, wa2⟩
        · exact ⟨_, m, wb2⟩
      obtain ⟨t, b, rv, e⟩ := wz.keep sm
      refine ⟨rfl, _, rfl, _, rfl, _, rfl, _, rfl, N, B1, rfl, rfl, c1 zN z1.2, A1, _, rfl, rfl, _, rfl, zz, t, b, _, _, _, rfl, rv, by decide, fA, e, ?_⟩
      refine ⟨_, eD, ?_, fun b o h => ?_, ?_⟩
      · rw [List.length_replicate]
        exact small1000 (by omega)
      · rw [upd_ne (ne_of_none h hD)]
        exact sm _ _ h
      · rw [upd_same, rep_more]
    · obtain ⟨sm, eD⟩ := h
      obtain ⟨bs, eb, al⟩ := rep_all eD
      refine ⟨D, bs, rfl, SqL.of eb, ?_⟩
      rw [al]
      have s1 := sAll.trans sm
      refine ⟨true, rfl, iteF ?_⟩
      refine ⟨_, rfl, _, rfl, r_bin hom_sub hom_rsub sw_sub (.own x rfl (wx.keep s1)) (.int rfl rfl zN (by decide)) (.inl ⟨x, rfl⟩) (by decide) (fun zc Hc nc sc wc => ?_)⟩
      obtain ⟨t, b, rv, e⟩ := wc.cast (A' := A1 - N * B1) (B' := B1) (by unfold nSub; omega) (by omega)
      refine ⟨_, rfl, _, rfl, _, rfl, N, B1, rfl, rfl, c1 zN z1.2, A1, _, rfl, rfl, _, rfl, zc, t, b, _, _, _, rfl, rv, by decide, fS, e, true, rfl, iteF ?_⟩
      have s2 := s1.trans sc
      refine ⟨_, rfl, _, rfl, r_bin hom_sub hom_rsub sw_sub (.int rfl rfl zN (by decide)) (.own x rfl (wx.keep s2)) (.inr ⟨x, rfl⟩) (by decide) (fun zd Hd nd sd wd => ?_)⟩
      obtain ⟨t, b, rv, e⟩ := wd.cast (A' := N * B1 - A1) (B' := B1) (by unfold nSub; omega) (by omega)
      refine ⟨_, rfl, _, rfl, N, B1, rfl, rfl, c1 zN z1.2, _, rfl, _, A1, rfl, rfl, _, rfl, zd, t, b, _, _, _, rfl, rv, by decide, fR, e, true, rfl, iteF ?_⟩
      have s3 := s2.trans sd
      refine ⟨_, rfl, _, rfl, r_bin hom_mul hom_mul sw_mul (.own x rfl (wx.keep s3)) (.int rfl rfl zN (by decide)) (.inl ⟨x, rfl⟩) (by decide) (fun ze He ne se we => ?_)⟩
      obtain ⟨t, b, rv, e⟩ := we.cast (A' := A1 * N) (B' := B1) rfl (by omega)
      refine ⟨_, rfl, _, rfl, A1, N, rfl, rfl, c1 z1.1 zN, _, rfl, ze, t, b, _, _, _, rfl, rv, by decide, fM, e, true, rfl, iteT ?_⟩
      have s4 := s3.trans se
      refine ⟨_, rfl, _, rfl, r_bin hom_mul hom_mul sw_mul (.int rfl rfl zN (by decide)) (.own x rfl (wx.keep s4)) (.inr ⟨x, rfl⟩) (by decide) (fun zf Hf nf sf wf => ?_)⟩
      obtain ⟨t, b, rv, e⟩ := wf.cast (A' := A1 * N) (B' := B1) (Int.mul_comm _ _) (by omega)
      exact ⟨_, rfl, _, rfl, A1, N, rfl, rfl, c1 z1.1 zN, _, rfl, zf, t, b, _, _, _, rfl, rv, by decide, fM, e, q _ (s4.trans sf)⟩
end
end K02

set_option Elab.async false
set_option linter.all false
set_option maxRecDepth 100000
set_option maxHeartbeats 16000000
namespace K02
open PySem PySem.Spec PyProof.Rows L2 GX OX TX TL
def fc (f0 : Int) : Int := 1 + f0
theorem fc_pos {f0 : Int} (h : 0 ≤ f0) : 0 < fc f0 := by
  unfold fc
  omega
theorem fc_le {f0 : Int} (h : f0 < 12) : (fc f0).natAbs < 2 ^ 4 ∨ fc f0 < 0 := by
  unfold fc
  have : (2 : Nat) ^ 4 = 16 := rfl
  omega
theorem fc4 {f0 : Int} (h0 : 0 ≤ f0) (h : f0 < 12) : (fc f0).natAbs < 2 ^ 4 := by
  unfold fc
  have : (2 : Nat) ^ 4 = 16 := rfl
  omega
theorem t80 {n : Nat} (h : n < 2 ^ 204) : n < 10 ^ 80 := Nat.lt_trans h (by decide +kernel)
theorem ok_tl {x : Str} (h : ∀ c ∈ tl x, c ≤ 60000) : PyData.strOk x = true := by
  unfold PyData.strOk
  rw [← Array.all_toList]
  exact List.all_eq_true.mpr fun c hc => decide_eq_true (Nat.lt_of_le_of_lt (h c hc) (by decide))
def Low6 (x : Str) : Prop := ∀ c ∈ tl x, c ≤ 60000
theorem low_S (n : Int) : Low6 (S n) := fun c hc => by
  by_cases z : c ≤ 57
  · omega
  · exact absurd hc (free_S (by omega))
theorem low_app {x y : Str} (hx : Low6 x) (hy : Low6 y) : Low6 (x ++ y) := fun c hc => by
  rw [tl_append, List.mem_append] at hc
  rcases hc with h | h
  · exact hx c h
  · exact hy c h
theorem low_c2 : Low6 "Ratio(" := by unfold Low6; decide +kernel
theorem low_c3 : Low6 ", " := by unfold Low6; decide +kernel
theorem low_c4 : Low6 ")" := by unfold Low6; decide +kernel
theorem low_rtxt (t b : Int) : Low6 (rtxt t b) := low_app (low_app (low_app (low_app low_c2 (low_S t)) low_c3) (low_S b)) low_c4
theorem sh_s2 {x y : Str} (hx : Low6 x) (hy : Low6 y) : SeqAt.shaped (.list [.str x, .str y]) = true := by
  have h1 := ok_tl hx
  have h2 := ok_tl hy
  simp [SeqAt.shaped, PyData.canLay0, PyData.canLayAll0, PyData.depth, PyData.depthAll, h1, h2]
theorem ev_s2 (x y : Str) : PyData.eqv (.list [.str x, .str y]) (.list [.str x, .str y]) = true := by simp [PyData.eqv, PyData.eqvAll]
theorem r_same {C : Addr} {H : Hp} {Q : VK} {x y : Addr} {A B A' B' : Int} {n m : Nat} (wx : W C H x A B n) (wy : W C H y A' B' m) (p : 0 < B) (p' : 0 < B') (hA : A * B' = A' * B) (hk : n + m + 1 ≤ 3000) (q : Q (.bl true) H) : rOwnC C [] [] (spEq C) (spEq C) (.ref x) (.ref y) H Q := by
  obtain ⟨t, b, r, e⟩ := wx
  obtain ⟨t', b', r', e'⟩ := wy
  obtain ⟨f, dx, fs, ea, _⟩ := r.rat
  obtain ⟨f', dy, gs, eb, _⟩ := r'.rat
  refine .inl ⟨x, dx, fs, rfl, ea, .inr ⟨y, dy, gs, rfl, eb⟩, x, _, t, b, t', b', n, m, rfl, r, .own y rfl r', hk, _, rfl, ?_⟩
  have h1 : t * b' = t' * b := by
    refine Int.eq_of_mul_eq_mul_right (Int.ne_of_gt (Int.mul_pos p p')) ?_
    grind
  have h2 : (t * b' - t' * b == 0) = true := by
    rw [beq_iff_eq, h1]
    omega
  rw [h2]
  exact q
def spRight : Sp := fun vs H Q _ => ∃ a : Addr, vs = [.ref a] ∧ Bag H a ∧ ∀ H', But a H H' → Q (.bl true) H'
section
variable {P : Program} {w : World} {K : PySem.W.Frag} {mg : Str → Option Value} {base : Heap}
theorem ok_q_right (T : Txt K mg) : FnG P w K mg base CX0 9 T.a_q_right T.fd_q_right ["_law_purse_here"] spRight := by
  refine fnG0 T.F_q_right sc_q_right (fun vs H Q E h => ?_) (fun cdv A outer s H vs Q E hG hr h => ?_)
  · obtain ⟨_, rfl, _⟩ := h
    rfl
  · obtain ⟨a, rfl, bag, q⟩ := h
    have hu := room_u hr
    refine ⟨_, (pss_cons (ps_par (i := 1) (j := 2) (by rfl) sc_q_right.nd rfl rfl (by decide) rfl rfl (pa_cons (pe_call (ok_q_pair T) (hr.mono (by decide)) (by rfl) T.g_q_pair T.F_q_pair.kp (b_q_pair T) .nil pass0 (pa_cons (pv 0) pa_nil)) (pa_cons (pe_call (ok_q_pair T) (hr.mono (by decide)) (by rfl) T.g_q_pair T.F_q_pair.kp (b_q_pair T) .nil pass0 (pa_cons (pv 0) pa_nil)) pa_nil)) (by rfl))
      (pss_cons (ps_set (i := 3) sc_q_right.nd rfl (Or.inl rfl) (pe_call (ok_q_integer T) (hr.mono (by decide)) (by rfl) T.g_q_integer T.F_q_integer.kp (b_q_integer T) .nil pass0 (pa_cons (pv 0) pa_nil)))
      (pss_cons (ps_set (i := 4) sc_q_right.nd rfl (Or.inl rfl) (pe_op op_add pe_int (pe_call (ok_q_draw T) (hr.mono (by decide)) (by rfl) T.g_q_draw T.F_q_draw.kp (b_q_draw T) .nil pass0 (pa_cons (pv 0) (pa_cons pe_int pa_nil)))))
      (pss_cons (ps_set (i := 5) sc_q_right.nd rfl (Or.inl rfl) (pe_make T.mkR (ok_Ratio___init__ T) (hr.mono (by decide)) (by rfl) T.g_Ratio (bI2 T) .nil pass0 (pa_cons (pe_op op_mulW (pe_ix ix_tup (pv 1) pe_int (fun _ _ => rfl)) (pv 4)) (pa_cons (pe_op op_mulW (pe_ix ix_tup (pv 1) pe_int (fun _ _ => rfl)) (pv 4)) pa_nil))))
      (pss_cons (ps_set (i := 6) sc_q_right.nd rfl (Or.inl rfl) (pe_make T.mkR (ok_Ratio___init__ T) (hr.mono (by decide)) (by rfl) T.g_Ratio (bI2 T) .nil pass0 (pa_cons (pe_ix ix_tup (pv 2) pe_int (fun _ _ => rfl)) (pa_cons (pe_ix ix_tup (pv 2) pe_int (fun _ _ => rfl)) pa_nil))))
      (pss_cons (ps_set (i := 7) sc_q_right.nd rfl (Or.inl rfl) (pe_lst (pa_cons (pe_callB (call_reprO T.o_repr T.f_repr (ok_Ratio___repr__ T) (hr.mono (by decide)) (b_Ratio___repr__ T)) (by rfl) T.z_repr (by decide +kernel) (pa_cons (pv 5) pa_nil)) (pa_cons (pe_callB (call_reprO T.o_repr T.f_repr (ok_Ratio___repr__ T) (hr.mono (by decide)) (b_Ratio___repr__ T)) (by rfl) T.z_repr (by decide +kernel) (pa_cons (pv 6) pa_nil)) pa_nil))))
      (pss_cons (ps_if (pt_not (pt_val (pe_callG hG (ok_q_two_right T) (hr.mono (by decide)) (by rfl) T.g_q_two_right T.F_q_two_right.kp (b_q_two_right T) pass0 (pa_cons (pv 5) (pa_cons (pv 6) (pa_cons (pv 1) (pa_cons (pv 2) pa_nil))))))) (pss_one (ps_ret pe_bl)) pss_nil)
      (pss_cons (ps_if (pt_not (pt_val (pe_callG hG (ok_q_two_right T) (hr.mono (by decide)) (by rfl) T.g_q_two_right T.F_q_two_right.kp (b_q_two_right T) pass0 (pa_cons (pv 5) (pa_cons (pv 5) (pa_cons (pv 1) (pa_cons (pv 1) pa_nil))))))) (pss_one (ps_ret pe_bl)) pss_nil)
      (pss_cons (ps_if (PW.pt (pw_or (pt_not (pt_val (pe_call (ok_q_whole_right T) (hr.mono (by decide)) (by rfl) T.g_q_whole_right T.F_q_whole_right.kp (b_q_whole_right T) .nil pass0 (pa_cons (pv 5) (pa_cons (pv 1) (pa_cons (pv 3) pa_nil)))))) (pw_or1 (pt_not (pt_val (pe_call (ok_q_whole_right T) (hr.mono (by decide)) (by rfl) T.g_q_whole_right T.F_q_whole_right.kp (b_q_whole_right T) .nil pass0 (pa_cons (pv 6) (pa_cons (pv 2) (pa_cons pe_int pa_nil))))))))) (pss_one (ps_ret pe_bl)) pss_nil)
      (pss_cons (ps_set (i := 8) sc_q_right.nd rfl (Or.inl rfl) (pe_make T.mkR (ok_Ratio___init__ T) (hr.mono (by decide)) (by rfl) T.g_Ratio (bI2 T) .nil pass0 (pa_cons (pv 3) (pa_cons (pe_op op_add pe_int (pe_callB call_abs (by rfl) T.z_abs (by decide +kernel) (pa_cons (pe_ix ix_tup (pv 1) pe_int (fun _ _ => rfl)) pa_nil))) pa_nil))))
      (pss_cons (ps_if (pt_not (pt_cmpR (op_own (op := .Eq) (Ls := []) (Rs := []) (fun _ _ => rfl) T.o_eq T.f_eq (ok_Ratio___eq__ T) (b_Ratio___eq__ T) T.o_eq T.f_eq (ok_Ratio___eq__ T) (b_Ratio___eq__ T) (fun U h => nomatch h) (fun U h => nomatch h) (hr.mono (by decide))) (pe_op (op_ownB (op := .Mult) T.sf T.o_mul T.f_mul (ok_Ratio___mul__ T) (b_Ratio___mul__ T) T.o_rmul T.f_rmul (ok_Ratio___rmul__ T) (b_Ratio___rmul__ T) T.i_mul T.ir_mul (by decide +kernel) T.sI T.sC F.slot_int_mul F.entry_int_mul F.args_int_mul_2 PySem.W.dec_int_mul (hr.mono (by decide))) (pe_op (op_ownB (op := .Add) T.sf T.o_add T.f_add (ok_Ratio___add__ T) (b_Ratio___add__ T) T.o_radd T.f_radd (ok_Ratio___radd__ T) (b_Ratio___radd__ T) T.i_add T.ir_add (by decide +kernel) T.sI T.sC F.slot_int_add F.entry_int_add F.args_int_add_2 PySem.W.dec_int_add (hr.mono (by decide))) (pv 5) (pv 6)) (pv 8)) (pe_op (op_ownB (op := .Add) T.sf T.o_add T.f_add (ok_Ratio___add__ T) (b_Ratio___add__ T) T.o_radd T.f_radd (ok_Ratio___radd__ T) (b_Ratio___radd__ T) T.i_add T.ir_add (by decide +kernel) T.sI T.sC F.slot_int_add F.entry_int_add F.args_int_add_2 PySem.W.dec_int_add (hr.mono (by decide))) (pe_op (op_ownB (op := .Mult) T.sf T.o_mul T.f_mul (ok_Ratio___mul__ T) (b_Ratio___mul__ T) T.o_rmul T.f_rmul (ok_Ratio___rmul__ T) (b_Ratio___rmul__ T) T.i_mul T.ir_mul (by decide +kernel) T.sI T.sC F.slot_int_mul F.entry_int_mul F.args_int_mul_2 PySem.W.dec_int_mul (hr.mono (by decide))) (pv 5) (pv 8)) (pe_op (op_ownB (op := .Mult) T.sf T.o_mul T.f_mul (ok_Ratio___mul__ T) (b_Ratio___mul__ T) T.o_rmul T.f_rmul (ok_Ratio___rmul__ T) (b_Ratio___rmul__ T) T.i_mul T.ir_mul (by decide +kernel) T.sI T.sC F.slot_int_mul F.entry_int_mul F.args_int_mul_2 PySem.W.dec_int_mul (hr.mono (by decide))) (pv 6) (pv 8))) (nomark _))) (pss_one (ps_ret pe_bl)) pss_nil)
      (pss_cons (ps_if (pt_not (pt_cmpR (op_own (op := .Eq) (Ls := []) (Rs := []) (fun _ _ => rfl) T.o_eq T.f_eq (ok_Ratio___eq__ T) (b_Ratio___eq__ T) T.o_eq T.f_eq (ok_Ratio___eq__ T) (b_Ratio___eq__ T) (fun U h => nomatch h) (fun U h => nomatch h) (hr.mono (by decide))) (pe_op (op_ownB (op := .Add) T.sf T.o_add T.f_add (ok_Ratio___add__ T) (b_Ratio___add__ T) T.o_radd T.f_radd (ok_Ratio___radd__ T) (b_Ratio___radd__ T) T.i_add T.ir_add (by decide +kernel) T.sI T.sC F.slot_int_add F.entry_int_add F.args_int_add_2 PySem.W.dec_int_add (hr.mono (by decide))) (pe_op (op_ownB (op := .Sub) T.sf T.o_sub T.f_sub (ok_Ratio___sub__ T) (b_Ratio___sub__ T) T.o_rsub T.f_rsub (ok_Ratio___rsub__ T) (b_Ratio___rsub__ T) T.i_sub T.ir_sub (by decide +kernel) T.sI T.sC F.slot_int_sub F.entry_int_sub F.args_int_sub_2 PySem.W.dec_int_sub (hr.mono (by decide))) (pv 5) (pv 6)) (pv 6)) (pv 5) (nomark _))) (pss_one (ps_ret pe_bl)) pss_nil)
      (pss_one (ps_ret (pe_cmpR (op_eqD hr.units) (pe_lst (pa_cons (pe_callB (call_reprO T.o_repr T.f_repr (ok_Ratio___repr__ T) (hr.mono (by decide)) (b_Ratio___repr__ T)) (by rfl) T.z_repr (by decide +kernel) (pa_cons (pv 5) pa_nil)) (pa_cons (pe_callB (call_reprO T.o_repr T.f_repr (ok_Ratio___repr__ T) (hr.mono (by decide)) (b_Ratio___repr__ T)) (by rfl) T.z_repr (by decide +kernel) (pa_cons (pv 6) pa_nil)) pa_nil))) (pv 7) (nomark _)))))))))))))))), ?_⟩
    refine ⟨_, rfl, a, rfl, bag, fun l1 A1 B1 H1 el1 ta1 p1 tb1 bag1 c1 ne1 => ⟨_, rfl, a, rfl, bag1, fun l2 A2 B2 H2 el2 ta2 p2 tb2 bag2 c2 ne2 => ⟨_, _, rfl, ?_⟩⟩⟩
    refine ⟨_, rfl, a, rfl, bag2, fun N H3 nb bag3 c3 => ?_⟩
    refine ⟨_, rfl, a, 12, rfl, bag3, by decide, by decide, fun f0 H4 f0b f1b bag4 c4 => ⟨1, _, rfl, rfl, ?_⟩⟩
    have F0 : 0 < fc f0 := fc_pos f0b
    have F4 := fc4 f0b f1b
    have c34 := c3.trans c4
    have el14 := c34 _ _ ne1 (c2 _ _ ne1 el1)
    have el24 := c34 _ _ ne2 el2
    have z1 : Fit 200 A1 B1 := ⟨p200 (Nat.le_of_lt ta1), p200 tb1⟩
    have z2 : Fit 200 A2 B2 := ⟨p200 (Nat.le_of_lt ta2), p200 tb2⟩
    have zN : N.natAbs < 2 ^ 200 := p200 (Nat.le_of_lt nb)
    have cF : ∀ {i : Int}, i.natAbs < 2 ^ 200 → CMulW i (fc f0) := fun h1 => cw h1 F4 (by decide) (by decide) (by decide)
    have fB : Fit 204 (A1 * fc f0) (B1 * fc f0) := ⟨mlt z1.1 F4, mlt z1.2 F4⟩
    refine ⟨_, rfl, l1, _, 0, .int A1, rfl, rfl, SqT.of el14, atI_nat (j := 0) rfl, _, rfl, A1, fc f0, rfl, rfl, cF z1.1, ?_⟩
    refine ⟨_, rfl, l1, _, 1, .int B1, rfl, rfl, SqT.of el14, atI_nat (j := 1) rfl, _, rfl, B1, fc f0, rfl, rfl, cF z1.2, ?_⟩
    refine fun x dx0 nx nd0 ne0 => ⟨x, _, _, rfl, (Int.mul_pos p1 F0), p3 (fB).2 (by decide), ⟨dx0, upd_same⟩, fun H5 but rat => ⟨rfl, ?_⟩⟩
    obtain ⟨t1, b1, rv1, e1⟩ := made (k := 204) (Int.mul_pos p1 F0) fB rat
    have s5 := mk_same nx nd0 but
    have wx5 : W T.C H5 x A1 B1 204 := ⟨t1, b1, rv1, Int.eq_of_mul_eq_mul_right (Int.ne_of_gt F0) (by grind)⟩
    have el15 := s5 _ _ el14
    have el25 := s5 _ _ el24
    refine ⟨_, rfl, l2, _, 0, .int A2, rfl, rfl, SqT.of el25, atI_nat (j := 0) rfl, ?_⟩
    refine ⟨_, rfl, l2, _, 1, .int B2, rfl, rfl, SqT.of el25, atI_nat (j := 1) rfl, ?_⟩
    refine fun y dx0 ny nd0 ne0 => ⟨y, _, _, rfl, p2, p3 (show Fit 204 A2 B2 from ⟨p3 z2.1 (by decide), p3 z2.2 (by decide)⟩).2 (by decide), ⟨dx0, upd_same⟩, fun H6 but rat => ⟨rfl, ?_⟩⟩
    obtain ⟨t2, b2, rv2, e2⟩ := made (k := 204) p2 ⟨p3 z2.1 (by decide), p3 z2.2 (by decide)⟩ rat
    have s6 := mk_same ny nd0 but
    have wy6 : W T.C H6 y A2 B2 204 := ⟨t2, b2, rv2, e2⟩
    have wx6 := wx5.keep s6
    have rv16 := rv1.keep s6
    have el16 := s6 _ _ el15
    have el26 := s6 _ _ el25
    obtain ⟨f1, r1⟩ := rv16.rat
    obtain ⟨f2, r2⟩ := rv2.rat
    obtain ⟨dx, fs, ex, _⟩ := id r1
    obtain ⟨dy, gs, ey, _⟩ := id r2
    refine ⟨_, rfl, x, dx, fs, rfl, ex, x, t1, b1, f1, rfl, r1, t80 rv16.fit.1, t80 rv16.fit.2, rtxt t1 b1, rfl, _, rfl, y, dy, gs, rfl, ey, y, t2, b2, f2, rfl, r2, t80 rv2.fit.1, t80 rv2.fit.2, rtxt t2 b2, rfl, (by show 2 ≤ sizeLine; decide), fun l3 h3 => ?_⟩
    have s7 := same_new (o := .lst [.str (rtxt t1 b1), .str (rtxt t2 b2)]) h3
    have el37 := upd_same (H := H6) (a := l3) (o := .lst [.str (rtxt t1 b1), .str (rtxt t2 b2)])
    refine ⟨_, rfl, _, rfl, _, rfl, _, rfl, x, y, l1, l2, A1, B1, A2, B2, rfl, wx6.keep s7, wy6.keep s7, s7 _ _ el16, s7 _ _ el26, p1, p2, z1, z2, fun H8 s8 => ⟨true, rfl, iteF ?_⟩⟩
    have s78 := s7.trans s8
    refine ⟨_, rfl, _, rfl, _, rfl, _, rfl, x, x, l1, l1, A1, B1, A1, B1, rfl, wx6.keep s78, wx6.keep s78, s78 _ _ el16, s78 _ _ el16, p1, p1, z1, z1, fun H9 s9 => ⟨true, rfl, iteF ?_⟩⟩
    have s79 := s78.trans s9
    refine ⟨_, rfl, _, rfl, _, rfl, x, l1, A1, B1, N, rfl, wx6.keep s79, s79 _ _ el16, p1, z1, zN, fun H10 s10 => ⟨true, rfl, iteF ?_⟩⟩
    have s710 := s79.trans s10
    refine ⟨_, rfl, _, rfl, y, l2, A2, B2, 0, rfl, wy6.keep s710, s710 _ _ el26, p2, z2, by decide, fun H11 s11 => ⟨true, rfl, iteF ?_⟩⟩
    have s711 := s710.trans s11
    refine ⟨_, rfl, _, rfl, l1, _, 0, .int A1, rfl, rfl, SqT.of (s711 _ _ el16), atI_nat (j := 0) rfl, A1, rfl, 1, _, rfl, rfl, ?_⟩
    refine fun z dx0 nz nd0 ne0 => ⟨z, _, _, rfl, (dn_pos A1), p3 (show Fit 204 N (dn A1) from ⟨p3 zN (by decide), p3 (p200 (dn_lt ta1)) (by decide)⟩).2 (by decide), ⟨dx0, upd_same⟩, fun H12 but rat => ⟨rfl, ?_⟩⟩
    obtain ⟨t3, b3, rv3, e3⟩ := made (k := 204) (dn_pos A1) ⟨p3 zN (by decide), p3 (p200 (dn_lt ta1)) (by decide)⟩ rat
    have s12 := mk_same nz nd0 but
    have wz12 : W T.C H12 z N (dn A1) 204 := ⟨t3, b3, rv3, e3⟩
    have d0 := dn_pos A1
    have s712 := s711.trans s12
    have wx12 := wx6.keep s712
    have wy12 := wy6.keep s712
    refine ⟨_, rfl, _, rfl, r_bin hom_add hom_add sw_add (.own x rfl wx12) (.own y rfl wy12) (.inl ⟨x, rfl⟩) (by decide) (fun za Ha na sa wa => ?_)⟩
    refine ⟨_, rfl, r_bin hom_mul hom_mul sw_mul (.own za rfl wa) (.own z rfl (wz12.keep sa)) (.inl ⟨za, rfl⟩) (by decide) (fun zb Hb nb' sb wb => ?_)⟩
    have sab := sa.trans sb
    refine ⟨_, rfl, _, rfl, r_bin hom_mul hom_mul sw_mul (.own x rfl (wx12.keep sab)) (.own z rfl (wz12.keep sab)) (.inl ⟨x, rfl⟩) (by decide) (fun zc Hc nc sc wc => ?_)⟩
    have sac := sab.trans sc
    refine ⟨_, rfl, _, rfl, r_bin hom_mul hom_mul sw_mul (.own y rfl (wy12.keep sac)) (.own z rfl (wz12.keep sac)) (.inl ⟨y, rfl⟩) (by decide) (fun zd Hd nd' sd wd => ?_)⟩
    refine r_bin hom_add hom_add sw_add (.own zc rfl (wc.keep sd)) (.own zd rfl wd) (.inl ⟨zc, rfl⟩) (by decide) (fun ze He ne' se we => ?_)
    refine r_same (wb.keep ((sc.trans sd).trans se)) we (Int.mul_pos (Int.mul_pos p1 p2) d0) (Int.mul_pos (Int.mul_pos p1 d0) (Int.mul_pos p2 d0)) (by unfold nAdd nMul; grind) (by decide) ?_
    refine ⟨true, rfl, iteF ?_⟩
    have sae := ((sac.trans sd).trans se)
    have s713 := s712.trans sae
    refine ⟨_, rfl, _, rfl, r_bin hom_sub hom_rsub sw_sub (.own x rfl (wx6.keep s713)) (.own y rfl (wy6.keep s713)) (.inl ⟨x, rfl⟩) (by decide) (fun ya Ja ma ra va => ?_)⟩
    refine ⟨_, rfl, r_bin hom_add hom_add sw_add (.own ya rfl va) (.own y rfl ((wy6.keep s713).keep ra)) (.inl ⟨ya, rfl⟩) (by decide) (fun yb Jb mb rb vb => ?_)⟩
    have s714 := (s713.trans ra).trans rb
    refine ⟨_, rfl, r_same vb (wx6.keep s714) (Int.mul_pos (Int.mul_pos p1 p2) p2) p1 (by unfold nAdd nSub; grind) (by decide) ?_⟩
    refine ⟨true, rfl, iteF ?_⟩
    refine ⟨_, rfl, x, dx, fs, rfl, s714 _ _ ex, x, t1, b1, f1, rfl, r1.keep s714, t80 rv16.fit.1, t80 rv16.fit.2, rtxt t1 b1, rfl, _, rfl, y, dy, gs, rfl, s714 _ _ ey, y, t2, b2, f2, rfl, r2.keep s714, t80 rv2.fit.1, t80 rv2.fit.2, rtxt t2 b2, rfl, (by show 2 ≤ sizeLine; decide), fun l4 h4 => ?_⟩
    have s15 := same_new (o := .lst [.str (rtxt t1 b1), .str (rtxt t2 b2)]) h4
    have s8e : Same (upd H6 l3 (.lst [.str (rtxt t1 b1), .str (rtxt t2 b2)])) Jb := ((((((s8.trans s9).trans s10).trans s11).trans s12).trans sae).trans ra).trans rb
    refine ⟨_, rfl, .list [.str (rtxt t1 b1), .str (rtxt t2 b2)], .list [.str (rtxt t1 b1), .str (rtxt t2 b2)], .lst (SqL.of upd_same) (.cons (.str _) (.cons (.str _) .nil)), .lst (SqL.of (s15 _ _ (s8e _ _ el37))) (.cons (.str _) (.cons (.str _) .nil)), sh_s2 (low_rtxt _ _) (low_rtxt _ _), sh_s2 (low_rtxt _ _) (low_rtxt _ _), ?_⟩
    rw [ev_s2]
    exact q _ (((c1.trans c2).trans c34).same (((s5.trans s6).trans s714).trans s15))
end
end K02

set_option Elab.async false
set_option linter.all false
set_option maxRecDepth 100000
set_option maxHeartbeats 8000000
namespace K02
open PySem PySem.Spec PyProof.Rows L2 GX OX TX
def spLaw (K : PySem.W.Frag) : Sp := fun vs H Q _ => ∃ (a : Addr) (ns : List Int), vs = [.ref a] ∧ SqL K H a (ns.map V.int) ∧ ns.length ≤ 63 ∧ ∀ H', Q (.bl true) H'
section
variable {P : Program} {w : World} {K : PySem.W.Frag} {mg : Str → Option Value} {base : Heap}
theorem ok_law (T : Txt K mg) : FnG P w K mg base CX0 10 T.a_law T.fd_law ["_law_script"] (spLaw K) := by
  refine fnG0 T.F_law sc_law (fun vs H Q E h => ?_) (fun cdv A outer s H vs Q E hG hr h => ?_)
  · obtain ⟨a, ns, rfl, _⟩ := h
    rfl
  · obtain ⟨a, ns, rfl, S, hl, q⟩ := h
    refine ⟨_, (pss_cons (ps_for PassesOwn.never rfl (pi_range1 (by rfl) T.z_range (pa_cons (pe_callB (call_max2 rfl) (by rfl) T.z_max (by decide +kernel) (pa_cons pe_int (pa_cons (pe_callB (call_min2 rfl) (by rfl) T.z_min (by decide +kernel) (pa_cons (pe_callB call_len_seq (by rfl) T.z_len (by decide +kernel) (pa_cons (pv 0) pa_nil)) (pa_cons pe_int pa_nil))) pa_nil))) pa_nil)) (pg_name (i := 1) sc_law.nd rfl (Or.inl rfl)) (pss_one (ps_if (pt_not (pt_val (pe_callG hG (ok_q_right T) (hr.mono (by decide)) (by rfl) T.g_q_right T.F_q_right.kp (b_q_right T) pass0 (pa_cons (pe_call (ok_q_purse T) (hr.mono (by decide)) (by rfl) T.g_q_purse T.F_q_purse.kp (b_q_purse T) .nil pass0 (pa_cons (pv 0) (pa_cons (pv 1) pa_nil))) pa_nil)))) (pss_one (ps_ret pe_bl)) pss_nil)))
      (pss_one (ps_ret pe_bl))), ?_⟩
    have hl2 : (((ns.map V.int).length : Nat) : Int) ≤ 63 := by
      rw [List.length_map]
      omega
    refine ⟨_, rfl, a, _, rfl, .inl S, _, 10, rfl, 2, _, rfl, _, rfl, ?_, ?_, ?_⟩
    · split <;> split <;> omega
    · split <;> split <;> omega
    · refine for_range (lo := 0) (fun i σ H' => ∃ y : Option V, σ = [some (.ref a), y] ∧ Same H H') ⟨none, rfl, Same.refl H⟩ (fun i σ H' hi h => ?_) (fun σ H' h => ?_)
      · obtain ⟨y, rfl, sm⟩ := h
        have hi2 : i ≤ 63 := by
          revert hi
          split <;> split <;> omega
        have e0 : (0 : Int) + (i : Int) = (i : Int) := by omega
        refine ⟨_, rfl, _, rfl, a, ns, i, congrArg (fun z => [V.ref a, V.int z]) e0, sm.seq S, hl, hi2, fun p H1 hp s1 bag => ?_⟩
        refine ⟨p, rfl, bag, fun H2 but => ⟨true, rfl, iteF ⟨_, rfl, fun b o h => ?_⟩⟩⟩
        exact but _ _ (ne_of_none (sm _ _ h) hp) (s1 _ _ (sm _ _ h))
      · exact q H'
end
end K02

set_option Elab.async false
set_option linter.all false
set_option maxRecDepth 100000
set_option maxHeartbeats 8000000
namespace K02
open PySem PySem.Spec PyProof.Rows L2 GX OX
theorem all_mk {l : PySem.W.OpenLaw} {w : World} {K : PySem.W.Frag} {h : Heap} {mg : Str → Option Value} {fa : Addr} (X : K.In h) (G : h.Ns mainGlobals mg) (hfa : mg "law" = some (.ref fa))
    {f_is_integer : Addr} {od_is_integer an_is_integer : Option Addr} {sl_is_integer : Array (Option Value)} {oc_is_integer kV_is_integer dc_is_integer pm_is_integer cd_is_integer ct_is_integer : Value}
    {f_is_number : Addr} {od_is_number an_is_number : Option Addr} {sl_is_number : Array (Option Value)} {oc_is_number kV_is_number dc_is_number pm_is_number cd_is_number ct_is_number : Value}
    {f__top_of : Addr} {od__top_of an__top_of : Option Addr} {sl__top_of : Array (Option Value)} {oc__top_of kV__top_of dc__top_of pm__top_of cd__top_of ct__top_of : Value}
    {f__bottom_of : Addr} {od__bottom_of an__bottom_of : Option Addr} {sl__bottom_of : Array (Option Value)} {oc__bottom_of kV__bottom_of dc__bottom_of pm__bottom_of cd__bottom_of ct__bottom_of : Value}
    {f__sum_of : Addr} {od__sum_of an__sum_of : Option Addr} {sl__sum_of : Array (Option Value)} {oc__sum_of kV__sum_of dc__sum_of pm__sum_of cd__sum_of ct__sum_of : Value}
    {f__product_of : Addr} {od__product_of an__product_of : Option Addr} {sl__product_of : Array (Option Value)} {oc__product_of kV__product_of dc__product_of pm__product_of cd__product_of ct__product_of : Value}
    {f__lead : Addr} {od__lead an__lead : Option Addr} {sl__lead : Array (Option Value)} {oc__lead kV__lead dc__lead pm__lead cd__lead ct__lead : Value}
    {f_q_purse : Addr} {od_q_purse an_q_purse : Option Addr} {sl_q_purse : Array (Option Value)} {oc_q_purse kV_q_purse dc_q_purse pm_q_purse cd_q_purse ct_q_purse : Value}
    {f_q_draw : Addr} {od_q_draw an_q_draw : Option Addr} {sl_q_draw : Array (Option Value)} {oc_q_draw kV_q_draw dc_q_draw pm_q_draw cd_q_draw ct_q_draw : Value}
    {f_q_great : Addr} {od_q_great an_q_great : Option Addr} {sl_q_great : Array (Option Value)} {oc_q_great kV_q_great dc_q_great pm_q_great cd_q_great ct_q_great : Value}
    {f_q_integer : Addr} {od_q_integer an_q_integer : Option Addr} {sl_q_integer : Array (Option Value)} {oc_q_integer kV_q_integer dc_q_integer pm_q_integer cd_q_integer ct_q_integer : Value}
    {f_q_lowest : Addr} {od_q_lowest an_q_lowest : Option Addr} {sl_q_lowest : Array (Option Value)} {oc_q_lowest kV_q_lowest dc_q_lowest pm_q_lowest cd_q_lowest ct_q_lowest : Value}
    {f_q_is : Addr} {od_q_is an_q_is : Option Addr} {sl_q_is : Array (Option Value)} {oc_q_is kV_q_is dc_q_is pm_q_is cd_q_is ct_q_is : Value}
    {f_q_pair : Addr} {od_q_pair an_q_pair : Option Addr} {sl_q_pair : Array (Option Value)} {oc_q_pair kV_q_pair dc_q_pair pm_q_pair cd_q_pair ct_q_pair : Value}
    {f_q_two_right : Addr} {od_q_two_right an_q_two_right : Option Addr} {sl_q_two_right : Array (Option Value)} {oc_q_two_right kV_q_two_right dc_q_two_right pm_q_two_right cd_q_two_right ct_q_two_right : Value}
    {f_q_whole_right : Addr} {od_q_whole_right an_q_whole_right : Option Addr} {sl_q_whole_right : Array (Option Value)} {oc_q_whole_right kV_q_whole_right dc_q_whole_right pm_q_whole_right cd_q_whole_right ct_q_whole_right : Value}
    {f_q_right : Addr} {od_q_right an_q_right : Option Addr} {sl_q_right : Array (Option Value)} {oc_q_right kV_q_right dc_q_right pm_q_right cd_q_right ct_q_right : Value}
    {f_law : Addr} {od_law an_law : Option Addr} {sl_law : Array (Option Value)} {oc_law kV_law dc_law pm_law cd_law ct_law : Value}
    {C fI aD g_add g_radd g_sub g_rsub g_mul g_rmul g_neg g_eq g_bool g_repr : Addr}
    {tD : Tok}
    {nD : Nat}
    {od_init an_init : Option Addr}
    {sl_init : Array (Option Value)}
    {oc_init kV_init dc_init pm_init cd_init ct_init : Value}
    {od_madd an_madd : Option Addr}
    {sl_madd : Array (Option Value)}
    {oc_madd kV_madd dc_madd pm_madd cd_madd ct_madd : Value}
    {od_mradd an_mradd : Option Addr}
    {sl_mradd : Array (Option Value)}
    {oc_mradd kV_mradd dc_mradd pm_mradd cd_mradd ct_mradd : Value}
    {od_msub an_msub : Option Addr}
    {sl_msub : Array (Option Value)}
    {oc_msub kV_msub dc_msub pm_msub cd_msub ct_msub : Value}
    {od_mrsub an_mrsub : Option Addr}
    {sl_mrsub : Array (Option Value)}
    {oc_mrsub kV_mrsub dc_mrsub pm_mrsub cd_mrsub ct_mrsub : Value}
    {od_mmul an_mmul : Option Addr}
    {sl_mmul : Array (Option Value)}
    {oc_mmul kV_mmul dc_mmul pm_mmul cd_mmul ct_mmul : Value}
    {od_mrmul an_mrmul : Option Addr}
    {sl_mrmul : Array (Option Value)}
    {oc_mrmul kV_mrmul dc_mrmul pm_mrmul cd_mrmul ct_mrmul : Value}
    {od_mneg an_mneg : Option Addr}
    {sl_mneg : Array (Option Value)}
    {oc_mneg kV_mneg dc_mneg pm_mneg cd_mneg ct_mneg : Value}
    {od_meq an_meq : Option Addr}
    {sl_meq : Array (Option Value)}
    {oc_meq kV_meq dc_meq pm_meq cd_meq ct_meq : Value}
    {od_mbool an_mbool : Option Addr}
    {sl_mbool : Array (Option Value)}
    {oc_mbool kV_mbool dc_mbool pm_mbool cd_mbool ct_mbool : Value}
    {od_mrepr an_mrepr : Option Addr}
    {sl_mrepr : Array (Option Value)}
    {oc_mrepr kV_mrepr dc_mrepr pm_mrepr cd_mrepr ct_mrepr : Value}
    {ocD : Value}
    {odD : Option Addr}
    {slD : Array (Option Value)}
    (a_is_integer : PySem.W.nsIn K mainGlobals "is_integer" = some (some (.ref f_is_integer))) (l_is_integer : K.lookup f_is_integer = some ⟨oc_is_integer, od_is_integer, .func (PySem.W.fnOf "is_integer" "is_integer" (defArgs s_is_integer) (defBody s_is_integer) (defScope s_is_integer) .none kV_is_integer dc_is_integer pm_is_integer an_is_integer cd_is_integer ct_is_integer), sl_is_integer⟩) (c_is_integer : PySem.W.codeIn K cd_is_integer "is_integer" = true) (k_is_integer : PySem.W.keepIn K (.ref f_is_integer) = true)
    (a_is_number : PySem.W.nsIn K mainGlobals "is_number" = some (some (.ref f_is_number))) (l_is_number : K.lookup f_is_number = some ⟨oc_is_number, od_is_number, .func (PySem.W.fnOf "is_number" "is_number" (defArgs s_is_number) (defBody s_is_number) (defScope s_is_number) .none kV_is_number dc_is_number pm_is_number an_is_number cd_is_number ct_is_number), sl_is_number⟩) (c_is_number : PySem.W.codeIn K cd_is_number "is_number" = true) (k_is_number : PySem.W.keepIn K (.ref f_is_number) = true)
    (a__top_of : PySem.W.nsIn K mainGlobals "_top_of" = some (some (.ref f__top_of))) (l__top_of : K.lookup f__top_of = some ⟨oc__top_of, od__top_of, .func (PySem.W.fnOf "_top_of" "_top_of" (defArgs s__top_of) (defBody s__top_of) (defScope s__top_of) .none kV__top_of dc__top_of pm__top_of an__top_of cd__top_of ct__top_of), sl__top_of⟩) (c__top_of : PySem.W.codeIn K cd__top_of "_top_of" = true) (k__top_of : PySem.W.keepIn K (.ref f__top_of) = true)
    (a__bottom_of : PySem.W.nsIn K mainGlobals "_bottom_of" = some (some (.ref f__bottom_of))) (l__bottom_of : K.lookup f__bottom_of = some ⟨oc__bottom_of, od__bottom_of, .func (PySem.W.fnOf "_bottom_of" "_bottom_of" (defArgs s__bottom_of) (defBody s__bottom_of) (defScope s__bottom_of) .none kV__bottom_of dc__bottom_of pm__bottom_of an__bottom_of cd__bottom_of ct__bottom_of), sl__bottom_of⟩) (c__bottom_of : PySem.W.codeIn K cd__bottom_of "_bottom_of" = true) (k__bottom_of : PySem.W.keepIn K (.ref f__bottom_of) = true)
    (a__sum_of : PySem.W.nsIn K mainGlobals "_sum_of" = some (some (.ref f__sum_of))) (l__sum_of : K.lookup f__sum_of = some ⟨oc__sum_of, od__sum_of, .func (PySem.W.fnOf "_sum_of" "_sum_of" (defArgs s__sum_of) (defBody s__sum_of) (defScope s__sum_of) .none kV__sum_of dc__sum_of pm__sum_of an__sum_of cd__sum_of ct__sum_of), sl__sum_of⟩) (c__sum_of : PySem.W.codeIn K cd__sum_of "_sum_of" = true) (k__sum_of : PySem.W.keepIn K (.ref f__sum_of) = true)
    (a__product_of : PySem.W.nsIn K mainGlobals "_product_of" = some (some (.ref f__product_of))) (l__product_of : K.lookup f__product_of = some ⟨oc__product_of, od__product_of, .func (PySem.W.fnOf "_product_of" "_product_of" (defArgs s__product_of) (defBody s__product_of) (defScope s__product_of) .none kV__product_of dc__product_of pm__product_of an__product_of cd__product_of ct__product_of), sl__product_of⟩) (c__product_of : PySem.W.codeIn K cd__product_of "_product_of" = true) (k__product_of : PySem.W.keepIn K (.ref f__product_of) = true)
    (a__lead : PySem.W.nsIn K mainGlobals "_lead" = some (some (.ref f__lead))) (l__lead : K.lookup f__lead = some ⟨oc__lead, od__lead, .func (PySem.W.fnOf "_lead" "_lead" (defArgs s__lead) (defBody s__lead) (defScope s__lead) .none kV__lead dc__lead pm__lead an__lead cd__lead ct__lead), sl__lead⟩) (c__lead : PySem.W.codeIn K cd__lead "_lead" = true) (k__lead : PySem.W.keepIn K (.ref f__lead) = true)
    (a_q_purse : PySem.W.nsIn K mainGlobals "_law_purse" = some (some (.ref f_q_purse))) (l_q_purse : K.lookup f_q_purse = some ⟨oc_q_purse, od_q_purse, .func (PySem.W.fnOf "_law_purse" "_law_purse" (defArgs s_q_purse) (defBody s_q_purse) (defScope s_q_purse) .none kV_q_purse dc_q_purse pm_q_purse an_q_purse cd_q_purse ct_q_purse), sl_q_purse⟩) (c_q_purse : PySem.W.codeIn K cd_q_purse "_law_purse" = true) (k_q_purse : PySem.W.keepIn K (.ref f_q_purse) = true)
    (a_q_draw : PySem.W.nsIn K mainGlobals "_law_draw" = some (some (.ref f_q_draw))) (l_q_draw : K.lookup f_q_draw = some ⟨oc_q_draw, od_q_draw, .func (PySem.W.fnOf "_law_draw" "_law_draw" (defArgs s_q_draw) (defBody s_q_draw) (defScope s_q_draw) .none kV_q_draw dc_q_draw pm_q_draw an_q_draw cd_q_draw ct_q_draw), sl_q_draw⟩) (c_q_draw : PySem.W.codeIn K cd_q_draw "_law_draw" = true) (k_q_draw : PySem.W.keepIn K (.ref f_q_draw) = true)
    (a_q_great : PySem.W.nsIn K mainGlobals "_law_great" = some (some (.ref f_q_great))) (l_q_great : K.lookup f_q_great = some ⟨oc_q_great, od_q_great, .func (PySem.W.fnOf "_law_great" "_law_great" (defArgs s_q_great) (defBody s_q_great) (defScope s_q_great) .none kV_q_great dc_q_great pm_q_great an_q_great cd_q_great ct_q_great), sl_q_great⟩) (c_q_great : PySem.W.codeIn K cd_q_great "_law_great" = true) (k_q_great : PySem.W.keepIn K (.ref f_q_great) = true)
    (a_q_integer : PySem.W.nsIn K mainGlobals "_law_integer" = some (some (.ref f_q_integer))) (l_q_integer : K.lookup f_q_integer = some ⟨oc_q_integer, od_q_integer, .func (PySem.W.fnOf "_law_integer" "_law_integer" (defArgs s_q_integer) (defBody s_q_integer) (defScope s_q_integer) .none kV_q_integer dc_q_integer pm_q_integer an_q_integer cd_q_integer ct_q_integer), sl_q_integer⟩) (c_q_integer : PySem.W.codeIn K cd_q_integer "_law_integer" = true) (k_q_integer : PySem.W.keepIn K (.ref f_q_integer) = true)
    (a_q_lowest : PySem.W.nsIn K mainGlobals "_law_lowest" = some (some (.ref f_q_lowest))) (l_q_lowest : K.lookup f_q_lowest = some ⟨oc_q_lowest, od_q_lowest, .func (PySem.W.fnOf "_law_lowest" "_law_lowest" (defArgs s_q_lowest) (defBody s_q_lowest) (defScope s_q_lowest) .none kV_q_lowest dc_q_lowest pm_q_lowest an_q_lowest cd_q_lowest ct_q_lowest), sl_q_lowest⟩) (c_q_lowest : PySem.W.codeIn K cd_q_lowest "_law_lowest" = true) (k_q_lowest : PySem.W.keepIn K (.ref f_q_lowest) = true)
    (a_q_is : PySem.W.nsIn K mainGlobals "_law_is" = some (some (.ref f_q_is))) (l_q_is : K.lookup f_q_is = some ⟨oc_q_is, od_q_is, .func (PySem.W.fnOf "_law_is" "_law_is" (defArgs s_q_is) (defBody s_q_is) (defScope s_q_is) .none kV_q_is dc_q_is pm_q_is an_q_is cd_q_is ct_q_is), sl_q_is⟩) (c_q_is : PySem.W.codeIn K cd_q_is "_law_is" = true) (k_q_is : PySem.W.keepIn K (.ref f_q_is) = true)
    (a_q_pair : PySem.W.nsIn K mainGlobals "_law_pair" = some (some (.ref f_q_pair))) (l_q_pair : K.lookup f_q_pair = some ⟨oc_q_pair, od_q_pair, .func (PySem.W.fnOf "_law_pair" "_law_pair" (defArgs s_q_pair) (defBody s_q_pair) (defScope s_q_pair) .none kV_q_pair dc_q_pair pm_q_pair an_q_pair cd_q_pair ct_q_pair), sl_q_pair⟩) (c_q_pair : PySem.W.codeIn K cd_q_pair "_law_pair" = true) (k_q_pair : PySem.W.keepIn K (.ref f_q_pair) = true)
    (a_q_two_right : PySem.W.nsIn K mainGlobals "_law_two_right" = some (some (.ref f_q_two_right))) (l_q_two_right : K.lookup f_q_two_right = some ⟨oc_q_two_right, od_q_two_right, .func (PySem.W.fnOf "_law_two_right" "_law_two_right" (defArgs s_q_two_right) (defBody s_q_two_right) (defScope s_q_two_right) .none kV_q_two_right dc_q_two_right pm_q_two_right an_q_two_right cd_q_two_right ct_q_two_right), sl_q_two_right⟩) (c_q_two_right : PySem.W.codeIn K cd_q_two_right "_law_two_right" = true) (k_q_two_right : PySem.W.keepIn K (.ref f_q_two_right) = true)
    (a_q_whole_right : PySem.W.nsIn K mainGlobals "_law_whole_right" = some (some (.ref f_q_whole_right))) (l_q_whole_right : K.lookup f_q_whole_right = some ⟨oc_q_whole_right, od_q_whole_right, .func (PySem.W.fnOf "_law_whole_right" "_law_whole_right" (defArgs s_q_whole_right) (defBody s_q_whole_right) (defScope s_q_whole_right) .none kV_q_whole_right dc_q_whole_right pm_q_whole_right an_q_whole_right cd_q_whole_right ct_q_whole_right), sl_q_whole_right⟩) (c_q_whole_right : PySem.W.codeIn K cd_q_whole_right "_law_whole_right" = true) (k_q_whole_right : PySem.W.keepIn K (.ref f_q_whole_right) = true)
    (a_q_right : PySem.W.nsIn K mainGlobals "_law_right" = some (some (.ref f_q_right))) (l_q_right : K.lookup f_q_right = some ⟨oc_q_right, od_q_right, .func (PySem.W.fnOf "_law_right" "_law_right" (defArgs s_q_right) (defBody s_q_right) (defScope s_q_right) .none kV_q_right dc_q_right pm_q_right an_q_right cd_q_right ct_q_right), sl_q_right⟩) (c_q_right : PySem.W.codeIn K cd_q_right "_law_right" = true) (k_q_right : PySem.W.keepIn K (.ref f_q_right) = true)
    (a_law : PySem.W.nsIn K mainGlobals "law" = some (some (.ref f_law))) (l_law : K.lookup f_law = some ⟨oc_law, od_law, .func (PySem.W.fnOf "law" "law" (defArgs s_law) (defBody s_law) (defScope s_law) .none kV_law dc_law pm_law an_law cd_law ct_law), sl_law⟩) (c_law : PySem.W.codeIn K cd_law "law" = true) (k_law : PySem.W.keepIn K (.ref f_law) = true)
    (y_isinstance : PySem.W.nsIn K mainGlobals "isinstance" = some none)
    (y_int : PySem.W.nsIn K mainGlobals "int" = some none)
    (y_bool : PySem.W.nsIn K mainGlobals "bool" = some none)
    (y_str : PySem.W.nsIn K mainGlobals "str" = some none)
    (y_len : PySem.W.nsIn K mainGlobals "len" = some none)
    (y_range : PySem.W.nsIn K mainGlobals "range" = some none)
    (y_abs : PySem.W.nsIn K mainGlobals "abs" = some none)
    (y_divmod : PySem.W.nsIn K mainGlobals "divmod" = some none)
    (y_repr : PySem.W.nsIn K mainGlobals "repr" = some none)
    (y_max : PySem.W.nsIn K mainGlobals "max" = some none)
    (y_min : PySem.W.nsIn K mainGlobals "min" = some none)
    (y_all : PySem.W.nsIn K mainGlobals "all" = some none)
    (uR : PySem.W.nsIn K mainGlobals "Ratio" = some (some (.ref C)))
    (uG : PySem.W.nsIn K mainGlobals "gcd" = some (some (.builtin "math.gcd")))
    (pg : PySem.W.plainGet K C Str.empty = true)
    (hd : PySem.W.hasDictIn K C = true)
    (po : PySem.W.plainOver K C = true)
    (sa : PySem.W.findIn K (.ref C) "__setattr__" = some (some (.builtin "object.__setattr__")))
    (nT : PySem.W.findIn K (.ref C) "top" = some none)
    (nB : PySem.W.findIn K (.ref C) "bottom" = some none)
    (nF : PySem.W.findIn K (.ref C) "floor" = some none)
    (mk : PySem.W.makesIn K C = true)
    (ii : PySem.W.findIn K (.ref C) "__init__" = some (some (.ref fI)))
    (fn : PySem.W.isFn K (.ref fI) = true)
    (kC : PySem.W.keepIn K (.ref C) = true)
    (sf : PySem.W.selfFirst K C = true)
    (l_init : K.lookup fI = some ⟨oc_init, od_init, .func (PySem.W.fnOf "__init__" "Ratio.__init__" (defArgs s_Ratio___init__) (defBody s_Ratio___init__) (defScope s_Ratio___init__) (.ref aD) kV_init dc_init pm_init an_init cd_init ct_init), sl_init⟩)
    (c_init : PySem.W.codeIn K cd_init "Ratio.__init__" = true)
    (k_init : PySem.W.keepIn K (.ref fI) = true)
    (lD : K.lookup aD = some ⟨ocD, odD, .seq #[.int 1 tD] nD, slD⟩)
    (o_add : PySem.W.findIn K (.ref C) "__add__" = some (some (.ref g_add)))
    (f_add : PySem.W.isFn K (.ref g_add) = true)
    (l_madd : K.lookup g_add = some ⟨oc_madd, od_madd, .func (PySem.W.fnOf "__add__" "Ratio.__add__" (defArgs s_Ratio___add__) (defBody s_Ratio___add__) (defScope s_Ratio___add__) .none kV_madd dc_madd pm_madd an_madd cd_madd ct_madd), sl_madd⟩)
    (c_madd : PySem.W.codeIn K cd_madd "Ratio.__add__" = true)
    (k_madd : PySem.W.keepIn K (.ref g_add) = true)
    (o_radd : PySem.W.findIn K (.ref C) "__radd__" = some (some (.ref g_radd)))
    (f_radd : PySem.W.isFn K (.ref g_radd) = true)
    (l_mradd : K.lookup g_radd = some ⟨oc_mradd, od_mradd, .func (PySem.W.fnOf "__radd__" "Ratio.__radd__" (defArgs s_Ratio___radd__) (defBody s_Ratio___radd__) (defScope s_Ratio___radd__) .none kV_mradd dc_mradd pm_mradd an_mradd cd_mradd ct_mradd), sl_mradd⟩)
    (c_mradd : PySem.W.codeIn K cd_mradd "Ratio.__radd__" = true)
    (k_mradd : PySem.W.keepIn K (.ref g_radd) = true)
    (o_sub : PySem.W.findIn K (.ref C) "__sub__" = some (some (.ref g_sub)))
    (f_sub : PySem.W.isFn K (.ref g_sub) = true)
    (l_msub : K.lookup g_sub = some ⟨oc_msub, od_msub, .func (PySem.W.fnOf "__sub__" "Ratio.__sub__" (defArgs s_Ratio___sub__) (defBody s_Ratio___sub__) (defScope s_Ratio___sub__) .none kV_msub dc_msub pm_msub an_msub cd_msub ct_msub), sl_msub⟩)
    (c_msub : PySem.W.codeIn K cd_msub "Ratio.__sub__" = true)
    (k_msub : PySem.W.keepIn K (.ref g_sub) = true)
    (o_rsub : PySem.W.findIn K (.ref C) "__rsub__" = some (some (.ref g_rsub)))
    (f_rsub : PySem.W.isFn K (.ref g_rsub) = true)
    (l_mrsub : K.lookup g_rsub = some ⟨oc_mrsub, od_mrsub, .func (PySem.W.fnOf "__rsub__" "Ratio.__rsub__" (defArgs s_Ratio___rsub__) (defBody s_Ratio___rsub__) (defScope s_Ratio___rsub__) .none kV_mrsub dc_mrsub pm_mrsub an_mrsub cd_mrsub ct_mrsub), sl_mrsub⟩)
    (c_mrsub : PySem.W.codeIn K cd_mrsub "Ratio.__rsub__" = true)
    (k_mrsub : PySem.W.keepIn K (.ref g_rsub) = true)
    (o_mul : PySem.W.findIn K (.ref C) "__mul__" = some (some (.ref g_mul)))
    (f_mul : PySem.W.isFn K (.ref g_mul) = true)
    (l_mmul : K.lookup g_mul = some ⟨oc_mmul, od_mmul, .func (PySem.W.fnOf "__mul__" "Ratio.__mul__" (defArgs s_Ratio___mul__) (defBody s_Ratio___mul__) (defScope s_Ratio___mul__) .none kV_mmul dc_mmul pm_mmul an_mmul cd_mmul ct_mmul), sl_mmul⟩)
    (c_mmul : PySem.W.codeIn K cd_mmul "Ratio.__mul__" = true)
    (k_mmul : PySem.W.keepIn K (.ref g_mul) = true)
    (o_rmul : PySem.W.findIn K (.ref C) "__rmul__" = some (some (.ref g_rmul)))
    (f_rmul : PySem.W.isFn K (.ref g_rmul) = true)
    (l_mrmul : K.lookup g_rmul = some ⟨oc_mrmul, od_mrmul, .func (PySem.W.fnOf "__rmul__" "Ratio.__rmul__" (defArgs s_Ratio___rmul__) (defBody s_Ratio___rmul__) (defScope s_Ratio___rmul__) .none kV_mrmul dc_mrmul pm_mrmul an_mrmul cd_mrmul ct_mrmul), sl_mrmul⟩)
    (c_mrmul : PySem.W.codeIn K cd_mrmul "Ratio.__rmul__" = true)
    (k_mrmul : PySem.W.keepIn K (.ref g_rmul) = true)
    (o_neg : PySem.W.findIn K (.ref C) "__neg__" = some (some (.ref g_neg)))
    (f_neg : PySem.W.isFn K (.ref g_neg) = true)
    (l_mneg : K.lookup g_neg = some ⟨oc_mneg, od_mneg, .func (PySem.W.fnOf "__neg__" "Ratio.__neg__" (defArgs s_Ratio___neg__) (defBody s_Ratio___neg__) (defScope s_Ratio___neg__) .none kV_mneg dc_mneg pm_mneg an_mneg cd_mneg ct_mneg), sl_mneg⟩)
    (c_mneg : PySem.W.codeIn K cd_mneg "Ratio.__neg__" = true)
    (k_mneg : PySem.W.keepIn K (.ref g_neg) = true)
    (o_eq : PySem.W.findIn K (.ref C) "__eq__" = some (some (.ref g_eq)))
    (f_eq : PySem.W.isFn K (.ref g_eq) = true)
    (l_meq : K.lookup g_eq = some ⟨oc_meq, od_meq, .func (PySem.W.fnOf "__eq__" "Ratio.__eq__" (defArgs s_Ratio___eq__) (defBody s_Ratio___eq__) (defScope s_Ratio___eq__) .none kV_meq dc_meq pm_meq an_meq cd_meq ct_meq), sl_meq⟩)
    (c_meq : PySem.W.codeIn K cd_meq "Ratio.__eq__" = true)
    (k_meq : PySem.W.keepIn K (.ref g_eq) = true)
    (o_bool : PySem.W.findIn K (.ref C) "__bool__" = some (some (.ref g_bool)))
    (f_bool : PySem.W.isFn K (.ref g_bool) = true)
    (l_mbool : K.lookup g_bool = some ⟨oc_mbool, od_mbool, .func (PySem.W.fnOf "__bool__" "Ratio.__bool__" (defArgs s_Ratio___bool__) (defBody s_Ratio___bool__) (defScope s_Ratio___bool__) .none kV_mbool dc_mbool pm_mbool an_mbool cd_mbool ct_mbool), sl_mbool⟩)
    (c_mbool : PySem.W.codeIn K cd_mbool "Ratio.__bool__" = true)
    (k_mbool : PySem.W.keepIn K (.ref g_bool) = true)
    (o_repr : PySem.W.findIn K (.ref C) "__repr__" = some (some (.ref g_repr)))
    (f_repr : PySem.W.isFn K (.ref g_repr) = true)
    (l_mrepr : K.lookup g_repr = some ⟨oc_mrepr, od_mrepr, .func (PySem.W.fnOf "__repr__" "Ratio.__repr__" (defArgs s_Ratio___repr__) (defBody s_Ratio___repr__) (defScope s_Ratio___repr__) .none kV_mrepr dc_mrepr pm_mrepr an_mrepr cd_mrepr ct_mrepr), sl_mrepr⟩)
    (c_mrepr : PySem.W.codeIn K cd_mrepr "Ratio.__repr__" = true)
    (k_mrepr : PySem.W.keepIn K (.ref g_repr) = true)
    (ha : PySem.W.findIn K (.ref C) "__class__" = some (some (.builtin "object.__class__")))
    (hn : PySem.W.specialIn K (.builtin "object.__class__") "__get__" = some (some (.builtin "getset_descriptor.__get__")))
    (ht : PySem.W.takesIn K (.builtin "object.__class__") = some true)
    (hm : PySem.W.mroIn K C (.type "object") = some true)
    (kCC : PySem.W.kitOne K (.ref C) (.ref C) = some true)
    (sI : PySem.W.subIn K (.type "int") (.ref C) = some false)
    (sC : PySem.W.subIn K (.ref C) (.type "int") = some false)
    (kI : PySem.W.kitOne K (.type "int") (.ref C) = some false)
    (i_add : PySem.W.findIn K (.type "int") "__add__" = some (some (.builtin "int.__add__")))
    (ir_add : PySem.W.findIn K (.type "int") "__radd__" = some (some (.builtin "int.__radd__")))
    (i_sub : PySem.W.findIn K (.type "int") "__sub__" = some (some (.builtin "int.__sub__")))
    (ir_sub : PySem.W.findIn K (.type "int") "__rsub__" = some (some (.builtin "int.__rsub__")))
    (i_mul : PySem.W.findIn K (.type "int") "__mul__" = some (some (.builtin "int.__mul__")))
    (ir_mul : PySem.W.findIn K (.type "int") "__rmul__" = some (some (.builtin "int.__rmul__"))) :
    ∃ fd : FuncData, (∀ (s : Shared) (v : Value), BindsTo s fd ⟨[v], []⟩ [("_law_script", v)]) ∧ ∀ base : Heap, K.In base → base.Ns mainGlobals mg → FnG l.prog w K mg base CX0 10 fa fd ["_law_script"] (spLaw K) := by
  have e := hfa.symm.trans (PySem.W.mg_of X G a_law)
  cases e
  let T : Txt K mg := {
    z_isinstance := PySem.W.mg_none_of X G y_isinstance
    z_int := PySem.W.mg_none_of X G y_int
    z_bool := PySem.W.mg_none_of X G y_bool
    z_str := PySem.W.mg_none_of X G y_str
    z_len := PySem.W.mg_none_of X G y_len
    z_range := PySem.W.mg_none_of X G y_range
    z_abs := PySem.W.mg_none_of X G y_abs
    z_divmod := PySem.W.mg_none_of X G y_divmod
    z_repr := PySem.W.mg_none_of X G y_repr
    z_max := PySem.W.mg_none_of X G y_max
    z_min := PySem.W.mg_none_of X G y_min
    z_all := PySem.W.mg_none_of X G y_all
    a_is_integer := f_is_integer
    fd_is_integer := _
    g_is_integer := PySem.W.mg_of X G a_is_integer
    F_is_integer := fun_mk (st := s_is_integer) l_is_integer c_is_integer k_is_integer
    a_is_number := f_is_number
    fd_is_number := _
    g_is_number := PySem.W.mg_of X G a_is_number
    F_is_number := fun_mk (st := s_is_number) l_is_number c_is_number k_is_number
    a__top_of := f__top_of
    fd__top_of := _
    g__top_of := PySem.W.mg_of X G a__top_of
    F__top_of := fun_mk (st := s__top_of) l__top_of c__top_of k__top_of
    a__bottom_of := f__bottom_of
    fd__bottom_of := _
    g__bottom_of := PySem.W.mg_of X G a__bottom_of
    F__bottom_of := fun_mk (st := s__bottom_of) l__bottom_of c__bottom_of k__bottom_of
    a__sum_of := f__sum_of
    fd__sum_of := _
    g__sum_of := PySem.W.mg_of X G a__sum_of
    F__sum_of := fun_mk (st := s__sum_of) l__sum_of c__sum_of k__sum_of
    a__product_of := f__product_of
    fd__product_of := _
    g__product_of := PySem.W.mg_of X G a__product_of
    F__product_of := fun_mk (st := s__product_of) l__product_of c__product_of k__product_of
    a__lead := f__lead
    fd__lead := _
    g__lead := PySem.W.mg_of X G a__lead
    F__lead := fun_mk (st := s__lead) l__lead c__lead k__lead
    a_q_purse := f_q_purse
    fd_q_purse := _
    g_q_purse := PySem.W.mg_of X G a_q_purse
    F_q_purse := fun_mk (st := s_q_purse) l_q_purse c_q_purse k_q_purse
    a_q_draw := f_q_draw
    fd_q_draw := _
    g_q_draw := PySem.W.mg_of X G a_q_draw
    F_q_draw := fun_mk (st := s_q_draw) l_q_draw c_q_draw k_q_draw
    a_q_great := f_q_great
    fd_q_great := _
    g_q_great := PySem.W.mg_of X G a_q_great
    F_q_great := fun_mk (st := s_q_great) l_q_great c_q_great k_q_great
    a_q_integer := f_q_integer
    fd_q_integer := _
    g_q_integer := PySem.W.mg_of X G a_q_integer
    F_q_integer := fun_mk (st := s_q_integer) l_q_integer c_q_integer k_q_integer
    a_q_lowest := f_q_lowest
    fd_q_lowest := _
    g_q_lowest := PySem.W.mg_of X G a_q_lowest
    F_q_lowest := fun_mk (st := s_q_lowest) l_q_lowest c_q_lowest k_q_lowest
    a_q_is := f_q_is
    fd_q_is := _
    g_q_is := PySem.W.mg_of X G a_q_is
    F_q_is := fun_mk (st := s_q_is) l_q_is c_q_is k_q_is
    a_q_pair := f_q_pair
    fd_q_pair := _
    g_q_pair := PySem.W.mg_of X G a_q_pair
    F_q_pair := fun_mk (st := s_q_pair) l_q_pair c_q_pair k_q_pair
    a_q_two_right := f_q_two_right
    fd_q_two_right := _
    g_q_two_right := PySem.W.mg_of X G a_q_two_right
    F_q_two_right := fun_mk (st := s_q_two_right) l_q_two_right c_q_two_right k_q_two_right
    a_q_whole_right := f_q_whole_right
    fd_q_whole_right := _
    g_q_whole_right := PySem.W.mg_of X G a_q_whole_right
    F_q_whole_right := fun_mk (st := s_q_whole_right) l_q_whole_right c_q_whole_right k_q_whole_right
    a_q_right := f_q_right
    fd_q_right := _
    g_q_right := PySem.W.mg_of X G a_q_right
    F_q_right := fun_mk (st := s_q_right) l_q_right c_q_right k_q_right
    a_law := fa
    fd_law := _
    F_law := fun_mk (st := s_law) l_law c_law k_law
    C := C
    g_Ratio := PySem.W.mg_of X G uR
    g_gcd := PySem.W.mg_of X G uG
    cl := ⟨pg, hd, po, sa⟩
    nT := nT
    nB := nB
    nF := nF
    a_Ratio___init__ := fI
    fd_Ratio___init__ := _
    F_Ratio___init__ := ⟨⟨_, _, .ref aD, _, _, _, _, _, _, _, rfl, l_init, c_init, .inr ⟨by simp, aD, _, [.int 1 tD], nD, rfl, lD, rfl, .cons ⟨tD, rfl⟩ .nil⟩, .inl rfl⟩, k_init⟩
    a_Ratio___add__ := g_add
    fd_Ratio___add__ := _
    F_Ratio___add__ := fun_mk (st := s_Ratio___add__) l_madd c_madd k_madd
    a_Ratio___radd__ := g_radd
    fd_Ratio___radd__ := _
    F_Ratio___radd__ := fun_mk (st := s_Ratio___radd__) l_mradd c_mradd k_mradd
    a_Ratio___sub__ := g_sub
    fd_Ratio___sub__ := _
    F_Ratio___sub__ := fun_mk (st := s_Ratio___sub__) l_msub c_msub k_msub
    a_Ratio___rsub__ := g_rsub
    fd_Ratio___rsub__ := _
    F_Ratio___rsub__ := fun_mk (st := s_Ratio___rsub__) l_mrsub c_mrsub k_mrsub
    a_Ratio___mul__ := g_mul
    fd_Ratio___mul__ := _
    F_Ratio___mul__ := fun_mk (st := s_Ratio___mul__) l_mmul c_mmul k_mmul
    a_Ratio___rmul__ := g_rmul
    fd_Ratio___rmul__ := _
    F_Ratio___rmul__ := fun_mk (st := s_Ratio___rmul__) l_mrmul c_mrmul k_mrmul
    a_Ratio___neg__ := g_neg
    fd_Ratio___neg__ := _
    F_Ratio___neg__ := fun_mk (st := s_Ratio___neg__) l_mneg c_mneg k_mneg
    a_Ratio___eq__ := g_eq
    fd_Ratio___eq__ := _
    F_Ratio___eq__ := fun_mk (st := s_Ratio___eq__) l_meq c_meq k_meq
    a_Ratio___bool__ := g_bool
    fd_Ratio___bool__ := _
    F_Ratio___bool__ := fun_mk (st := s_Ratio___bool__) l_mbool c_mbool k_mbool
    a_Ratio___repr__ := g_repr
    fd_Ratio___repr__ := _
    F_Ratio___repr__ := fun_mk (st := s_Ratio___repr__) l_mrepr c_mrepr k_mrepr
    mkR := ⟨mk, ii, fn, kC⟩
    o_add := o_add
    f_add := f_add
    o_radd := o_radd
    f_radd := f_radd
    o_sub := o_sub
    f_sub := f_sub
    o_rsub := o_rsub
    f_rsub := f_rsub
    o_mul := o_mul
    f_mul := f_mul
    o_rmul := o_rmul
    f_rmul := f_rmul
    o_neg := o_neg
    f_neg := f_neg
    o_eq := o_eq
    f_eq := f_eq
    o_bool := o_bool
    f_bool := f_bool
    o_repr := o_repr
    f_repr := f_repr
    sf := sf
    i_add := i_add
    ir_add := ir_add
    i_sub := i_sub
    ir_sub := ir_sub
    i_mul := i_mul
    ir_mul := ir_mul
    ha := ha
    hn := hn
    ht := ht
    hm := hm
    kCC := kCC
    sI := sI
    sC := sC
    kI := kI
  }
  exact ⟨T.fd_law, fun s v => .of_eq rfl, fun base _ _ => ok_law T⟩
end K02
open PySem PySem.W PyProof.Rows
set_option maxHeartbeats 0 in
theorem PySem.Challenge.cw_drawclaims_k02_whole_sums_and_products_o_holds : PySem.Challenge.rw_drawclaims_k02_whole_sums_and_products_o.Holds := by
  w_on; o_law; k_head; (case hw => w_witness2)
  k_fill
  refine GX.walkG (l := PySem.Challenge.rw_drawclaims_k02_whole_sums_and_products_o) (n := 63) (k := 10) (x := "_law_script") (CX := fun _ => L2.CX0) (sp := fun w => K02.spLaw _) rfl (by decide) rfl ⟨rfl, by decide, by decide⟩ (fun w h Y => PySem.W.kIn_of Y) ?F (fun _ _ a ns hl _ hS => ⟨a, ns, rfl, hS, hl, fun _ => rfl⟩) (fun _ _ _ _ _ h => h)
  case F =>
    intro w mg fa h KX G hmg
    refine' K02.all_mk KX G hmg ?a_is_integer ?l_is_integer ?c_is_integer ?k_is_integer ?a_is_number ?l_is_number ?c_is_number ?k_is_number ?a__top_of ?l__top_of ?c__top_of ?k__top_of ?a__bottom_of ?l__bottom_of ?c__bottom_of ?k__bottom_of ?a__sum_of ?l__sum_of ?c__sum_of ?k__sum_of ?a__product_of ?l__product_of ?c__product_of ?k__product_of ?a__lead ?l__lead ?c__lead ?k__lead ?a_q_purse ?l_q_purse ?c_q_purse ?k_q_purse ?a_q_draw ?l_q_draw ?c_q_draw ?k_q_draw ?a_q_great ?l_q_great ?c_q_great ?k_q_great ?a_q_integer ?l_q_integer ?c_q_integer ?k_q_integer ?a_q_lowest ?l_q_lowest ?c_q_lowest ?k_q_lowest ?a_q_is ?l_q_is ?c_q_is ?k_q_is ?a_q_pair ?l_q_pair ?c_q_pair ?k_q_pair ?a_q_two_right ?l_q_two_right ?c_q_two_right ?k_q_two_right ?a_q_whole_right ?l_q_whole_right ?c_q_whole_right ?k_q_whole_right ?a_q_right ?l_q_right ?c_q_right ?k_q_right ?a_law ?l_law ?c_law ?k_law ?y_isinstance ?y_int ?y_bool ?y_str ?y_len ?y_range ?y_abs ?y_divmod ?y_repr ?y_max ?y_min ?y_all ?uR ?uG ?pg ?hd ?po ?sa ?nT ?nB ?nF ?mk ?ii ?fn ?kC ?sf ?l_init ?c_init ?k_init ?lD ?o_add ?f_add ?l_madd ?c_madd ?k_madd ?o_radd ?f_radd ?l_mradd ?c_mradd ?k_mradd ?o_sub ?f_sub ?l_msub ?c_msub ?k_msub ?o_rsub ?f_rsub ?l_mrsub ?c_mrsub ?k_mrsub ?o_mul ?f_mul ?l_mmul ?c_mmul ?k_mmul ?o_rmul ?f_rmul ?l_mrmul ?c_mrmul ?k_mrmul ?o_neg ?f_neg ?l_mneg ?c_mneg ?k_mneg ?o_eq ?f_eq ?l_meq ?c_meq ?k_meq ?o_bool ?f_bool ?l_mbool ?c_mbool ?k_mbool ?o_repr ?f_repr ?l_mrepr ?c_mrepr ?k_mrepr ?ha ?hn ?ht ?hm ?kCC ?sI ?sC ?kI ?i_add ?ir_add ?i_sub ?ir_sub ?i_mul ?ir_mul
    (case a_is_integer => k_is)
    (case l_is_integer => k_is)
    (case c_is_integer => k_is)
    (case k_is_integer => k_is)
    (case a_is_number => k_is)
    (case l_is_number => k_is)
    (case c_is_number => k_is)
    (case k_is_number => k_is)
    (case a__top_of => k_is)
    (case l__top_of => k_is)
    (case c__top_of => k_is)
    (case k__top_of => k_is)
    (case a__bottom_of => k_is)
    (case l__bottom_of => k_is)
    (case c__bottom_of => k_is)
    (case k__bottom_of => k_is)
    (case a__sum_of => k_is)
    (case l__sum_of => k_is)
    (case c__sum_of => k_is)
    (case k__sum_of => k_is)
    (case a__product_of => k_is)
    (case l__product_of => k_is)
    (case c__product_of => k_is)
    (case k__product_of => k_is)
    (case a__lead => k_is)
    (case l__lead => k_is)
    (case c__lead => k_is)
    (case k__lead => k_is)
    (case a_q_purse => k_is)
    (case l_q_purse => k_is)
    (case c_q_purse => k_is)
    (case k_q_purse => k_is)
    (case a_q_draw => k_is)
    (case l_q_draw => k_is)
    (case c_q_draw => k_is)
    (case k_q_draw => k_is)
    (case a_q_great => k_is)
    (case l_q_great => k_is)
    (case c_q_great => k_is)
    (case k_q_great => k_is)
    (case a_q_integer => k_is)
    (case l_q_integer => k_is)
    (case c_q_integer => k_is)
    (case k_q_integer => k_is)
    (case a_q_lowest => k_is)
    (case l_q_lowest => k_is)
    (case c_q_lowest => k_is)
    (case k_q_lowest => k_is)
    (case a_q_is => k_is)
    (case l_q_is => k_is)
    (case c_q_is => k_is)
    (case k_q_is => k_is)
    (case a_q_pair => k_is)
    (case l_q_pair => k_is)
    (case c_q_pair => k_is)
    (case k_q_pair => k_is)
    (case a_q_two_right => k_is)
    (case l_q_two_right => k_is)
    (case c_q_two_right => k_is)
    (case k_q_two_right => k_is)
    (case a_q_whole_right => k_is)
    (case l_q_whole_right => k_is)
    (case c_q_whole_right => k_is)
    (case k_q_whole_right => k_is)
    (case a_q_right => k_is)
    (case l_q_right => k_is)
    (case c_q_right => k_is)
    (case k_q_right => k_is)
    (case a_law => k_is)
    (case l_law => k_is)
    (case c_law => k_is)
    (case k_law => k_is)
    (case y_isinstance => k_is)
    (case y_int => k_is)
    (case y_bool => k_is)
    (case y_str => k_is)
    (case y_len => k_is)
    (case y_range => k_is)
    (case y_abs => k_is)
    (case y_divmod => k_is)
    (case y_repr => k_is)
    (case y_max => k_is)
    (case y_min => k_is)
    (case y_all => k_is)
    (case uR => k_is)
    (case uG => k_is)
    (case pg => k_is)
    (case hd => k_is)
    (case po => k_is)
    (case sa => k_is)
    (case nT => k_is)
    (case nB => k_is)
    (case nF => k_is)
    (case mk => k_is)
    (case ii => k_is)
    (case fn => k_is)
    (case kC => k_is)
    (case sf => k_is)
    (case l_init => k_is)
    (case c_init => k_is)
    (case k_init => k_is)
    (case lD => k_is)
    (case o_add => k_is)
    (case f_add => k_is)
    (case l_madd => k_is)
    (case c_madd => k_is)
    (case k_madd => k_is)
    (case o_radd => k_is)
    (case f_radd => k_is)
    (case l_mradd => k_is)
    (case c_mradd => k_is)
    (case k_mradd => k_is)
    (case o_sub => k_is)
    (case f_sub => k_is)
    (case l_msub => k_is)
    (case c_msub => k_is)
    (case k_msub => k_is)
    (case o_rsub => k_is)
    (case f_rsub => k_is)
    (case l_mrsub => k_is)
    (case c_mrsub => k_is)
    (case k_mrsub => k_is)
    (case o_mul => k_is)
    (case f_mul => k_is)
    (case l_mmul => k_is)
    (case c_mmul => k_is)
    (case k_mmul => k_is)
    (case o_rmul => k_is)
    (case f_rmul => k_is)
    (case l_mrmul => k_is)
    (case c_mrmul => k_is)
    (case k_mrmul => k_is)
    (case o_neg => k_is)
    (case f_neg => k_is)
    (case l_mneg => k_is)
    (case c_mneg => k_is)
    (case k_mneg => k_is)
    (case o_eq => k_is)
    (case f_eq => k_is)
    (case l_meq => k_is)
    (case c_meq => k_is)
    (case k_meq => k_is)
    (case o_bool => k_is)
    (case f_bool => k_is)
    (case l_mbool => k_is)
    (case c_mbool => k_is)
    (case k_mbool => k_is)
    (case o_repr => k_is)
    (case f_repr => k_is)
    (case l_mrepr => k_is)
    (case c_mrepr => k_is)
    (case k_mrepr => k_is)
    (case ha => k_is)
    (case hn => k_is)
    (case ht => k_is)
    (case hm => k_is)
    (case kCC => first | rfl | k_is)
    (case sI => first | rfl | k_is)
    (case sC => first | rfl | k_is)
    (case kI => first | rfl | k_is)
    (case i_add => k_is)
    (case ir_add => k_is)
    (case i_sub => k_is)
    (case ir_sub => k_is)
    (case i_mul => k_is)
    (case ir_mul => k_is)
