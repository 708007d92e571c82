import PyProof.Rows.All
import Wide.All
import OpenK.AllK
import Wide.FinOn
import HandS.ForExc
import HandS.Ends
import HandS.Comp
import HandS.IsInst
import HandS.Wide
import HandS.WideBits
import HandS.Defaults
import HandS.ClsMeth
import HandS.MakeKwOnly
import KE.KFmtOwn
import HandS.ExcIs
import HandS.ExcInit
import HandS.ExcField
import HandS.Text
import HandS.StrMore
import PyProof.Rows.StrDigitsNeg
import PyProof.EqKinds
import PyProof.NeKinds
import KE.KOpsOwn
import HandS.Gcd
import HandS.FStr
import HandS.List
import PySem.Challenge.RW_drawclaims_k03_order_of_ratios
set_option Elab.async false
set_option linter.all false
set_option maxRecDepth 100000
set_option maxHeartbeats 4000000
/-! Promises of defs that are called where no repr is under way (the list of repr guards around is empty), and what stands on them. -/
namespace GX
open PySem PySem.Spec PyProof.Rows L2

/-- a def's promise, kept where the guards around are known to be none -/
structure FnG (P : Program) (w : World) (K : PySem.W.Frag) (mg : Str → Option Value) (base : Heap) (CX : CXT)
    (k : Nat) (f : Addr) (fd : FuncData) (ps : List Str) (sp : Sp) : Prop where
  ln : ∀ (vs : List V) (H : Hp) (Q : VK) (E : XK), sp vs H Q E → vs.length = ps.length
  go : ∀ (A : Around) (outer : List Env) (s : Shared) (H : Hp) (args : Args) (us : List Value) (vs : List V) (Q : VK) (E : XK),
    A.guards = some [] → Room k A → Env0 P w K mg base A outer s H → BindsTo s fd args (ps.zip us) → Vals vs us → sp vs H Q E →
    codeAny (model P w) A (.call (.ref f) args) (CR CX outer P w H s Q E) s

section
variable {P : Program} {w : World} {K : PySem.W.Frag} {mg : Str → Option Value} {base : Heap} {CX : CXT}
  {k j : Nat} {f : Addr} {fd : FuncData} {ps N : List Str} {sp : Sp}

theorem FnG.ofOk (F : FnOk P w K mg base CX k f fd ps sp) : FnG P w K mg base CX k f fd ps sp :=
  ⟨F.len, fun A outer s H args us vs Q E _ hr he hb hv hs => F.run A outer s H args us vs Q E hr he hb hv hs⟩
theorem FnG.mono (F : FnG P w K mg base CX j f fd ps sp) (h : j ≤ k) : FnG P w K mg base CX k f fd ps sp :=
  ⟨F.ln, fun A outer s H args us vs Q E hg hr => F.go A outer s H args us vs Q E hg (hr.mono h)⟩

/-- the def's body, read where the guards are none -/
theorem fnG {x qual : Str} {st : Stmt} (F : Fun K x qual st f fd) (S : FnScope N ps (defScope st)) (len : ∀ (vs : List V) (H : Hp) (Q : VK) (E : XK), sp vs H Q E → vs.length = ps.length)
    (body : ∀ (cdv : Value) (A : Around) (outer : List Env) (s : Shared) (H : Hp) (vs : List V) (Q : VK) (E : XK), A.guards = some [] →
      Room k (A.deeper (envOfC qual (defScope st) s.heap.objs.size f cdv)) → sp vs H Q E →
      ∃ t, PSs (cxOf CX P w K mg base N qual (defScope st) f cdv A outer s H E) (defBody st) t ∧
        t { nx := fun _ H' => Q .non H', rt := Q } (start N vs) H) : FnG P w K mg base CX (k + 1) f fd ps sp := by
  obtain ⟨oc, od, kV, doc, pm, an, cdv, ct, osl, rfl, lk, hcd⟩ := F.ex
  constructor
  · exact len
  intro A outer s H args us vs Q E hG hr e0 hb rv hsp
  have KX : K.In s.heap := e0.mod.kin.keeps (fun b o e => (e0.bs b o e).1)
  have lim : s.heap.NoLimit := e0.mod.nolimit.keeps (fun b o e => (e0.bs b o e).1)
  obtain ⟨t, ht, hq⟩ := body cdv A outer s H vs Q E hG (hr.deeper _) hsp
  have kinds : ∀ y ∈ ps.zip us, (defScope st).names.lookup y.1 = some .local ∨
      ((defScope st).names.lookup y.1 = some .cell ∧ ((cellsFrom (s.heap.objs.size + 1) (defScope st).names []).lookup y.1).isSome = true) := by
    rintro ⟨n, v⟩ hy
    have hn := (List.of_mem_zip hy).1
    cases S.par n hn with
    | inl q => exact Or.inl q
    | inr q => exact Or.inr ⟨q, PySem.W.cellsFrom_some _ _ _ (Or.inl q)⟩
  refine codeAny_call_function hr.depth (KX _ _ lk) rfl S.co S.gen rfl (PySem.W.codeRec_of KX hcd) (hb _ _ _ _ ?_)
  refine wpAny_newFunctionEnv_cells S.kind kinds ?_
  rintro env rfl s1 x
  refine ⟨lim.keeps x.toInCall.keep, codeAny_func ?_⟩
  have I := inv_start (CX := CX) (E := E) S hr.hd e0 (len _ _ _ _ hsp) rv x
  refine wpAny_mono (ht.run [] s1 (start N vs) H _ I hq) ?_ (fun e s' z => z)
  intro fl s' z
  match fl, z with
  | .ret u, z =>
    obtain ⟨v, σ', H', J, r', q⟩ := z
    exact ⟨v, H', J.os, J.bare, J.base, J.hok, r', q⟩
  | .next, z =>
    obtain ⟨σ', H', J, q⟩ := z
    exact ⟨V.non, H', J.os, J.bare, J.base, J.hok, rfl, q⟩
  | .brk, z =>
    obtain ⟨_, _, _, q⟩ := z
    exact q.elim
  | .cont, z =>
    obtain ⟨_, _, _, q⟩ := z
    exact q.elim
/-- .. of which no exception leaves -/
theorem fnG0 {x qual : Str} {st : Stmt} (F : Fun K x qual st f fd) (S : FnScope N ps (defScope st)) (len : ∀ (vs : List V) (H : Hp) (Q : VK) (E : XK), sp vs H Q E → vs.length = ps.length)
    (body : ∀ (cdv : Value) (A : Around) (outer : List Env) (s : Shared) (H : Hp) (vs : List V) (Q : VK) (E : XK), A.guards = some [] →
      Room k (A.deeper (envOfC qual (defScope st) s.heap.objs.size f cdv)) → sp vs H Q E →
      ∃ t, PSs (cxOf CX0 P w K mg base N qual (defScope st) f cdv A outer s H E).nox (defBody st) t ∧
        t { nx := fun _ H' => Q .non H', rt := Q } (start N vs) H) : FnG P w K mg base CX0 (k + 1) f fd ps sp :=
  fnG F S len fun cdv A outer s H vs Q E hG hr h =>
    let ⟨t, a, b⟩ := body cdv A outer s H vs Q E hG hr h
    ⟨t, a.nox, b⟩
end

section
variable {X : Cx} {CX : CXT} {k : Nat} {f : Addr} {fd : FuncData} {ps : List Str} {sp : Sp} {E : XK} {x : Str} {p pos : Pos} {e : Expr} {es : List Expr} {t : TA}
/-- f(e, ..) of such a def -/
theorem pe_callG (hG : X.A.guards = some []) (F : FnG X.prog X.w X.K X.mg X.base CX k f fd ps sp) (hr : Room k X.A) (hg : Gl X x) (hm : X.mg x = some (.ref f))
    (hk : PySem.W.keepIn X.K (.ref f) = true) (hb : Binds X.K fd ps []) (hx : Passes CX X E) (ha : PA X (e :: es) t) (hdb : (x == ("__debug__" : Str)) = false := by decide)
    (he : starEach (e :: es) X.env = (false, eval e X.env) :: starEach es X.env := by rfl)
    (hpl : (backTo pos (starEach es X.env)).any (·.1) = false := by rfl) : PE X (.Call (.Name x p) (e :: es) [] pos) (tCall sp [] E t) := by
  constructor
  intro pins s σ H Q I h
  refine wpAny_Call_Name_kw (ld_glob I hg hm ?_ hdb)
  refine PySem.W.callWith_K (h₀ := X.base) I.ok.mod.kin hk (thn (ha.run pos pins s σ H _ I h) ?_) he hpl
  rintro us s1 ⟨vs, H1, I1, r, q⟩
  refine ⟨I1.kIn, ?_⟩
  rw [List.append_nil] at q
  have hl : us.length = ps.length := r.length.symm.trans (F.ln _ _ _ _ q)
  have bd := hb s1 us I1.kIn
  rw [List.append_nil] at bd
  refine wpAny_call (codeAny_mono (F.go _ _ _ _ _ _ _ _ _ hG hr I1.env0 (bd hl) r q) ?_)
  intro r' s' z
  match r', z with
  | .error e', z => exact hx pins σ H1 s1 e' s' I1 z
  | .ok (.ret u), z => exact I1.after z
  | .ok .next, z => exact z.elim
  | .ok .brk, z => exact z.elim
  | .ok .cont, z => exact z.elim
end
end GX

set_option Elab.async false
set_option linter.all false
set_option maxRecDepth 100000
set_option maxHeartbeats 4000000
namespace GX
open PySem PySem.Spec PyProof.Rows L2
/-! ### what kind of value -/
def isI : V → Bool
  | .int _ => true
  | _ => false
/-- the values that this law uses, and what isinstance says of them -/
structure Pl (K : PySem.W.Frag) (H : Hp) (x : V) : Prop where
  ex : ∃ (n : String) (b c : Bool), TyX K H x (.type n) ∧ PySem.W.kitOne K (.type n) (.type "int") = some b ∧ PySem.W.kitOne K (.type n) (.type "bool") = some c ∧ (b && !c) = isI x
section
variable {K : PySem.W.Frag} {H H' : Hp}
theorem pl_non : Pl K H .non := ⟨"NoneType", false, false, .base .non, kit_ty (by decide +kernel), kit_ty (by decide +kernel), rfl⟩
theorem pl_bl (b : Bool) : Pl K H (.bl b) := ⟨"bool", true, true, .base (.bl b), kit_ty (by decide +kernel), kit_ty (by decide +kernel), rfl⟩
theorem pl_int (i : Int) : Pl K H (.int i) := ⟨"int", true, false, .base (.int i), kit_ty (by decide +kernel), kit_ty (by decide +kernel), rfl⟩
theorem pl_str (x : Str) : Pl K H (.str x) := ⟨"str", false, false, .base (.str x), kit_ty (by decide +kernel), kit_ty (by decide +kernel), rfl⟩
theorem pl_tup {a : Addr} {xs : List V} (h : H a = some (.tup xs)) : Pl K H (.ref a) := ⟨"tuple", false, false, .base (.tup h), kit_ty (by decide +kernel), kit_ty (by decide +kernel), rfl⟩
theorem pl_lst {a : Addr} {xs : List V} (h : H a = some (.lst xs)) : Pl K H (.ref a) := ⟨"list", false, false, .base (.lst h), kit_ty (by decide +kernel), kit_ty (by decide +kernel), rfl⟩
theorem pl_dK {a : Addr} {xs : List (Key × V)} (h : H a = some (.dK xs)) : Pl K H (.ref a) := ⟨"dict", false, false, .base (.dK h), kit_ty (by decide +kernel), kit_ty (by decide +kernel), rfl⟩
end
/-! ### heaps -/
/-- all but what stands at a is kept -/
def But (a : Addr) (H H' : Hp) : Prop := ∀ b o, b ≠ a → H b = some o → H' b = some o
theorem But.refl (a : Addr) (H : Hp) : But a H H := fun _ _ _ h => h
theorem But.trans {a : Addr} {H H1 H2 : Hp} (x : But a H H1) (y : But a H1 H2) : But a H H2 := fun b o n h => y b o n (x b o n h)
theorem But.same {a : Addr} {H H1 H2 : Hp} (x : But a H H1) (y : Same H1 H2) : But a H H2 := fun b o n h => y b o (x b o n h)
theorem But.of {a : Addr} {H H1 : Hp} (y : Same H H1) : But a H H1 := fun b o n h => y b o h
theorem But.set {a : Addr} {H H1 : Hp} {o : HO} (x : But a H H1) : But a H (upd H1 a o) := fun b u n h => by
  rw [upd_ne n]
  exact x b u n h
theorem same_new {H : Hp} {p : Addr} {o : HO} (h : H p = none) : Same H (upd H p o) := fun b x e => by
  rw [upd_ne (ne_of_none e h)]
  exact e
/-- a purse -/
def Bag (H : Hp) (a : Addr) : Prop := ∃ z g c : Int, H a = some (.lst [.int z, .int g, .int c]) ∧ 0 ≤ g
theorem Bag.keep {H H' : Hp} {a : Addr} (b : Bag H a) (s : Same H H') : Bag H' a := by
  obtain ⟨z, g, c, h, n⟩ := b
  exact ⟨z, g, c, s a _ h, n⟩
theorem tyx_mono {K : PySem.W.Frag} {H H' : Hp} {x : V} {t : Value} (s : Same H H') (h : TyX K H x t) : TyX K H' x t := by
  cases h with
  | base h =>
    refine .base ?_
    cases h with
    | non => exact .non
    | bl b => exact .bl b
    | int i => exact .int i
    | str x => exact .str x
    | flt x => exact .flt x
    | lst e => exact .lst (s _ _ e)
    | frz e => exact .frz (s _ _ e)
    | tup e => exact .tup (s _ _ e)
    | dK e => exact .dK (s _ _ e)
    | dT e => exact .dT (s _ _ e)
    | ins e c a n k m => exact .ins (s _ _ e) c a n k m
  | byt b => exact .byt b
  | set e => exact .set (s _ _ e)
  | kList e c => exact .kList e c
  | kTuple e c => exact .kTuple e c
  | kDict e c => exact .kDict e c
  | fTuple e => exact .fTuple (s _ _ e)
  | fDict e => exact .fDict (s _ _ e)
theorem Pl.keep {K : PySem.W.Frag} {H H' : Hp} {x : V} (p : Pl K H x) (s : Same H H') : Pl K H' x := by
  obtain ⟨n, b, c, ty, k1, k2, e⟩ := p
  exact ⟨n, b, c, tyx_mono s ty, k1, k2, e⟩
theorem Bag.ne {H : Hp} {a p : Addr} (b : Bag H a) (h : H p = none) : p ≠ a := by
  obtain ⟨z, g, c, e, _⟩ := b
  exact (ne_of_none e h).symm
theorem room_u {Z : Around} {k : Nat} (h : Room k Z) : Z.units + 110 < cLine := by
  have := h.un
  omega
theorem cut_ints {ns : List Int} {lo hi : Option Int} {i : Nat} {x : V} (h : (cutV (ns.map V.int) lo hi)[i]? = some x) : ∃ z, x = .int z := by
  have m := List.mem_of_getElem? h
  have m2 := List.mem_of_mem_drop (List.mem_of_mem_take (show x ∈ ((ns.map V.int).drop _).take _ from m))
  obtain ⟨z, _, e⟩ := List.mem_map.mp m2
  exact ⟨z, e.symm⟩
def spIsI (K : PySem.W.Frag) : Sp := fun vs H Q _ => ∃ x, vs = [x] ∧ Pl K H x ∧ Q (.bl (isI x)) H
def spTake : Sp := fun vs H Q _ => ∃ (a : Addr) (m : Int), vs = [.ref a, .int m] ∧ Bag H a ∧ 0 < m ∧ m.natAbs.log2 < 9000 ∧
  ∀ r H', 0 ≤ r → r < m → Bag H' a → But a H H' → Q (.int r) H'
def spPurse (K : PySem.W.Frag) : Sp := fun vs H Q _ => ∃ (a : Addr) (ns : List Int) (k : Nat), vs = [.ref a, .int k] ∧ SqL K H a (ns.map V.int) ∧ ns.length ≤ 63 ∧ k ≤ 63 ∧
  ∀ p H', H p = none → Same H H' → Bag H' p → Q (.ref p) H'
end GX

set_option Elab.async false
set_option linter.all false
set_option maxRecDepth 100000
set_option maxHeartbeats 4000000
/-! str(o), repr(o) by the class's own methods; cls(e, ..) in a class method. -/
namespace PySem.W
open PySem PySem.Calls PyProof.Rows
section
variable {prog : Program} {w : World} {A : Around} {E : Value → Shared → Prop} {s : Shared} {K : Frag} {x C f : Addr} {ox : Obj} {od : Option Obj}
open Builtin Builtin.Str in
theorem ox_str {Q : Value → Shared → Prop} (hu : A.in1.in1.units < cLine) (X : K.In s.heap) (I : InstAt s.heap x ox C od) (hs : findIn K (.ref C) "__str__" = some (some (.ref f))) (hf : isFn K (.ref f) = true)
    (h : wpAny (model prog w) A.in1.in1 (call (.ref f) [.ref x]) (StrBack Q) E s) : wpAny (model prog w) A (call (.type "str") [.ref x]) Q E s := by
  have inner : wpAny (model prog w) A.in1.in1 (PySem.Builtin.Str.strOf (.ref x)) (fun r s₁ => ∃ y u, r = .str y u ∧ Q r s₁) E s := by
    unfold PySem.Builtin.Str.strOf
    rw [show isExactStr (.ref x) = false from rfl]
    apply wpAny_bind (m := cRoomFor _ _)
    refine wpAny_cRoomFor hu (wpAny_bind (m := callSpecial? (.ref x) (Str.ofString "__str__")) (special_fn X I hs (beq_iff_eq.mp hf) ?_))
    refine wpAny_mono h ?_ (fun _ _ y => y)
    intro r s' z
    cases r <;> first | exact z.elim | exact wpAny_pure ⟨_, _, rfl, z⟩
  apply callType_codes (T := "str") (Bi := Builtin.«object.__init__») (Q₁ := fun r s₁ => ∃ y u, r = .str y u ∧ Q r s₁) PySem.F.called_str (PySem.F.typeCall_str_1 _) PySem.F.entry_object_init
  · apply codeAny_of_tree
    show wpAny _ A.in1.in1 (do checkBuiltinCall "str.__new__" ⟨[.type "str", .ref x], []⟩; again (.builtin "str.__new__" ⟨[.type "str", .ref x], []⟩)) _ _ s
    apply wpAny_bind
    refine wpAny_of_eq (PySem.F.newCall_str_1 _) (wpAny_pure ⟨plainId_quiet (by decide +kernel) _, codeAny_builtin PySem.F.entry_str_new ?_⟩)
    rw [Around.under_plainId (by decide +kernel) _, str_new_tree]
    apply wpAny_bind
    apply wpAny_pure
    apply wpAny_bind
    refine wpAny_of_eq isSubtype_str_str ?_
    exact wpAny_bind (wpAny_mono inner (fun r s₁ hr => wpAny_pure hr) (fun _ _ y => y))
  · rintro obj s₁ ⟨y, u, rfl, hq⟩
    have ty : s₁.TypeIs (.str y u) "str" := typeIs_str _ _ _
    exact ⟨ty, PySem.F.args_object_init_2 _ _, object_init_meets PySem.F.called_str.init.lookup PySem.F.called_str.made (by decide) prog w A.in1 _ s₁ ⟨ty, rfl, hq⟩⟩
end
end PySem.W
namespace OX
open PySem PySem.Spec PyProof.Rows L2
section
variable {X : Cx} {pins : List (Addr × Obj)} {σ : L2.St} {H : Hp} {s : Shared} {k : Nat} {f C : Addr} {fd : FuncData} {ps : List Str} {sp : Sp}
/-- a def is called where more stands around -/
theorem call_at {A' : Around} {us : List Value} {vs : List V} {Q : VK} (F : FnOk X.prog X.w X.K X.mg X.base CX0 k f fd ps sp) (hr : Room k A') (hA : A'.frames = some X.stack) (hb : Binds X.K fd ps [])
    (I : Inv X pins σ H s) (r : Vals vs us) (h : sp vs H Q E0) : wpAny (model X.prog X.w) A' (call (.ref f) us) (EP X pins σ Q) X.xe s := by
  have hl : us.length = ps.length := r.length.symm.trans (F.len _ _ _ _ h)
  have bd := hb s us I.kIn
  rw [List.append_nil] at bd
  have e := I.env0
  refine wpAny_call (codeAny_mono (F.run A' X.stack s H ⟨us, []⟩ us vs Q E0 hr ⟨hA, e.mod, e.bs, e.bsz, e.funs, e.frf, e.hok, e.bare⟩ (bd hl) r h) ?_)
  intro r' s' z
  match r', z with
  | .error e', z => exact z.elim
  | .ok (.ret u), z => exact I.after z
  | .ok .next, z => exact z.elim
  | .ok .brk, z => exact z.elim
  | .ok .cont, z => exact z.elim
def rOwnS (C : Addr) (sp : Sp) : List V → Hp → VK → Prop := fun xs H Q => ∃ (a dx : Addr) (fs : List (Str × V)), xs = [.ref a] ∧ H a = some (.ins C dx fs) ∧
  sp [.ref a] H (fun v H' => ∃ z, v = .str z ∧ Q (.str z) H') E0
theorem back_str {Q : VK} {v : Value} {s' : Shared} (h : EP X pins σ (fun v H' => ∃ z, v = .str z ∧ Q (.str z) H') v s') : PySem.W.StrBack (EP X pins σ Q) v s' := by
  obtain ⟨x, H', J, r, z, e, q⟩ := h
  subst e
  obtain ⟨t, e2⟩ := (show ∃ t, v = Value.str z t from r)
  subst e2
  exact ⟨.str z, H', J, ⟨t, rfl⟩, q⟩
/-- str(o) -/
theorem call_strO (hs : PySem.W.findIn X.K (.ref C) "__str__" = some (some (.ref f))) (hf : PySem.W.isFn X.K (.ref f) = true) (F : FnOk X.prog X.w X.K X.mg X.base CX0 k f fd ps sp)
    (hr : Room (k + 2) X.A) (hb : Binds X.K fd ps []) : CallR X (.type "str") (rOwnS C sp) := by
  intro pins s σ H xs us Q I r h
  obtain ⟨a, dx, fs, rfl, ea, q⟩ := h
  rw [Vals.ref1 r]
  obtain ⟨mA, O, _⟩ := ins_get I.hok ea
  obtain ⟨od, J, _⟩ := O.look
  have hA : X.A.in1.in1.frames = some X.stack := I.ok.frames
  exact PySem.W.ox_str (by have := hr.un; show X.A.units + 1 + 1 < cLine; omega) I.kIn J hs hf (wpAny_mono (call_at F (hr.in1.in1) hA hb I (show Vals [.ref a] [.ref a] from .cons rfl .nil) q) (fun _ _ z => back_str z) fun _ _ z => z)
/-- repr(o) -/
theorem call_reprO (hs : PySem.W.findIn X.K (.ref C) "__repr__" = some (some (.ref f))) (hf : PySem.W.isFn X.K (.ref f) = true) (F : FnOk X.prog X.w X.K X.mg X.base CX0 k f fd ps sp)
    (hr : Room (k + 1) X.A) (hb : Binds X.K fd ps []) : CallR X (.builtin "repr") (rOwnS C sp) := by
  intro pins s σ H xs us Q I r h
  obtain ⟨a, dx, fs, rfl, ea, q⟩ := h
  rw [Vals.ref1 r]
  obtain ⟨mA, O, _⟩ := ins_get I.hok ea
  obtain ⟨od, J, _⟩ := O.look
  obtain ⟨m, fr⟩ := I.fr
  have hA : X.A.in1.frames = some X.stack := I.ok.frames
  exact PySem.W.repr_K (by have := hr.un; show X.A.units + 1 < cLine; omega) fr I.ok.mod.kin J hs hf (wpAny_mono (call_at F hr.in1 hA hb I (show Vals [.ref a] [.ref a] from .cons rfl .nil) q) (fun _ _ z => back_str z) fun _ _ z => z)
end
section
variable {X : Cx} {CX : CXT} {k i : Nat} {f C : Addr} {fd : FuncData} {ps : List Str} {sp : Sp} {E : XK} {x : Str} {p pos : Pos} {e : Expr} {es : List Expr} {t : TA} {ds : List Value} {dvs : List V}
def tMakeL (i : Nat) (C : Addr) (sp : Sp) (dvs : List V) (E : XK) (t : TA) : TE := fun σ H Q => σ[i]? = some (some (.ref C)) ∧ tMake C sp dvs E t σ H Q
/-- x(e, ..), the local x the class at C -/
theorem pe_makeL (M : Mk X.K C f) (F : FnOk X.prog X.w X.K X.mg X.base CX k f fd ps sp) (hr : Room (k + 1) X.A) (hN : X.N[i]? = some x) (hv : Vis X.env.scope x) (hb : Binds X.K fd ps ds) (hd : Vals dvs ds) (hx : Passes CX X E)
    (ha : PA X (e :: es) t) (hdb : (x == ("__debug__" : Str)) = false := by decide) (hcd : (x == ("__classdict__" : Str)) = false := by decide)
    (he : starEach (e :: es) X.env = (false, eval e X.env) :: starEach es X.env := by rfl)
    (hpl : (backTo pos (starEach es X.env)).any (·.1) = false := by rfl) : PE X (.Call (.Name x p) (e :: es) [] pos) (tMakeL i C sp dvs E t) := by
  constructor
  rintro pins s σ H Q I ⟨hs, ht⟩
  have look := (pe_var (pos := p) hN hv hdb hcd).run pins s σ H (fun v H1 => v = .ref C ∧ H1 = H) I ⟨.ref C, hs, rfl, rfl⟩
  refine wpAny_Call_Name_kw (thn look ?_)
  rintro u s1 ⟨v, H1, I1, r1, e1, e2⟩
  subst e1
  subst e2
  have e3 : u = Value.ref C := r1
  subst e3
  refine PySem.W.callWith_K (h₀ := X.base) I.ok.mod.kin M.kp (thn (ha.run pos pins s1 σ H1 _ I1 ht) ?_) he hpl
  rintro us s2 ⟨vs, H2, I2, r, q⟩
  exact ⟨I2.kIn, run_make M F hr hb hd hx I2 r q⟩
end
end OX

set_option Elab.async false
set_option linter.all false
set_option maxRecDepth 100000
set_option maxHeartbeats 4000000
/-! The end of a law's row over a promise that wants the guards to be none. -/
namespace GX
open PySem PySem.Spec PyProof.Rows L2

/-- the script's place in an abstract heap: tracked and locked there, or an object of the top -/
structure At0 (K : PySem.W.Frag) (P : Program) (w : World) (h : Heap) (a : Addr) (ns : List Int) (H : Hp) : Prop where
  only : Only H
  sq : SqL K H a (ns.map V.int)
  ok : HOk P w H h
  one : ∀ b u, H b = some u → b = a
  out : ∀ u, H a = some u → K.lookup a = none

section
variable {P : Program} {w : World} {K : PySem.W.Frag} {mg mb : Str → Option Value} {CX : CXT} {k : Nat} {fa a : Addr} {fd : FuncData} {x : Str} {sp : Sp} {s₁ : Shared} {vs : List Value} {ns : List Int}

theorem at0_ex (KX : K.In s₁.heap) (ha : s₁.heap.get? a = some { cls := .type "list", data := .seq vs.toArray }) (hi : IntsAre vs ns) (hl : ns.length ≤ sizeLine) :
    ∃ H, At0 K P w s₁.heap a ns H := by
  have rv := vals_ints hi
  cases hk : K.lookup a with
  | some o =>
    have e := KX a o hk
    rw [ha] at e
    have e2 := Option.some.inj e
    subst e2
    refine ⟨fun _ => none, fun _ => Or.inl rfl, Or.inr ⟨_, vs.toArray, _, hk, rfl, rfl, rfl, ?_, ?_⟩, ?_, ?_, ?_⟩
    · rw [List.size_toArray, hi.length]
      exact hl
    · simpa using rv
    · intro b u z
      cases z
    · intro b u z
      cases z
    · intro u z
      cases z
  | none =>
    have look : ∀ (b : Addr) (y u : HO), (if b = a then some y else none) = some u → b = a := by
      intro b y u z
      by_cases q : b = a
      · exact q
      · rw [if_neg q] at z
        cases z
    refine ⟨fun b => if b = a then some (.frz { cls := .type "list", data := .seq vs.toArray } (.lst (ns.map V.int))) else none, ?_, Or.inl (Or.inr ⟨{ cls := .type "list", data := .seq vs.toArray }, if_pos rfl⟩), ?_, ?_, fun _ _ => hk⟩
    · intro b
      by_cases q : b = a
      · exact Or.inr ⟨_, _, if_pos q⟩
      · exact Or.inl (if_neg q)
    · intro b u z
      have q := look b _ u z
      subst q
      have z2 : some (HO.frz { cls := .type "list", data := .seq vs.toArray } (.lst (ns.map V.int))) = some u := (if_pos rfl).symm.trans z
      cases z2
      refine ⟨ha, ?_, vs, _, rv, ha⟩
      rw [List.length_map]
      exact hl
    · intro b u z
      exact look b _ u z

theorem law_callG (KX : K.In s₁.heap) (hns : s₁.heap.Ns mainGlobals mg) (hb : s₁.heap.Ns builtinsNs mb) (hbb : ∀ y : Str, y ≠ "__name__" → mb y = bootBuiltins y) (hlim : s₁.heap.NoLimit) (hg : s₁.gens = #[])
    (ha : s₁.heap.get? a = some { cls := .type "list", data := .seq vs.toArray }) (hi : IntsAre vs ns) (hl : ns.length ≤ sizeLine) (hr : Room k callerA)
    (F : ∀ base : Heap, K.In base → base.Ns mainGlobals mg → FnG P w K mg base CX k fa fd [x] sp) (bd : ∀ (s : Shared) (u : Value), BindsTo s fd ⟨[u], []⟩ [(x, u)])
    (hsp : ∀ H : Hp, Only H → SqL K H a (ns.map V.int) → sp [.ref a] H (fun v _ => v = .bl true) fun _ _ _ => False) (hCX : ∀ H e s', CX [] H s₁ (fun _ _ _ => False) e s' → False) :
    codeAny (model P w) callerA (.call (.ref fa) ⟨[.ref a], []⟩) (fun r s' => r = .ok (.ret (.bool true)) ∧ OldK s₁.heap s'.heap ∧ s'.os = s₁.os ∧ AllBare s'.gens) s₁ := by
  obtain ⟨H, T⟩ := at0_ex (P := P) (w := w) KX ha hi hl
  have dict0 : ∀ {b : Addr} {o : Obj} {es : Array DictEntry} {ep : Nat}, s₁.heap.get? b = some o → o.data = .dict es ep → H b = none := by
    intro b o es ep e d
    cases q : H b with
    | none => rfl
    | some u =>
      have e' := T.one b u q
      subst e'
      rw [ha] at e
      cases e
      cases d
  have nsB : ∀ {b : Addr} {m : Str → Option Value}, s₁.heap.Ns b m → (hidT s₁.heap H).Ns b m := by
    rintro b m ⟨o, es, ep, e, d, r⟩
    exact ⟨o, es, ep, hidT_get e (dict0 e d), d, r⟩
  have kinB : K.In (hidT s₁.heap H) := by
    intro b o e
    refine hidT_get (KX b o e) ?_
    cases q : H b with
    | none => rfl
    | some u =>
      have e' := T.one b u q
      subst e'
      rw [T.out u q] at e
      cases e
  have hM : Mod K mg (hidT s₁.heap H) := by
    obtain ⟨mc, h1, h2⟩ := hlim
    exact ⟨kinB, nsB hns, ⟨mb, nsB hb, hbb⟩, ⟨mc, nsB h1, h2⟩⟩
  have e0 : Env0 P w K mg (hidT s₁.heap H) callerA [] s₁ H :=
    ⟨rfl, hM, fun b o e => of_hidT e, Nat.le_of_eq (hidT_size _ _), trivial, fun b z => absurd (show b ∈ ([] : List Addr) from z) (by simp), T.ok, .of_eq hg⟩
  have run := (F _ kinB (nsB hns)).go callerA [] s₁ H ⟨[.ref a], []⟩ [.ref a] [.ref a] _ _ rfl hr e0 (bd s₁ (.ref a)) (.cons rfl .nil) (hsp H T.only T.sq)
  refine codeAny_mono run ?_
  intro r s' z
  match r, z with
  | .error e, z => exact (hCX H e s' z).elim
  | .ok .next, z => exact z.elim
  | .ok .brk, z => exact z.elim
  | .ok .cont, z => exact z.elim
  | .ok (.ret u), z =>
    obtain ⟨v, H', os, bare, un, ok2, r', q⟩ := z
    have q' : v = .bl true := q
    subst q'
    have eu : u = Value.bool true := r'
    subst eu
    refine ⟨rfl, OldK.of_keep ?_, os, bare⟩
    intro b o e
    cases q2 : H b with
    | none => exact un.keep b o e q2 (fun y => absurd (show b ∈ ([] : List Addr) from y) (by simp)) (by simp)
    | some u =>
      cases T.only b with
      | inl y =>
        rw [q2] at y
        cases y
      | inr y =>
        obtain ⟨ob, xs, y⟩ := y
        have y2 := un.frzs b ob _ y
        have g1 := (T.ok b _ y).1
        have g2 := (ok2 b _ y2).1
        rw [e] at g1
        cases g1
        exact g2
end

/-- the goal behind the head, from such a promise of the law -/
theorem walkG {l : PySem.W.OpenLaw} {n k : Nat} {q : Program} {loose : List Str} {XP : (Str → Option Value) → Heap → Prop} {YP : World → Heap → Prop} {d : DefRec} {K : Params → PySem.W.Frag} {CX : World → CXT} {sp : World → Sp} {x : Str}
    (hn : l.most = some n) (hn2 : n ≤ sizeLine) (hdf : d.params.defaults = []) (hr : Room k callerA) (hY : ∀ (w : World) (h : Heap), YP w h → (K w.params).In h)
    (F : ∀ (w : World) (mg : Str → Option Value) (fa : Addr) (h : Heap), (K w.params).In h → h.Ns mainGlobals mg → mg d.name = some (.ref fa) →
      ∃ fd : FuncData, (∀ (s : Shared) (u : Value), BindsTo s fd ⟨[u], []⟩ [(x, u)]) ∧
        ∀ base : Heap, (K w.params).In base → base.Ns mainGlobals mg → FnG l.prog w (K w.params) mg base (CX w) k fa fd [x] (sp w))
    (hsp : ∀ (w : World) (H : Hp) (a : Addr) (ns : List Int), ns.length ≤ n → Only H → SqL (K w.params) H a (ns.map V.int) → sp w [.ref a] H (fun v _ => v = .bl true) fun _ _ _ => False)
    (hCX : ∀ (w : World) (H : Hp) (s : Shared) (e : Value) (s' : Shared), CX w [] H s (fun _ _ _ => False) e s' → False) : PySem.W.WalkO q loose XP YP l.row.toRowW d [] (fun f vs => PySem.call f vs) := by
  refine Att.attach_call hn hdf ?_
  intro w s₀ s₁ mg mb fa o pm cd doc a vs ns G Y ho hd hcd hmg hobj hints hlen hg
  have KX := hY w _ Y
  obtain ⟨fd, bd, hF⟩ := F w mg fa _ KX G.T.g hmg
  exact law_callG KX G.T.g G.T.b G.T.builtins G.T.nolimit hg hobj hints (Nat.le_trans hlen hn2) hr hF bd (fun H hO hS => hsp w H a ns hlen hO hS) (fun H e s' => hCX w H s₁ e s')
end GX

set_option Elab.async false
set_option linter.all false
set_option maxRecDepth 100000
set_option maxHeartbeats 4000000
/-! isinstance of a caught error that has fields; repr of data. -/
namespace PySem.W
open PySem PySem.Spec PySem.Calls PyProof.Rows
section
variable {prog : Program} {w : World} {A : Around} {E : Value → Shared → Prop} {s : Shared} {K : Frag} {x D : Addr} {ox : Obj} {od : Option Obj}
theorem gx_find {name : Str} {a g : Value} (hc : (clsIn K D).isSome = true) (ha : findIn K (.ref D) name = some (some a))
    (hg : specialIn K a "__get__" = some (some g)) (ht : takesIn K a = some true) : findObj K D od name = some (.bind g a) := by
  cases od with
  | none => exact findObj_dataN hc ha hg ht
  | some o => exact findObj_data hc ha hg ht
theorem gx_class {Q : Option Value → Shared → Prop} (C : L2.ExcC K D) (X : K.In s.heap) (I : InstAt s.heap x ox D od) (h : Q (some (.ref D)) { s with toks := s.toks + 1 }) :
    wpAny (model prog w) A (getAttr? (.ref x) "__class__") Q E s := by
  have hsome : (clsIn K D).isSome = true := by
    obtain ⟨cd, e, _⟩ := any_some C.hd
    rw [e]
    rfl
  have found : findObj K D od "__class__" = some (.bind (.builtin "getset_descriptor.__get__") (.builtin "object.__class__")) := gx_find hsome C.ha C.hn C.ht
  rcases s with ⟨hp, g, d, t, os⟩
  have l0 := I.type (M := model prog w)
  have l1 := looks_findIn (M := model prog w) X C.hg
  have l2 := looks_findIn (M := model prog w) X C.hk
  have l3 := looks_find (M := model prog w) X I found
  have isE : Looks (model prog w) hp (isInstance (.ref x) (.type "BaseException")) true := l0.andThen (looks_subIn X C.hs)
  have no2 : (Value.builtin "BaseException.__getattribute__" == Value.builtin "object.__getattribute__") = false := by
    decide +kernel
  have no1 : (onTheHeap (Value.ref D) && Value.builtin "BaseException.__getattribute__" == Value.builtin "object.__getattribute__") = false := by
    rw [no2]
    rfl
  have no0 : (false && onTheHeap (Value.builtin "BaseException.__getattribute__")) = false := rfl
  unfold getAttr? getAttrBy? getAttrBy
  apply wpAny_bind
  refine wpAny_mkText (wpAny_bind (wpAny_attempt (wpAny_holding (wpAny_bind ?_))))
  refine l0.at (wpAny_bind (l1.at ?_))
  show wpAny _ _ (if (onTheHeap (Value.ref D) && Value.builtin "BaseException.__getattribute__" == Value.builtin "object.__getattribute__") = true then _ else _) _ _ _
  rw [no1, if_neg Bool.false_ne_true]
  unfold getAttrByItsOwn hookBefore
  apply wpAny_bind
  rw [if_pos (show onTheHeap (Value.ref D) = true from rfl)]
  refine l2.at (wpAny_bind (wpAny_attempt (wpAny_holding ?_)))
  unfold callGetattribute
  rw [no0, if_neg Bool.false_ne_true]
  unfold boundAndCalled
  rw [F.excAttr_ValueError.ga.bind (.ref x)]
  apply wpAny_bind
  apply wpAny_pure
  show wpAny _ _ (call (.builtin "BaseException.__getattribute__") [.ref x, .str "__class__" t]) _ _ _
  apply wpAny_call
  refine codeAny_call_builtin F.excAttr_ValueError.ga.plain F.entry_bexc_ga ?_
  refine @check_slot (model prog w) _ _
    ⟨hp, g, d, t + 1, os⟩ "BaseException.__getattribute__" "BaseException" "__getattribute__" (.ref x) [.str "__class__" t] [] _
    (by decide +kernel) (by decide +kernel) isE (F.args_bexc_ga (.ref x) (.str "__class__" t)) ?_
  unfold Builtin.«object.__getattribute__»
  apply wpAny_bind
  refine wpAny_of_eq (a := ((Value.ref x : Value), [Value.str "__class__" t])) (by first | rfl | (simp only [slotArgs]; rfl)) ?_
  apply wpAny_bind
  refine wpAny_pure (wpAny_bind (l0.at (wpAny_bind (l3.at ?_))))
  show wpAny _ _ (holding [Value.builtin "object.__class__"] (call (.builtin "getset_descriptor.__get__") [.builtin "object.__class__", .ref x, .ref D]) >>= ret) _ _ _
  apply wpAny_bind
  refine wpAny_holding (wpAny_call (class_get (s := ⟨hp, g, d, t + 1, os⟩) (ox := ox) (od := od) X I C.hm (wpAny_pure ?_)))
  show wpAny _ _ (handedOut (.ref D)) _ _ _
  rw [handedOut_of (v := .ref D) rfl]
  first
    | exact wpAny_pure (wpAny_bind (wpAny_pure (wpAny_pure h)))
    | exact wpAny_bind (wpAny_pure (wpAny_pure h))
    | exact wpAny_pure (wpAny_pure h)
theorem gx_kit (C : L2.ExcC K D) : KitX K (.ref x) (.ref D) (fun h => ∃ ox od, InstAt h x ox D od) := by
  have Z : KitX K (.ref x) (.ref D) (fun h => InstAt h x { cls := .ref D, data := .fields #[] } D none) := handS_kitx_exc C.hg C.hk C.hs C.hd C.ha C.hn C.ht C.hm
  have hsome : ∃ cd, clsIn K D = some cd := by
    obtain ⟨cd, e, _⟩ := any_some C.hd
    exact ⟨cd, e⟩
  constructor
  · rintro M h _ ⟨ox, od, I⟩
    exact I.type
  · rintro M h X _
    obtain ⟨cd, e⟩ := hsome
    unfold clsIn at e
    split at e
    · rename_i c' d' cd' sl' ho
      intro A' Q' E' s' k q
      unfold isType loadHead
      exact wpAny_bind (wpAny_loadPart (k _ _ (X _ _ ho)) (wpAny_pure q))
    · cases e
  · exact Z.ne
  · intro prog w A E Q s X hx q
    obtain ⟨ox, od, I⟩ := hx
    exact gx_class C X I q
end
end PySem.W
namespace GX
open PySem PySem.Spec PyProof.Rows L2
/-- isinstance(e, c), e the caught error of the class at D at a, its dict d -/
def rIsED (K : PySem.W.Frag) (D a : Addr) (cls : Value) (d : Option Addr) : List V → Hp → VK → Prop := fun xs H Q =>
  ∃ (c : V) (cv : Value) (b : Bool) (dd : Addr) (fs : List (Str × V)), cls = .ref D ∧ xs = [.ref a, c] ∧ (∀ u, RelV c u → u = cv) ∧ d = some dd ∧ H dd = some (.xd fs) ∧
    PySem.W.kitOne K (.ref D) cv = some b ∧ Q (.bl b) H
theorem call_isED {X : Cx} {a D : Addr} {d : Option Addr} {cls : Value} {oe : Obj} {pn : List (Addr × Obj)} (C : ExcC X.K D) (hz : Zc cls d oe) (hf : ∃ vs, oe.data = .fields vs) :
    CallR (X.suite a ((a, oe) :: pn)) (.builtin "isinstance") (rIsED X.K D a cls d) := by
  intro pins s σ H xs us Q I r h
  obtain ⟨c, cv, b, dd, fs, hcls, rfl, hcv, hd, hH, e, q⟩ := h
  obtain ⟨u1, u2, rfl, r1, r2⟩ := vals2 r
  have e1 : u1 = Value.ref a := r1
  subst e1
  have e2 := hcv _ r2
  subst e2
  have pin := (I.pin (a, oe) (List.mem_append_left _ List.mem_cons_self)).1
  obtain ⟨mA, hns, _⟩ := (show ObjOk X.prog X.w H s.heap dd (.xd fs) from I.hok dd _ hH)
  obtain ⟨od, es, ep, ho, _⟩ := hns
  have J : PySem.W.InstAt s.heap a oe D (some od) := by
    refine ⟨pin, hz.1.trans hcls, ?_, ?_⟩
    · obtain ⟨vs, hv⟩ := hf
      unfold PySem.W.notCls
      rw [hv] <;> rfl
    · rw [hz.2, hd]
      exact ho
  exact PySem.W.kia_one (PySem.W.gx_kit C) I.kIn ⟨_, _, J⟩ e (fun z => nomatch z) (fun tk => ⟨.bl b, H, I.kept (t' := tk) (fun _ _ z => z), rfl, q⟩)

/-! ### a call by keywords alone -/
section
variable {X : Cx} {CX : CXT} {k : Nat} {f : Addr} {fd : FuncData} {ps ks : List Str} {sp : Sp} {E : XK} {x : Str} {p pos : Pos} {kws : List Keyword} {tk : TA} {g : List Value → List Value → List Value} {gV : List V → List V → List V}
theorem pe_callK0 (F : FnOk X.prog X.w X.K X.mg X.base CX k f fd ps sp) (hr : Room k X.A) (hg : Gl X x) (hm : X.mg x = some (.ref f)) (hk : PySem.W.keepIn X.K (.ref f) = true)
    (hb : KBn X.K fd ps 0 ks g gV) (hx : Passes CX X E) (hkw : PK X kws tk) (h1 : (backToKw pos (keywordEach kws X.env)).all (·.1.isSome) = true := by rfl)
    (h2 : (backToKw pos (keywordEach kws X.env)).filterMap (·.1) = ks := by rfl) (hdb : (x == ("__debug__" : Str)) = false := by decide)
    (h3 : ((backTo pos (starEach [] X.env)).any (·.1) || (backToKw pos (keywordEach kws X.env)).any (·.1.isNone)) = false := by rfl) :
    PE X (.Call (.Name x p) [] kws pos) (tCallN 0 ks.length sp gV E tNil tk) := by
  constructor
  intro pins s σ H Q I h
  refine wpAny_Call_Name_kw (ld_glob I hg hm ?_ hdb)
  refine PySem.W.callWith_KW0 (h₀ := X.base) I.ok.mod.kin hk h1 (thn (hkw.run pos pins s σ H _ I h) ?_) h3
  rintro ws s2 ⟨zs, H2, I2, rz, l1, l2, q2⟩
  refine ⟨I2.kIn, ?_⟩
  rw [h2]
  exact run_fnN (us := []) F hr hb hx I2 .nil rz l1 l2 q2
end
/-! ### repr -/
def keyD : Key → PyData
  | .inl i => .int i
  | .inr x => .str x
/-- a value as data: Dp, and dicts of ints -/
inductive Sh (K : PySem.W.Frag) (H : Hp) : V → PyData → Prop where
  | dp {x : V} {d : PyData} (h : Dp K H x d) (n : d.hasDict = false) : Sh K H x d
  | dct {a : Addr} {kvs : List (Key × Int)} (h : H a = some (.dK (kvs.map fun p => (p.1, V.int p.2)))) : Sh K H (.ref a) (.dict (kvs.map fun p => (keyD p.1, .int p.2)))
def rReprD (K : PySem.W.Frag) : List V → Hp → VK → Prop := fun xs H Q =>
  ∃ (x : V) (d : PyData), xs = [x] ∧ Sh K H x d ∧ d.showable = true ∧ d.depth ≤ 100 ∧ d.shown.length ≤ sizeLine ∧ Q (.str d.shown) H
theorem reads_keys {P : Program} {w : World} {h : Heap} : ∀ {es : List DictEntry} {kvs : List (Key × Int)} {vs : List (Key × Value)},
    KV (kvs.map fun p => (p.1, V.int p.2)) vs → Pairs (mixKind P w) es vs →
    (∃ as, ReadsAll h (es.map (·.key)) ((kvs.map fun p => (keyD p.1, PyData.int p.2)).map (·.1)) as ∧ sysModules ∉ as) ∧
    ∃ bs, ReadsAll h (es.map (·.val)) ((kvs.map fun p => (keyD p.1, PyData.int p.2)).map (·.2)) bs ∧ sysModules ∉ bs
  | [], [], _, _, _ => ⟨⟨_, .nil, by simp⟩, ⟨_, .nil, by simp⟩⟩
  | [], _ :: _, _, r, p => by
    cases r
    cases p
  | _ :: _, [], _, r, p => by
    cases r
    cases p
  | e :: es, (k, i) :: kvs, _, r, p => by
    cases r with
    | cons q r2 =>
      cases p with
      | cons hk hv p2 =>
        obtain ⟨⟨as, A1, A2⟩, ⟨bs, B1, B2⟩⟩ := reads_keys (h := h) r2 p2
        obtain ⟨q1, q2⟩ := q
        obtain ⟨t, q3⟩ := q2
        refine ⟨?_, ?_⟩
        · have q0 := q1.symm ▸ hk
          rcases keyIs_shape hk with ⟨j, u, e1, e2⟩ | ⟨z, u, e1, e2⟩
          · have ek : k = Sum.inl j := q1.trans e1
            subst ek
            refine ⟨_, .cons (as := []) ?_ A1, by simpa using A2⟩
            show Reads h e.key (.int j) []
            rw [e2]
            exact .int j u
          · have ek : k = Sum.inr z := q1.trans e1
            subst ek
            refine ⟨_, .cons (as := []) ?_ A1, by simpa using A2⟩
            show Reads h e.key (.str z) []
            rw [e2]
            exact .str z u
        · refine ⟨_, .cons (as := []) ?_ B1, by simpa using B2⟩
          show Reads h e.val (.int i) []
          rw [hv, q3]
          exact .int i t
theorem Sh.reads {X : Cx} {pins : List (Addr × Obj)} {σ : L2.St} {H : Hp} {s : Shared} (I : Inv X pins σ H s) {x : V} {d : PyData} {u : Value} (h : Sh X.K H x d) (r : RelV x u) :
    ∃ as, Reads s.heap u d as ∧ (d.hasDict = true → sysModules ∉ as) := by
  cases h with
  | dp h n =>
    obtain ⟨as, q⟩ := Dp.reads I d x u h r
    refine ⟨as, q, fun z => ?_⟩
    rw [n] at z
    cases z
  | @dct a kvs h =>
    have e : u = Value.ref a := r
    subst e
    obtain ⟨_, nsys, vs, kv, o, es, ep, h1, h2, h3, _, h5, _⟩ := (show ObjOk X.prog X.w H s.heap a (.dK _) from I.hok a _ h)
    obtain ⟨⟨as, A1, A2⟩, ⟨bs, B1, B2⟩⟩ := reads_keys (h := s.heap) kv h5
    refine ⟨_, .dict h1 h2.1 h3 A1 B1, fun _ hm => ?_⟩
    rcases List.mem_append.mp hm with hm | hm
    · rcases List.mem_cons.mp hm with e | hm
      · rw [← e] at nsys
        simp at nsys
      · exact A2 hm
    · exact B2 hm
theorem call_reprD {X : Cx} (hG : X.A.guards = some []) (hu : X.A.units + 110 < cLine) : CallR X (.builtin "repr") (rReprD X.K) := by
  intro pins s σ H xs us Q I r h
  obtain ⟨x, d, rfl, hs, h1, h2, h3, q⟩ := h
  obtain ⟨u, rfl, r1⟩ : ∃ u, us = [u] ∧ RelV x u := by
    cases r with
    | cons a b =>
      cases b
      exact ⟨_, rfl, a⟩
  obtain ⟨as, R, sys⟩ := hs.reads I r1
  have fin : ∀ h' (u : Tok) tk, (∀ b o, s.heap.get? b = some o → h'.get? b = some o) → EP X pins σ Q (.str d.shown u) { s with heap := h', toks := tk } :=
    fun h' u tk k => ⟨.str d.shown, H, I.kept (t' := tk) k, ⟨u, rfl⟩, q⟩
  cases R with
  | none => exact PySem.P.repr_of_none (fin s.heap s.toks _ (fun _ _ z => z))
  | bool b => exact PySem.P.repr_of_bool (fin s.heap s.toks _ (fun _ _ z => z))
  | int i t => exact PySem.P.repr_of_int (by simpa [PyData.showable] using h1) (fin s.heap s.toks _ (fun _ _ z => z))
  | str y t => exact PySem.P.repr_of_str (fin s.heap s.toks _ (fun _ _ z => z)) h3
  | list a1 a2 a3 a4 => exact repr_of_reads' (.list a1 a2 a3 a4) h1 sys hG (by omega) (fun _ _ z => z) fin h3
  | tuple a1 a2 a3 a4 => exact repr_of_reads' (.tuple a1 a2 a3 a4) h1 sys hG (by omega) (fun _ _ z => z) fin h3
  | dict a1 a2 a3 a4 a5 => exact repr_of_reads' (.dict a1 a2 a3 a4 a5) h1 sys hG (by omega) (fun _ _ z => z) fin h3
end GX

set_option Elab.async false
set_option linter.all false
set_option maxRecDepth 100000
set_option maxHeartbeats 4000000
/-! Texts of whole numbers and of fractions: what the methods of texts say of them. -/
namespace TX
open PySem PySem.Builtin PySem.Builtin.Str TL L2
/-- the text of a whole number -/
abbrev S (n : Int) : Str := Str.ofString (toString n)
theorem tl_nat (n : Nat) : tl (S n) = numL n := tl_num n
theorem tl_neg {n : Int} (h : n < 0) : tl (S n) = 45 :: numL n.natAbs := by
  have e : toString n = "-" ++ toString ((n.natAbs : Nat) : Int) := by
    rw [PyProof.Rows.toString_neg h]
    have : (0 : Int) - n = ((n.natAbs : Nat) : Int) := by omega
    rw [this]
  show tl (Str.ofString (toString n)) = _
  rw [e]
  have e2 : tl (Str.ofString ("-" ++ toString ((n.natAbs : Nat) : Int))) = ("-" ++ toString ((n.natAbs : Nat) : Int)).toList.map Char.toNat := tl_ofString _
  have e3 : tl (Str.ofString (toString ((n.natAbs : Nat) : Int))) = (toString ((n.natAbs : Nat) : Int)).toList.map Char.toNat := tl_ofString _
  rw [e2, String.toList_append, List.map_append, ← e3, tl_num]
  rfl
theorem nat_of {n : Int} (h : 0 ≤ n) : ∃ k : Nat, n = k := Int.eq_ofNat_of_zero_le h
theorem tl_abs (n : Int) : tl (S ((n.natAbs : Nat) : Int)) = numL n.natAbs := tl_num _
/-- no sign of a number's text but digits and - -/
theorem free_S {n : Int} {s : Nat} (h : s < 45 ∨ (45 < s ∧ s < 48) ∨ 57 < s) : s ∉ tl (S n) := by
  by_cases h0 : 0 ≤ n
  · obtain ⟨k, rfl⟩ := nat_of h0
    rw [tl_nat]
    exact numL_free (by omega)
  · rw [tl_neg (by omega)]
    intro m
    rcases List.mem_cons.mp m with e | m
    · omega
    · exact numL_free (n := n.natAbs) (s := s) (by omega) m
theorem len_S {n : Int} {k : Nat} (hk : 0 < k) (h : n.natAbs < 10 ^ k) : (S n).length ≤ k + 1 := by
  rw [len_tl]
  by_cases h0 : 0 ≤ n
  · obtain ⟨m, rfl⟩ := nat_of h0
    rw [tl_nat]
    have := numL_len hk (show m < 10 ^ k by omega)
    omega
  · rw [tl_neg (by omega), List.length_cons]
    have := numL_len hk h
    omega
theorem int_S {n : Int} {k : Nat} (hk : 0 < k) (hz : k ≤ 4000) (h : n.natAbs < 10 ^ k) : intText? (S n) = some n := by
  have hl := len_S hk h
  by_cases h0 : 0 ≤ n
  · obtain ⟨m, rfl⟩ := nat_of h0
    refine int_num ?_
    have := numL_len hk (show m < 10 ^ k by omega)
    omega
  · have e := intText_neg (x := S n) (cs := numL n.natAbs) (tl_neg (by omega)) (numL_digits _) (numL_ne _) (by omega)
    rw [numL_val] at e
    rw [e]
    congr 1
    omega
theorem ascii_S (n : Nat) : Txt.isascii (S n) = true := by
  unfold Txt.isascii
  rw [← Array.all_toList]
  show (tl (S n)).all _ = true
  rw [tl_nat, List.all_eq_true]
  intro c hc
  have := numL_digits n c hc
  exact decide_eq_true (by omega)
theorem dig : ∀ c, 48 ≤ c → c ≤ 57 → Unicode.isDigit c = true := by
  intro c h1 h2
  have : ∀ d : Nat, d < 10 → Unicode.isDigit (48 + d) = true := by decide +kernel
  have e := this (c - 48) (by omega)
  rw [show 48 + (c - 48) = c by omega] at e
  exact e
theorem digit_S (n : Nat) : Txt.isdigit (S n) = true := by
  unfold Txt.isdigit
  have h0 : (S n).length > 0 := by
    rw [len_tl, tl_nat]
    exact List.length_pos_iff.mpr (numL_ne n)
  rw [decide_eq_true h0, Bool.true_and, ← Array.all_toList]
  show (tl (S n)).all _ = true
  rw [tl_nat, List.all_eq_true]
  intro c hc
  have := numL_digits n c hc
  exact dig c (by omega) (by omega)
theorem head_S : ∀ n : Nat, 0 < n → ∃ c l, numL n = c :: l ∧ c ≠ 48 := by
  intro n
  induction n using Nat.strongRecOn with
  | _ n ih =>
    intro h
    by_cases h1 : n < 10
    · exact ⟨48 + n, [], numL_lt h1, by omega⟩
    · obtain ⟨c, l, e, ne⟩ := ih (n / 10) (by omega) (by omega)
      refine ⟨c, l ++ [48 + n % 10], ?_, ne⟩
      rw [numL_step (by omega), e]
      rfl
theorem starts_S {n : Nat} (h : 0 < n) : Txt.startswith (S n) "0" = false := by
  obtain ⟨c, l, e, ne⟩ := head_S n h
  have h0 : ¬ (subAt (S n) "0" 0 = true) := by
    rw [PySem.StrLaws.subAt_eq]
    have e2 : (S n).cps.toList = c :: l := (tl_nat n).trans e
    rw [e2]
    show ¬ ((([c] : List Nat) == [48]) = true)
    intro z
    have z2 : [c] = [48] := by simpa using z
    cases z2
    exact ne rfl
  unfold Txt.startswith
  rw [Bool.eq_false_iff.mpr h0, Bool.and_false]
theorem zero_S : S ((0 : Nat) : Int) = "0" := by decide +kernel
theorem ne_zero_S {n : Nat} (h : 0 < n) : S n ≠ "0" := by
  intro z
  have e := congrArg tl z
  rw [tl_nat] at e
  obtain ⟨c, l, e2, ne⟩ := head_S n h
  rw [e2] at e
  have e3 : c :: l = [48] := e
  cases e3
  exact ne rfl
/-- the minus ahead is taken off -/
theorem strip_S (n : Int) : Txt.removeprefix (S n) "-" = S ((n.natAbs : Nat) : Int) := by
  unfold Txt.removeprefix
  by_cases h0 : 0 ≤ n
  · obtain ⟨k, rfl⟩ := nat_of h0
    have h1 : subAt (S k) "-" 0 = false := by
      rw [PySem.StrLaws.subAt_eq]
      have e2 : (S k).cps.toList = numL k := tl_nat k
      rw [e2]
      cases e : numL k with
      | nil => exact absurd e (numL_ne k)
      | cons c l =>
        show (([c] : List Nat) == [45]) = false
        have hc := numL_digits k c (by rw [e]; exact List.mem_cons_self)
        refine Bool.eq_false_iff.mpr fun z => ?_
        have z2 : [c] = [45] := by simpa using z
        cases z2
        omega
    rw [h1]
    show S k = S (((k : Int).natAbs : Nat) : Int)
    rfl
  · have h1 : subAt (S n) "-" 0 = true := by
      rw [PySem.StrLaws.subAt_eq]
      have e2 : (S n).cps.toList = 45 :: numL n.natAbs := tl_neg (by omega)
      rw [e2]
      rfl
    rw [h1]
    have hl : (S n).length = (numL n.natAbs).length + 1 := by
      rw [len_tl, tl_neg (by omega)]
      rfl
    show (if (S n).length - 1 == (S n).length then S n else strSub (S n) 1 (S n).length) = _
    have hne : ((S n).length - 1 == (S n).length) = false := by
      rw [hl]
      simp
    rw [hne]
    refine ext_tl ?_
    show tl (strSub (S n) 1 (S n).length) = _
    rw [tl_strSub_end, tl_neg (by omega), tl_abs]
    rfl
theorem ne_minus0 (n : Int) : S n ≠ "-0" := by
  intro z
  have e := congrArg tl z
  have e0 : tl ("-0" : Str) = [45, 48] := by decide +kernel
  rw [e0] at e
  by_cases h0 : 0 ≤ n
  · obtain ⟨k, rfl⟩ := nat_of h0
    rw [tl_nat] at e
    have := numL_digits k 45 (by rw [e]; exact List.mem_cons_self)
    omega
  · rw [tl_neg (by omega)] at e
    obtain ⟨c, l, e2, ne⟩ := head_S n.natAbs (by omega)
    rw [e2] at e
    have e3 : 45 :: c :: l = [45, 48] := e
    cases e3
    exact ne rfl
theorem slash : tl ("/" : Str) = 47 :: [] := by decide +kernel
theorem part_two (a b : Int) : Txt.partition (S a ++ "/" ++ S b) "/" = (S a, ("/" : Str), S b) := partition_app slash (free_S (by omega))
theorem part_one (a : Int) : Txt.partition (S a) "/" = (S a, Str.empty, Str.empty) := partition_none slash (free_S (by omega))
theorem empty_app (x : Str) : Str.empty ++ x = x := ext_tl (by rw [tl_append]; rfl)
theorem len_app (x y : Str) : (x ++ y).length = x.length + y.length := by
  rw [len_tl, len_tl, len_tl, tl_append, List.length_append]
theorem S_pos (n : Int) : 0 < (S n).length := by
  rw [len_tl]
  by_cases h0 : 0 ≤ n
  · obtain ⟨k, rfl⟩ := nat_of h0
    rw [tl_nat]
    exact List.length_pos_iff.mpr (numL_ne k)
  · rw [tl_neg (by omega)]
    exact Nat.succ_pos _
end TX

set_option Elab.async false
set_option linter.all false
set_option maxRecDepth 100000
set_option maxHeartbeats 4000000
/-! Comparisons and operations with an own object on the right. -/
namespace PySem.W
open PySem PySem.Calls PyProof.Rows
def DecI (B : Builtin) (v : Value) : Prop := ∀ (l C dx : Addr), Meets (B ⟨[v, .ref l], []⟩) (fun _ R s => s.heap.get? l = some (instObj C dx) ∧ R (.ok (.ret .notImplemented)) s)
theorem dec_int_lt (b : Int) (u : Tok) : DecI Builtin.«int.__lt__» (.int b u) := fun l C dx => .of_wp fun prog w A R s h => by obtain ⟨hp, g, d, tk, os⟩ := s; obtain ⟨hl, h⟩ := h; wp_walk using wpAny_loadPart' hl, wpAny_load hl; exact ⟨_, rfl, h⟩
theorem dec_int_le (b : Int) (u : Tok) : DecI Builtin.«int.__le__» (.int b u) := fun l C dx => .of_wp fun prog w A R s h => by obtain ⟨hp, g, d, tk, os⟩ := s; obtain ⟨hl, h⟩ := h; wp_walk using wpAny_loadPart' hl, wpAny_load hl; exact ⟨_, rfl, h⟩
theorem dec_int_gt (b : Int) (u : Tok) : DecI Builtin.«int.__gt__» (.int b u) := fun l C dx => .of_wp fun prog w A R s h => by obtain ⟨hp, g, d, tk, os⟩ := s; obtain ⟨hl, h⟩ := h; wp_walk using wpAny_loadPart' hl, wpAny_load hl; exact ⟨_, rfl, h⟩
theorem dec_int_ge (b : Int) (u : Tok) : DecI Builtin.«int.__ge__» (.int b u) := fun l C dx => .of_wp fun prog w A R s h => by obtain ⟨hp, g, d, tk, os⟩ := s; obtain ⟨hl, h⟩ := h; wp_walk using wpAny_loadPart' hl, wpAny_load hl; exact ⟨_, rfl, h⟩
theorem dec_int_eq (b : Int) (u : Tok) : DecI Builtin.«int.__eq__» (.int b u) := fun l C dx => .of_wp fun prog w A R s h => by obtain ⟨hp, g, d, tk, os⟩ := s; obtain ⟨hl, h⟩ := h; wp_walk using wpAny_loadPart' hl, wpAny_load hl; exact ⟨_, rfl, h⟩
theorem dec_int_ne (b : Int) (u : Tok) : DecI Builtin.«int.__ne__» (.int b u) := fun l C dx => .of_wp fun prog w A R s h => by obtain ⟨hp, g, d, tk, os⟩ := s; obtain ⟨hl, h⟩ := h; wp_walk using wpAny_loadPart' hl, wpAny_load hl; exact ⟨_, rfl, h⟩
theorem dec_bool_eq (b : Bool) : DecI Builtin.«int.__eq__» (.bool b) := fun l C dx => .of_wp fun prog w A R s h => by obtain ⟨hp, g, d, tk, os⟩ := s; obtain ⟨hl, h⟩ := h; wp_walk using wpAny_loadPart' hl, wpAny_load hl; exact ⟨_, rfl, h⟩
theorem dec_str_eq (b : Str) (u : Tok) : DecI Builtin.«str.__eq__» (.str b u) := fun l C dx => .of_wp fun prog w A R s h => by obtain ⟨hp, g, d, tk, os⟩ := s; obtain ⟨hl, h⟩ := h; wp_walk using wpAny_loadPart' hl, wpAny_load hl; exact ⟨_, rfl, h⟩
theorem dec_none_eq : DecI Builtin.«NoneType.__eq__» .none := fun l C dx => .of_wp fun prog w A R s h => by obtain ⟨hp, g, d, tk, os⟩ := s; obtain ⟨hl, h⟩ := h; wp_walk using wpAny_loadPart' hl, wpAny_load hl; exact ⟨_, rfl, h⟩
section
variable {prog : Program} {w : World} {A : Around} {E : Value → Shared → Prop} {s : Shared} {K : Frag} {x C f : Addr} {ox : Obj} {od : Option Obj}
/-- a op o, where a's own method declines: o's reflected method answers -/
theorem cmp_R {op : CmpOp} {a : Value} {T id : String} {Q : Value → Shared → Prop} (hu : A.units < cLine) (X : K.In s.heap) (I : InstAt s.heap x ox C od) (hT : s.TypeIs a T) (hsub : subIn K (.ref C) (.type T) = some false)
    (hsl : Slot T (cmpInfo op).2.1 id) (hd : ∀ Q', Q' Value.notImplemented s → wpAny (model prog w) A (call (.builtin id) [a, .ref x]) Q' E s)
    (hs : findIn K (.ref C) (cmpInfo op).2.2 = some (some (.ref f))) (hf : isFn K (.ref f) = true)
    (h : wpAny (model prog w) A (call (.ref f) [.ref x, a]) (CmpBack Q) E s) : wpAny (model prog w) A (richCompare op a (.ref x)) Q E s := by
  have one : wpAny (model prog w) A (tryCompare (.ref x) (cmpInfo op).2.2 a) (fun r s' => ∃ v, r = some v ∧ Q v s') E s := by
    unfold tryCompare
    refine wpAny_bind (ifBound_K X I hs hf (wpAny_mono h (fun v s' hv => ?_) fun _ _ e => e))
    cases v <;> first | exact hv.elim | exact wpAny_pure ⟨_, rfl, hv⟩
  unfold richCompare
  simp only [hT.oneThing_none]
  refine wpAny_holding (wpAny_bind (wpAny_cRoomFor hu ?_))
  refine wpAny_bind (wpAny_typeOf hT (wpAny_bind (I.type.here ?_)))
  have hne : (Value.type T != Value.ref C) = true := by rw [bne_iff_ne]; intro q; cases q
  simp only [hne, if_true]
  refine wpAny_bind ((looks_subIn X hsub).here ?_)
  simp only [Bool.false_eq_true, if_false, Bool.not_false, if_true]
  refine wpAny_bind (m := tryCompare a _ _) (wpAny_tryCompare_declines hT hsl (hd _ ⟨rfl, ?_⟩))
  refine wpAny_bind (wpAny_mono one (fun r s' z => ?_) fun _ _ e => e)
  obtain ⟨v, rfl, hq⟩ := z
  exact wpAny_pure hq
end
end PySem.W

set_option Elab.async false
set_option linter.all false
set_option maxRecDepth 100000
set_option maxHeartbeats 4000000
namespace PySem.W
open PySem PySem.Calls PyProof.Rows
def DecK (K : Frag) (B : Builtin) (v : Value) : Prop := ∀ (l C dx : Addr), Meets (B ⟨[v, .ref l], []⟩) (fun _ R s => K.In s.heap ∧ s.heap.get? l = some (instObj C dx) ∧ R (.ok (.ret .notImplemented)) s)
theorem dec_list_eq {K : Frag} {a l C dx : Addr} (hs : subIn K (.ref C) (.type "list") = some false) : Meets (Builtin.«list.__eq__» ⟨[.ref a, .ref l], []⟩) (fun _ R s => K.In s.heap ∧ s.heap.get? l = some (instObj C dx) ∧ R (.ok (.ret .notImplemented)) s) :=
  .of_wp fun prog w A R s h => by
    obtain ⟨hp, g, d, tk, os⟩ := s; obtain ⟨X, hl, h⟩ := h
    have L := looks_subIn (M := model prog w) X hs
    wp_walk using wpAny_loadPart' hl, wpAny_load hl, L.at
    exact ⟨_, rfl, h⟩
theorem dec_tuple_eq {K : Frag} {a l C dx : Addr} (hs : subIn K (.ref C) (.type "tuple") = some false) : Meets (Builtin.«tuple.__eq__» ⟨[.ref a, .ref l], []⟩) (fun _ R s => K.In s.heap ∧ s.heap.get? l = some (instObj C dx) ∧ R (.ok (.ret .notImplemented)) s) :=
  .of_wp fun prog w A R s h => by
    obtain ⟨hp, g, d, tk, os⟩ := s; obtain ⟨X, hl, h⟩ := h
    have L := looks_subIn (M := model prog w) X hs
    wp_walk using wpAny_loadPart' hl, wpAny_load hl, L.at
    exact ⟨_, rfl, h⟩
theorem dec_dict_eq {K : Frag} {a l C dx : Addr} (hs : subIn K (.ref C) (.type "dict") = some false) : Meets (Builtin.«dict.__eq__» ⟨[.ref a, .ref l], []⟩) (fun _ R s => K.In s.heap ∧ s.heap.get? l = some (instObj C dx) ∧ R (.ok (.ret .notImplemented)) s) :=
  .of_wp fun prog w A R s h => by
    obtain ⟨hp, g, d, tk, os⟩ := s; obtain ⟨X, hl, h⟩ := h
    have L := looks_subIn (M := model prog w) X hs
    wp_walk using wpAny_loadPart' hl, wpAny_load hl, L.at
    exact ⟨_, rfl, h⟩
end PySem.W

set_option Elab.async false
set_option linter.all false
set_option maxRecDepth 100000
set_option maxHeartbeats 4000000
/-! o op x and x op o, o an object of an own class with the methods of both sides. -/
namespace OX
open PySem PySem.Spec PyProof.Rows L2
inductive KT
  | int | bl | non | str | lst | tup | dct
def KT.nm : KT → String
  | .int => "int" | .bl => "bool" | .non => "NoneType" | .str => "str" | .lst => "list" | .tup => "tuple" | .dct => "dict"
/-- values of built-in kinds -/
inductive KV : Value → KT → Prop
  | int (i : Int) (t : Tok) : KV (.int i t) .int
  | bl (b : Bool) : KV (.bool b) .bl
  | non : KV .none .non
  | str (x : Str) (t : Tok) : KV (.str x t) .str
  | lst (a : Addr) : KV (.ref a) .lst
  | tup (a : Addr) : KV (.ref a) .tup
  | dct (a : Addr) : KV (.ref a) .dct
inductive Kd (H : Hp) : V → KT → Prop
  | int (i : Int) : Kd H (.int i) .int
  | bl (b : Bool) : Kd H (.bl b) .bl
  | non : Kd H .non .non
  | str (x : Str) : Kd H (.str x) .str
  | lst {a : Addr} {xs : List V} (e : H a = some (.lst xs)) : Kd H (.ref a) .lst
  | tup {a : Addr} {xs : List V} (e : H a = some (.tup xs)) : Kd H (.ref a) .tup
  | dK {a : Addr} {kvs : List (Key × V)} (e : H a = some (.dK kvs)) : Kd H (.ref a) .dct
theorem Kd.keep {H H' : Hp} {x : V} {T : KT} (k : Kd H x T) (s : ∀ b o, H b = some o → H' b = some o) : Kd H' x T := by
  cases k with
  | int i => exact .int i
  | bl b => exact .bl b
  | non => exact .non
  | str x => exact .str x
  | lst e => exact .lst (s _ _ e)
  | tup e => exact .tup (s _ _ e)
  | dK e => exact .dK (s _ _ e)
/-- a's own method for the operation declines an object of the class -/
def Decl (P : Program) (w : World) (K : PySem.W.Frag) (C : Addr) (op : CmpOp) (T : KT) : Prop :=
  ∃ id, Slot T.nm (cmpInfo op).2.1 id ∧ ∀ (A : Around) (E : Value → Shared → Prop) (s : Shared) (v : Value) (l dx : Addr) (Q : Value → Shared → Prop), KV v T → s.TypeIs v T.nm → K.In s.heap → s.heap.get? l = some (PySem.W.instObj C dx) →
    Q .notImplemented s → wpAny (model P w) A (call (.builtin id) [v, .ref l]) Q E s
section
variable {P : Program} {w : World} {K : PySem.W.Frag} {C : Addr}
theorem decl_int {op : CmpOp} {id : String} {B : Builtin} (sl : Slot "int" (cmpInfo op).2.1 id) (en : entryFor table id = some B) (ar : ∀ a b, argsOk id ⟨[a, b], []⟩) (d : ∀ i t, PySem.W.DecI B (.int i t)) : Decl P w K C op .int := by
  refine ⟨id, sl, fun A E s v l dx Q k ty X hl q => ?_⟩
  cases k with
  | int i t => exact call_meets sl ty en (ar _ _) (d i t l C dx) ⟨hl, q⟩
theorem decl_lt : Decl P w K C .Lt .int := decl_int F.slot_int_lt F.entry_int_lt F.args_int_lt_2 PySem.W.dec_int_lt
theorem decl_le : Decl P w K C .LtE .int := decl_int F.slot_int_le F.entry_int_le F.args_int_le_2 PySem.W.dec_int_le
theorem decl_gt : Decl P w K C .Gt .int := decl_int F.slot_int_gt F.entry_int_gt F.args_int_gt_2 PySem.W.dec_int_gt
theorem decl_ge : Decl P w K C .GtE .int := decl_int F.slot_int_ge F.entry_int_ge F.args_int_ge_2 PySem.W.dec_int_ge
theorem decl_eq : Decl P w K C .Eq .int := decl_int F.slot_int_eq F.entry_int_eq F.args_int_eq_2 PySem.W.dec_int_eq
theorem decl_ne : Decl P w K C .NotEq .int := decl_int F.slot_int_ne F.entry_int_ne F.args_int_ne_2 PySem.W.dec_int_ne
theorem decl_bool : Decl P w K C .Eq .bl := by
  refine ⟨_, F.slot_bool_eq, fun A E s v l dx Q k ty X hl q => ?_⟩
  cases k with
  | bl b => exact call_meets F.slot_bool_eq ty F.entry_int_eq (F.args_int_eq_2 _ _) (PySem.W.dec_bool_eq b l C dx) ⟨hl, q⟩
theorem decl_none : Decl P w K C .Eq .non := by
  refine ⟨_, F.slot_NoneType_eq, fun A E s v l dx Q k ty X hl q => ?_⟩
  cases k with
  | non => exact call_meets F.slot_NoneType_eq ty F.entry_NoneType_eq (F.args_NoneType_eq_2 _ _) (PySem.W.dec_none_eq l C dx) ⟨hl, q⟩
theorem decl_str : Decl P w K C .Eq .str := by
  refine ⟨_, F.slot_str_eq, fun A E s v l dx Q k ty X hl q => ?_⟩
  cases k with
  | str b t => exact call_meets F.slot_str_eq ty F.entry_str_eq (F.args_str_eq_2 _ _) (PySem.W.dec_str_eq b t l C dx) ⟨hl, q⟩
theorem decl_list (h : PySem.W.subIn K (.ref C) (.type "list") = some false) : Decl P w K C .Eq .lst := by
  refine ⟨_, F.slot_list_eq, fun A E s v l dx Q k ty X hl q => ?_⟩
  cases k with
  | lst a => exact call_meets F.slot_list_eq ty F.entry_list_eq (F.args_list_eq_2 _ _) (PySem.W.dec_list_eq (dx := dx) h) ⟨X, hl, q⟩
theorem decl_tuple (h : PySem.W.subIn K (.ref C) (.type "tuple") = some false) : Decl P w K C .Eq .tup := by
  refine ⟨_, F.slot_tuple_eq, fun A E s v l dx Q k ty X hl q => ?_⟩
  cases k with
  | tup a => exact call_meets F.slot_tuple_eq ty F.entry_tuple_eq (F.args_tuple_eq_2 _ _) (PySem.W.dec_tuple_eq (dx := dx) h) ⟨X, hl, q⟩
theorem decl_dict (h : PySem.W.subIn K (.ref C) (.type "dict") = some false) : Decl P w K C .Eq .dct := by
  refine ⟨_, F.slot_dict_eq, fun A E s v l dx Q k ty X hl q => ?_⟩
  cases k with
  | dct a => exact call_meets F.slot_dict_eq ty F.entry_dict_eq (F.args_dict_eq_2 _ _) (PySem.W.dec_dict_eq (dx := dx) h) ⟨X, hl, q⟩
end
section
variable {X : Cx} {pins : List (Addr × Obj)} {σ : L2.St} {H : Hp} {s : Shared}
theorem Kd.val {x : V} {u : Value} {T : KT} (I : Inv X pins σ H s) (k : Kd H x T) (r : RelV x u) : KV u T ∧ s.TypeIs u T.nm := by
  cases k with
  | int i => obtain ⟨t, rfl⟩ := (show ∃ t, u = Value.int i t from r); exact ⟨.int i t, rfl⟩
  | bl b => cases (show u = Value.bool b from r); exact ⟨.bl b, rfl⟩
  | non => cases (show u = Value.none from r); exact ⟨.non, rfl⟩
  | str y => obtain ⟨t, rfl⟩ := (show ∃ t, u = Value.str y t from r); exact ⟨.str y t, rfl⟩
  | @lst a xs ea =>
    cases (show u = Value.ref a from r)
    obtain ⟨_, _, n, _, h1⟩ := (show ObjOk X.prog X.w H s.heap a (.lst xs) from I.hok a _ ea)
    exact ⟨.lst a, _, h1, rfl⟩
  | @tup a xs ea =>
    cases (show u = Value.ref a from r)
    obtain ⟨_, _, _, p⟩ := (show ObjOk X.prog X.w H s.heap a (.tup xs) from I.hok a _ ea)
    obtain ⟨o, h1, h2, _⟩ := p
    exact ⟨.tup a, o, h1, h2⟩
  | @dK a kvs ea =>
    cases (show u = Value.ref a from r)
    obtain ⟨_, _, vs, _, p⟩ := (show ObjOk X.prog X.w H s.heap a (.dK kvs) from I.hok a _ ea)
    obtain ⟨o, es, ep, h1, h2, _⟩ := p
    exact ⟨.dct a, o, h1, h2.1⟩
theorem look_ty {P : Program} {w : World} {u : Value} {T : KT} (k : KV u T) (ty : s.TypeIs u T.nm) : PySem.W.Looks (model P w) s.heap (typeOf u) (.type T.nm) := by
  intro A Q E s' kp q
  have ty2 : s'.TypeIs u T.nm := by
    cases k with
    | int i t => rfl
    | bl b => rfl
    | non => rfl
    | str x t => rfl
    | lst a => obtain ⟨o, h1, h2⟩ := ty; exact ⟨o, kp _ _ h1, h2⟩
    | tup a => obtain ⟨o, h1, h2⟩ := ty; exact ⟨o, kp _ _ h1, h2⟩
    | dct a => obtain ⟨o, h1, h2⟩ := ty; exact ⟨o, kp _ _ h1, h2⟩
  exact wpAny_typeOf ty2 q
theorem back_bl {Q : VK} {v : Value} {s' : Shared} (h : EP X pins σ (fun v H' => ∃ c, v = .bl c ∧ Q (.bl c) H') v s') : PySem.W.CmpBack (EP X pins σ Q) v s' := by
  obtain ⟨x, H', J, r, c, e, q⟩ := h
  subst e
  cases (show v = Value.bool c from r)
  exact ⟨.bl c, H', J, rfl, q⟩
def rOwnC (C : Addr) (Ls Rs : List KT) (spL spR : Sp) : R2 := fun x y H Q =>
  (∃ (a dx : Addr) (fs : List (Str × V)), x = .ref a ∧ H a = some (.ins C dx fs) ∧ ((∃ T, T ∈ Rs ∧ Kd H y T) ∨ ∃ (b dy : Addr) (gs : List (Str × V)), y = .ref b ∧ H b = some (.ins C dy gs)) ∧
    spL [.ref a, y] H (fun v H' => ∃ c, v = .bl c ∧ Q (.bl c) H') E0) ∨
  (∃ (b dy : Addr) (gs : List (Str × V)) (T : KT), y = .ref b ∧ H b = some (.ins C dy gs) ∧ T ∈ Ls ∧ Kd H x T ∧ spR [.ref b, x] H (fun v H' => ∃ c, v = .bl c ∧ Q (.bl c) H') E0)
variable {k : Nat} {f g C : Addr} {fd gd : FuncData} {ps qs : List Str} {spL spR : Sp} {Ls Rs : List KT} {op : CmpOp}
theorem op_own (hop : ∀ a b, compareOp op a b = richCompare op a b) (hs : PySem.W.findIn X.K (.ref C) (cmpInfo op).2.1 = some (some (.ref f))) (hf : PySem.W.isFn X.K (.ref f) = true) (F : FnOk X.prog X.w X.K X.mg X.base CX0 k f fd ps spL) (hb : Binds X.K fd ps [])
    (hs2 : PySem.W.findIn X.K (.ref C) (cmpInfo op).2.2 = some (some (.ref g))) (hf2 : PySem.W.isFn X.K (.ref g) = true) (G : FnOk X.prog X.w X.K X.mg X.base CX0 k g gd qs spR) (hb2 : Binds X.K gd qs [])
    (hR : ∀ T ∈ Rs, PySem.W.subIn X.K (.type T.nm) (.ref C) = some false) (hL : ∀ T ∈ Ls, PySem.W.subIn X.K (.ref C) (.type T.nm) = some false ∧ Decl X.prog X.w X.K C op T)
    (hr : Room k X.A) : OpR X (compareOp op) (rOwnC C Ls Rs spL spR) := by
  intro pins s σ H x y v u Q I rx ry h
  have hu : X.A.units < cLine := by have := hr.un; omega
  rw [hop]
  obtain ⟨m, fr⟩ := I.fr
  have hA : X.A.frames = some X.stack := I.ok.frames
  rcases h with ⟨a, dx, fs, rfl, ea, hy, q⟩ | ⟨b, dy, gs, T, rfl, eb, hT, hx, q⟩
  · cases (show v = Value.ref a from rx)
    obtain ⟨mA, O, _⟩ := ins_get I.hok ea
    obtain ⟨od, J, _⟩ := O.look
    have call := call_at F hr hA hb I (show Vals [.ref a, y] [.ref a, u] from .cons rfl (.cons ry .nil)) q
    have fin := wpAny_mono call (fun _ _ z => back_bl z) fun _ _ z => z
    rcases hy with ⟨T, hT, hy⟩ | ⟨b, dy, gs, rfl, eb⟩
    · obtain ⟨kv, ty⟩ := hy.val I ry
      exact PySem.W.cmp_K hu fr I.ok.mod.kin J (look_ty kv ty) (by unfold PySem.W.notFirst; rw [hR T hT]; simp) hs hf fin
    · cases (show u = Value.ref b from ry)
      obtain ⟨mB, O2, _⟩ := ins_get I.hok eb
      obtain ⟨od2, J2, _⟩ := O2.look
      exact PySem.W.cmp_K hu fr I.ok.mod.kin J J2.type (by unfold PySem.W.notFirst; simp) hs hf fin
  · cases (show u = Value.ref b from ry)
    obtain ⟨d0, z0, ne0, ob, _⟩ := (show ObjOk X.prog X.w H s.heap b (.ins C dy gs) from I.hok b _ eb)
    obtain ⟨mB, O2, _⟩ := ins_get I.hok eb
    obtain ⟨od2, J2, _⟩ := O2.look
    obtain ⟨kv, ty⟩ := hx.val I rx
    obtain ⟨hsub, id, sl, dc⟩ := hL T hT
    have call := call_at G hr hA hb2 I (show Vals [.ref b, x] [.ref b, v] from .cons rfl (.cons rx .nil)) q
    have fin := wpAny_mono call (fun _ _ z => back_bl z) fun _ _ z => z
    exact PySem.W.cmp_R hu I.kIn J2 ty hsub sl (fun Q' q' => dc _ _ _ _ _ _ _ kv ty I.kIn ob q') hs2 hf2 fin
end
end OX

set_option Elab.async false
set_option linter.all false
set_option maxRecDepth 100000
set_option maxHeartbeats 4000000
namespace K03
open PySem PySem.Spec PyProof.Rows L2 GX
def topS (i : Nat) : Stmt := PySem.Challenge.pw_drawclaims_k03_order_of_ratios.main.body.getD i (.Pass ⟨0, 0, 0, 0⟩)
abbrev s_is_integer : Stmt := topS 6
abbrev N_is_integer : List Str := ["value"]
theorem sc_is_integer : FnScope N_is_integer ["value"] (defScope s_is_integer) := ⟨rfl, rfl, rfl, by decide +kernel, rfl, by decide +kernel, by decide +kernel⟩
abbrev s_is_number : Stmt := topS 10
abbrev N_is_number : List Str := ["value"]
theorem sc_is_number : FnScope N_is_number ["value"] (defScope s_is_number) := ⟨rfl, rfl, rfl, by decide +kernel, rfl, by decide +kernel, by decide +kernel⟩
abbrev s__top_of : Stmt := topS 12
abbrev N__top_of : List Str := ["number"]
theorem sc__top_of : FnScope N__top_of ["number"] (defScope s__top_of) := ⟨rfl, rfl, rfl, by decide +kernel, rfl, by decide +kernel, by decide +kernel⟩
abbrev s__bottom_of : Stmt := topS 13
abbrev N__bottom_of : List Str := ["number"]
theorem sc__bottom_of : FnScope N__bottom_of ["number"] (defScope s__bottom_of) := ⟨rfl, rfl, rfl, by decide +kernel, rfl, by decide +kernel, by decide +kernel⟩
abbrev s__lead : Stmt := topS 16
abbrev N__lead : List Str := ["ratio", "number"]
theorem sc__lead : FnScope N__lead ["ratio", "number"] (defScope s__lead) := ⟨rfl, rfl, rfl, by decide +kernel, rfl, by decide +kernel, by decide +kernel⟩
abbrev s_q_purse : Stmt := topS 19
abbrev N_q_purse : List Str := ["_law_script", "_law_place", "_law_cell", "_law_number", "_law_mixed"]
theorem sc_q_purse : FnScope N_q_purse ["_law_script", "_law_place"] (defScope s_q_purse) := ⟨rfl, rfl, rfl, by decide +kernel, rfl, by decide +kernel, by decide +kernel⟩
abbrev s_q_draw : Stmt := topS 20
abbrev N_q_draw : List Str := ["_law_purse_here", "_law_many", "_law_mixed", "_law_step", "_law_digit"]
theorem sc_q_draw : FnScope N_q_draw ["_law_purse_here", "_law_many"] (defScope s_q_draw) := ⟨rfl, rfl, rfl, by decide +kernel, rfl, by decide +kernel, by decide +kernel⟩
abbrev s_q_great : Stmt := topS 21
abbrev N_q_great : List Str := ["_law_purse_here", "_law_many", "_law_made", "_law_turn"]
theorem sc_q_great : FnScope N_q_great ["_law_purse_here", "_law_many"] (defScope s_q_great) := ⟨rfl, rfl, rfl, by decide +kernel, rfl, by decide +kernel, by decide +kernel⟩
abbrev s_q_integer : Stmt := topS 22
abbrev N_q_integer : List Str := ["_law_purse_here", "_law_way", "_law_sign"]
theorem sc_q_integer : FnScope N_q_integer ["_law_purse_here"] (defScope s_q_integer) := ⟨rfl, rfl, rfl, by decide +kernel, rfl, by decide +kernel, by decide +kernel⟩
abbrev s_q_told : Stmt := topS 23
abbrev N_q_told : List Str := ["_law_one", "_law_two"]
theorem sc_q_told : FnScope N_q_told ["_law_one", "_law_two"] (defScope s_q_told) := ⟨rfl, rfl, rfl, by decide +kernel, rfl, by decide +kernel, by decide +kernel⟩
abbrev s_q_due : Stmt := topS 24
abbrev N_q_due : List Str := ["_law_left", "_law_right_here"]
theorem sc_q_due : FnScope N_q_due ["_law_left", "_law_right_here"] (defScope s_q_due) := ⟨rfl, rfl, rfl, by decide +kernel, rfl, by decide +kernel, by decide +kernel⟩
abbrev s_q_second : Stmt := topS 25
abbrev N_q_second : List Str := ["_law_purse_here", "_law_top", "_law_bottom", "_law_way", "_law_spare"]
theorem sc_q_second : FnScope N_q_second ["_law_purse_here", "_law_top", "_law_bottom"] (defScope s_q_second) := ⟨rfl, rfl, rfl, by decide +kernel, rfl, by decide +kernel, by decide +kernel⟩
abbrev s_q_right : Stmt := topS 26
abbrev N_q_right : List Str := ["_law_purse_here", "_law_top", "_law_bottom", "_law_other", "_law_under", "_law_one", "_law_two", "_law_near", "_law_number"]
theorem sc_q_right : FnScope N_q_right ["_law_purse_here"] (defScope s_q_right) := ⟨rfl, rfl, rfl, by decide +kernel, rfl, by decide +kernel, by decide +kernel⟩
abbrev s_q_other_kinds : Stmt := topS 27
abbrev N_q_other_kinds : List Str := ["_law_number", "_law_one", "_law_thing"]
theorem sc_q_other_kinds : FnScope N_q_other_kinds [] (defScope s_q_other_kinds) := ⟨rfl, rfl, rfl, by decide +kernel, rfl, by decide +kernel, by decide +kernel⟩
abbrev s_law : Stmt := topS 28
abbrev N_law : List Str := ["_law_script", "_law_place"]
theorem sc_law : FnScope N_law ["_law_script"] (defScope s_law) := ⟨rfl, rfl, rfl, by decide +kernel, rfl, by decide +kernel, by decide +kernel⟩
abbrev s_Ratio___init__ : Stmt := inClass (topS 11) 0
abbrev N_Ratio___init__ : List Str := ["self", "top", "bottom", "common"]
theorem sc_Ratio___init__ : FnScope N_Ratio___init__ ["self", "top", "bottom"] (defScope s_Ratio___init__) := ⟨rfl, rfl, rfl, by decide +kernel, rfl, by decide +kernel, by decide +kernel⟩
abbrev s_Ratio___lt__ : Stmt := inClass (topS 11) 9
abbrev N_Ratio___lt__ : List Str := ["self", "other"]
theorem sc_Ratio___lt__ : FnScope N_Ratio___lt__ ["self", "other"] (defScope s_Ratio___lt__) := ⟨rfl, rfl, rfl, by decide +kernel, rfl, by decide +kernel, by decide +kernel⟩
abbrev s_Ratio___le__ : Stmt := inClass (topS 11) 10
abbrev N_Ratio___le__ : List Str := ["self", "other"]
theorem sc_Ratio___le__ : FnScope N_Ratio___le__ ["self", "other"] (defScope s_Ratio___le__) := ⟨rfl, rfl, rfl, by decide +kernel, rfl, by decide +kernel, by decide +kernel⟩
abbrev s_Ratio___gt__ : Stmt := inClass (topS 11) 11
abbrev N_Ratio___gt__ : List Str := ["self", "other"]
theorem sc_Ratio___gt__ : FnScope N_Ratio___gt__ ["self", "other"] (defScope s_Ratio___gt__) := ⟨rfl, rfl, rfl, by decide +kernel, rfl, by decide +kernel, by decide +kernel⟩
abbrev s_Ratio___ge__ : Stmt := inClass (topS 11) 12
abbrev N_Ratio___ge__ : List Str := ["self", "other"]
theorem sc_Ratio___ge__ : FnScope N_Ratio___ge__ ["self", "other"] (defScope s_Ratio___ge__) := ⟨rfl, rfl, rfl, by decide +kernel, rfl, by decide +kernel, by decide +kernel⟩
abbrev s_Ratio___eq__ : Stmt := inClass (topS 11) 13
abbrev N_Ratio___eq__ : List Str := ["self", "other"]
theorem sc_Ratio___eq__ : FnScope N_Ratio___eq__ ["self", "other"] (defScope s_Ratio___eq__) := ⟨rfl, rfl, rfl, by decide +kernel, rfl, by decide +kernel, by decide +kernel⟩
abbrev s_Ratio___ne__ : Stmt := inClass (topS 11) 14
abbrev N_Ratio___ne__ : List Str := ["self", "other"]
theorem sc_Ratio___ne__ : FnScope N_Ratio___ne__ ["self", "other"] (defScope s_Ratio___ne__) := ⟨rfl, rfl, rfl, by decide +kernel, rfl, by decide +kernel, by decide +kernel⟩
structure Txt (K : PySem.W.Frag) (mg : Str → Option Value) where
  z_isinstance : mg "isinstance" = none
  z_int : mg "int" = none
  z_bool : mg "bool" = none
  z_str : mg "str" = none
  z_len : mg "len" = none
  z_range : mg "range" = none
  z_abs : mg "abs" = none
  z_divmod : mg "divmod" = none
  z_repr : mg "repr" = none
  z_max : mg "max" = none
  z_min : mg "min" = none
  C : Addr
  g_Ratio : mg "Ratio" = some (.ref C)
  g_gcd : mg "gcd" = some (.builtin "math.gcd")
  cl : Cls K C
  nT : NoAttr K C "top"
  nB : NoAttr K C "bottom"
  nF : NoAttr K C "floor"
  a_is_integer : Addr
  fd_is_integer : FuncData
  g_is_integer : mg "is_integer" = some (.ref a_is_integer)
  F_is_integer : Fun K "is_integer" "is_integer" s_is_integer a_is_integer fd_is_integer
  a_is_number : Addr
  fd_is_number : FuncData
  g_is_number : mg "is_number" = some (.ref a_is_number)
  F_is_number : Fun K "is_number" "is_number" s_is_number a_is_number fd_is_number
  a__top_of : Addr
  fd__top_of : FuncData
  g__top_of : mg "_top_of" = some (.ref a__top_of)
  F__top_of : Fun K "_top_of" "_top_of" s__top_of a__top_of fd__top_of
  a__bottom_of : Addr
  fd__bottom_of : FuncData
  g__bottom_of : mg "_bottom_of" = some (.ref a__bottom_of)
  F__bottom_of : Fun K "_bottom_of" "_bottom_of" s__bottom_of a__bottom_of fd__bottom_of
  a__lead : Addr
  fd__lead : FuncData
  g__lead : mg "_lead" = some (.ref a__lead)
  F__lead : Fun K "_lead" "_lead" s__lead a__lead fd__lead
  a_q_purse : Addr
  fd_q_purse : FuncData
  g_q_purse : mg "_law_purse" = some (.ref a_q_purse)
  F_q_purse : Fun K "_law_purse" "_law_purse" s_q_purse a_q_purse fd_q_purse
  a_q_draw : Addr
  fd_q_draw : FuncData
  g_q_draw : mg "_law_draw" = some (.ref a_q_draw)
  F_q_draw : Fun K "_law_draw" "_law_draw" s_q_draw a_q_draw fd_q_draw
  a_q_great : Addr
  fd_q_great : FuncData
  g_q_great : mg "_law_great" = some (.ref a_q_great)
  F_q_great : Fun K "_law_great" "_law_great" s_q_great a_q_great fd_q_great
  a_q_integer : Addr
  fd_q_integer : FuncData
  g_q_integer : mg "_law_integer" = some (.ref a_q_integer)
  F_q_integer : Fun K "_law_integer" "_law_integer" s_q_integer a_q_integer fd_q_integer
  a_q_told : Addr
  fd_q_told : FuncData
  g_q_told : mg "_law_told" = some (.ref a_q_told)
  F_q_told : Fun K "_law_told" "_law_told" s_q_told a_q_told fd_q_told
  a_q_due : Addr
  fd_q_due : FuncData
  g_q_due : mg "_law_due" = some (.ref a_q_due)
  F_q_due : Fun K "_law_due" "_law_due" s_q_due a_q_due fd_q_due
  a_q_second : Addr
  fd_q_second : FuncData
  g_q_second : mg "_law_second" = some (.ref a_q_second)
  F_q_second : Fun K "_law_second" "_law_second" s_q_second a_q_second fd_q_second
  a_q_right : Addr
  fd_q_right : FuncData
  g_q_right : mg "_law_right" = some (.ref a_q_right)
  F_q_right : Fun K "_law_right" "_law_right" s_q_right a_q_right fd_q_right
  a_q_other_kinds : Addr
  fd_q_other_kinds : FuncData
  g_q_other_kinds : mg "_law_other_kinds" = some (.ref a_q_other_kinds)
  F_q_other_kinds : Fun K "_law_other_kinds" "_law_other_kinds" s_q_other_kinds a_q_other_kinds fd_q_other_kinds
  a_law : Addr
  fd_law : FuncData
  F_law : Fun K "law" "law" s_law a_law fd_law
  a_Ratio___init__ : Addr
  fd_Ratio___init__ : FuncData
  F_Ratio___init__ : FunD K "__init__" "Ratio.__init__" (defArgs s_Ratio___init__) (defBody s_Ratio___init__) (defScope s_Ratio___init__) [.int 1] [] a_Ratio___init__ fd_Ratio___init__
  a_Ratio___lt__ : Addr
  fd_Ratio___lt__ : FuncData
  F_Ratio___lt__ : Fun K "__lt__" "Ratio.__lt__" s_Ratio___lt__ a_Ratio___lt__ fd_Ratio___lt__
  a_Ratio___le__ : Addr
  fd_Ratio___le__ : FuncData
  F_Ratio___le__ : Fun K "__le__" "Ratio.__le__" s_Ratio___le__ a_Ratio___le__ fd_Ratio___le__
  a_Ratio___gt__ : Addr
  fd_Ratio___gt__ : FuncData
  F_Ratio___gt__ : Fun K "__gt__" "Ratio.__gt__" s_Ratio___gt__ a_Ratio___gt__ fd_Ratio___gt__
  a_Ratio___ge__ : Addr
  fd_Ratio___ge__ : FuncData
  F_Ratio___ge__ : Fun K "__ge__" "Ratio.__ge__" s_Ratio___ge__ a_Ratio___ge__ fd_Ratio___ge__
  a_Ratio___eq__ : Addr
  fd_Ratio___eq__ : FuncData
  F_Ratio___eq__ : Fun K "__eq__" "Ratio.__eq__" s_Ratio___eq__ a_Ratio___eq__ fd_Ratio___eq__
  a_Ratio___ne__ : Addr
  fd_Ratio___ne__ : FuncData
  F_Ratio___ne__ : Fun K "__ne__" "Ratio.__ne__" s_Ratio___ne__ a_Ratio___ne__ fd_Ratio___ne__
  mkR : Mk K C a_Ratio___init__
  o_lt : PySem.W.findIn K (.ref C) "__lt__" = some (some (.ref a_Ratio___lt__))
  f_lt : PySem.W.isFn K (.ref a_Ratio___lt__) = true
  o_le : PySem.W.findIn K (.ref C) "__le__" = some (some (.ref a_Ratio___le__))
  f_le : PySem.W.isFn K (.ref a_Ratio___le__) = true
  o_gt : PySem.W.findIn K (.ref C) "__gt__" = some (some (.ref a_Ratio___gt__))
  f_gt : PySem.W.isFn K (.ref a_Ratio___gt__) = true
  o_ge : PySem.W.findIn K (.ref C) "__ge__" = some (some (.ref a_Ratio___ge__))
  f_ge : PySem.W.isFn K (.ref a_Ratio___ge__) = true
  o_eq : PySem.W.findIn K (.ref C) "__eq__" = some (some (.ref a_Ratio___eq__))
  f_eq : PySem.W.isFn K (.ref a_Ratio___eq__) = true
  o_ne : PySem.W.findIn K (.ref C) "__ne__" = some (some (.ref a_Ratio___ne__))
  f_ne : PySem.W.isFn K (.ref a_Ratio___ne__) = true
  ha : PySem.W.findIn K (.ref C) "__class__" = some (some (.builtin "object.__class__"))
  hn : PySem.W.specialIn K (.builtin "object.__class__") "__get__" = some (some (.builtin "getset_descriptor.__get__"))
  ht : PySem.W.takesIn K (.builtin "object.__class__") = some true
  hm : PySem.W.mroIn K C (.type "object") = some true
  kCC : PySem.W.kitOne K (.ref C) (.ref C) = some true
  kCI : PySem.W.kitOne K (.ref C) (.type "int") = some false
  sT : ∀ T : OX.KT, PySem.W.subIn K (.type T.nm) (.ref C) = some false
  sC : ∀ T : OX.KT, PySem.W.subIn K (.ref C) (.type T.nm) = some false
  kT : ∀ T : OX.KT, PySem.W.kitOne K (.type T.nm) (.ref C) = some false
section
variable {P : Program} {w : World} {K : PySem.W.Frag} {mg : Str → Option Value} {base : Heap}
theorem b_is_integer (T : Txt K mg) : Binds K T.fd_is_integer ["value"] [] := T.F_is_integer.binds fun _ _ _ _ _ _ us hl => match us, hl with | [_], _ => rfl
theorem b_is_number (T : Txt K mg) : Binds K T.fd_is_number ["value"] [] := T.F_is_number.binds fun _ _ _ _ _ _ us hl => match us, hl with | [_], _ => rfl
theorem b__top_of (T : Txt K mg) : Binds K T.fd__top_of ["number"] [] := T.F__top_of.binds fun _ _ _ _ _ _ us hl => match us, hl with | [_], _ => rfl
theorem b__bottom_of (T : Txt K mg) : Binds K T.fd__bottom_of ["number"] [] := T.F__bottom_of.binds fun _ _ _ _ _ _ us hl => match us, hl with | [_], _ => rfl
theorem b__lead (T : Txt K mg) : Binds K T.fd__lead ["ratio", "number"] [] := T.F__lead.binds fun _ _ _ _ _ _ us hl => match us, hl with | [_, _], _ => rfl
theorem b_q_purse (T : Txt K mg) : Binds K T.fd_q_purse ["_law_script", "_law_place"] [] := T.F_q_purse.binds fun _ _ _ _ _ _ us hl => match us, hl with | [_, _], _ => rfl
theorem b_q_draw (T : Txt K mg) : Binds K T.fd_q_draw ["_law_purse_here", "_law_many"] [] := T.F_q_draw.binds fun _ _ _ _ _ _ us hl => match us, hl with | [_, _], _ => rfl
theorem b_q_great (T : Txt K mg) : Binds K T.fd_q_great ["_law_purse_here", "_law_many"] [] := T.F_q_great.binds fun _ _ _ _ _ _ us hl => match us, hl with | [_, _], _ => rfl
theorem b_q_integer (T : Txt K mg) : Binds K T.fd_q_integer ["_law_purse_here"] [] := T.F_q_integer.binds fun _ _ _ _ _ _ us hl => match us, hl with | [_], _ => rfl
theorem b_q_told (T : Txt K mg) : Binds K T.fd_q_told ["_law_one", "_law_two"] [] := T.F_q_told.binds fun _ _ _ _ _ _ us hl => match us, hl with | [_, _], _ => rfl
theorem b_q_due (T : Txt K mg) : Binds K T.fd_q_due ["_law_left", "_law_right_here"] [] := T.F_q_due.binds fun _ _ _ _ _ _ us hl => match us, hl with | [_, _], _ => rfl
theorem b_q_second (T : Txt K mg) : Binds K T.fd_q_second ["_law_purse_here", "_law_top", "_law_bottom"] [] := T.F_q_second.binds fun _ _ _ _ _ _ us hl => match us, hl with | [_, _, _], _ => rfl
theorem b_q_right (T : Txt K mg) : Binds K T.fd_q_right ["_law_purse_here"] [] := T.F_q_right.binds fun _ _ _ _ _ _ us hl => match us, hl with | [_], _ => rfl
theorem b_q_other_kinds (T : Txt K mg) : Binds K T.fd_q_other_kinds [] [] := T.F_q_other_kinds.binds fun _ _ _ _ _ _ us hl => match us, hl with | [], _ => rfl
theorem b_law (T : Txt K mg) : Binds K T.fd_law ["_law_script"] [] := T.F_law.binds fun _ _ _ _ _ _ us hl => match us, hl with | [_], _ => rfl
theorem b_Ratio___lt__ (T : Txt K mg) : Binds K T.fd_Ratio___lt__ ["self", "other"] [] := T.F_Ratio___lt__.binds fun _ _ _ _ _ _ us hl => match us, hl with | [_, _], _ => rfl
theorem b_Ratio___le__ (T : Txt K mg) : Binds K T.fd_Ratio___le__ ["self", "other"] [] := T.F_Ratio___le__.binds fun _ _ _ _ _ _ us hl => match us, hl with | [_, _], _ => rfl
theorem b_Ratio___gt__ (T : Txt K mg) : Binds K T.fd_Ratio___gt__ ["self", "other"] [] := T.F_Ratio___gt__.binds fun _ _ _ _ _ _ us hl => match us, hl with | [_, _], _ => rfl
theorem b_Ratio___ge__ (T : Txt K mg) : Binds K T.fd_Ratio___ge__ ["self", "other"] [] := T.F_Ratio___ge__.binds fun _ _ _ _ _ _ us hl => match us, hl with | [_, _], _ => rfl
theorem b_Ratio___eq__ (T : Txt K mg) : Binds K T.fd_Ratio___eq__ ["self", "other"] [] := T.F_Ratio___eq__.binds fun _ _ _ _ _ _ us hl => match us, hl with | [_, _], _ => rfl
theorem b_Ratio___ne__ (T : Txt K mg) : Binds K T.fd_Ratio___ne__ ["self", "other"] [] := T.F_Ratio___ne__.binds fun _ _ _ _ _ _ us hl => match us, hl with | [_, _], _ => rfl
end
end K03

set_option Elab.async false
set_option linter.all false
set_option maxRecDepth 100000
set_option maxHeartbeats 4000000
namespace K03
open PySem PySem.Spec PyProof.Rows L2 GX OX
/-! ### numbers -/
def spGreat : Sp := fun vs H Q _ => ∃ (a : Addr) (k : Nat), vs = [.ref a, .int k] ∧ Bag H a ∧ k ≤ 10 ∧
  ∀ (v : Int) H', 0 ≤ v → v < 10 ^ (6 * k) → Bag H' a → But a H H' → Q (.int v) H'
def spInteger : Sp := fun vs H Q _ => ∃ a : Addr, vs = [.ref a] ∧ Bag H a ∧ ∀ (n : Int) H', n.natAbs < 10 ^ 60 → Bag H' a → But a H H' → Q (.int n) H'
def spLowest : Sp := fun vs H Q _ => ∃ t b : Int, vs = [.int t, .int b] ∧ 0 ≤ b ∧ Q (.bl (Nat.gcd t.natAbs b.natAbs == 1)) H
theorem pow_up {v d : Int} {k : Nat} (h0 : 0 ≤ v) (h1 : v < 10 ^ (6 * k)) (d0 : 0 ≤ d) (d1 : d < 10 ^ 6) : 0 ≤ v * 10 ^ 6 + d ∧ v * 10 ^ 6 + d < 10 ^ (6 * (k + 1)) := by
  have e : (10 : Int) ^ (6 * (k + 1)) = 10 ^ (6 * k) * 10 ^ 6 := by
    rw [← Int.pow_add]
    rfl
  have h2 : v * 10 ^ 6 ≤ (10 ^ (6 * k) - 1) * 10 ^ 6 := Int.mul_le_mul_of_nonneg_right (by omega) (by decide)
  rw [e]
  generalize (10 : Int) ^ (6 * k) = p at *
  have e6 : (10 : Int) ^ 6 = 1000000 := by decide
  rw [e6] at *
  omega
theorem pow_le10 {k : Nat} (h : k ≤ 10) : (10 : Int) ^ (6 * k) ≤ 10 ^ 60 := by
  have e : ((10 : Nat) : Int) ^ (6 * k) ≤ ((10 : Nat) : Int) ^ 60 := by
    have := Nat.pow_le_pow_right (show 0 < 10 by decide) (show 6 * k ≤ 60 by omega)
    norm_cast
  exact e
section
variable {P : Program} {w : World} {K : PySem.W.Frag} {mg : Str → Option Value} {base : Heap}
theorem ok_is_integer (T : Txt K mg) : FnOk P w K mg base CX0 1 T.a_is_integer T.fd_is_integer ["value"] (spIsI K) := by
  refine T.F_is_integer.ok sc_is_integer (fun vs H Q E h => ?_) (fun cdv A outer s H vs Q E hr h => ?_)
  · obtain ⟨x, rfl, _⟩ := h
    rfl
  · obtain ⟨x, rfl, ⟨n, b, c, ty, k1, k2, e⟩, q⟩ := h
    refine ⟨_, (pss_one (ps_ret (pe_and (pe_callB call_isi (by rfl) T.z_isinstance (by decide +kernel) (pa_cons (pv 0) (pa_cons (pe_bltn (v := .ty "int") (by rfl) T.z_int (by decide +kernel) rfl) pa_nil))) (pe_one (pe_not (pe_callB call_isi (by rfl) T.z_isinstance (by decide +kernel) (pa_cons (pv 0) (pa_cons (pe_bltn (v := .ty "bool") (by rfl) T.z_bool (by decide +kernel) rfl) pa_nil)))))))), ?_⟩
    refine ⟨x, rfl, x, .ty "int", .type n, .type "int", b, rfl, .ty "int", ty, k1, b, rfl, ?_⟩
    rw [← e] at q
    cases b with
    | false => exact iteF q
    | true => exact iteT ⟨x, rfl, x, .ty "bool", .type n, .type "bool", c, rfl, .ty "bool", ty, k2, c, rfl, q⟩
theorem ok_q_purse (T : Txt K mg) : FnOk P w K mg base CX0 1 T.a_q_purse T.fd_q_purse ["_law_script", "_law_place"] (spPurse K) := by
  refine T.F_q_purse.ok sc_q_purse (fun vs H Q E h => ?_) (fun cdv A outer s H vs Q E hr h => ?_)
  · obtain ⟨a, ns, k, rfl, _⟩ := h
    rfl
  · obtain ⟨a, ns, k, rfl, S, hl, hk, q⟩ := h
    refine ⟨_, (pss_cons (ps_set (i := 2) sc_q_purse.nd rfl (Or.inl rfl) (pe_op op_add (pe_op op_mul pe_int (pe_callB call_len_seq (by rfl) T.z_len (by decide +kernel) (pa_cons (pv 0) pa_nil))) (pe_op op_mul pe_int (pv 1))))
      (pss_cons (ps_for PassesOwn.never rfl (pi_list (pe_slice sl_list (pv 0) po_none (po_some pe_int))) (pg_name (i := 3) sc_q_purse.nd rfl (Or.inl rfl)) (pss_one (ps_set (i := 2) sc_q_purse.nd rfl (Or.inl rfl) (pe_op op_mod (pe_callTy call_int1 (by rfl) T.z_int (by decide +kernel) (pa_cons (pe_op op_add (pe_op op_mul (pv 2) pe_int) (pv 3)) pa_nil)) pe_int))))
      (pss_cons (ps_if (pt_cmpR op_lt (pv 1) (pe_callB call_len_seq (by rfl) T.z_len (by decide +kernel) (pa_cons (pv 0) pa_nil)) (nomark _)) (pss_one (ps_set (i := 2) sc_q_purse.nd rfl (Or.inl rfl) (pe_ix ix_list (pv 0) (pv 1) (fun _ _ => rfl)))) pss_nil)
      (pss_cons (ps_set (i := 4) sc_q_purse.nd rfl (Or.inl rfl) (pe_op op_pow (pe_callTy call_int1 (by rfl) T.z_int (by decide +kernel) (pa_cons (pe_op op_add (pe_op op_mod (pe_callTy call_int1 (by rfl) T.z_int (by decide +kernel) (pa_cons (pv 2) pa_nil)) pe_int) pe_int) pa_nil)) pe_int))
      (pss_one (ps_ret (pe_lst (pa_cons (pe_op op_mod (pe_callTy call_int1 (by rfl) T.z_int (by decide +kernel) (pa_cons (pv 4) pa_nil)) pe_int) (pa_cons (pe_ifExp (PW.pt (pw_or (pt_cmpR op_lt (pv 2) pe_int (nomark _)) (pw_or1 (pt_cmpR op_ge (pv 2) (pe_op op_pow pe_int pe_int) (nomark _))))) (pe_callB call_abs (by rfl) T.z_abs (by decide +kernel) (pa_cons (pv 2) pa_nil)) pe_int) (pa_cons pe_int pa_nil)))))))))), ?_⟩
    have hl2 : (((ns.map V.int).length : Nat) : Int) ≤ 63 := by
      rw [List.length_map]
      omega
    refine ⟨_, rfl, a, _, rfl, .inl S, 7, _, rfl, rfl, .inl ⟨by decide, by decide⟩, _, rfl, 11, k, rfl, rfl, .inl ⟨by decide, by decide⟩, _, _, rfl, rfl, ?_⟩
    refine ⟨_, rfl, 3, rfl, a, _, rfl, S, fun p hp => ⟨p, rfl, ⟨_, .inl (.inl upd_same)⟩, ?_⟩⟩
    refine for_list (K := K) (a := p) (xs := cutV (ns.map V.int) none (some 3)) (fun i σ H' => ∃ (t : Int) (y : Option V), σ = [some (.ref a), some (.int k), some (.int t), y, none] ∧ 0 ≤ t ∧ t < 2147483629 ∧ Same H H' ∧ H' p = some (.lst (cutV (ns.map V.int) none (some 3))))
      ⟨_, none, rfl, by omega, by omega, same_new hp, upd_same⟩ (fun i σ H' _ h => ?_) ?_ ?_
    · obtain ⟨t, y, _, _, _, _, e⟩ := h
      exact SqL.of e
    · rintro i x σ H' hx ⟨t, y, rfl, t0, t1, sm, e⟩
      obtain ⟨z, rfl⟩ := cut_ints hx
      refine ⟨_, rfl, t, 60013, rfl, rfl, .inl ⟨by omega, by omega⟩, _, rfl, _, z, rfl, rfl, .inl ⟨_, rfl, _, 2147483629, rfl, rfl, (by show (0 : Int) < 2147483629; decide), ?_⟩⟩
      exact ⟨_, some (.int z), rfl, Int.emod_nonneg _ (by decide), Int.emod_lt_of_pos _ (by decide), sm, e⟩
    · rintro σ H' ⟨t, y, rfl, t0, t1, sm, e⟩
      refine ⟨_, rfl, _, rfl, a, _, rfl, .inl (sm.seq S), _, _, rfl, rfl, _, rfl, ite2 (fun c => ?_) (fun c => ?_)⟩
      · have c2 := of_decide_eq_true c
        rw [List.length_map] at c2
        have hj : k < ns.length := by omega
        have g : (ns.map V.int)[k]? = some (.int ns[k]) := by
          rw [List.getElem?_map, List.getElem?_eq_getElem hj]
          rfl
        refine ⟨_, rfl, _, rfl, a, _, k, _, rfl, rfl, sm.seq S, atI_nat g, ?_⟩
        generalize ns[k] = z
        refine ⟨_, rfl, .inl ⟨z, rfl, z, 2147483629, rfl, rfl, (by show (0 : Int) < 2147483629; decide), _, 314159, rfl, rfl, .inl ⟨_, rfl, _, 3, rfl, rfl, ⟨by decide, by decide, ?_⟩, ?_⟩⟩⟩
        · have h1 : 0 ≤ z % 2147483629 := Int.emod_nonneg _ (by decide)
          have h2 : z % 2147483629 < 2147483629 := Int.emod_lt_of_pos _ (by decide)
          have h3 : (2 : Nat) ^ 64 = 18446744073709551616 := by decide
          show (z % 2147483629 + 314159).natAbs < 2 ^ 64
          omega
        · have fin : ∀ (m v : Int) (l : Addr), 0 ≤ v → H' l = none → Q (.ref l) (upd H' l (.lst [.int (m % 2147483629), .int v, .int 0])) := fun m v l hv hn =>
            q l _ (sm.free hn) (sm.trans (same_new hn)) ⟨_, v, 0, upd_same, hv⟩
          have abs0 : 0 ≤ (if z < 0 then -z else z) := by split <;> omega
          refine ⟨_, rfl, .inl ⟨_, rfl, _, 2147483629, rfl, rfl, (by show (0 : Int) < 2147483629; decide), _, rfl, z, 0, rfl, rfl, _, rfl, ite2 (fun _ => ?_) (fun _ => ?_)⟩⟩
          · exact iteT ⟨_, rfl, z, rfl, (by show 3 ≤ sizeLine; decide), fun l hn => fin _ _ l abs0 hn⟩
          · refine ⟨_, rfl, 10, 18, rfl, rfl, ⟨by decide, by decide, by decide⟩, z, _, rfl, rfl, _, rfl, ite2 (fun _ => ?_) (fun _ => ?_)⟩
            · exact ⟨_, rfl, z, rfl, (by show 3 ≤ sizeLine; decide), fun l hn => fin _ _ l abs0 hn⟩
            · exact ⟨(by show 3 ≤ sizeLine; decide), fun l hn => fin _ _ l (Int.le_refl 0) hn⟩
      · generalize t = z
        refine ⟨_, rfl, .inl ⟨z, rfl, z, 2147483629, rfl, rfl, (by show (0 : Int) < 2147483629; decide), _, 314159, rfl, rfl, .inl ⟨_, rfl, _, 3, rfl, rfl, ⟨by decide, by decide, ?_⟩, ?_⟩⟩⟩
        · have h1 : 0 ≤ z % 2147483629 := Int.emod_nonneg _ (by decide)
          have h2 : z % 2147483629 < 2147483629 := Int.emod_lt_of_pos _ (by decide)
          have h3 : (2 : Nat) ^ 64 = 18446744073709551616 := by decide
          show (z % 2147483629 + 314159).natAbs < 2 ^ 64
          omega
        · have fin : ∀ (m v : Int) (l : Addr), 0 ≤ v → H' l = none → Q (.ref l) (upd H' l (.lst [.int (m % 2147483629), .int v, .int 0])) := fun m v l hv hn =>
            q l _ (sm.free hn) (sm.trans (same_new hn)) ⟨_, v, 0, upd_same, hv⟩
          have abs0 : 0 ≤ (if z < 0 then -z else z) := by split <;> omega
          refine ⟨_, rfl, .inl ⟨_, rfl, _, 2147483629, rfl, rfl, (by show (0 : Int) < 2147483629; decide), _, rfl, z, 0, rfl, rfl, _, rfl, ite2 (fun _ => ?_) (fun _ => ?_)⟩⟩
          · exact iteT ⟨_, rfl, z, rfl, (by show 3 ≤ sizeLine; decide), fun l hn => fin _ _ l abs0 hn⟩
          · refine ⟨_, rfl, 10, 18, rfl, rfl, ⟨by decide, by decide, by decide⟩, z, _, rfl, rfl, _, rfl, ite2 (fun _ => ?_) (fun _ => ?_)⟩
            · exact ⟨_, rfl, z, rfl, (by show 3 ≤ sizeLine; decide), fun l hn => fin _ _ l abs0 hn⟩
            · exact ⟨(by show 3 ≤ sizeLine; decide), fun l hn => fin _ _ l (Int.le_refl 0) hn⟩
theorem ok_q_draw (T : Txt K mg) : FnOk P w K mg base CX0 1 T.a_q_draw T.fd_q_draw ["_law_purse_here", "_law_many"] spTake := by
  refine T.F_q_draw.ok sc_q_draw (fun vs H Q E h => ?_) (fun cdv A outer s H vs Q E hr h => ?_)
  · obtain ⟨a, m, rfl, _⟩ := h
    rfl
  · obtain ⟨a, m, rfl, ⟨z, g, c, ha, hg⟩, m0, m1, q⟩ := h
    refine ⟨_, (pss_cons (ps_asg (pe_op op_add (pe_ix ix_list (pv 0) pe_int (fun _ _ => rfl)) pe_int) (pg_sub (pv 0) pe_int set_list))
      (pss_cons (ps_set (i := 2) sc_q_draw.nd rfl (Or.inl rfl) (pe_callTy call_int1 (by rfl) T.z_int (by decide +kernel) (pa_cons (pe_ix ix_list (pv 0) pe_int (fun _ _ => rfl)) pa_nil)))
      (pss_cons (ps_set (i := 3) sc_q_draw.nd rfl (Or.inl rfl) (pe_op op_add (pe_op op_mod (pe_callTy call_int1 (by rfl) T.z_int (by decide +kernel) (pa_cons (pv 2) pa_nil)) pe_int) pe_int))
      (pss_cons (ps_asg (pe_op op_mod (pe_callTy call_int1 (by rfl) T.z_int (by decide +kernel) (pa_cons (pe_op op_add (pe_op op_add (pe_op op_mul (pv 2) (pv 3)) (pe_op op_mul pe_int (pe_ix ix_list (pv 0) pe_int (fun _ _ => rfl)))) pe_int) pa_nil)) pe_int) (pg_sub (pv 0) pe_int set_list))
      (pss_cons (ps_if (pt_cmpR op_gt (pe_ix ix_list (pv 0) pe_int (fun _ _ => rfl)) pe_int (nomark _)) (pss_cons (ps_asg (pe_callB call_divmodW (by rfl) T.z_divmod (by decide +kernel) (pa_cons (pe_ix ix_list (pv 0) pe_int (fun _ _ => rfl)) (pa_cons (pv 1) pa_nil))) (pg_tup (by rfl) (pgs_cons (pg_sub (pv 0) pe_int set_list) (pgs_cons (pg_name (i := 4) sc_q_draw.nd rfl (Or.inl rfl)) pgs_nil))))
          (pss_one (ps_ret (pv 4)))) pss_nil)
      (pss_one (ps_ret (pe_op op_mod (pe_callTy call_int1 (by rfl) T.z_int (by decide +kernel) (pa_cons (pe_op op_fdiv (pe_ix ix_list (pv 0) pe_int (fun _ _ => rfl)) pe_int) pa_nil)) (pv 1))))))))), ?_⟩
    refine ⟨_, rfl, a, _, 2, .int c, rfl, rfl, SqL.of ha, atI_nat (j := 2) rfl, c, 1, rfl, rfl, _, rfl, a, _, 2, 2, rfl, rfl, ha, rfl, ?_⟩
    have h1 : (upd H a (.lst [.int z, .int g, .int (c + 1)])) a = some (.lst [.int z, .int g, .int (c + 1)]) := upd_same
    refine ⟨_, rfl, a, _, 0, .int z, rfl, rfl, SqL.of h1, atI_nat (j := 0) rfl, .inl ⟨z, rfl, ?_⟩⟩
    have b1 : 0 ≤ z % 40009 := Int.emod_nonneg _ (by decide)
    have b2 : z % 40009 < 40009 := Int.emod_lt_of_pos _ (by decide)
    refine ⟨_, rfl, .inl ⟨z, rfl, z, 40009, rfl, rfl, (by show (0 : Int) < 40009; decide), _, 20011, rfl, rfl, ?_⟩⟩
    refine ⟨_, rfl, _, rfl, z, _, rfl, rfl, .inr ⟨by omega, by omega⟩, _, rfl, a, _, 2, _, rfl, rfl, SqL.of h1, atI_nat (j := 2) rfl,
      69997, c + 1, rfl, rfl, .inl ⟨by decide, by decide⟩, _, _, rfl, rfl, _, 7, rfl, rfl, .inl ⟨_, rfl, _, 2147483629, rfl, rfl, (by show (0 : Int) < 2147483629; decide), _, rfl, a, _, 0, 0, rfl, rfl, h1, rfl, ?_⟩⟩
    have h2 : ∀ v : Int, (upd (upd H a (.lst [.int z, .int g, .int (c + 1)])) a (.lst [.int v, .int g, .int (c + 1)])) a = some (.lst [.int v, .int g, .int (c + 1)]) := fun v => upd_same
    have k2 : ∀ v : Int, But a H (upd (upd H a (.lst [.int z, .int g, .int (c + 1)])) a (.lst [.int v, .int g, .int (c + 1)])) := fun v => ((But.refl a H).set).set
    refine ⟨_, rfl, a, _, 1, .int g, rfl, rfl, SqL.of (h2 _), atI_nat (j := 1) rfl, g, 0, rfl, rfl, _, rfl, ?_⟩
    by_cases cg : g > 0
    · rw [decide_eq_true cg]
      refine iteT ?_
      refine ⟨_, rfl, a, _, 1, .int g, rfl, rfl, SqL.of (h2 _), atI_nat (j := 1) rfl, _, rfl, g, m, rfl, ⟨m0, PyProof.noPylong_of_log2 m1⟩, fun p hp => ?_⟩
      have npa : a ≠ p := ne_of_none (h2 _) hp
      have h3 : ∀ v : Int, (upd (upd (upd H a (.lst [.int z, .int g, .int (c + 1)])) a (.lst [.int v, .int g, .int (c + 1)])) p (.tup [.int (g / m), .int (g % m)])) a = some (.lst [.int v, .int g, .int (c + 1)]) := fun v => (upd_ne npa).trans (h2 v)
      refine ⟨p, _, rfl, .inl (.inl upd_same), rfl, .int (g / m), [.int (g % m)], rfl, _, rfl, a, _, 1, 1, rfl, rfl, h3 _, rfl, .int (g % m), [], rfl, rfl, _, rfl, ?_⟩
      refine q _ _ (Int.emod_nonneg _ (by omega)) (Int.emod_lt_of_pos _ m0) ⟨_, g / m, c + 1, upd_same, Int.ediv_nonneg hg (by omega)⟩ ?_
      exact ((k2 _).same (same_new hp)).set
    · rw [decide_eq_false cg]
      refine iteF ?_
      refine ⟨_, rfl, a, _, 0, .int _, rfl, rfl, SqL.of (h2 _), atI_nat (j := 0) rfl, _, 97, rfl, rfl, ⟨by decide, by decide⟩, .inl ⟨_, rfl, _, rfl, _, m, rfl, rfl, m0, ?_⟩⟩
      exact q _ _ (Int.emod_nonneg _ (by omega)) (Int.emod_lt_of_pos _ m0) ⟨_, g, c + 1, h2 _, hg⟩ (k2 _)
theorem ok_q_great (T : Txt K mg) : FnOk P w K mg base CX0 2 T.a_q_great T.fd_q_great ["_law_purse_here", "_law_many"] spGreat := by
  refine T.F_q_great.ok sc_q_great (fun vs H Q E h => ?_) (fun cdv A outer s H vs Q E hr h => ?_)
  · obtain ⟨a, k, rfl, _⟩ := h
    rfl
  · obtain ⟨a, k, rfl, bag, hk, q⟩ := h
    refine ⟨_, (pss_cons (ps_set (i := 2) sc_q_great.nd rfl (Or.inl rfl) pe_int)
      (pss_cons (ps_for PassesOwn.never rfl (pi_range1 (by rfl) T.z_range (pa_cons (pv 1) pa_nil)) (pg_name (i := 3) sc_q_great.nd rfl (Or.inl rfl)) (pss_one (ps_set (i := 2) sc_q_great.nd rfl (Or.inl rfl) (pe_op op_add (pe_op op_mul (pv 2) (pe_op op_pow pe_int pe_int)) (pe_call (ok_q_draw T) (hr.mono (by decide)) (by rfl) T.g_q_draw T.F_q_draw.kp (b_q_draw T) .nil pass0 (pa_cons (pv 0) (pa_cons (pe_op op_pow pe_int pe_int) pa_nil)))))))
      (pss_one (ps_ret (pv 2))))), ?_⟩
    refine ⟨_, rfl, (k : Int), rfl, by omega, by omega, ?_⟩
    refine for_range (lo := 0) (n := k) (fun i σ H' => ∃ (v : Int) (y : Option V), σ = [some (.ref a), some (.int k), some (.int v), y] ∧ 0 ≤ v ∧ v < 10 ^ (6 * i) ∧ Bag H' a ∧ But a H H')
      ⟨0, none, rfl, Int.le_refl 0, (by show (0 : Int) < 1; decide), bag, But.refl a H⟩ ?_ ?_
    · rintro i σ H' hi ⟨v, y, rfl, v0, v1, bag1, but1⟩
      refine ⟨_, rfl, 10, 6, rfl, rfl, ⟨by decide, by decide, by decide⟩, v, _, rfl, rfl, .inr ⟨by decide, by decide⟩, _, rfl, 10, 6, rfl, rfl, ⟨by decide, by decide, by decide⟩, a, _, rfl, bag1, (by decide), (by decide), fun r H2 r0 r1 bag2 but2 => ?_⟩
      have pu := pow_up v0 v1 r0 r1
      exact ⟨_, _, rfl, rfl, _, some (.int (0 + i)), rfl, pu.1, pu.2, bag2, but1.trans but2⟩
    · rintro σ H' ⟨v, y, rfl, v0, v1, bag1, but1⟩
      exact ⟨_, rfl, q v H' v0 v1 bag1 but1⟩
end
end K03

set_option Elab.async false
set_option linter.all false
set_option maxRecDepth 100000
set_option maxHeartbeats 4000000
namespace K03
open PySem PySem.Spec PyProof.Rows L2 GX OX TX
theorem sg_lt {d r : Int} {N : Nat} (d0 : 0 ≤ d) (d1 : d < 2) (h : r.natAbs < N) : ((1 - 2 * d) * r).natAbs < N := by
  have : d = 0 ∨ d = 1 := by omega
  rcases this with rfl | rfl
  · simpa using h
  · have e : ((1 : Int) - 2 * 1) * r = -r := by omega
    rw [e, Int.natAbs_neg]
    exact h
def eight : List Int := [0, 1, 60, 100, 999, 10 ^ 9, 10 ^ 18, 10 ^ 30]
theorem eight_lt : ∀ v ∈ eight, v.natAbs < 10 ^ 60 := by decide +kernel
theorem ten_lt {r : Int} {m : Int} (r0 : 0 ≤ r) (r1 : r < m) (h : m ≤ 10 ^ 60) : r.natAbs < 10 ^ 60 := by
  have e : ((10 ^ 60 : Nat) : Int) = 10 ^ 60 := by norm_cast
  omega
section
variable {P : Program} {w : World} {K : PySem.W.Frag} {mg : Str → Option Value} {base : Heap}
theorem ok_q_integer (T : Txt K mg) : FnOk P w K mg base CX0 3 T.a_q_integer T.fd_q_integer ["_law_purse_here"] spInteger := by
  refine T.F_q_integer.ok sc_q_integer (fun vs H Q E h => ?_) (fun cdv A outer s H vs Q E hr h => ?_)
  · obtain ⟨a, rfl, _⟩ := h
    rfl
  · obtain ⟨a, rfl, bag, q⟩ := h
    refine ⟨_, (pss_cons (ps_par (i := 1) (j := 2) (by rfl) sc_q_integer.nd rfl rfl (by decide) rfl rfl (pa_cons (pe_call (ok_q_draw T) (hr.mono (by decide)) (by rfl) T.g_q_draw T.F_q_draw.kp (b_q_draw T) .nil pass0 (pa_cons (pv 0) (pa_cons pe_int pa_nil))) (pa_cons (pe_op op_sub pe_int (pe_op op_mul pe_int (pe_call (ok_q_draw T) (hr.mono (by decide)) (by rfl) T.g_q_draw T.F_q_draw.kp (b_q_draw T) .nil pass0 (pa_cons (pv 0) (pa_cons pe_int pa_nil))))) pa_nil)) (by rfl))
      (pss_cons (ps_if (pt_cmpR op_lt (pv 1) pe_int (nomark _)) (pss_one (ps_ret (pe_op op_mul (pv 2) (pe_call (ok_q_draw T) (hr.mono (by decide)) (by rfl) T.g_q_draw T.F_q_draw.kp (b_q_draw T) .nil pass0 (pa_cons (pv 0) (pa_cons pe_int pa_nil)))))) pss_nil)
      (pss_cons (ps_if (pt_cmpR op_eq (pv 1) pe_int (nomark _)) (pss_one (ps_ret (pe_op op_mul (pv 2) (pe_ix ix_list (pe_lst (pa_cons pe_int (pa_cons pe_int (pa_cons pe_int (pa_cons pe_int (pa_cons pe_int (pa_cons (pe_op op_pow pe_int pe_int) (pa_cons (pe_op op_pow pe_int pe_int) (pa_cons (pe_op op_pow pe_int pe_int) pa_nil))))))))) (pe_call (ok_q_draw T) (hr.mono (by decide)) (by rfl) T.g_q_draw T.F_q_draw.kp (b_q_draw T) .nil pass0 (pa_cons (pv 0) (pa_cons pe_int pa_nil))) (fun _ _ => rfl))))) pss_nil)
      (pss_cons (ps_if (pt_cmpR op_eq (pv 1) pe_int (nomark _)) (pss_one (ps_ret (pe_op op_mul (pv 2) (pe_call (ok_q_draw T) (hr.mono (by decide)) (by rfl) T.g_q_draw T.F_q_draw.kp (b_q_draw T) .nil pass0 (pa_cons (pv 0) (pa_cons (pe_op op_pow pe_int pe_int) pa_nil)))))) pss_nil)
      (pss_one (ps_ret (pe_op op_mul (pv 2) (pe_call (ok_q_great T) (hr.mono (by decide)) (by rfl) T.g_q_great T.F_q_great.kp (b_q_great T) .nil pass0 (pa_cons (pv 0) (pa_cons (pe_op op_add pe_int (pe_call (ok_q_draw T) (hr.mono (by decide)) (by rfl) T.g_q_draw T.F_q_draw.kp (b_q_draw T) .nil pass0 (pa_cons (pv 0) (pa_cons pe_int pa_nil)))) pa_nil)))))))))), ?_⟩
    refine ⟨_, rfl, a, 6, rfl, bag, by decide, by decide, fun way H1 w0 w1 bag1 b1 => ⟨_, rfl, a, 2, rfl, bag1, by decide, by decide, fun d H2 d0 d1 bag2 b2 => ?_⟩⟩
    have b12 := b1.trans b2
    refine ⟨2, d, rfl, rfl, .inl ⟨by decide, by decide⟩, 1, _, rfl, rfl, _, _, rfl, ?_⟩
    refine ⟨_, rfl, way, 2, rfl, rfl, _, rfl, ite2 (fun _ => ?_) (fun _ => ?_)⟩
    · exact ⟨_, rfl, _, rfl, a, 13, rfl, bag2, by decide, by decide, fun r H3 r0 r1 bag3 b3 => ⟨_, r, rfl, rfl, .inl ⟨by omega, by omega⟩, q _ H3 (sg_lt d0 d1 (ten_lt r0 r1 (by decide))) bag3 (b12.trans b3)⟩⟩
    · refine ⟨_, rfl, rfl, _, rfl, ite2 (fun _ => ?_) (fun _ => ?_)⟩
      · refine ⟨_, rfl, 10, 9, rfl, rfl, ⟨by decide, by decide, by decide⟩, 10, 18, rfl, rfl, ⟨by decide, by decide, by decide⟩, 10, 30, rfl, rfl, ⟨by decide, by decide, by decide⟩, (by show 8 ≤ sizeLine; decide), fun l hl => ?_⟩
        refine ⟨_, rfl, a, 8, rfl, bag2.keep (same_new hl), by decide, by decide, fun r H3 r0 r1 bag3 b3 => ?_⟩
        obtain ⟨j, rfl⟩ := Int.eq_ofNat_of_zero_le r0
        have hj : j < eight.length := by
          show j < 8
          omega
        have g : (eight.map V.int)[j]? = some (.int eight[j]) := by
          rw [List.getElem?_map, List.getElem?_eq_getElem hj]
          rfl
        have vb := eight_lt _ (List.getElem_mem hj)
        refine ⟨l, eight.map V.int, j, _, rfl, rfl, SqL.of (b3 _ _ (bag2.ne hl) upd_same), atI_nat g, _, _, rfl, rfl, .inl ⟨by omega, by omega⟩, ?_⟩
        exact q _ H3 (sg_lt d0 d1 vb) bag3 ((b12.same (same_new hl)).trans b3)
      · refine ⟨_, rfl, rfl, _, rfl, ite2 (fun _ => ?_) (fun _ => ?_)⟩
        · exact ⟨_, rfl, _, rfl, 10, 6, rfl, rfl, ⟨by decide, by decide, by decide⟩, a, _, rfl, bag2, (by decide), (by decide), fun r H3 r0 r1 bag3 b3 => ⟨_, r, rfl, rfl, .inl ⟨by omega, by omega⟩, q _ H3 (sg_lt d0 d1 (ten_lt r0 r1 (by decide))) bag3 (b12.trans b3)⟩⟩
        · refine ⟨_, rfl, _, rfl, _, rfl, a, 10, rfl, bag2, (by decide), (by decide), fun r H3 r0 r1 bag3 b3 => ?_⟩
          obtain ⟨j, rfl⟩ := Int.eq_ofNat_of_zero_le r0
          refine ⟨1, _, rfl, rfl, a, 1 + j, congrArg (fun z => [V.ref a, V.int z]) (by omega), bag3, by omega, fun v H4 v0 v1 bag4 b4 => ⟨_, v, rfl, rfl, .inl ⟨by omega, by omega⟩, ?_⟩⟩
          exact q _ H4 (sg_lt d0 d1 (ten_lt v0 v1 (pow_le10 (by omega)))) bag4 ((b12.trans b3).trans b4)
end
end K03

set_option Elab.async false
set_option linter.all false
set_option maxRecDepth 100000
set_option maxHeartbeats 4000000
namespace K03
open PySem PySem.Spec PyProof.Rows L2 GX OX TX TL
/-! ### a ratio as it stands -/
def gI (t b : Int) : Int := ((Nat.gcd t.natAbs b.natAbs : Nat) : Int)
def Rat (C : Addr) (H : Hp) (a : Addr) (t b f : Int) : Prop := ∃ (dx : Addr) (fs : List (Str × V)), H a = some (.ins C dx fs) ∧ fs.lookup ("top" : Str) = some (.int t) ∧ fs.lookup ("bottom" : Str) = some (.int b) ∧ fs.lookup ("floor" : Str) = some (.int f)
theorem Rat.keep {C : Addr} {H H' : Hp} {a : Addr} {t b f : Int} (r : Rat C H a t b f) (s : Same H H') : Rat C H' a t b f := by
  obtain ⟨dx, fs, h, r⟩ := r
  exact ⟨dx, fs, s _ _ h, r⟩
theorem f_top (x y z : V) : (putF "floor" z (putF "bottom" y (putF "top" x []))).lookup ("top" : Str) = some x := by
  rw [lookup_putF, if_neg (by decide), lookup_putF, if_neg (by decide), lookup_putF, if_pos rfl]
theorem f_bottom (x y z : V) : (putF "floor" z (putF "bottom" y (putF "top" x []))).lookup ("bottom" : Str) = some y := by
  rw [lookup_putF, if_neg (by decide), lookup_putF, if_pos rfl]
theorem f_floor (x y z : V) : (putF "floor" z (putF "bottom" y (putF "top" x []))).lookup ("floor" : Str) = some z := by
  rw [lookup_putF, if_pos rfl]
theorem f_few (x y : V) : (putF "bottom" y (putF "top" x [])).length < 1000 := by
  simp only [putF]
  split <;> simp
theorem f_few1 (x : V) : (putF "top" x []).length < 1000 := by
  simp [putF]
theorem big : (10 : Nat) ^ 80 < 2 ^ 266 := by decide +kernel
theorem wd {j : Int} (h : 0 < j) (hb : j.natAbs < 10 ^ 80) (i : Int) : CDivW i j := wide_div h (Nat.lt_trans hb big) (by decide) (by decide)
theorem lg {j : Int} (hb : j.natAbs < 10 ^ 80) : j.natAbs.log2 < 1920 := Nat.lt_of_lt_of_le (PySem.Flt.log2_lt_of (by decide) (Nat.lt_trans hb big)) (by decide)
theorem gI_pos {t b : Int} (h : 0 < b) : 0 < gI t b := by
  have : 0 < Nat.gcd t.natAbs b.natAbs := Nat.gcd_pos_of_pos_right _ (by omega)
  show (0 : Int) < ((Nat.gcd t.natAbs b.natAbs : Nat) : Int)
  omega
theorem gI_lt {t b : Int} (h : 0 < b) (hb : b.natAbs < 10 ^ 80) : (gI t b).natAbs < 10 ^ 80 := by
  have := Nat.gcd_le_right t.natAbs (show 0 < b.natAbs by omega)
  show (((Nat.gcd t.natAbs b.natAbs : Nat) : Int)).natAbs < 10 ^ 80
  omega
def spInit (C : Addr) : Sp := fun vs H Q _ => ∃ (x : Addr) (t b : Int), vs = [.ref x, .int t, .int b] ∧ 0 < b ∧ b.natAbs < 10 ^ 80 ∧ (∃ dx, H x = some (.ins C dx [])) ∧
  ∀ H', But x H H' → Rat C H' x (t / gI t b) (b / gI t b) (t / b) → Q .non H'
structure Good (t b : Int) : Prop where
  b0 : 0 < b
  t1 : t.natAbs < 10 ^ 80
  b1 : b.natAbs < 10 ^ 80
  co : Nat.gcd t.natAbs b.natAbs = 1
theorem sz {n : Nat} (h : n ≤ 1000) : n ≤ sizeLine := Nat.le_of_lt (small1000 h)
section
variable {P : Program} {w : World} {K : PySem.W.Frag} {mg : Str → Option Value} {base : Heap}
theorem ok_Ratio___init__ (T : Txt K mg) : FnOk P w K mg base CX0 2 T.a_Ratio___init__ T.fd_Ratio___init__ ["self", "top", "bottom"] (spInit T.C) := by
  refine T.F_Ratio___init__.ok sc_Ratio___init__ (fun vs H Q E h => ?_) (fun cdv A outer s H vs Q E hr h => ?_)
  · obtain ⟨x, t, b, rfl, _⟩ := h
    rfl
  · obtain ⟨x, t, b, rfl, b0, b1, ⟨dx, hx⟩, q⟩ := h
    refine ⟨_, PSs.nox (pss_cons (ps_if (pt_not (pt_val (pe_call (ok_is_integer T) (hr.mono (by decide)) (by rfl) T.g_is_integer T.F_is_integer.kp (b_is_integer T) .nil pass0 (pa_cons (pv 1) pa_nil)))) (pss_one ps_never) pss_nil)
      (pss_cons (ps_if (PW.pt (pw_or (pt_not (pt_val (pe_call (ok_is_integer T) (hr.mono (by decide)) (by rfl) T.g_is_integer T.F_is_integer.kp (b_is_integer T) .nil pass0 (pa_cons (pv 2) pa_nil)))) (pw_or1 (pt_cmpR op_lt (pv 2) pe_int (nomark _))))) (pss_one ps_never) pss_nil)
      (pss_cons (ps_set (i := 3) sc_Ratio___init__.nd rfl (Or.inl rfl) (pe_callBfun cr_gcd (by rfl) T.g_gcd (pa_cons (pv 1) (pa_cons (pv 2) pa_nil))))
      (pss_cons (ps_fld (pv 0) (pe_op op_fdivW (pv 1) (pv 3)) rfl)
      (pss_cons (ps_fld (pv 0) (pe_op op_fdivW (pv 2) (pv 3)) rfl)
      (pss_one (ps_fld (pv 0) (pe_op op_fdivW (pv 1) (pv 2)) rfl))))))), ?_⟩
    refine ⟨_, rfl, .int t, rfl, pl_int t, true, rfl, iteF ?_⟩
    refine ⟨_, rfl, .int b, rfl, pl_int b, true, rfl, iteF ?_⟩
    refine ⟨_, rfl, b, 1, rfl, rfl, false, congrArg V.bl (decide_eq_false (by omega)), iteF ?_⟩
    refine ⟨_, rfl, _, rfl, t, b, rfl, ?_⟩
    have g0 := gI_pos (t := t) b0
    have g1 := gI_lt (t := t) b0 b1
    refine ⟨_, rfl, _, rfl, t, gI t b, rfl, rfl, wd g0 g1 t, _, rfl, x, T.C, dx, [], rfl, hx, T.cl, T.nT, (by decide), ?_⟩
    refine ⟨_, rfl, _, rfl, b, gI t b, rfl, rfl, wd g0 g1 b, _, rfl, x, T.C, dx, _, rfl, upd_same, T.cl, T.nB, f_few1 _, ?_⟩
    refine ⟨_, rfl, _, rfl, t, b, rfl, rfl, wd b0 b1 t, _, rfl, x, T.C, dx, _, rfl, upd_same, T.cl, T.nF, f_few _ _, ?_⟩
    exact q _ (((But.refl x H).set).set).set ⟨dx, _, upd_same, f_top _ _ _, f_bottom _ _ _, f_floor _ _ _⟩
end
end K03

set_option Elab.async false
set_option linter.all false
set_option maxRecDepth 100000
set_option maxHeartbeats 4000000
namespace K03
open PySem PySem.Spec PyProof.Rows L2 GX OX TX
theorem pe_bot {X : Cx} {e : Expr} : PE X e (fun _ _ _ => False) := ⟨fun _ _ _ _ _ _ h => h.elim⟩
def Num (C : Addr) (H : Hp) (y : V) (t b : Int) : Prop := (∃ (a : Addr) (f : Int), y = .ref a ∧ Rat C H a t b f) ∨ (y = .int t ∧ b = 1)
theorem Num.keep {C : Addr} {H H' : Hp} {y : V} {t b : Int} (n : Num C H y t b) (s : Same H H') : Num C H' y t b := by
  rcases n with ⟨a, f, e, r⟩ | n
  · exact .inl ⟨a, f, e, r.keep s⟩
  · exact .inr n
def isIT : KT → Bool
  | .int => true
  | _ => false
theorem kd_ty {K : PySem.W.Frag} {H : Hp} {y : V} {T : KT} (k : Kd H y T) : TyX K H y (.type T.nm) := by
  cases k with
  | int i => exact .base (.int i)
  | bl b => exact .base (.bl b)
  | non => exact .base .non
  | str x => exact .base (.str x)
  | lst e => exact .base (.lst e)
  | tup e => exact .base (.tup e)
  | dK e => exact .base (.dK e)
theorem kd_pl {K : PySem.W.Frag} {H : Hp} {y : V} {T : KT} (k : Kd H y T) : Pl K H y ∧ isI y = isIT T := by
  cases k with
  | int i => exact ⟨pl_int i, rfl⟩
  | bl b => exact ⟨⟨"bool", true, true, .base (.bl b), kit_ty (by decide +kernel), kit_ty (by decide +kernel), rfl⟩, rfl⟩
  | non => exact ⟨⟨"NoneType", false, false, .base .non, kit_ty (by decide +kernel), kit_ty (by decide +kernel), rfl⟩, rfl⟩
  | str x => exact ⟨⟨"str", false, false, .base (.str x), kit_ty (by decide +kernel), kit_ty (by decide +kernel), rfl⟩, rfl⟩
  | lst e => exact ⟨⟨"list", false, false, .base (.lst e), kit_ty (by decide +kernel), kit_ty (by decide +kernel), rfl⟩, rfl⟩
  | tup e => exact ⟨⟨"tuple", false, false, .base (.tup e), kit_ty (by decide +kernel), kit_ty (by decide +kernel), rfl⟩, rfl⟩
  | dK e => exact ⟨⟨"dict", false, false, .base (.dK e), kit_ty (by decide +kernel), kit_ty (by decide +kernel), rfl⟩, rfl⟩
def isN (C : Addr) (H : Hp) (y : V) (b : Bool) : Prop := ((∃ (a dx : Addr) (fs : List (Str × V)), y = .ref a ∧ H a = some (.ins C dx fs)) ∧ b = true) ∨ ∃ T, Kd H y T ∧ b = isIT T
def spIsNum (C : Addr) : Sp := fun vs H Q _ => ∃ (y : V) (b : Bool), vs = [y] ∧ isN C H y b ∧ Q (.bl b) H
def spTop (C : Addr) : Sp := fun vs H Q _ => ∃ (y : V) (t b : Int), vs = [y] ∧ Num C H y t b ∧ Q (.int t) H
def spBot (C : Addr) : Sp := fun vs H Q _ => ∃ (y : V) (t b : Int), vs = [y] ∧ Num C H y t b ∧ Q (.int b) H
def Fit (t b : Int) : Prop := t.natAbs < 10 ^ 80 ∧ b.natAbs < 10 ^ 80
def spLead (C : Addr) : Sp := fun vs H Q _ => ∃ (a : Addr) (y : V) (t1 b1 f1 t2 b2 : Int), vs = [.ref a, y] ∧ Rat C H a t1 b1 f1 ∧ Num C H y t2 b2 ∧ Fit t1 b1 ∧ Fit t2 b2 ∧ Q (.int (t1 * b2 - t2 * b1)) H
def spCmp (C : Addr) (p : Int → Bool) : Sp := fun vs H Q _ => ∃ (a : Addr) (y : V) (t1 b1 f1 t2 b2 : Int), vs = [.ref a, y] ∧ Rat C H a t1 b1 f1 ∧ Num C H y t2 b2 ∧ Fit t1 b1 ∧ Fit t2 b2 ∧ Q (.bl (p (t1 * b2 - t2 * b1))) H
def spEq (C : Addr) (n : Bool) : Sp := fun vs H Q _ => ∃ (a : Addr) (y : V) (t1 b1 f1 : Int), vs = [.ref a, y] ∧ Rat C H a t1 b1 f1 ∧ Fit t1 b1 ∧
  ((∃ t2 b2 : Int, Num C H y t2 b2 ∧ Fit t2 b2 ∧ Q (.bl ((t1 * b2 - t2 * b1 == 0) != n)) H) ∨ ∃ T, Kd H y T ∧ isIT T = false ∧ Q (.bl n) H)
theorem p2 {n : Int} (h : n.natAbs < 10 ^ 80) : n.natAbs < 2 ^ 266 := Nat.lt_trans h big
theorem cw {i j : Int} (hi : i.natAbs < 10 ^ 80) (hj : j.natAbs < 10 ^ 80) : CMulW i j := wide_mul (p2 hi) (p2 hj) (by decide) (by decide) (by decide)
section
variable {P : Program} {w : World} {K : PySem.W.Frag} {mg : Str → Option Value} {base : Heap}
theorem ok_is_number (T : Txt K mg) : FnOk P w K mg base CX0 2 T.a_is_number T.fd_is_number ["value"] (spIsNum T.C) := by
  refine T.F_is_number.ok sc_is_number (fun vs H Q E h => ?_) (fun cdv A outer s H vs Q E hr h => ?_)
  · obtain ⟨y, b, rfl, _⟩ := h
    rfl
  · obtain ⟨y, b, rfl, h, q⟩ := h
    refine ⟨_, (pss_one (ps_ret (pe_or (pe_callB call_isi (by rfl) T.z_isinstance (by decide +kernel) (pa_cons (pv 0) (pa_cons (pe_glob (v := .ref T.C) rfl T.g_Ratio rfl) pa_nil))) (pe_one (pe_call (ok_is_integer T) (hr.mono (by decide)) (by rfl) T.g_is_integer T.F_is_integer.kp (b_is_integer T) .nil pass0 (pa_cons (pv 0) pa_nil)))))), ?_⟩
    rcases h with ⟨⟨a, dx, fs, rfl, ea⟩, rfl⟩ | ⟨U, k, rfl⟩
    · exact ⟨_, rfl, .ref a, .ref T.C, .ref T.C, .ref T.C, true, rfl, .own T.C, .base (.ins ea T.cl T.ha T.hn T.ht T.hm), T.kCC, true, rfl, iteT q⟩
    · obtain ⟨p, e⟩ := kd_pl (K := K) k
      refine ⟨_, rfl, y, .ref T.C, _, .ref T.C, false, rfl, .own T.C, kd_ty k, T.kT U, false, rfl, iteF ⟨_, rfl, y, rfl, p, ?_⟩⟩
      rw [e]
      exact q
theorem ok__top_of (T : Txt K mg) : FnOk P w K mg base CX0 1 T.a__top_of T.fd__top_of ["number"] (spTop T.C) := by
  refine T.F__top_of.ok sc__top_of (fun vs H Q E h => ?_) (fun cdv A outer s H vs Q E hr h => ?_)
  · obtain ⟨y, t, b, rfl, _⟩ := h
    rfl
  · obtain ⟨y, t, b, rfl, n, q⟩ := h
    refine ⟨_, (pss_one (ps_ret (pe_ifExp (pt_val (pe_callB call_isi (by rfl) T.z_isinstance (by decide +kernel) (pa_cons (pv 0) (pa_cons (pe_glob (v := .ref T.C) rfl T.g_Ratio rfl) pa_nil)))) (pe_fld (pv 0) rfl) (pv 0)))), ?_⟩
    rcases n with ⟨a, f, rfl, dx, fs, ea, ft, fb, ff⟩ | ⟨rfl, _⟩
    · exact ⟨_, rfl, .ref a, .ref T.C, .ref T.C, .ref T.C, true, rfl, .own T.C, .base (.ins ea T.cl T.ha T.hn T.ht T.hm), T.kCC, true, rfl, iteT ⟨_, rfl, a, T.C, dx, fs, _, rfl, ea, T.cl, T.nT, ft, q⟩⟩
    · exact ⟨_, rfl, .int t, .ref T.C, _, .ref T.C, false, rfl, .own T.C, .base (.int t), T.kT .int, false, rfl, iteF ⟨_, rfl, q⟩⟩
theorem ok__bottom_of (T : Txt K mg) : FnOk P w K mg base CX0 1 T.a__bottom_of T.fd__bottom_of ["number"] (spBot T.C) := by
  refine T.F__bottom_of.ok sc__bottom_of (fun vs H Q E h => ?_) (fun cdv A outer s H vs Q E hr h => ?_)
  · obtain ⟨y, t, b, rfl, _⟩ := h
    rfl
  · obtain ⟨y, t, b, rfl, n, q⟩ := h
    refine ⟨_, (pss_one (ps_ret (pe_ifExp (pt_val (pe_callB call_isi (by rfl) T.z_isinstance (by decide +kernel) (pa_cons (pv 0) (pa_cons (pe_glob (v := .ref T.C) rfl T.g_Ratio rfl) pa_nil)))) (pe_fld (pv 0) rfl) pe_int))), ?_⟩
    rcases n with ⟨a, f, rfl, dx, fs, ea, ft, fb, ff⟩ | ⟨rfl, rfl⟩
    · exact ⟨_, rfl, .ref a, .ref T.C, .ref T.C, .ref T.C, true, rfl, .own T.C, .base (.ins ea T.cl T.ha T.hn T.ht T.hm), T.kCC, true, rfl, iteT ⟨_, rfl, a, T.C, dx, fs, _, rfl, ea, T.cl, T.nB, fb, q⟩⟩
    · exact ⟨_, rfl, .int t, .ref T.C, _, .ref T.C, false, rfl, .own T.C, .base (.int t), T.kT .int, false, rfl, iteF q⟩
theorem ok__lead (T : Txt K mg) : FnOk P w K mg base CX0 2 T.a__lead T.fd__lead ["ratio", "number"] (spLead T.C) := by
  refine T.F__lead.ok sc__lead (fun vs H Q E h => ?_) (fun cdv A outer s H vs Q E hr h => ?_)
  · obtain ⟨a, y, t1, b1, f1, t2, b2, rfl, _⟩ := h
    rfl
  · obtain ⟨a, y, t1, b1, f1, t2, b2, rfl, ⟨dx, fs, ea, ft, fb, ff⟩, n, z1, z2, q⟩ := h
    refine ⟨_, (pss_one (ps_ret (pe_op op_sub (pe_op op_mulW (pe_fld (pv 0) rfl) (pe_call (ok__bottom_of T) (hr.mono (by decide)) (by rfl) T.g__bottom_of T.F__bottom_of.kp (b__bottom_of T) .nil pass0 (pa_cons (pv 1) pa_nil))) (pe_op op_mulW (pe_call (ok__top_of T) (hr.mono (by decide)) (by rfl) T.g__top_of T.F__top_of.kp (b__top_of T) .nil pass0 (pa_cons (pv 1) pa_nil)) (pe_fld (pv 0) rfl))))), ?_⟩
    refine ⟨_, rfl, a, T.C, dx, fs, _, rfl, ea, T.cl, T.nT, ft, _, rfl, y, t2, b2, rfl, n, t1, b2, rfl, rfl, cw z1.1 z2.2, ?_⟩
    exact ⟨_, rfl, y, t2, b2, rfl, n, _, rfl, a, T.C, dx, fs, _, rfl, ea, T.cl, T.nB, fb, t2, b1, rfl, rfl, cw z2.1 z1.2, _, _, rfl, rfl, q⟩
theorem num_is {C : Addr} {H : Hp} {y : V} {t b : Int} (n : Num C H y t b) : isN C H y true := by
  rcases n with ⟨a, f, rfl, dx, fs, ea, _⟩ | ⟨rfl, _⟩
  · exact .inl ⟨⟨a, dx, fs, rfl, ea⟩, rfl⟩
  · exact .inr ⟨.int, .int t, rfl⟩
theorem ok_Ratio___lt__ (T : Txt K mg) : FnOk P w K mg base CX0 3 T.a_Ratio___lt__ T.fd_Ratio___lt__ ["self", "other"] (spCmp T.C fun d => decide (d < 0)) := by
  refine T.F_Ratio___lt__.ok sc_Ratio___lt__ (fun vs H Q E h => ?_) (fun cdv A outer s H vs Q E hr h => ?_)
  · obtain ⟨a, y, t1, b1, f1, t2, b2, rfl, _⟩ := h
    rfl
  · obtain ⟨a, y, t1, b1, f1, t2, b2, rfl, r, n, z1, z2, q⟩ := h
    refine ⟨_, (pss_cons (ps_if (pt_not (pt_val (pe_call (ok_is_number T) (hr.mono (by decide)) (by rfl) T.g_is_number T.F_is_number.kp (b_is_number T) .nil pass0 (pa_cons (pv 1) pa_nil)))) (pss_one (ps_ret pe_bot)) pss_nil)
      (pss_one (ps_ret (pe_cmpR op_lt (pe_call (ok__lead T) (hr.mono (by decide)) (by rfl) T.g__lead T.F__lead.kp (b__lead T) .nil pass0 (pa_cons (pv 0) (pa_cons (pv 1) pa_nil))) pe_int (nomark _))))), ?_⟩
    exact ⟨_, rfl, y, true, rfl, num_is n, true, rfl, iteF ⟨_, rfl, _, rfl, a, y, t1, b1, f1, t2, b2, rfl, r, n, z1, z2, _, 0, rfl, rfl, q⟩⟩
theorem ok_Ratio___le__ (T : Txt K mg) : FnOk P w K mg base CX0 3 T.a_Ratio___le__ T.fd_Ratio___le__ ["self", "other"] (spCmp T.C fun d => decide (d ≤ 0)) := by
  refine T.F_Ratio___le__.ok sc_Ratio___le__ (fun vs H Q E h => ?_) (fun cdv A outer s H vs Q E hr h => ?_)
  · obtain ⟨a, y, t1, b1, f1, t2, b2, rfl, _⟩ := h
    rfl
  · obtain ⟨a, y, t1, b1, f1, t2, b2, rfl, r, n, z1, z2, q⟩ := h
    refine ⟨_, (pss_cons (ps_if (pt_not (pt_val (pe_call (ok_is_number T) (hr.mono (by decide)) (by rfl) T.g_is_number T.F_is_number.kp (b_is_number T) .nil pass0 (pa_cons (pv 1) pa_nil)))) (pss_one (ps_ret pe_bot)) pss_nil)
      (pss_one (ps_ret (pe_cmpR op_le (pe_call (ok__lead T) (hr.mono (by decide)) (by rfl) T.g__lead T.F__lead.kp (b__lead T) .nil pass0 (pa_cons (pv 0) (pa_cons (pv 1) pa_nil))) pe_int (nomark _))))), ?_⟩
    exact ⟨_, rfl, y, true, rfl, num_is n, true, rfl, iteF ⟨_, rfl, _, rfl, a, y, t1, b1, f1, t2, b2, rfl, r, n, z1, z2, _, 0, rfl, rfl, q⟩⟩
theorem ok_Ratio___gt__ (T : Txt K mg) : FnOk P w K mg base CX0 3 T.a_Ratio___gt__ T.fd_Ratio___gt__ ["self", "other"] (spCmp T.C fun d => decide (d > 0)) := by
  refine T.F_Ratio___gt__.ok sc_Ratio___gt__ (fun vs H Q E h => ?_) (fun cdv A outer s H vs Q E hr h => ?_)
  · obtain ⟨a, y, t1, b1, f1, t2, b2, rfl, _⟩ := h
    rfl
  · obtain ⟨a, y, t1, b1, f1, t2, b2, rfl, r, n, z1, z2, q⟩ := h
    refine ⟨_, (pss_cons (ps_if (pt_not (pt_val (pe_call (ok_is_number T) (hr.mono (by decide)) (by rfl) T.g_is_number T.F_is_number.kp (b_is_number T) .nil pass0 (pa_cons (pv 1) pa_nil)))) (pss_one (ps_ret pe_bot)) pss_nil)
      (pss_one (ps_ret (pe_cmpR op_gt (pe_call (ok__lead T) (hr.mono (by decide)) (by rfl) T.g__lead T.F__lead.kp (b__lead T) .nil pass0 (pa_cons (pv 0) (pa_cons (pv 1) pa_nil))) pe_int (nomark _))))), ?_⟩
    exact ⟨_, rfl, y, true, rfl, num_is n, true, rfl, iteF ⟨_, rfl, _, rfl, a, y, t1, b1, f1, t2, b2, rfl, r, n, z1, z2, _, 0, rfl, rfl, q⟩⟩
theorem ok_Ratio___ge__ (T : Txt K mg) : FnOk P w K mg base CX0 3 T.a_Ratio___ge__ T.fd_Ratio___ge__ ["self", "other"] (spCmp T.C fun d => decide (d ≥ 0)) := by
  refine T.F_Ratio___ge__.ok sc_Ratio___ge__ (fun vs H Q E h => ?_) (fun cdv A outer s H vs Q E hr h => ?_)
  · obtain ⟨a, y, t1, b1, f1, t2, b2, rfl, _⟩ := h
    rfl
  · obtain ⟨a, y, t1, b1, f1, t2, b2, rfl, r, n, z1, z2, q⟩ := h
    refine ⟨_, (pss_cons (ps_if (pt_not (pt_val (pe_call (ok_is_number T) (hr.mono (by decide)) (by rfl) T.g_is_number T.F_is_number.kp (b_is_number T) .nil pass0 (pa_cons (pv 1) pa_nil)))) (pss_one (ps_ret pe_bot)) pss_nil)
      (pss_one (ps_ret (pe_cmpR op_ge (pe_call (ok__lead T) (hr.mono (by decide)) (by rfl) T.g__lead T.F__lead.kp (b__lead T) .nil pass0 (pa_cons (pv 0) (pa_cons (pv 1) pa_nil))) pe_int (nomark _))))), ?_⟩
    exact ⟨_, rfl, y, true, rfl, num_is n, true, rfl, iteF ⟨_, rfl, _, rfl, a, y, t1, b1, f1, t2, b2, rfl, r, n, z1, z2, _, 0, rfl, rfl, q⟩⟩
theorem ok_Ratio___eq__ (T : Txt K mg) : FnOk P w K mg base CX0 3 T.a_Ratio___eq__ T.fd_Ratio___eq__ ["self", "other"] (spEq T.C false) := by
  refine T.F_Ratio___eq__.ok sc_Ratio___eq__ (fun vs H Q E h => ?_) (fun cdv A outer s H vs Q E hr h => ?_)
  · obtain ⟨a, y, t1, b1, f1, rfl, _⟩ := h
    rfl
  · obtain ⟨a, y, t1, b1, f1, rfl, r, z1, h⟩ := h
    refine ⟨_, (pss_one (ps_ret (pe_and (pe_call (ok_is_number T) (hr.mono (by decide)) (by rfl) T.g_is_number T.F_is_number.kp (b_is_number T) .nil pass0 (pa_cons (pv 1) pa_nil)) (pe_one (pe_cmpR op_eq (pe_call (ok__lead T) (hr.mono (by decide)) (by rfl) T.g__lead T.F__lead.kp (b__lead T) .nil pass0 (pa_cons (pv 0) (pa_cons (pv 1) pa_nil))) pe_int (nomark _)))))), ?_⟩
    rcases h with ⟨t2, b2, n, z2, q⟩ | ⟨U, k, e, q⟩
    · refine ⟨_, rfl, y, true, rfl, num_is n, true, rfl, iteT ⟨_, rfl, _, rfl, a, y, t1, b1, f1, t2, b2, rfl, r, n, z1, z2, rfl, ?_⟩⟩
      rw [dec_int]
      rw [Bool.bne_false] at q
      exact q
    · exact ⟨_, rfl, y, false, rfl, .inr ⟨U, k, e.symm⟩, false, rfl, iteF q⟩
end
end K03

set_option Elab.async false
set_option linter.all false
set_option maxRecDepth 100000
set_option maxHeartbeats 8000000
namespace K03
open PySem PySem.Spec PyProof.Rows L2 GX OX TX
def allK : List KT := [.int, .bl, .non, .str, .lst, .tup, .dct]
theorem mem_all (U : KT) : U ∈ allK := by cases U <;> simp [allK]
section
variable {P : Program} {w : World} {K : PySem.W.Frag} {mg : Str → Option Value} {base : Heap}
theorem L1 (T : Txt K mg) {op : CmpOp} (d : Decl P w K T.C op .int) : ∀ U ∈ [KT.int], PySem.W.subIn K (.ref T.C) (.type U.nm) = some false ∧ Decl P w K T.C op U := fun U m => by
  cases List.mem_singleton.mp m
  exact ⟨T.sC _, d⟩
theorem LA (T : Txt K mg) : ∀ U ∈ allK, PySem.W.subIn K (.ref T.C) (.type U.nm) = some false ∧ Decl P w K T.C .Eq U := fun U _ => by
  refine ⟨T.sC U, ?_⟩
  cases U with
  | int => exact decl_eq
  | bl => exact decl_bool
  | non => exact decl_none
  | str => exact decl_str
  | lst => exact decl_list (T.sC .lst)
  | tup => exact decl_tuple (T.sC .tup)
  | dct => exact decl_dict (T.sC .dct)
theorem num_side {C : Addr} {H : Hp} {y : V} {t b : Int} (n : Num C H y t b) : (∃ T, T ∈ allK ∧ Kd H y T) ∨ ∃ (b dy : Addr) (gs : List (Str × V)), y = .ref b ∧ H b = some (.ins C dy gs) := by
  rcases n with ⟨a, f, rfl, dx, fs, ea, _⟩ | ⟨rfl, _⟩
  · exact .inr ⟨a, dx, fs, rfl, ea⟩
  · exact .inl ⟨.int, mem_all _, .int t⟩
theorem ok_Ratio___ne__ (T : Txt K mg) : FnOk P w K mg base CX0 4 T.a_Ratio___ne__ T.fd_Ratio___ne__ ["self", "other"] (spEq T.C true) := by
  refine T.F_Ratio___ne__.ok sc_Ratio___ne__ (fun vs H Q E h => ?_) (fun cdv A outer s H vs Q E hr h => ?_)
  · obtain ⟨a, y, t1, b1, f1, rfl, _⟩ := h
    rfl
  · obtain ⟨a, y, t1, b1, f1, rfl, r, z1, h⟩ := h
    refine ⟨_, (pss_one (ps_ret (pe_not (pe_cmpR (op_own (op := .Eq) (Rs := allK) (fun _ _ => rfl) T.o_eq T.f_eq (ok_Ratio___eq__ T) (b_Ratio___eq__ T) T.o_eq T.f_eq (ok_Ratio___eq__ T) (b_Ratio___eq__ T) (fun U _ => T.sT U) (LA T) (hr.mono (by decide))) (pv 0) (pv 1) (nomark _))))), ?_⟩
    obtain ⟨dx, fs, ea, rr⟩ := id r
    rcases h with ⟨t2, b2, n, z2, q⟩ | ⟨U, k, e, q⟩
    · refine ⟨_, rfl, _, rfl, .inl ⟨a, dx, fs, rfl, ea, num_side n, a, y, t1, b1, f1, rfl, r, z1, .inl ⟨t2, b2, n, z2, _, rfl, ?_⟩⟩⟩
      refine ⟨_, rfl, ?_⟩
      rw [Bool.bne_false]
      rw [Bool.bne_true] at q
      exact q
    · exact ⟨_, rfl, _, rfl, .inl ⟨a, dx, fs, rfl, ea, .inl ⟨U, mem_all U, k⟩, a, y, t1, b1, f1, rfl, r, z1, .inr ⟨U, k, e, _, rfl, ⟨_, rfl, q⟩⟩⟩⟩
def isO (y : V) : Prop := ∃ a, y = .ref a
def six (p q : Int) : List V := [.bl (decide (p < q)), .bl (decide (p ≤ q)), .bl (decide (q < p)), .bl (decide (q ≤ p)), .bl (p == q), .bl (!(p == q))]
def sixD (p q : Int) : PyData := .list [.bool (decide (p < q)), .bool (decide (p ≤ q)), .bool (decide (q < p)), .bool (decide (q ≤ p)), .bool (p == q), .bool (!(p == q))]
theorem r_cmp {C : Addr} {H : Hp} {Q : VK} {x y : V} {tx bx ty bY : Int} {p p' : Int → Bool} {r : Bool} (nx : Num C H x tx bx) (ny : Num C H y ty bY) (o : isO x ∨ isO y) (zx : Fit tx bx) (zy : Fit ty bY) (hp : p (tx * bY - ty * bx) = r) (hp' : p' (ty * bx - tx * bY) = r) (q : Q (.bl r) H) :
    rOwnC C [.int] [.int] (spCmp C p) (spCmp C p') x y H Q := by
  rcases nx with ⟨a, f, rfl, ra⟩ | ⟨rfl, rfl⟩
  · obtain ⟨dx, fs, ea, rr⟩ := id ra
    refine .inl ⟨a, dx, fs, rfl, ea, ?_, a, y, tx, bx, f, ty, bY, rfl, ra, ny, zx, zy, _, rfl, by rw [hp]; exact q⟩
    rcases ny with ⟨b, g, rfl, dy, gs, eb, _⟩ | ⟨rfl, rfl⟩
    · exact .inr ⟨b, dy, gs, rfl, eb⟩
    · exact .inl ⟨.int, List.mem_singleton.mpr rfl, .int ty⟩
  · rcases ny with ⟨b, g, rfl, rb⟩ | ⟨rfl, rfl⟩
    · obtain ⟨dy, gs, eb, rr⟩ := id rb
      exact .inr ⟨b, dy, gs, .int, rfl, eb, List.mem_singleton.mpr rfl, .int tx, b, _, ty, bY, g, tx, 1, rfl, rb, .inr ⟨rfl, rfl⟩, zy, zx, _, rfl, by rw [hp']; exact q⟩
    · rcases o with ⟨a, e⟩ | ⟨a, e⟩ <;> cases e
theorem r_eq {C : Addr} {H : Hp} {Q : VK} {x y : V} {tx bx ty bY : Int} {n r : Bool} {Ls Rs : List KT} (hL : .int ∈ Ls) (hR : .int ∈ Rs) (nx : Num C H x tx bx) (ny : Num C H y ty bY) (o : isO x ∨ isO y) (zx : Fit tx bx) (zy : Fit ty bY) (hp : ((tx * bY - ty * bx == 0) != n) = r) (hp' : ((ty * bx - tx * bY == 0) != n) = r) (q : Q (.bl r) H) :
    rOwnC C Ls Rs (spEq C n) (spEq C n) x y H Q := by
  rcases nx with ⟨a, f, rfl, ra⟩ | ⟨rfl, rfl⟩
  · obtain ⟨dx, fs, ea, rr⟩ := id ra
    refine .inl ⟨a, dx, fs, rfl, ea, ?_, a, y, tx, bx, f, rfl, ra, zx, .inl ⟨ty, bY, ny, zy, _, rfl, by rw [hp]; exact q⟩⟩
    rcases ny with ⟨b, g, rfl, dy, gs, eb, _⟩ | ⟨rfl, rfl⟩
    · exact .inr ⟨b, dy, gs, rfl, eb⟩
    · exact .inl ⟨.int, hR, .int ty⟩
  · rcases ny with ⟨b, g, rfl, rb⟩ | ⟨rfl, rfl⟩
    · obtain ⟨dy, gs, eb, rr⟩ := id rb
      exact .inr ⟨b, dy, gs, .int, rfl, eb, hL, .int tx, b, _, ty, bY, g, rfl, rb, zy, .inl ⟨tx, 1, .inr ⟨rfl, rfl⟩, zx, _, rfl, by rw [hp']; exact q⟩⟩
    · rcases o with ⟨a, e⟩ | ⟨a, e⟩ <;> cases e
def spTold (C : Addr) : Sp := fun vs H Q _ => ∃ (x y : V) (tx bx ty bY : Int), vs = [x, y] ∧ Num C H x tx bx ∧ Num C H y ty bY ∧ (isO x ∨ isO y) ∧ Fit tx bx ∧ Fit ty bY ∧ ∀ l, H l = none → Q (.ref l) (upd H l (.lst (six (tx * bY) (ty * bx))))
def spDue : Sp := fun vs H Q _ => ∃ p q : Int, vs = [.int p, .int q] ∧ ∀ l, H l = none → Q (.ref l) (upd H l (.lst (six p q)))
theorem ok_q_told (T : Txt K mg) : FnOk P w K mg base CX0 5 T.a_q_told T.fd_q_told ["_law_one", "_law_two"] (spTold T.C) := by
  refine T.F_q_told.ok sc_q_told (fun vs H Q E h => ?_) (fun cdv A outer s H vs Q E hr h => ?_)
  · obtain ⟨x, y, _, _, _, _, rfl, _⟩ := h
    rfl
  · obtain ⟨x, y, tx, bx, ty, bY, rfl, nx, ny, o, zx, zy, q⟩ := h
    refine ⟨_, (pss_one (ps_ret (pe_lst (pa_cons (pe_cmpR (op_own (op := .Lt) (Rs := [.int]) (fun _ _ => rfl) T.o_lt T.f_lt (ok_Ratio___lt__ T) (b_Ratio___lt__ T) T.o_gt T.f_gt (ok_Ratio___gt__ T) (b_Ratio___gt__ T) (fun U _ => T.sT U) (L1 T decl_lt) (hr.mono (by decide))) (pv 0) (pv 1) (nomark _)) (pa_cons (pe_cmpR (op_own (op := .LtE) (Rs := [.int]) (fun _ _ => rfl) T.o_le T.f_le (ok_Ratio___le__ T) (b_Ratio___le__ T) T.o_ge T.f_ge (ok_Ratio___ge__ T) (b_Ratio___ge__ T) (fun U _ => T.sT U) (L1 T decl_le) (hr.mono (by decide))) (pv 0) (pv 1) (nomark _)) (pa_cons (pe_cmpR (op_own (op := .Gt) (Rs := [.int]) (fun _ _ => rfl) T.o_gt T.f_gt (ok_Ratio___gt__ T) (b_Ratio___gt__ T) T.o_lt T.f_lt (ok_Ratio___lt__ T) (b_Ratio___lt__ T) (fun U _ => T.sT U) (L1 T decl_gt) (hr.mono (by decide))) (pv 0) (pv 1) (nomark _)) (pa_cons (pe_cmpR (op_own (op := .GtE) (Rs := [.int]) (fun _ _ => rfl) T.o_ge T.f_ge (ok_Ratio___ge__ T) (b_Ratio___ge__ T) T.o_le T.f_le (ok_Ratio___le__ T) (b_Ratio___le__ T) (fun U _ => T.sT U) (L1 T decl_ge) (hr.mono (by decide))) (pv 0) (pv 1) (nomark _)) (pa_cons (pe_cmpR (op_own (op := .Eq) (Rs := allK) (fun _ _ => rfl) T.o_eq T.f_eq (ok_Ratio___eq__ T) (b_Ratio___eq__ T) T.o_eq T.f_eq (ok_Ratio___eq__ T) (b_Ratio___eq__ T) (fun U _ => T.sT U) (LA T) (hr.mono (by decide))) (pv 0) (pv 1) (nomark _)) (pa_cons (pe_cmpR (op_own (op := .NotEq) (Rs := allK) (fun _ _ => rfl) T.o_ne T.f_ne (ok_Ratio___ne__ T) (b_Ratio___ne__ T) T.o_ne T.f_ne (ok_Ratio___ne__ T) (b_Ratio___ne__ T) (fun U _ => T.sT U) (L1 T decl_ne) (hr.mono (by decide))) (pv 0) (pv 1) (nomark _)) pa_nil))))))))), ?_⟩
    refine ⟨_, rfl, _, rfl, r_cmp (r := decide (tx * bY < ty * bx)) nx ny o zx zy (decide_eq_decide.mpr (by omega)) (decide_eq_decide.mpr (by omega)) ?_⟩
    refine ⟨_, rfl, _, rfl, r_cmp (r := decide (tx * bY ≤ ty * bx)) nx ny o zx zy (decide_eq_decide.mpr (by omega)) (decide_eq_decide.mpr (by omega)) ?_⟩
    refine ⟨_, rfl, _, rfl, r_cmp (r := decide (ty * bx < tx * bY)) nx ny o zx zy (decide_eq_decide.mpr (by omega)) (decide_eq_decide.mpr (by omega)) ?_⟩
    refine ⟨_, rfl, _, rfl, r_cmp (r := decide (ty * bx ≤ tx * bY)) nx ny o zx zy (decide_eq_decide.mpr (by omega)) (decide_eq_decide.mpr (by omega)) ?_⟩
    refine ⟨_, rfl, _, rfl, r_eq (r := tx * bY == ty * bx) (mem_all _) (mem_all _) nx ny o zx zy (by rw [Bool.bne_false]; exact Bool.eq_iff_iff.mpr (by rw [beq_iff_eq, beq_iff_eq]; omega)) (by rw [Bool.bne_false]; exact Bool.eq_iff_iff.mpr (by rw [beq_iff_eq, beq_iff_eq]; omega)) ?_⟩
    refine ⟨_, rfl, _, rfl, r_eq (r := !(tx * bY == ty * bx)) (List.mem_singleton.mpr rfl) (mem_all _) nx ny o zx zy (by rw [Bool.bne_true]; exact congrArg not (Bool.eq_iff_iff.mpr (by rw [beq_iff_eq, beq_iff_eq]; omega))) (by rw [Bool.bne_true]; exact congrArg not (Bool.eq_iff_iff.mpr (by rw [beq_iff_eq, beq_iff_eq]; omega))) ?_⟩
    exact ⟨(by show 6 ≤ sizeLine; decide), fun l hl => q l hl⟩
theorem ok_q_due (T : Txt K mg) : FnOk P w K mg base CX0 1 T.a_q_due T.fd_q_due ["_law_left", "_law_right_here"] spDue := by
  refine T.F_q_due.ok sc_q_due (fun vs H Q E h => ?_) (fun cdv A outer s H vs Q E hr h => ?_)
  · obtain ⟨_, _, rfl, _⟩ := h
    rfl
  · obtain ⟨i, j, rfl, q⟩ := h
    refine ⟨_, (pss_one (ps_ret (pe_lst (pa_cons (pe_cmpR op_lt (pv 0) (pv 1) (nomark _)) (pa_cons (pe_cmpR op_le (pv 0) (pv 1) (nomark _)) (pa_cons (pe_cmpR op_gt (pv 0) (pv 1) (nomark _)) (pa_cons (pe_cmpR op_ge (pv 0) (pv 1) (nomark _)) (pa_cons (pe_cmpR op_eq (pv 0) (pv 1) (nomark _)) (pa_cons (pe_cmpR op_ne (pv 0) (pv 1) (nomark _)) pa_nil))))))))), ?_⟩
    refine ⟨_, rfl, _, rfl, i, j, rfl, rfl, _, rfl, _, rfl, i, j, rfl, rfl, _, rfl, _, rfl, i, j, rfl, rfl, _, rfl, _, rfl, i, j, rfl, rfl, _, rfl, _, rfl, rfl, _, rfl, _, rfl, rfl, (by show 6 ≤ sizeLine; decide), fun l hl => ?_⟩
    have e : six i j = [.bl (decide (i < j)), .bl (decide (i ≤ j)), .bl (decide (j < i)), .bl (decide (j ≤ i)), .bl (decide (V.int i = V.int j)), .bl (!decide (V.int i = V.int j))] := by
      rw [dec_int]
      rfl
    have q2 := q l hl
    rw [e] at q2
    exact q2
def spSecond : Sp := fun vs H Q _ => ∃ (a : Addr) (t b : Int), vs = [.ref a, .int t, .int b] ∧ Bag H a ∧ t.natAbs < 10 ^ 60 ∧ 0 < b ∧ b.natAbs ≤ 10 ^ 60 ∧
  ∀ (l : Addr) (t2 b2 : Int) H', H' l = some (.tup [.int t2, .int b2]) → t2.natAbs < 10 ^ 80 → 0 < b2 → b2.natAbs < 10 ^ 80 → Bag H' a → But a H H' → Q (.ref l) H'
end
end K03

set_option Elab.async false
set_option linter.all false
set_option maxRecDepth 100000
set_option maxHeartbeats 8000000
namespace K03
open PySem PySem.Spec PyProof.Rows L2 GX OX TX
def dn (u : Int) : Int := 1 + (if u < 0 then -u else u)
theorem dn_pos (u : Int) : 0 < dn u := by
  unfold dn
  split <;> omega
theorem dn_lt {u : Int} (h : u.natAbs < 10 ^ 60) : (dn u).natAbs ≤ 10 ^ 60 := by
  unfold dn
  split <;> omega
theorem p60 {n : Nat} (h : n ≤ 10 ^ 60) : n < 10 ^ 80 := Nat.lt_of_le_of_lt h (by decide +kernel)
def fc (f0 : Int) : Int := 1 + f0
theorem fc_pos {f0 : Int} (h : 0 ≤ f0) : 0 < fc f0 := by
  unfold fc
  omega
theorem fc_le {f0 m : Int} (h : f0 < m) (hm : m ≤ 10 ^ 6) : fc f0 ≤ 10 ^ 6 := by
  unfold fc
  omega
theorem fc8 {F : Int} (h0 : 0 < F) (h : F ≤ 10 ^ 6) : F.natAbs < 10 ^ 80 := Nat.lt_of_le_of_lt (show F.natAbs ≤ 10 ^ 6 by omega) (by decide +kernel)
theorem mul_le {t F : Int} (ht : t.natAbs ≤ 10 ^ 60) (F0 : 0 < F) (F1 : F ≤ 10 ^ 6) : (t * F).natAbs ≤ 10 ^ 66 := by
  rw [Int.natAbs_mul]
  have h1 : F.natAbs ≤ 10 ^ 6 := by omega
  have h2 : t.natAbs * F.natAbs ≤ 10 ^ 60 * 10 ^ 6 := Nat.mul_le_mul ht h1
  have h3 : 10 ^ 60 * 10 ^ 6 = 10 ^ 66 := by decide +kernel
  rw [h3] at h2
  exact h2
theorem p66 {n : Nat} (h : n ≤ 10 ^ 66) : n < 10 ^ 80 := Nat.lt_of_le_of_lt h (by decide +kernel)
theorem ends66 {m d : Int} (h : m.natAbs ≤ 10 ^ 66) (d0 : 0 ≤ d) (d1 : d < 2) : (m + 1 - 2 * d).natAbs < 10 ^ 80 := Nat.lt_of_le_of_lt (show (m + 1 - 2 * d).natAbs ≤ 10 ^ 66 + 1 by omega) (by decide +kernel)
section
variable {P : Program} {w : World} {K : PySem.W.Frag} {mg : Str → Option Value} {base : Heap}
theorem ok_q_second (T : Txt K mg) : FnOk P w K mg base CX0 4 T.a_q_second T.fd_q_second ["_law_purse_here", "_law_top", "_law_bottom"] spSecond := by
  refine T.F_q_second.ok sc_q_second (fun vs H Q E h => ?_) (fun cdv A outer s H vs Q E hr h => ?_)
  · obtain ⟨_, _, _, rfl, _⟩ := h
    rfl
  · obtain ⟨a, t, b, rfl, bag, t1, b0, b1, q⟩ := h
    refine ⟨_, (pss_cons (ps_par (i := 3) (j := 4) (by rfl) sc_q_second.nd rfl rfl (by decide) rfl rfl (pa_cons (pe_call (ok_q_draw T) (hr.mono (by decide)) (by rfl) T.g_q_draw T.F_q_draw.kp (b_q_draw T) .nil pass0 (pa_cons (pv 0) (pa_cons pe_int pa_nil))) (pa_cons (pe_op op_add pe_int (pe_call (ok_q_draw T) (hr.mono (by decide)) (by rfl) T.g_q_draw T.F_q_draw.kp (b_q_draw T) .nil pass0 (pa_cons (pv 0) (pa_cons (pe_op op_pow pe_int pe_int) pa_nil)))) pa_nil)) (by rfl))
      (pss_cons (ps_if (pt_cmpR op_lt (pv 3) pe_int (nomark _)) (pss_one (ps_ret (pe_tup (pa_cons (pe_call (ok_q_integer T) (hr.mono (by decide)) (by rfl) T.g_q_integer T.F_q_integer.kp (b_q_integer T) .nil pass0 (pa_cons (pv 0) pa_nil)) (pa_cons (pe_op op_add pe_int (pe_callB call_abs (by rfl) T.z_abs (by decide +kernel) (pa_cons (pe_call (ok_q_integer T) (hr.mono (by decide)) (by rfl) T.g_q_integer T.F_q_integer.kp (b_q_integer T) .nil pass0 (pa_cons (pv 0) pa_nil)) pa_nil))) pa_nil))))) pss_nil)
      (pss_cons (ps_if (pt_cmpR op_eq (pv 3) pe_int (nomark _)) (pss_one (ps_ret (pe_tup (pa_cons (pe_op op_mulW (pv 1) (pv 4)) (pa_cons (pe_op op_mulW (pv 2) (pv 4)) pa_nil))))) pss_nil)
      (pss_one (ps_ret (pe_tup (pa_cons (pe_op op_sub (pe_op op_add (pe_op op_mulW (pv 1) (pv 4)) pe_int) (pe_op op_mulW pe_int (pe_call (ok_q_draw T) (hr.mono (by decide)) (by rfl) T.g_q_draw T.F_q_draw.kp (b_q_draw T) .nil pass0 (pa_cons (pv 0) (pa_cons pe_int pa_nil))))) (pa_cons (pe_op op_mulW (pv 2) (pv 4)) pa_nil)))))))), ?_⟩
    refine ⟨_, rfl, a, 4, rfl, bag, by decide, by decide, fun way H1 w0 w1 bag1 c1 => ?_⟩
    refine ⟨_, rfl, 10, 6, rfl, rfl, ⟨by decide, by decide, by decide⟩, a, _, rfl, bag1, (by decide), (by decide), fun f0 H2 f0b f1b bag2 c2 => ⟨1, _, rfl, rfl, _, _, rfl, ?_⟩⟩
    have F0 : 0 < fc f0 := fc_pos f0b
    have F1 : fc f0 ≤ 10 ^ 6 := fc_le f1b (by decide)
    have F8 := fc8 F0 F1
    have c12 := c1.trans c2
    have hl (x : Int) (y : Int) (l : Addr) (H9 : Hp) (h9 : H9 l = none) : upd H9 l (.tup [.int x, .int y]) l = some (.tup [.int x, .int y]) := upd_same
    refine ⟨_, rfl, way, 2, rfl, rfl, _, rfl, ite2 (fun _ => ?_) (fun _ => ?_)⟩
    · refine ⟨_, rfl, a, rfl, bag2, fun n H3 nb bag3 c3 => ⟨_, rfl, a, rfl, bag3, fun u H4 ub bag4 c4 => ⟨u, rfl, 1, _, rfl, rfl, (by show 2 ≤ sizeLine; decide), fun l h => ?_⟩⟩⟩
      exact q l n (dn u) _ upd_same (p60 (Nat.le_of_lt nb)) (dn_pos u) (p60 (dn_lt ub)) (bag4.keep (same_new h)) (((c12.trans c3).trans c4).same (same_new h))
    · refine ⟨_, rfl, rfl, _, rfl, ite2 (fun _ => ?_) (fun _ => ?_)⟩
      · refine ⟨_, rfl, _, rfl, t, fc f0, rfl, rfl, cw (p60 (Nat.le_of_lt t1)) F8, _, rfl, _, rfl, b, fc f0, rfl, rfl, cw (p60 b1) F8, (by show 2 ≤ sizeLine; decide), fun l h => ?_⟩
        exact q l (t * fc f0) (b * fc f0) _ upd_same (p66 (mul_le (Nat.le_of_lt t1) F0 F1)) (Int.mul_pos b0 F0) (p66 (mul_le b1 F0 F1)) (bag2.keep (same_new h)) (c12.same (same_new h))
      · refine ⟨_, rfl, _, rfl, t, fc f0, rfl, rfl, cw (p60 (Nat.le_of_lt t1)) F8, _, 1, rfl, rfl, _, rfl, a, 2, rfl, bag2, by decide, by decide, fun d H3 d0 d1 bag3 c3 => ?_⟩
        refine ⟨2, d, rfl, rfl, cw (by decide +kernel) (Nat.lt_of_le_of_lt (show d.natAbs ≤ 2 by omega) (by decide +kernel)), _, _, rfl, rfl, _, rfl, _, rfl, b, fc f0, rfl, rfl, cw (p60 b1) F8, (by show 2 ≤ sizeLine; decide), fun l h => ?_⟩
        exact q l (t * fc f0 + 1 - 2 * d) (b * fc f0) _ upd_same (ends66 (mul_le (Nat.le_of_lt t1) F0 F1) d0 d1) (Int.mul_pos b0 F0) (p66 (mul_le b1 F0 F1)) (bag3.keep (same_new h)) ((c12.trans c3).same (same_new h))
end
end K03

set_option Elab.async false
set_option linter.all false
set_option maxRecDepth 100000
set_option maxHeartbeats 8000000
namespace K03
open PySem PySem.Spec PyProof.Rows L2 GX OX TX
theorem mk_same {C : Addr} {H H' : Hp} {x dx : Addr} (nx : H x = none) (nd : H dx = none) (b : But x (upd (upd H dx (.own x)) x (.ins C dx [])) H') : Same H H' := fun c o h => by
  have nc : c ≠ x := ne_of_none h nx
  refine b _ _ nc ?_
  rw [upd_ne nc, upd_ne (ne_of_none h nd)]
  exact h

section
variable {P : Program} {w : World} {K : PySem.W.Frag} {mg : Str → Option Value} {base : Heap}
theorem bI2 (T : Txt K mg) : Binds K T.fd_Ratio___init__ ["self", "top", "bottom"] [] := by
  obtain ⟨ds, r, b⟩ := T.F_Ratio___init__.binds1 (ps := ["self", "top", "bottom"]) 3 1 (by simp) rfl (fun T kV doc pm an cdv ct us its h1 h2 => by
    match us, its, h1, h2 with
    | [_, _, _], [_], _, _ => exact ⟨_, rfl, rfl⟩)
  cases r
  exact b
theorem bI1 (T : Txt K mg) : ∃ ds, Vals [.int 1] ds ∧ Binds K T.fd_Ratio___init__ ["self", "top", "bottom"] ds := by
  obtain ⟨ds, r, b⟩ := T.F_Ratio___init__.binds1 (ps := ["self", "top", "bottom"]) 2 0 (by simp) rfl (fun T kV doc pm an cdv ct us its h1 h2 => by
    match us, its, h1, h2 with
    | [_, _], [_], _, _ => exact ⟨_, rfl, rfl⟩)
  exact ⟨ds, r, b⟩
end
def sixB (a b c d e f : Bool) : PyData := .list [.bool a, .bool b, .bool c, .bool d, .bool e, .bool f]
theorem sixB_len : ∀ a b c d e f : Bool, (sixB a b c d e f).shown.length ≤ 1000 := by decide +kernel
theorem six_len (p q : Int) : (sixD p q).shown.length ≤ sizeLine := sz (sixB_len _ _ _ _ _ _)
theorem six_show (p q : Int) : (sixD p q).showable = true := by simp [sixD, PyData.showable, PyData.showableAll]
theorem six_depth (p q : Int) : (sixD p q).depth ≤ 100 := by simp [sixD, PyData.depth, PyData.depthAll]
theorem six_nod (p q : Int) : (sixD p q).hasDict = false := by simp [sixD, PyData.hasDict, PyData.hasDictAll]
theorem six_dp {K : PySem.W.Frag} {H : Hp} {l : Addr} (p q : Int) : GX.Sh K (upd H l (.lst (six p q))) (.ref l) (sixD p q) :=
  .dp (.lst (SqL.of upd_same) (.cons (.bl _) (.cons (.bl _) (.cons (.bl _) (.cons (.bl _) (.cons (.bl _) (.cons (.bl _) .nil))))))) (six_nod p q)
theorem six_scale {m p q : Int} (h : 0 < m) : sixD (m * p) (m * q) = sixD p q := by
  have e1 : decide (m * p < m * q) = decide (p < q) := decide_eq_decide.mpr (Int.mul_lt_mul_left h)
  have e2 : decide (m * p ≤ m * q) = decide (p ≤ q) := decide_eq_decide.mpr (Int.mul_le_mul_left h)
  have e3 : decide (m * q < m * p) = decide (q < p) := decide_eq_decide.mpr (Int.mul_lt_mul_left h)
  have e4 : decide (m * q ≤ m * p) = decide (q ≤ p) := decide_eq_decide.mpr (Int.mul_le_mul_left h)
  have e5 : (m * p == m * q) = (p == q) := Bool.eq_iff_iff.mpr (by
    rw [beq_iff_eq, beq_iff_eq]
    exact ⟨fun z => Int.eq_of_mul_eq_mul_left (by omega) z, fun z => by rw [z]⟩)
  unfold sixD
  rw [e1, e2, e3, e4, e5]
theorem cross {t d t2 d2 g1 t1 b1 g2 u2 v2 : Int} (e1 : t = g1 * t1) (e2 : d = g1 * b1) (e3 : t2 = g2 * u2) (e4 : d2 = g2 * v2) (h1 : 0 < g1) (h2 : 0 < g2) : sixD (t1 * v2) (u2 * b1) = sixD (t * d2) (t2 * d) := by
  have x1 : t * d2 = (g1 * g2) * (t1 * v2) := by rw [e1, e4]; ac_rfl
  have x2 : t2 * d = (g1 * g2) * (u2 * b1) := by rw [e3, e2]; ac_rfl
  rw [x1, x2, six_scale (Int.mul_pos h1 h2)]
theorem crossN {t d n g1 t1 b1 : Int} (e1 : t = g1 * t1) (e2 : d = g1 * b1) (h1 : 0 < g1) : sixD (t1 * 1) (n * b1) = sixD t (n * d) := by
  have := cross (t2 := n) (d2 := 1) (g2 := 1) (u2 := n) (v2 := 1) e1 e2 (by omega) (by omega) h1 (by decide)
  rw [Int.mul_one t] at this
  exact this
theorem crossM {t d n g1 t1 b1 : Int} (e1 : t = g1 * t1) (e2 : d = g1 * b1) (h1 : 0 < g1) : sixD (n * b1) (t1 * 1) = sixD (n * d) t := by
  have := cross (t := n) (d := 1) (g1 := 1) (t1 := n) (b1 := 1) (t2 := t) (d2 := d) (by omega) (by omega) e1 e2 (by decide) h1
  rw [Int.mul_one t] at this
  exact this
theorem ne_same {a b : PyData} (h : a = b) : V.bl (!decide (V.str a.shown = V.str b.shown)) = V.bl false := by
  subst h
  simp
theorem red {t d : Int} (ht : t.natAbs < 10 ^ 80) (d0 : 0 < d) (hd : d.natAbs < 10 ^ 80) : ∃ g, 0 < g ∧ t = g * (t / gI t d) ∧ d = g * (d / gI t d) ∧ Fit (t / gI t d) (d / gI t d) := by
  have g0 := gI_pos (t := t) d0
  have dT : gI t d ∣ t := by
    have h1 : ((Nat.gcd t.natAbs d.natAbs : Nat) : Int) ∣ ((t.natAbs : Nat) : Int) := Int.natCast_dvd_natCast.mpr (Nat.gcd_dvd_left _ _)
    exact Int.dvd_natAbs.mp h1
  have dB : gI t d ∣ d := by
    have h1 : ((Nat.gcd t.natAbs d.natAbs : Nat) : Int) ∣ ((d.natAbs : Nat) : Int) := Int.natCast_dvd_natCast.mpr (Nat.gcd_dvd_right _ _)
    exact Int.dvd_natAbs.mp h1
  have eT : gI t d * (t / gI t d) = t := Int.mul_ediv_cancel' dT
  have eB : gI t d * (d / gI t d) = d := Int.mul_ediv_cancel' dB
  have gn : 1 ≤ (gI t d).natAbs := by omega
  refine ⟨gI t d, g0, eT.symm, eB.symm, ?_, ?_⟩
  · have := congrArg Int.natAbs eT
    rw [Int.natAbs_mul] at this
    have h2 : 1 * (t / gI t d).natAbs ≤ (gI t d).natAbs * (t / gI t d).natAbs := Nat.mul_le_mul_right _ gn
    omega
  · have := congrArg Int.natAbs eB
    rw [Int.natAbs_mul] at this
    have h2 : 1 * (d / gI t d).natAbs ≤ (gI t d).natAbs * (d / gI t d).natAbs := Nat.mul_le_mul_right _ gn
    omega
def spRight : Sp := fun vs H Q _ => ∃ a : Addr, vs = [.ref a] ∧ Bag H a ∧ ∀ H', But a H H' → Q (.bl true) H'
theorem fl_le {t d f : Int} (d0 : 0 < d) (h1 : f * d ≤ t) (h2 : t < (f + 1) * d) : f.natAbs ≤ t.natAbs := by
  by_cases c : 0 ≤ f
  · have : f * 1 ≤ f * d := Int.mul_le_mul_of_nonneg_left (by omega) c
    omega
  · have : (-(f + 1)) * 1 ≤ (-(f + 1)) * d := Int.mul_le_mul_of_nonneg_left (by omega) (by omega)
    simp only [Int.neg_mul] at this
    omega
theorem near_le {t d : Int} (d0 : 0 < d) (ht : t.natAbs < 10 ^ 60) : (t / d).natAbs ≤ 10 ^ 60 ∧ (t / d + 1).natAbs ≤ 10 ^ 60 := by
  have := fl_le d0 (Int.ediv_mul_le t (by omega)) (Int.lt_ediv_add_one_mul_self t d0)
  omega
theorem four_int {z1 z2 z3 : Int} {i : Nat} {z : V} (h : ([.int z1, .int z2, .int z3, .int 0] : List V)[i]? = some z) (h1 : z1.natAbs ≤ 10 ^ 60) (h2 : z2.natAbs ≤ 10 ^ 60) (h3 : z3.natAbs ≤ 10 ^ 60) : ∃ n, z = .int n ∧ n.natAbs < 10 ^ 80 := by
  have m := List.mem_of_getElem? h
  simp only [List.mem_cons, List.not_mem_nil, or_false] at m
  rcases m with m | m | m | m
  · exact ⟨_, m, p60 h1⟩
  · exact ⟨_, m, p60 h2⟩
  · exact ⟨_, m, p60 h3⟩
  · exact ⟨_, m, by decide +kernel⟩
section
variable {P : Program} {w : World} {K : PySem.W.Frag} {mg : Str → Option Value} {base : Heap}
theorem ok_q_right (T : Txt K mg) : FnG P w K mg base CX0 8 T.a_q_right T.fd_q_right ["_law_purse_here"] spRight := by
  refine fnG0 T.F_q_right sc_q_right (fun vs H Q E h => ?_) (fun cdv A outer s H vs Q E hG hr h => ?_)
  · obtain ⟨a, rfl, _⟩ := h
    rfl
  · obtain ⟨a, rfl, bag, q⟩ := h
    have hu := room_u hr
    refine ⟨_, (pss_cons (ps_par (i := 1) (j := 2) (by rfl) sc_q_right.nd rfl rfl (by decide) rfl rfl (pa_cons (pe_call (ok_q_integer T) (hr.mono (by decide)) (by rfl) T.g_q_integer T.F_q_integer.kp (b_q_integer T) .nil pass0 (pa_cons (pv 0) pa_nil)) (pa_cons (pe_op op_add pe_int (pe_callB call_abs (by rfl) T.z_abs (by decide +kernel) (pa_cons (pe_call (ok_q_integer T) (hr.mono (by decide)) (by rfl) T.g_q_integer T.F_q_integer.kp (b_q_integer T) .nil pass0 (pa_cons (pv 0) pa_nil)) pa_nil))) pa_nil)) (by rfl))
      (pss_cons (ps_asg (pe_call (ok_q_second T) (hr.mono (by decide)) (by rfl) T.g_q_second T.F_q_second.kp (b_q_second T) .nil pass0 (pa_cons (pv 0) (pa_cons (pv 1) (pa_cons (pv 2) pa_nil)))) (pg_tup (by rfl) (pgs_cons (pg_name (i := 3) sc_q_right.nd rfl (Or.inl rfl)) (pgs_cons (pg_name (i := 4) sc_q_right.nd rfl (Or.inl rfl)) pgs_nil))))
      (pss_cons (ps_par (i := 5) (j := 6) (by rfl) sc_q_right.nd rfl rfl (by decide) rfl rfl (pa_cons (pe_make T.mkR (ok_Ratio___init__ T) (hr.mono (by decide)) (by rfl) T.g_Ratio (bI2 T) .nil pass0 (pa_cons (pv 1) (pa_cons (pv 2) pa_nil))) (pa_cons (pe_make T.mkR (ok_Ratio___init__ T) (hr.mono (by decide)) (by rfl) T.g_Ratio (bI2 T) .nil pass0 (pa_cons (pv 3) (pa_cons (pv 4) pa_nil))) pa_nil)) (by rfl))
      (pss_cons (ps_if (pt_cmpR op_ne (pe_callB (call_reprD hG hu) (by rfl) T.z_repr (by decide +kernel) (pa_cons (pe_call (ok_q_told T) (hr.mono (by decide)) (by rfl) T.g_q_told T.F_q_told.kp (b_q_told T) .nil pass0 (pa_cons (pv 5) (pa_cons (pv 6) pa_nil))) pa_nil)) (pe_callB (call_reprD hG hu) (by rfl) T.z_repr (by decide +kernel) (pa_cons (pe_call (ok_q_due T) (hr.mono (by decide)) (by rfl) T.g_q_due T.F_q_due.kp (b_q_due T) .nil pass0 (pa_cons (pe_op op_mulW (pv 1) (pv 4)) (pa_cons (pe_op op_mulW (pv 3) (pv 2)) pa_nil))) pa_nil)) (nomark _)) (pss_one (ps_ret pe_bl)) pss_nil)
      (pss_cons (ps_if (pt_cmpR op_ne (pe_callB (call_reprD hG hu) (by rfl) T.z_repr (by decide +kernel) (pa_cons (pe_call (ok_q_told T) (hr.mono (by decide)) (by rfl) T.g_q_told T.F_q_told.kp (b_q_told T) .nil pass0 (pa_cons (pv 6) (pa_cons (pv 5) pa_nil))) pa_nil)) (pe_callB (call_reprD hG hu) (by rfl) T.z_repr (by decide +kernel) (pa_cons (pe_call (ok_q_due T) (hr.mono (by decide)) (by rfl) T.g_q_due T.F_q_due.kp (b_q_due T) .nil pass0 (pa_cons (pe_op op_mulW (pv 3) (pv 2)) (pa_cons (pe_op op_mulW (pv 1) (pv 4)) pa_nil))) pa_nil)) (nomark _)) (pss_one (ps_ret pe_bl)) pss_nil)
      (pss_cons (ps_set (i := 7) sc_q_right.nd rfl (Or.inl rfl) (pe_op op_fdivW (pv 1) (pv 2)))
      (pss_cons (ps_for PassesOwn.never rfl (pi_list (pe_lst (pa_cons (pv 7) (pa_cons (pe_op op_add (pv 7) pe_int) (pa_cons (pe_call (ok_q_integer T) (hr.mono (by decide)) (by rfl) T.g_q_integer T.F_q_integer.kp (b_q_integer T) .nil pass0 (pa_cons (pv 0) pa_nil)) (pa_cons pe_int pa_nil)))))) (pg_name (i := 8) sc_q_right.nd rfl (Or.inl rfl)) (pss_cons (ps_if (pt_cmpR op_ne (pe_callB (call_reprD hG hu) (by rfl) T.z_repr (by decide +kernel) (pa_cons (pe_call (ok_q_told T) (hr.mono (by decide)) (by rfl) T.g_q_told T.F_q_told.kp (b_q_told T) .nil pass0 (pa_cons (pv 5) (pa_cons (pv 8) pa_nil))) pa_nil)) (pe_callB (call_reprD hG hu) (by rfl) T.z_repr (by decide +kernel) (pa_cons (pe_call (ok_q_due T) (hr.mono (by decide)) (by rfl) T.g_q_due T.F_q_due.kp (b_q_due T) .nil pass0 (pa_cons (pv 1) (pa_cons (pe_op op_mulW (pv 8) (pv 2)) pa_nil))) pa_nil)) (nomark _)) (pss_one (ps_ret pe_bl)) pss_nil)
          (pss_one (ps_if (pt_cmpR op_ne (pe_callB (call_reprD hG hu) (by rfl) T.z_repr (by decide +kernel) (pa_cons (pe_call (ok_q_told T) (hr.mono (by decide)) (by rfl) T.g_q_told T.F_q_told.kp (b_q_told T) .nil pass0 (pa_cons (pv 8) (pa_cons (pv 5) pa_nil))) pa_nil)) (pe_callB (call_reprD hG hu) (by rfl) T.z_repr (by decide +kernel) (pa_cons (pe_call (ok_q_due T) (hr.mono (by decide)) (by rfl) T.g_q_due T.F_q_due.kp (b_q_due T) .nil pass0 (pa_cons (pe_op op_mulW (pv 8) (pv 2)) (pa_cons (pv 1) pa_nil))) pa_nil)) (nomark _)) (pss_one (ps_ret pe_bl)) pss_nil))))
      (pss_one (ps_ret pe_bl))))))))), ?_⟩
    refine ⟨_, rfl, a, rfl, bag, fun t H1 tb bag1 c1 => ⟨_, rfl, a, rfl, bag1, fun w0 H2 wb bag2 c2 => ⟨w0, rfl, 1, _, rfl, rfl, _, _, rfl, ?_⟩⟩⟩
    have d0 := dn_pos w0
    have t8 := p60 (Nat.le_of_lt tb)
    have d8 := p60 (dn_lt wb)
    refine ⟨_, rfl, _, rfl, _, rfl, a, t, dn w0, rfl, bag2, tb, d0, dn_lt wb, fun l t2 d2 H3 el t2b d20 d2b bag3 c3 => ?_⟩
    refine ⟨l, _, rfl, .inl (.inl el), rfl, _, _, rfl, _, _, rfl, rfl, ?_⟩
    refine ⟨_, rfl, _, rfl, fun x dx nx nd ne => ⟨x, t, dn w0, rfl, d0, d8, ⟨dx, upd_same⟩, fun H4 c4 rat1 => ⟨rfl, ?_⟩⟩⟩
    refine ⟨_, rfl, _, rfl, fun y dy ny nd2 ne2 => ⟨y, t2, d2, rfl, d20, d2b, ⟨dy, upd_same⟩, fun H5 c5 rat2 => ⟨rfl, _, _, rfl, ?_⟩⟩⟩
    have s4 := mk_same nx nd c4
    have s5 := mk_same ny nd2 c5
    have c15 := (((c1.trans c2).trans c3).same s4).same s5
    have bag5 := (bag3.keep s4).keep s5
    obtain ⟨g1, g10, e1, e2, f1⟩ := red t8 d0 d8
    obtain ⟨g2, g20, e3, e4, f2⟩ := red t2b d20 d2b
    have n1 : Num T.C H5 (.ref x) (t / gI t (dn w0)) (dn w0 / gI t (dn w0)) := .inl ⟨x, _, rfl, rat1.keep s5⟩
    have n2 : Num T.C H5 (.ref y) (t2 / gI t2 d2) (d2 / gI t2 d2) := .inl ⟨y, _, rfl, rat2⟩
    have k12 := cross e1 e2 e3 e4 g10 g20
    have k21 := cross e3 e4 e1 e2 g20 g10
    generalize t / gI t (dn w0) = t1 at n1 k12 k21 e1 f1
    generalize dn w0 / gI t (dn w0) = b1 at n1 k12 k21 e2 f1
    generalize t2 / gI t2 d2 = u2 at n2 k12 k21 e3 f2
    generalize d2 / gI t2 d2 = v2 at n2 k12 k21 e4 f2
    refine ⟨_, rfl, _, rfl, .ref x, .ref y, t1, b1, u2, v2, rfl, n1, n2, .inl ⟨x, rfl⟩, f1, f2, fun l6 h6 => ?_⟩
    refine ⟨.ref l6, _, rfl, six_dp _ _, six_show _ _, six_depth _ _, six_len _ _, ?_⟩
    refine ⟨_, rfl, _, rfl, t, d2, rfl, rfl, cw t8 d2b, _, rfl, _, rfl, t2, dn w0, rfl, rfl, cw t2b d8, t * d2, t2 * dn w0, rfl, fun l7 h7 => ?_⟩
    refine ⟨.ref l7, _, rfl, six_dp _ _, six_show _ _, six_depth _ _, six_len _ _, rfl, false, ne_same k12, iteF ?_⟩
    have s7 := (same_new (o := .lst (six (t1 * v2) (u2 * b1))) h6).trans (same_new (o := .lst (six (t * d2) (t2 * dn w0))) h7)
    refine ⟨_, rfl, _, rfl, .ref y, .ref x, u2, v2, t1, b1, rfl, n2.keep s7, n1.keep s7, .inl ⟨y, rfl⟩, f2, f1, fun l8 h8 => ?_⟩
    refine ⟨.ref l8, _, rfl, six_dp _ _, six_show _ _, six_depth _ _, six_len _ _, ?_⟩
    refine ⟨_, rfl, _, rfl, t2, dn w0, rfl, rfl, cw t2b d8, _, rfl, _, rfl, t, d2, rfl, rfl, cw t8 d2b, t2 * dn w0, t * d2, rfl, fun l9 h9 => ?_⟩
    refine ⟨.ref l9, _, rfl, six_dp _ _, six_show _ _, six_depth _ _, six_len _ _, rfl, false, ne_same k21, iteF ?_⟩
    have s9 := (s7.trans (same_new (o := .lst (six (u2 * b1) (t1 * v2))) h8)).trans (same_new (o := .lst (six (t2 * dn w0) (t * d2))) h9)
    have nl := near_le d0 tb
    refine ⟨_, rfl, _, rfl, t, dn w0, rfl, rfl, wd d0 d8 t, ?_⟩
    refine ⟨_, rfl, _, rfl, _, 1, rfl, rfl, _, rfl, a, rfl, bag5.keep s9, fun r H10 rb bag10 c10 => ⟨(by show 4 ≤ sizeLine; decide), fun l11 h11 => ?_⟩⟩
    refine ⟨l11, rfl, ⟨_, SqL.of upd_same⟩, ?_⟩
    have n10 : Num T.C H10 (.ref x) t1 b1 := by
      have n9 := n1.keep s9
      rcases n9 with ⟨x', f', ex, r9⟩ | ⟨ex, _⟩
      · obtain ⟨dx', fs', ea, rest⟩ := r9
        refine .inl ⟨x', f', ex, dx', fs', c10 _ _ (fun z => ?_) ea, rest⟩
        obtain ⟨z1, z2, z3, ez, _⟩ := bag5.keep s9
        rw [← z] at ez
        rw [ea] at ez
        cases ez
      · cases ex
    have c111 := ((c15.same s9).trans c10).same (same_new (o := .lst [.int (t / dn w0), .int (t / dn w0 + 1), .int r, .int 0]) h11)
    refine for_list (K := K) (a := l11) (xs := [.int (t / dn w0), .int (t / dn w0 + 1), .int r, .int 0]) (fun i σ H' => ∃ yv : Option V, σ = [some (.ref a), some (.int t), some (.int (dn w0)), some (.int t2), some (.int d2), some (.ref x), some (.ref y), some (.int (t / dn w0)), yv] ∧ But a H H' ∧ Num T.C H' (.ref x) t1 b1 ∧ H' l11 = some (.lst [.int (t / dn w0), .int (t / dn w0 + 1), .int r, .int 0]))
      ⟨none, rfl, c111, n10.keep (same_new h11), upd_same⟩ (fun i σ H' _ h => ?_) (fun i z σ H' hz h => ?_) (fun σ H' h => ?_)
    · obtain ⟨_, _, _, _, e⟩ := h
      exact SqL.of e
    · obtain ⟨yv, rfl, cb, nx1, el11⟩ := h
      obtain ⟨n, rfl, n8⟩ := four_int hz nl.1 nl.2 (Nat.le_of_lt rb)
      have fn : Fit n 1 := ⟨n8, by decide +kernel⟩
      refine ⟨_, rfl, _, rfl, .ref x, .int n, t1, b1, n, 1, rfl, nx1, .inr ⟨rfl, rfl⟩, .inl ⟨x, rfl⟩, f1, fn, fun m1 k1 => ?_⟩
      refine ⟨.ref m1, _, rfl, six_dp _ _, six_show _ _, six_depth _ _, six_len _ _, ?_⟩
      refine ⟨_, rfl, _, rfl, _, rfl, n, dn w0, rfl, rfl, cw n8 d8, t, n * dn w0, rfl, fun m2 k2 => ?_⟩
      refine ⟨.ref m2, _, rfl, six_dp _ _, six_show _ _, six_depth _ _, six_len _ _, rfl, false, ne_same (crossN e1 e2 g10), iteF ?_⟩
      have q7 := (same_new (o := .lst (six (t1 * 1) (n * b1))) k1).trans (same_new (o := .lst (six t (n * dn w0))) k2)
      refine ⟨_, rfl, _, rfl, .int n, .ref x, n, 1, t1, b1, rfl, .inr ⟨rfl, rfl⟩, nx1.keep q7, .inr ⟨x, rfl⟩, fn, f1, fun m3 k3 => ?_⟩
      refine ⟨.ref m3, _, rfl, six_dp _ _, six_show _ _, six_depth _ _, six_len _ _, ?_⟩
      refine ⟨_, rfl, _, rfl, n, dn w0, rfl, rfl, cw n8 d8, _, rfl, n * dn w0, t, rfl, fun m4 k4 => ?_⟩
      refine ⟨.ref m4, _, rfl, six_dp _ _, six_show _ _, six_depth _ _, six_len _ _, rfl, false, ne_same (crossM e1 e2 g10), iteF ?_⟩
      have q9 := (q7.trans (same_new (o := .lst (six (n * b1) (t1 * 1))) k3)).trans (same_new (o := .lst (six (n * dn w0) t)) k4)
      exact ⟨some (.int n), rfl, cb.same q9, nx1.keep q9, q9 _ _ el11⟩
    · obtain ⟨yv, rfl, cb, _, _⟩ := h
      exact q _ cb
end
end K03

set_option Elab.async false
set_option linter.all false
set_option maxRecDepth 100000
set_option maxHeartbeats 8000000
namespace K03
open PySem PySem.Spec PyProof.Rows L2 GX OX TX
def spKinds : Sp := fun vs H Q _ => vs = [] ∧ ∀ H', Same H H' → Q (.bl true) H'
theorem one_gI (t : Int) : gI t 1 = 1 := by
  unfold gI
  rw [show (1 : Int).natAbs = 1 from rfl, Nat.gcd_one_right]
  rfl
theorem one80 : (1 : Int).natAbs < 10 ^ 80 := by decide +kernel
theorem three_int {i : Nat} {z : V} (h : ([.int 0, .int 1, .int 2] : List V)[i]? = some z) : ∃ n : Int, z = .int n ∧ n.natAbs ≤ 2 := by
  have m := List.mem_of_getElem? h
  simp only [List.mem_cons, List.not_mem_nil, or_false] at m
  rcases m with m | m | m <;> exact ⟨_, m, by decide⟩
theorem lgs {n : Int} (h : n.natAbs ≤ 2) : n.natAbs.log2 < 1920 := Nat.lt_of_lt_of_le (PySem.Flt.log2_lt_of (by decide) (show n.natAbs < 2 ^ 266 from Nat.lt_of_le_of_lt h (by decide +kernel))) (by decide)
theorem kinds {H : Hp} {x : Str} {l1 l2 l3 : Addr} {xs ys : List V} {kvs : List (Key × V)} {i : Nat} {z : V} (h : ([.bl true, .bl false, .non, .str x, .ref l1, .ref l2, .ref l3] : List V)[i]? = some z) (h1 : H l1 = some (.tup xs)) (h2 : H l2 = some (.lst ys)) (h3 : H l3 = some (.dK kvs)) :
    ∃ U, Kd H z U ∧ isIT U = false := by
  have m := List.mem_of_getElem? h
  simp only [List.mem_cons, List.not_mem_nil, or_false] at m
  rcases m with rfl | rfl | rfl | rfl | rfl | rfl | rfl
  · exact ⟨_, .bl _, rfl⟩
  · exact ⟨_, .bl _, rfl⟩
  · exact ⟨_, .non, rfl⟩
  · exact ⟨_, .str _, rfl⟩
  · exact ⟨_, .tup h1, rfl⟩
  · exact ⟨_, .lst h2, rfl⟩
  · exact ⟨_, .dK h3, rfl⟩
section
variable {P : Program} {w : World} {K : PySem.W.Frag} {mg : Str → Option Value} {base : Heap}
theorem ok_q_other_kinds (T : Txt K mg) : FnOk P w K mg base CX0 6 T.a_q_other_kinds T.fd_q_other_kinds [] spKinds := by
  refine T.F_q_other_kinds.ok sc_q_other_kinds (fun vs H Q E h => ?_) (fun cdv A outer s H vs Q E hr h => ?_)
  · obtain ⟨rfl, _⟩ := h
    rfl
  · obtain ⟨rfl, q⟩ := h
    obtain ⟨ds1, hd1, hb1⟩ := bI1 T
    refine ⟨_, (pss_cons (ps_for PassesOwn.never rfl (pi_list (pe_lst (pa_cons pe_int (pa_cons pe_int (pa_cons pe_int pa_nil))))) (pg_name (i := 0) sc_q_other_kinds.nd rfl (Or.inl rfl)) (pss_cons (ps_set (i := 1) sc_q_other_kinds.nd rfl (Or.inl rfl) (pe_make T.mkR (ok_Ratio___init__ T) (hr.mono (by decide)) (by rfl) T.g_Ratio hb1 hd1 pass0 (pa_cons (pv 0) pa_nil)))
          (pss_one (ps_for PassesOwn.never rfl (pi_list (pe_lst (pa_cons pe_bl (pa_cons pe_bl (pa_cons pe_non (pa_cons (pe_callTy call_str_int (by rfl) T.z_str (by decide +kernel) (pa_cons (pv 0) pa_nil)) (pa_cons (pe_tup (pa_cons (pv 0) (pa_cons pe_int pa_nil))) (pa_cons (pe_lst (pa_cons (pv 0) pa_nil)) (pa_cons pe_dnewK pa_nil))))))))) (pg_name (i := 2) sc_q_other_kinds.nd rfl (Or.inl rfl)) (pss_one (ps_if (PW.pt (pw_or (pt_cmpR (op_own (op := .Eq) (Rs := allK) (fun _ _ => rfl) T.o_eq T.f_eq (ok_Ratio___eq__ T) (b_Ratio___eq__ T) T.o_eq T.f_eq (ok_Ratio___eq__ T) (b_Ratio___eq__ T) (fun U _ => T.sT U) (LA T) (hr.mono (by decide))) (pv 1) (pv 2) (nomark _)) (pw_or (pt_cmpR (op_own (op := .Eq) (Rs := allK) (fun _ _ => rfl) T.o_eq T.f_eq (ok_Ratio___eq__ T) (b_Ratio___eq__ T) T.o_eq T.f_eq (ok_Ratio___eq__ T) (b_Ratio___eq__ T) (fun U _ => T.sT U) (LA T) (hr.mono (by decide))) (pv 2) (pv 1) (nomark _)) (pw_or1 (pt_not (pt_cmpR (op_own (op := .NotEq) (Rs := allK) (fun _ _ => rfl) T.o_ne T.f_ne (ok_Ratio___ne__ T) (b_Ratio___ne__ T) T.o_ne T.f_ne (ok_Ratio___ne__ T) (b_Ratio___ne__ T) (fun U _ => T.sT U) (L1 T decl_ne) (hr.mono (by decide))) (pv 1) (pv 2) (nomark _))))))) (pss_one (ps_ret pe_bl)) pss_nil))))))
      (pss_one (ps_ret pe_bl))), ?_⟩
    refine ⟨(by show 3 ≤ sizeLine; decide), fun l hl => ?_⟩
    refine ⟨l, rfl, ⟨_, SqL.of upd_same⟩, ?_⟩
    refine for_list (K := K) (a := l) (xs := [.int 0, .int 1, .int 2]) (fun i σ H' => ∃ y1 y2 y3 : Option V, σ = [y1, y2, y3] ∧ Same H H' ∧ H' l = some (.lst [.int 0, .int 1, .int 2]))
      ⟨none, none, none, rfl, same_new hl, upd_same⟩ (fun i σ H' _ h => ?_) (fun i z σ H' hz h => ?_) (fun σ H' h => ?_)
    · obtain ⟨_, _, _, _, _, e⟩ := h
      exact SqL.of e
    · obtain ⟨y1, y2, y3, rfl, sm, el⟩ := h
      obtain ⟨n, rfl, nb⟩ := three_int hz
      refine ⟨_, rfl, fun x dx nx nd ne => ⟨x, n, 1, rfl, by decide, one80, ⟨dx, upd_same⟩, fun H1 c1 rat => ⟨rfl, ?_⟩⟩⟩
      have s1 := mk_same nx nd c1
      rw [one_gI, Int.ediv_one, Int.ediv_one] at rat
      have fit : Fit n 1 := ⟨Nat.lt_of_le_of_lt nb (by decide +kernel), one80⟩
      refine ⟨_, rfl, n, rfl, lgs nb, _, rfl, (by show 2 ≤ sizeLine; decide), fun t1 k1 => ?_⟩
      refine ⟨_, rfl, (by show 1 ≤ sizeLine; decide), fun t2 k2 => fun t3 k3 => ⟨(by show 7 ≤ sizeLine; decide), fun t4 k4 => ?_⟩⟩
      have q1 := same_new (o := .tup [.int n, .int 1]) k1
      have q2 := same_new (o := .lst [.int n]) k2
      have q3 := same_new (o := .dK []) k3
      have q4 := same_new (o := .lst [.bl true, .bl false, .non, .str (Str.ofString (toString n)), .ref t1, .ref t2, .ref t3]) k4
      have sAll := (((s1.trans q1).trans q2).trans q3).trans q4
      have rat4 := (((rat.keep q1).keep q2).keep q3).keep q4
      have E1 := q4 _ _ (q3 _ _ (q2 _ _ (upd_same (H := H1) (a := t1) (o := .tup [.int n, .int 1]))))
      have E2 := q4 _ _ (q3 _ _ (upd_same (a := t2) (o := .lst [.int n])))
      have E3 := q4 _ _ (upd_same (a := t3) (o := .dK []))
      refine ⟨t4, rfl, ⟨_, SqL.of upd_same⟩, ?_⟩
      refine for_list (K := K) (a := t4) (xs := [.bl true, .bl false, .non, .str (Str.ofString (toString n)), .ref t1, .ref t2, .ref t3]) (fun i σ H' => ∃ y4 : Option V, σ = [some (.int n), some (.ref x), y4] ∧ Same H H' ∧ H' l = some (.lst [.int 0, .int 1, .int 2]) ∧
          Rat T.C H' x n 1 n ∧ H' t1 = some (.tup [.int n, .int 1]) ∧ H' t2 = some (.lst [.int n]) ∧ H' t3 = some (.dK []) ∧ H' t4 = some (.lst [.bl true, .bl false, .non, .str (Str.ofString (toString n)), .ref t1, .ref t2, .ref t3]))
        ⟨y3, rfl, sm.trans sAll, sAll _ _ el, rat4, E1, E2, E3, upd_same⟩ (fun i σ H' _ h => ?_) (fun i z σ H' hz h => ?_) (fun σ H' h => ?_)
      · obtain ⟨_, _, _, _, _, _, _, _, e⟩ := h
        exact SqL.of e
      · obtain ⟨y4, rfl, sm', el', r', a1, a2, a3, a4⟩ := h
        obtain ⟨U, kd, nU⟩ := kinds hz a1 a2 a3
        obtain ⟨dy, fs, ex, rr⟩ := id r'
        refine ⟨_, rfl, _, rfl, .inl ⟨x, dy, fs, rfl, ex, .inl ⟨U, mem_all U, kd⟩, x, z, n, 1, _, rfl, r', fit, .inr ⟨U, kd, nU, _, rfl, false, rfl, iteF ?_⟩⟩⟩
        refine ⟨_, rfl, _, rfl, .inr ⟨x, dy, fs, U, rfl, ex, mem_all U, kd, x, z, n, 1, _, rfl, r', fit, .inr ⟨U, kd, nU, _, rfl, false, rfl, iteF ?_⟩⟩⟩
        refine ⟨_, rfl, _, rfl, .inl ⟨x, dy, fs, rfl, ex, .inl ⟨U, mem_all U, kd⟩, x, z, n, 1, _, rfl, r', fit, .inr ⟨U, kd, nU, _, rfl, true, rfl, iteF ?_⟩⟩⟩
        exact ⟨some z, rfl, sm', el', r', a1, a2, a3, a4⟩
      · obtain ⟨y4, rfl, sm', el', _⟩ := h
        exact ⟨_, _, _, rfl, sm', el'⟩
    · obtain ⟨_, _, _, rfl, sm, _⟩ := h
      exact q _ sm
def spLaw (K : PySem.W.Frag) : Sp := fun vs H Q _ => ∃ (a : Addr) (ns : List Int), vs = [.ref a] ∧ SqL K H a (ns.map V.int) ∧ ns.length ≤ 63 ∧ ∀ H', Q (.bl true) H'
theorem ok_law (T : Txt K mg) : FnG P w K mg base CX0 9 T.a_law T.fd_law ["_law_script"] (spLaw K) := by
  refine fnG0 T.F_law sc_law (fun vs H Q E h => ?_) (fun cdv A outer s H vs Q E hG hr h => ?_)
  · obtain ⟨a, ns, rfl, _⟩ := h
    rfl
  · obtain ⟨a, ns, rfl, S, hl, q⟩ := h
    refine ⟨_, (pss_cons (ps_for PassesOwn.never rfl (pi_range1 (by rfl) T.z_range (pa_cons (pe_callB (call_max2 rfl) (by rfl) T.z_max (by decide +kernel) (pa_cons pe_int (pa_cons (pe_callB (call_min2 rfl) (by rfl) T.z_min (by decide +kernel) (pa_cons (pe_callB call_len_seq (by rfl) T.z_len (by decide +kernel) (pa_cons (pv 0) pa_nil)) (pa_cons pe_int pa_nil))) pa_nil))) pa_nil)) (pg_name (i := 1) sc_law.nd rfl (Or.inl rfl)) (pss_one (ps_if (pt_not (pt_val (pe_callG hG (ok_q_right T) (hr.mono (by decide)) (by rfl) T.g_q_right T.F_q_right.kp (b_q_right T) pass0 (pa_cons (pe_call (ok_q_purse T) (hr.mono (by decide)) (by rfl) T.g_q_purse T.F_q_purse.kp (b_q_purse T) .nil pass0 (pa_cons (pv 0) (pa_cons (pv 1) pa_nil))) pa_nil)))) (pss_one (ps_ret pe_bl)) pss_nil)))
      (pss_one (ps_ret (pe_call0 (ok_q_other_kinds T) (hr.mono (by decide)) (by rfl) T.g_q_other_kinds T.F_q_other_kinds.kp (b_q_other_kinds T) .nil pass0)))), ?_⟩
    have hl2 : (((ns.map V.int).length : Nat) : Int) ≤ 63 := by
      rw [List.length_map]
      omega
    refine ⟨_, rfl, a, _, rfl, .inl S, _, 10, rfl, 2, _, rfl, _, rfl, ?_, ?_, ?_⟩
    · split <;> split <;> omega
    · split <;> split <;> omega
    · refine for_range (lo := 0) (fun i σ H' => ∃ y : Option V, σ = [some (.ref a), y] ∧ Same H H') ⟨none, rfl, Same.refl H⟩ (fun i σ H' hi h => ?_) (fun σ H' h => ?_)
      · obtain ⟨y, rfl, sm⟩ := h
        have hi2 : i ≤ 63 := by
          revert hi
          split <;> split <;> omega
        have e0 : (0 : Int) + (i : Int) = (i : Int) := by omega
        refine ⟨_, rfl, _, rfl, a, ns, i, congrArg (fun z => [V.ref a, V.int z]) e0, sm.seq S, hl, hi2, fun p H1 hp s1 bag => ?_⟩
        refine ⟨p, rfl, bag, fun H2 but => ⟨true, rfl, iteF ⟨_, rfl, fun b o h => ?_⟩⟩⟩
        exact but _ _ (ne_of_none (sm _ _ h) hp) (s1 _ _ (sm _ _ h))
      · exact ⟨rfl, fun H2 _ => q H2⟩
end
end K03

set_option Elab.async false
set_option linter.all false
set_option maxRecDepth 100000
set_option maxHeartbeats 8000000
namespace K03
open PySem PySem.Spec PyProof.Rows L2 GX OX
theorem all_mk {l : PySem.W.OpenLaw} {w : World} {K : PySem.W.Frag} {h : Heap} {mg : Str → Option Value} {fa : Addr} (X : K.In h) (G : h.Ns mainGlobals mg) (hfa : mg "law" = some (.ref fa))
    {f_is_integer : Addr} {od_is_integer an_is_integer : Option Addr} {sl_is_integer : Array (Option Value)} {oc_is_integer kV_is_integer dc_is_integer pm_is_integer cd_is_integer ct_is_integer : Value}
    {f_is_number : Addr} {od_is_number an_is_number : Option Addr} {sl_is_number : Array (Option Value)} {oc_is_number kV_is_number dc_is_number pm_is_number cd_is_number ct_is_number : Value}
    {f__top_of : Addr} {od__top_of an__top_of : Option Addr} {sl__top_of : Array (Option Value)} {oc__top_of kV__top_of dc__top_of pm__top_of cd__top_of ct__top_of : Value}
    {f__bottom_of : Addr} {od__bottom_of an__bottom_of : Option Addr} {sl__bottom_of : Array (Option Value)} {oc__bottom_of kV__bottom_of dc__bottom_of pm__bottom_of cd__bottom_of ct__bottom_of : Value}
    {f__lead : Addr} {od__lead an__lead : Option Addr} {sl__lead : Array (Option Value)} {oc__lead kV__lead dc__lead pm__lead cd__lead ct__lead : Value}
    {f_q_purse : Addr} {od_q_purse an_q_purse : Option Addr} {sl_q_purse : Array (Option Value)} {oc_q_purse kV_q_purse dc_q_purse pm_q_purse cd_q_purse ct_q_purse : Value}
    {f_q_draw : Addr} {od_q_draw an_q_draw : Option Addr} {sl_q_draw : Array (Option Value)} {oc_q_draw kV_q_draw dc_q_draw pm_q_draw cd_q_draw ct_q_draw : Value}
    {f_q_great : Addr} {od_q_great an_q_great : Option Addr} {sl_q_great : Array (Option Value)} {oc_q_great kV_q_great dc_q_great pm_q_great cd_q_great ct_q_great : Value}
    {f_q_integer : Addr} {od_q_integer an_q_integer : Option Addr} {sl_q_integer : Array (Option Value)} {oc_q_integer kV_q_integer dc_q_integer pm_q_integer cd_q_integer ct_q_integer : Value}
    {f_q_told : Addr} {od_q_told an_q_told : Option Addr} {sl_q_told : Array (Option Value)} {oc_q_told kV_q_told dc_q_told pm_q_told cd_q_told ct_q_told : Value}
    {f_q_due : Addr} {od_q_due an_q_due : Option Addr} {sl_q_due : Array (Option Value)} {oc_q_due kV_q_due dc_q_due pm_q_due cd_q_due ct_q_due : Value}
    {f_q_second : Addr} {od_q_second an_q_second : Option Addr} {sl_q_second : Array (Option Value)} {oc_q_second kV_q_second dc_q_second pm_q_second cd_q_second ct_q_second : Value}
    {f_q_right : Addr} {od_q_right an_q_right : Option Addr} {sl_q_right : Array (Option Value)} {oc_q_right kV_q_right dc_q_right pm_q_right cd_q_right ct_q_right : Value}
    {f_q_other_kinds : Addr} {od_q_other_kinds an_q_other_kinds : Option Addr} {sl_q_other_kinds : Array (Option Value)} {oc_q_other_kinds kV_q_other_kinds dc_q_other_kinds pm_q_other_kinds cd_q_other_kinds ct_q_other_kinds : Value}
    {f_law : Addr} {od_law an_law : Option Addr} {sl_law : Array (Option Value)} {oc_law kV_law dc_law pm_law cd_law ct_law : Value}
    {C fI aD g_lt g_le g_gt g_ge g_eq g_ne : Addr}
    {tD : Tok}
    {nD : Nat}
    {od_init an_init : Option Addr}
    {sl_init : Array (Option Value)}
    {oc_init kV_init dc_init pm_init cd_init ct_init : Value}
    {od_mlt an_mlt : Option Addr}
    {sl_mlt : Array (Option Value)}
    {oc_mlt kV_mlt dc_mlt pm_mlt cd_mlt ct_mlt : Value}
    {od_mle an_mle : Option Addr}
    {sl_mle : Array (Option Value)}
    {oc_mle kV_mle dc_mle pm_mle cd_mle ct_mle : Value}
    {od_mgt an_mgt : Option Addr}
    {sl_mgt : Array (Option Value)}
    {oc_mgt kV_mgt dc_mgt pm_mgt cd_mgt ct_mgt : Value}
    {od_mge an_mge : Option Addr}
    {sl_mge : Array (Option Value)}
    {oc_mge kV_mge dc_mge pm_mge cd_mge ct_mge : Value}
    {od_meq an_meq : Option Addr}
    {sl_meq : Array (Option Value)}
    {oc_meq kV_meq dc_meq pm_meq cd_meq ct_meq : Value}
    {od_mne an_mne : Option Addr}
    {sl_mne : Array (Option Value)}
    {oc_mne kV_mne dc_mne pm_mne cd_mne ct_mne : Value}
    {ocD : Value}
    {odD : Option Addr}
    {slD : Array (Option Value)}
    (a_is_integer : PySem.W.nsIn K mainGlobals "is_integer" = some (some (.ref f_is_integer))) (l_is_integer : K.lookup f_is_integer = some ⟨oc_is_integer, od_is_integer, .func (PySem.W.fnOf "is_integer" "is_integer" (defArgs s_is_integer) (defBody s_is_integer) (defScope s_is_integer) .none kV_is_integer dc_is_integer pm_is_integer an_is_integer cd_is_integer ct_is_integer), sl_is_integer⟩) (c_is_integer : PySem.W.codeIn K cd_is_integer "is_integer" = true) (k_is_integer : PySem.W.keepIn K (.ref f_is_integer) = true)
    (a_is_number : PySem.W.nsIn K mainGlobals "is_number" = some (some (.ref f_is_number))) (l_is_number : K.lookup f_is_number = some ⟨oc_is_number, od_is_number, .func (PySem.W.fnOf "is_number" "is_number" (defArgs s_is_number) (defBody s_is_number) (defScope s_is_number) .none kV_is_number dc_is_number pm_is_number an_is_number cd_is_number ct_is_number), sl_is_number⟩) (c_is_number : PySem.W.codeIn K cd_is_number "is_number" = true) (k_is_number : PySem.W.keepIn K (.ref f_is_number) = true)
    (a__top_of : PySem.W.nsIn K mainGlobals "_top_of" = some (some (.ref f__top_of))) (l__top_of : K.lookup f__top_of = some ⟨oc__top_of, od__top_of, .func (PySem.W.fnOf "_top_of" "_top_of" (defArgs s__top_of) (defBody s__top_of) (defScope s__top_of) .none kV__top_of dc__top_of pm__top_of an__top_of cd__top_of ct__top_of), sl__top_of⟩) (c__top_of : PySem.W.codeIn K cd__top_of "_top_of" = true) (k__top_of : PySem.W.keepIn K (.ref f__top_of) = true)
    (a__bottom_of : PySem.W.nsIn K mainGlobals "_bottom_of" = some (some (.ref f__bottom_of))) (l__bottom_of : K.lookup f__bottom_of = some ⟨oc__bottom_of, od__bottom_of, .func (PySem.W.fnOf "_bottom_of" "_bottom_of" (defArgs s__bottom_of) (defBody s__bottom_of) (defScope s__bottom_of) .none kV__bottom_of dc__bottom_of pm__bottom_of an__bottom_of cd__bottom_of ct__bottom_of), sl__bottom_of⟩) (c__bottom_of : PySem.W.codeIn K cd__bottom_of "_bottom_of" = true) (k__bottom_of : PySem.W.keepIn K (.ref f__bottom_of) = true)
    (a__lead : PySem.W.nsIn K mainGlobals "_lead" = some (some (.ref f__lead))) (l__lead : K.lookup f__lead = some ⟨oc__lead, od__lead, .func (PySem.W.fnOf "_lead" "_lead" (defArgs s__lead) (defBody s__lead) (defScope s__lead) .none kV__lead dc__lead pm__lead an__lead cd__lead ct__lead), sl__lead⟩) (c__lead : PySem.W.codeIn K cd__lead "_lead" = true) (k__lead : PySem.W.keepIn K (.ref f__lead) = true)
    (a_q_purse : PySem.W.nsIn K mainGlobals "_law_purse" = some (some (.ref f_q_purse))) (l_q_purse : K.lookup f_q_purse = some ⟨oc_q_purse, od_q_purse, .func (PySem.W.fnOf "_law_purse" "_law_purse" (defArgs s_q_purse) (defBody s_q_purse) (defScope s_q_purse) .none kV_q_purse dc_q_purse pm_q_purse an_q_purse cd_q_purse ct_q_purse), sl_q_purse⟩) (c_q_purse : PySem.W.codeIn K cd_q_purse "_law_purse" = true) (k_q_purse : PySem.W.keepIn K (.ref f_q_purse) = true)
    (a_q_draw : PySem.W.nsIn K mainGlobals "_law_draw" = some (some (.ref f_q_draw))) (l_q_draw : K.lookup f_q_draw = some ⟨oc_q_draw, od_q_draw, .func (PySem.W.fnOf "_law_draw" "_law_draw" (defArgs s_q_draw) (defBody s_q_draw) (defScope s_q_draw) .none kV_q_draw dc_q_draw pm_q_draw an_q_draw cd_q_draw ct_q_draw), sl_q_draw⟩) (c_q_draw : PySem.W.codeIn K cd_q_draw "_law_draw" = true) (k_q_draw : PySem.W.keepIn K (.ref f_q_draw) = true)
    (a_q_great : PySem.W.nsIn K mainGlobals "_law_great" = some (some (.ref f_q_great))) (l_q_great : K.lookup f_q_great = some ⟨oc_q_great, od_q_great, .func (PySem.W.fnOf "_law_great" "_law_great" (defArgs s_q_great) (defBody s_q_great) (defScope s_q_great) .none kV_q_great dc_q_great pm_q_great an_q_great cd_q_great ct_q_great), sl_q_great⟩) (c_q_great : PySem.W.codeIn K cd_q_great "_law_great" = true) (k_q_great : PySem.W.keepIn K (.ref f_q_great) = true)
    (a_q_integer : PySem.W.nsIn K mainGlobals "_law_integer" = some (some (.ref f_q_integer))) (l_q_integer : K.lookup f_q_integer = some ⟨oc_q_integer, od_q_integer, .func (PySem.W.fnOf "_law_integer" "_law_integer" (defArgs s_q_integer) (defBody s_q_integer) (defScope s_q_integer) .none kV_q_integer dc_q_integer pm_q_integer an_q_integer cd_q_integer ct_q_integer), sl_q_integer⟩) (c_q_integer : PySem.W.codeIn K cd_q_integer "_law_integer" = true) (k_q_integer : PySem.W.keepIn K (.ref f_q_integer) = true)
    (a_q_told : PySem.W.nsIn K mainGlobals "_law_told" = some (some (.ref f_q_told))) (l_q_told : K.lookup f_q_told = some ⟨oc_q_told, od_q_told, .func (PySem.W.fnOf "_law_told" "_law_told" (defArgs s_q_told) (defBody s_q_told) (defScope s_q_told) .none kV_q_told dc_q_told pm_q_told an_q_told cd_q_told ct_q_told), sl_q_told⟩) (c_q_told : PySem.W.codeIn K cd_q_told "_law_told" = true) (k_q_told : PySem.W.keepIn K (.ref f_q_told) = true)
    (a_q_due : PySem.W.nsIn K mainGlobals "_law_due" = some (some (.ref f_q_due))) (l_q_due : K.lookup f_q_due = some ⟨oc_q_due, od_q_due, .func (PySem.W.fnOf "_law_due" "_law_due" (defArgs s_q_due) (defBody s_q_due) (defScope s_q_due) .none kV_q_due dc_q_due pm_q_due an_q_due cd_q_due ct_q_due), sl_q_due⟩) (c_q_due : PySem.W.codeIn K cd_q_due "_law_due" = true) (k_q_due : PySem.W.keepIn K (.ref f_q_due) = true)
    (a_q_second : PySem.W.nsIn K mainGlobals "_law_second" = some (some (.ref f_q_second))) (l_q_second : K.lookup f_q_second = some ⟨oc_q_second, od_q_second, .func (PySem.W.fnOf "_law_second" "_law_second" (defArgs s_q_second) (defBody s_q_second) (defScope s_q_second) .none kV_q_second dc_q_second pm_q_second an_q_second cd_q_second ct_q_second), sl_q_second⟩) (c_q_second : PySem.W.codeIn K cd_q_second "_law_second" = true) (k_q_second : PySem.W.keepIn K (.ref f_q_second) = true)
    (a_q_right : PySem.W.nsIn K mainGlobals "_law_right" = some (some (.ref f_q_right))) (l_q_right : K.lookup f_q_right = some ⟨oc_q_right, od_q_right, .func (PySem.W.fnOf "_law_right" "_law_right" (defArgs s_q_right) (defBody s_q_right) (defScope s_q_right) .none kV_q_right dc_q_right pm_q_right an_q_right cd_q_right ct_q_right), sl_q_right⟩) (c_q_right : PySem.W.codeIn K cd_q_right "_law_right" = true) (k_q_right : PySem.W.keepIn K (.ref f_q_right) = true)
    (a_q_other_kinds : PySem.W.nsIn K mainGlobals "_law_other_kinds" = some (some (.ref f_q_other_kinds))) (l_q_other_kinds : K.lookup f_q_other_kinds = some ⟨oc_q_other_kinds, od_q_other_kinds, .func (PySem.W.fnOf "_law_other_kinds" "_law_other_kinds" (defArgs s_q_other_kinds) (defBody s_q_other_kinds) (defScope s_q_other_kinds) .none kV_q_other_kinds dc_q_other_kinds pm_q_other_kinds an_q_other_kinds cd_q_other_kinds ct_q_other_kinds), sl_q_other_kinds⟩) (c_q_other_kinds : PySem.W.codeIn K cd_q_other_kinds "_law_other_kinds" = true) (k_q_other_kinds : PySem.W.keepIn K (.ref f_q_other_kinds) = true)
    (a_law : PySem.W.nsIn K mainGlobals "law" = some (some (.ref f_law))) (l_law : K.lookup f_law = some ⟨oc_law, od_law, .func (PySem.W.fnOf "law" "law" (defArgs s_law) (defBody s_law) (defScope s_law) .none kV_law dc_law pm_law an_law cd_law ct_law), sl_law⟩) (c_law : PySem.W.codeIn K cd_law "law" = true) (k_law : PySem.W.keepIn K (.ref f_law) = true)
    (y_isinstance : PySem.W.nsIn K mainGlobals "isinstance" = some none)
    (y_int : PySem.W.nsIn K mainGlobals "int" = some none)
    (y_bool : PySem.W.nsIn K mainGlobals "bool" = some none)
    (y_str : PySem.W.nsIn K mainGlobals "str" = some none)
    (y_len : PySem.W.nsIn K mainGlobals "len" = some none)
    (y_range : PySem.W.nsIn K mainGlobals "range" = some none)
    (y_abs : PySem.W.nsIn K mainGlobals "abs" = some none)
    (y_divmod : PySem.W.nsIn K mainGlobals "divmod" = some none)
    (y_repr : PySem.W.nsIn K mainGlobals "repr" = some none)
    (y_max : PySem.W.nsIn K mainGlobals "max" = some none)
    (y_min : PySem.W.nsIn K mainGlobals "min" = some none)
    (uR : PySem.W.nsIn K mainGlobals "Ratio" = some (some (.ref C)))
    (uG : PySem.W.nsIn K mainGlobals "gcd" = some (some (.builtin "math.gcd")))
    (pg : PySem.W.plainGet K C Str.empty = true)
    (hd : PySem.W.hasDictIn K C = true)
    (po : PySem.W.plainOver K C = true)
    (sa : PySem.W.findIn K (.ref C) "__setattr__" = some (some (.builtin "object.__setattr__")))
    (nT : PySem.W.findIn K (.ref C) "top" = some none)
    (nB : PySem.W.findIn K (.ref C) "bottom" = some none)
    (nF : PySem.W.findIn K (.ref C) "floor" = some none)
    (mk : PySem.W.makesIn K C = true)
    (ii : PySem.W.findIn K (.ref C) "__init__" = some (some (.ref fI)))
    (fn : PySem.W.isFn K (.ref fI) = true)
    (kC : PySem.W.keepIn K (.ref C) = true)
    (l_init : K.lookup fI = some ⟨oc_init, od_init, .func (PySem.W.fnOf "__init__" "Ratio.__init__" (defArgs s_Ratio___init__) (defBody s_Ratio___init__) (defScope s_Ratio___init__) (.ref aD) kV_init dc_init pm_init an_init cd_init ct_init), sl_init⟩)
    (c_init : PySem.W.codeIn K cd_init "Ratio.__init__" = true)
    (k_init : PySem.W.keepIn K (.ref fI) = true)
    (lD : K.lookup aD = some ⟨ocD, odD, .seq #[.int 1 tD] nD, slD⟩)
    (o_lt : PySem.W.findIn K (.ref C) "__lt__" = some (some (.ref g_lt)))
    (f_lt : PySem.W.isFn K (.ref g_lt) = true)
    (l_mlt : K.lookup g_lt = some ⟨oc_mlt, od_mlt, .func (PySem.W.fnOf "__lt__" "Ratio.__lt__" (defArgs s_Ratio___lt__) (defBody s_Ratio___lt__) (defScope s_Ratio___lt__) .none kV_mlt dc_mlt pm_mlt an_mlt cd_mlt ct_mlt), sl_mlt⟩)
    (c_mlt : PySem.W.codeIn K cd_mlt "Ratio.__lt__" = true)
    (k_mlt : PySem.W.keepIn K (.ref g_lt) = true)
    (o_le : PySem.W.findIn K (.ref C) "__le__" = some (some (.ref g_le)))
    (f_le : PySem.W.isFn K (.ref g_le) = true)
    (l_mle : K.lookup g_le = some ⟨oc_mle, od_mle, .func (PySem.W.fnOf "__le__" "Ratio.__le__" (defArgs s_Ratio___le__) (defBody s_Ratio___le__) (defScope s_Ratio___le__) .none kV_mle dc_mle pm_mle an_mle cd_mle ct_mle), sl_mle⟩)
    (c_mle : PySem.W.codeIn K cd_mle "Ratio.__le__" = true)
    (k_mle : PySem.W.keepIn K (.ref g_le) = true)
    (o_gt : PySem.W.findIn K (.ref C) "__gt__" = some (some (.ref g_gt)))
    (f_gt : PySem.W.isFn K (.ref g_gt) = true)
    (l_mgt : K.lookup g_gt = some ⟨oc_mgt, od_mgt, .func (PySem.W.fnOf "__gt__" "Ratio.__gt__" (defArgs s_Ratio___gt__) (defBody s_Ratio___gt__) (defScope s_Ratio___gt__) .none kV_mgt dc_mgt pm_mgt an_mgt cd_mgt ct_mgt), sl_mgt⟩)
    (c_mgt : PySem.W.codeIn K cd_mgt "Ratio.__gt__" = true)
    (k_mgt : PySem.W.keepIn K (.ref g_gt) = true)
    (o_ge : PySem.W.findIn K (.ref C) "__ge__" = some (some (.ref g_ge)))
    (f_ge : PySem.W.isFn K (.ref g_ge) = true)
    (l_mge : K.lookup g_ge = some ⟨oc_mge, od_mge, .func (PySem.W.fnOf "__ge__" "Ratio.__ge__" (defArgs s_Ratio___ge__) (defBody s_Ratio___ge__) (defScope s_Ratio___ge__) .none kV_mge dc_mge pm_mge an_mge cd_mge ct_mge), sl_mge⟩)
    (c_mge : PySem.W.codeIn K cd_mge "Ratio.__ge__" = true)
    (k_mge : PySem.W.keepIn K (.ref g_ge) = true)
    (o_eq : PySem.W.findIn K (.ref C) "__eq__" = some (some (.ref g_eq)))
    (f_eq : PySem.W.isFn K (.ref g_eq) = true)
    (l_meq : K.lookup g_eq = some ⟨oc_meq, od_meq, .func (PySem.W.fnOf "__eq__" "Ratio.__eq__" (defArgs s_Ratio___eq__) (defBody s_Ratio___eq__) (defScope s_Ratio___eq__) .none kV_meq dc_meq pm_meq an_meq cd_meq ct_meq), sl_meq⟩)
    (c_meq : PySem.W.codeIn K cd_meq "Ratio.__eq__" = true)
    (k_meq : PySem.W.keepIn K (.ref g_eq) = true)
    (o_ne : PySem.W.findIn K (.ref C) "__ne__" = some (some (.ref g_ne)))
    (f_ne : PySem.W.isFn K (.ref g_ne) = true)
    (l_mne : K.lookup g_ne = some ⟨oc_mne, od_mne, .func (PySem.W.fnOf "__ne__" "Ratio.__ne__" (defArgs s_Ratio___ne__) (defBody s_Ratio___ne__) (defScope s_Ratio___ne__) .none kV_mne dc_mne pm_mne an_mne cd_mne ct_mne), sl_mne⟩)
    (c_mne : PySem.W.codeIn K cd_mne "Ratio.__ne__" = true)
    (k_mne : PySem.W.keepIn K (.ref g_ne) = true)
    (ha : PySem.W.findIn K (.ref C) "__class__" = some (some (.builtin "object.__class__")))
    (hn : PySem.W.specialIn K (.builtin "object.__class__") "__get__" = some (some (.builtin "getset_descriptor.__get__")))
    (ht : PySem.W.takesIn K (.builtin "object.__class__") = some true)
    (hm : PySem.W.mroIn K C (.type "object") = some true)
    (kCC : PySem.W.kitOne K (.ref C) (.ref C) = some true)
    (kCI : PySem.W.kitOne K (.ref C) (.type "int") = some false)
    (vs_int : PySem.W.subIn K (.type "int") (.ref C) = some false)
    (vc_int : PySem.W.subIn K (.ref C) (.type "int") = some false)
    (vk_int : PySem.W.kitOne K (.type "int") (.ref C) = some false)
    (vs_bl : PySem.W.subIn K (.type "bool") (.ref C) = some false)
    (vc_bl : PySem.W.subIn K (.ref C) (.type "bool") = some false)
    (vk_bl : PySem.W.kitOne K (.type "bool") (.ref C) = some false)
    (vs_non : PySem.W.subIn K (.type "NoneType") (.ref C) = some false)
    (vc_non : PySem.W.subIn K (.ref C) (.type "NoneType") = some false)
    (vk_non : PySem.W.kitOne K (.type "NoneType") (.ref C) = some false)
    (vs_str : PySem.W.subIn K (.type "str") (.ref C) = some false)
    (vc_str : PySem.W.subIn K (.ref C) (.type "str") = some false)
    (vk_str : PySem.W.kitOne K (.type "str") (.ref C) = some false)
    (vs_lst : PySem.W.subIn K (.type "list") (.ref C) = some false)
    (vc_lst : PySem.W.subIn K (.ref C) (.type "list") = some false)
    (vk_lst : PySem.W.kitOne K (.type "list") (.ref C) = some false)
    (vs_tup : PySem.W.subIn K (.type "tuple") (.ref C) = some false)
    (vc_tup : PySem.W.subIn K (.ref C) (.type "tuple") = some false)
    (vk_tup : PySem.W.kitOne K (.type "tuple") (.ref C) = some false)
    (vs_dct : PySem.W.subIn K (.type "dict") (.ref C) = some false)
    (vc_dct : PySem.W.subIn K (.ref C) (.type "dict") = some false)
    (vk_dct : PySem.W.kitOne K (.type "dict") (.ref C) = some false) :
    ∃ fd : FuncData, (∀ (s : Shared) (v : Value), BindsTo s fd ⟨[v], []⟩ [("_law_script", v)]) ∧ ∀ base : Heap, K.In base → base.Ns mainGlobals mg → FnG l.prog w K mg base CX0 9 fa fd ["_law_script"] (spLaw K) := by
  have e := hfa.symm.trans (PySem.W.mg_of X G a_law)
  cases e
  let T : Txt K mg := {
    z_isinstance := PySem.W.mg_none_of X G y_isinstance
    z_int := PySem.W.mg_none_of X G y_int
    z_bool := PySem.W.mg_none_of X G y_bool
    z_str := PySem.W.mg_none_of X G y_str
    z_len := PySem.W.mg_none_of X G y_len
    z_range := PySem.W.mg_none_of X G y_range
    z_abs := PySem.W.mg_none_of X G y_abs
    z_divmod := PySem.W.mg_none_of X G y_divmod
    z_repr := PySem.W.mg_none_of X G y_repr
    z_max := PySem.W.mg_none_of X G y_max
    z_min := PySem.W.mg_none_of X G y_min
    a_is_integer := f_is_integer
    fd_is_integer := _
    g_is_integer := PySem.W.mg_of X G a_is_integer
    F_is_integer := fun_mk (st := s_is_integer) l_is_integer c_is_integer k_is_integer
    a_is_number := f_is_number
    fd_is_number := _
    g_is_number := PySem.W.mg_of X G a_is_number
    F_is_number := fun_mk (st := s_is_number) l_is_number c_is_number k_is_number
    a__top_of := f__top_of
    fd__top_of := _
    g__top_of := PySem.W.mg_of X G a__top_of
    F__top_of := fun_mk (st := s__top_of) l__top_of c__top_of k__top_of
    a__bottom_of := f__bottom_of
    fd__bottom_of := _
    g__bottom_of := PySem.W.mg_of X G a__bottom_of
    F__bottom_of := fun_mk (st := s__bottom_of) l__bottom_of c__bottom_of k__bottom_of
    a__lead := f__lead
    fd__lead := _
    g__lead := PySem.W.mg_of X G a__lead
    F__lead := fun_mk (st := s__lead) l__lead c__lead k__lead
    a_q_purse := f_q_purse
    fd_q_purse := _
    g_q_purse := PySem.W.mg_of X G a_q_purse
    F_q_purse := fun_mk (st := s_q_purse) l_q_purse c_q_purse k_q_purse
    a_q_draw := f_q_draw
    fd_q_draw := _
    g_q_draw := PySem.W.mg_of X G a_q_draw
    F_q_draw := fun_mk (st := s_q_draw) l_q_draw c_q_draw k_q_draw
    a_q_great := f_q_great
    fd_q_great := _
    g_q_great := PySem.W.mg_of X G a_q_great
    F_q_great := fun_mk (st := s_q_great) l_q_great c_q_great k_q_great
    a_q_integer := f_q_integer
    fd_q_integer := _
    g_q_integer := PySem.W.mg_of X G a_q_integer
    F_q_integer := fun_mk (st := s_q_integer) l_q_integer c_q_integer k_q_integer
    a_q_told := f_q_told
    fd_q_told := _
    g_q_told := PySem.W.mg_of X G a_q_told
    F_q_told := fun_mk (st := s_q_told) l_q_told c_q_told k_q_told
    a_q_due := f_q_due
    fd_q_due := _
    g_q_due := PySem.W.mg_of X G a_q_due
    F_q_due := fun_mk (st := s_q_due) l_q_due c_q_due k_q_due
    a_q_second := f_q_second
    fd_q_second := _
    g_q_second := PySem.W.mg_of X G a_q_second
    F_q_second := fun_mk (st := s_q_second) l_q_second c_q_second k_q_second
    a_q_right := f_q_right
    fd_q_right := _
    g_q_right := PySem.W.mg_of X G a_q_right
    F_q_right := fun_mk (st := s_q_right) l_q_right c_q_right k_q_right
    a_q_other_kinds := f_q_other_kinds
    fd_q_other_kinds := _
    g_q_other_kinds := PySem.W.mg_of X G a_q_other_kinds
    F_q_other_kinds := fun_mk (st := s_q_other_kinds) l_q_other_kinds c_q_other_kinds k_q_other_kinds
    a_law := fa
    fd_law := _
    F_law := fun_mk (st := s_law) l_law c_law k_law
    C := C
    g_Ratio := PySem.W.mg_of X G uR
    g_gcd := PySem.W.mg_of X G uG
    cl := ⟨pg, hd, po, sa⟩
    nT := nT
    nB := nB
    nF := nF
    a_Ratio___init__ := fI
    fd_Ratio___init__ := _
    F_Ratio___init__ := ⟨⟨_, _, .ref aD, _, _, _, _, _, _, _, rfl, l_init, c_init, .inr ⟨by simp, aD, _, [.int 1 tD], nD, rfl, lD, rfl, .cons ⟨tD, rfl⟩ .nil⟩, .inl rfl⟩, k_init⟩
    a_Ratio___lt__ := g_lt
    fd_Ratio___lt__ := _
    F_Ratio___lt__ := fun_mk (st := s_Ratio___lt__) l_mlt c_mlt k_mlt
    a_Ratio___le__ := g_le
    fd_Ratio___le__ := _
    F_Ratio___le__ := fun_mk (st := s_Ratio___le__) l_mle c_mle k_mle
    a_Ratio___gt__ := g_gt
    fd_Ratio___gt__ := _
    F_Ratio___gt__ := fun_mk (st := s_Ratio___gt__) l_mgt c_mgt k_mgt
    a_Ratio___ge__ := g_ge
    fd_Ratio___ge__ := _
    F_Ratio___ge__ := fun_mk (st := s_Ratio___ge__) l_mge c_mge k_mge
    a_Ratio___eq__ := g_eq
    fd_Ratio___eq__ := _
    F_Ratio___eq__ := fun_mk (st := s_Ratio___eq__) l_meq c_meq k_meq
    a_Ratio___ne__ := g_ne
    fd_Ratio___ne__ := _
    F_Ratio___ne__ := fun_mk (st := s_Ratio___ne__) l_mne c_mne k_mne
    mkR := ⟨mk, ii, fn, kC⟩
    o_lt := o_lt
    f_lt := f_lt
    o_le := o_le
    f_le := f_le
    o_gt := o_gt
    f_gt := f_gt
    o_ge := o_ge
    f_ge := f_ge
    o_eq := o_eq
    f_eq := f_eq
    o_ne := o_ne
    f_ne := f_ne
    ha := ha
    hn := hn
    ht := ht
    hm := hm
    kCC := kCC
    kCI := kCI
    sT := fun U => match U with | .int => vs_int | .bl => vs_bl | .non => vs_non | .str => vs_str | .lst => vs_lst | .tup => vs_tup | .dct => vs_dct
    sC := fun U => match U with | .int => vc_int | .bl => vc_bl | .non => vc_non | .str => vc_str | .lst => vc_lst | .tup => vc_tup | .dct => vc_dct
    kT := fun U => match U with | .int => vk_int | .bl => vk_bl | .non => vk_non | .str => vk_str | .lst => vk_lst | .tup => vk_tup | .dct => vk_dct
  }
  exact ⟨T.fd_law, fun s v => .of_eq rfl, fun base _ _ => ok_law T⟩
end K03
open PySem PySem.W PyProof.Rows
set_option maxHeartbeats 0 in
theorem PySem.Challenge.cw_drawclaims_k03_order_of_ratios_holds : PySem.Challenge.rw_drawclaims_k03_order_of_ratios.Holds := by
  w_on; o_law; k_head; (case hw => w_witness2)
  k_fill
  refine GX.walkG (l := PySem.Challenge.rw_drawclaims_k03_order_of_ratios) (n := 63) (k := 9) (x := "_law_script") (CX := fun _ => L2.CX0) (sp := fun w => K03.spLaw _) rfl (by decide) rfl ⟨rfl, by decide, by decide⟩ (fun w h Y => PySem.W.kIn_of Y) ?F (fun _ _ a ns hl _ hS => ⟨a, ns, rfl, hS, hl, fun _ => rfl⟩) (fun _ _ _ _ _ h => h)
  case F =>
    intro w mg fa h KX G hmg
    refine' K03.all_mk KX G hmg ?a_is_integer ?l_is_integer ?c_is_integer ?k_is_integer ?a_is_number ?l_is_number ?c_is_number ?k_is_number ?a__top_of ?l__top_of ?c__top_of ?k__top_of ?a__bottom_of ?l__bottom_of ?c__bottom_of ?k__bottom_of ?a__lead ?l__lead ?c__lead ?k__lead ?a_q_purse ?l_q_purse ?c_q_purse ?k_q_purse ?a_q_draw ?l_q_draw ?c_q_draw ?k_q_draw ?a_q_great ?l_q_great ?c_q_great ?k_q_great ?a_q_integer ?l_q_integer ?c_q_integer ?k_q_integer ?a_q_told ?l_q_told ?c_q_told ?k_q_told ?a_q_due ?l_q_due ?c_q_due ?k_q_due ?a_q_second ?l_q_second ?c_q_second ?k_q_second ?a_q_right ?l_q_right ?c_q_right ?k_q_right ?a_q_other_kinds ?l_q_other_kinds ?c_q_other_kinds ?k_q_other_kinds ?a_law ?l_law ?c_law ?k_law ?y_isinstance ?y_int ?y_bool ?y_str ?y_len ?y_range ?y_abs ?y_divmod ?y_repr ?y_max ?y_min ?uR ?uG ?pg ?hd ?po ?sa ?nT ?nB ?nF ?mk ?ii ?fn ?kC ?l_init ?c_init ?k_init ?lD ?o_lt ?f_lt ?l_mlt ?c_mlt ?k_mlt ?o_le ?f_le ?l_mle ?c_mle ?k_mle ?o_gt ?f_gt ?l_mgt ?c_mgt ?k_mgt ?o_ge ?f_ge ?l_mge ?c_mge ?k_mge ?o_eq ?f_eq ?l_meq ?c_meq ?k_meq ?o_ne ?f_ne ?l_mne ?c_mne ?k_mne ?ha ?hn ?ht ?hm ?kCC ?kCI ?vs_int ?vc_int ?vk_int ?vs_bl ?vc_bl ?vk_bl ?vs_non ?vc_non ?vk_non ?vs_str ?vc_str ?vk_str ?vs_lst ?vc_lst ?vk_lst ?vs_tup ?vc_tup ?vk_tup ?vs_dct ?vc_dct ?vk_dct
    (case a_is_integer => k_is)
    (case l_is_integer => k_is)
    (case c_is_integer => k_is)
    (case k_is_integer => k_is)
    (case a_is_number => k_is)
    (case l_is_number => k_is)
    (case c_is_number => k_is)
    (case k_is_number => k_is)
    (case a__top_of => k_is)
    (case l__top_of => k_is)
    (case c__top_of => k_is)
    (case k__top_of => k_is)
    (case a__bottom_of => k_is)
    (case l__bottom_of => k_is)
    (case c__bottom_of => k_is)
    (case k__bottom_of => k_is)
    (case a__lead => k_is)
    (case l__lead => k_is)
    (case c__lead => k_is)
    (case k__lead => k_is)
    (case a_q_purse => k_is)
    (case l_q_purse => k_is)
    (case c_q_purse => k_is)
    (case k_q_purse => k_is)
    (case a_q_draw => k_is)
    (case l_q_draw => k_is)
    (case c_q_draw => k_is)
    (case k_q_draw => k_is)
    (case a_q_great => k_is)
    (case l_q_great => k_is)
    (case c_q_great => k_is)
    (case k_q_great => k_is)
    (case a_q_integer => k_is)
    (case l_q_integer => k_is)
    (case c_q_integer => k_is)
    (case k_q_integer => k_is)
    (case a_q_told => k_is)
    (case l_q_told => k_is)
    (case c_q_told => k_is)
    (case k_q_told => k_is)
    (case a_q_due => k_is)
    (case l_q_due => k_is)
    (case c_q_due => k_is)
    (case k_q_due => k_is)
    (case a_q_second => k_is)
    (case l_q_second => k_is)
    (case c_q_second => k_is)
    (case k_q_second => k_is)
    (case a_q_right => k_is)
    (case l_q_right => k_is)
    (case c_q_right => k_is)
    (case k_q_right => k_is)
    (case a_q_other_kinds => k_is)
    (case l_q_other_kinds => k_is)
    (case c_q_other_kinds => k_is)
    (case k_q_other_kinds => k_is)
    (case a_law => k_is)
    (case l_law => k_is)
    (case c_law => k_is)
    (case k_law => k_is)
    (case y_isinstance => k_is)
    (case y_int => k_is)
    (case y_bool => k_is)
    (case y_str => k_is)
    (case y_len => k_is)
    (case y_range => k_is)
    (case y_abs => k_is)
    (case y_divmod => k_is)
    (case y_repr => k_is)
    (case y_max => k_is)
    (case y_min => k_is)
    (case uR => k_is)
    (case uG => k_is)
    (case pg => k_is)
    (case hd => k_is)
    (case po => k_is)
    (case sa => k_is)
    (case nT => k_is)
    (case nB => k_is)
    (case nF => k_is)
    (case mk => k_is)
    (case ii => k_is)
    (case fn => k_is)
    (case kC => k_is)
    (case l_init => k_is)
    (case c_init => k_is)
    (case k_init => k_is)
    (case lD => k_is)
    (case o_lt => k_is)
    (case f_lt => k_is)
    (case l_mlt => k_is)
    (case c_mlt => k_is)
    (case k_mlt => k_is)
    (case o_le => k_is)
    (case f_le => k_is)
    (case l_mle => k_is)
    (case c_mle => k_is)
    (case k_mle => k_is)
    (case o_gt => k_is)
    (case f_gt => k_is)
    (case l_mgt => k_is)
    (case c_mgt => k_is)
    (case k_mgt => k_is)
    (case o_ge => k_is)
    (case f_ge => k_is)
    (case l_mge => k_is)
    (case c_mge => k_is)
    (case k_mge => k_is)
    (case o_eq => k_is)
    (case f_eq => k_is)
    (case l_meq => k_is)
    (case c_meq => k_is)
    (case k_meq => k_is)
    (case o_ne => k_is)
    (case f_ne => k_is)
    (case l_mne => k_is)
    (case c_mne => k_is)
    (case k_mne => k_is)
    (case ha => k_is)
    (case hn => k_is)
    (case ht => k_is)
    (case hm => k_is)
    (case kCC => first | rfl | k_is)
    (case kCI => first | rfl | k_is)
    (case vs_int => first | rfl | k_is)
    (case vc_int => first | rfl | k_is)
    (case vk_int => first | rfl | k_is)
    (case vs_bl => first | rfl | k_is)
    (case vc_bl => first | rfl | k_is)
    (case vk_bl => first | rfl | k_is)
    (case vs_non => first | rfl | k_is)
    (case vc_non => first | rfl | k_is)
    (case vk_non => first | rfl | k_is)
    (case vs_str => first | rfl | k_is)
    (case vc_str => first | rfl | k_is)
    (case vk_str => first | rfl | k_is)
    (case vs_lst => first | rfl | k_is)
    (case vc_lst => first | rfl | k_is)
    (case vk_lst => first | rfl | k_is)
    (case vs_tup => first | rfl | k_is)
    (case vc_tup => first | rfl | k_is)
    (case vk_tup => first | rfl | k_is)
    (case vs_dct => first | rfl | k_is)
    (case vc_dct => first | rfl | k_is)
    (case vk_dct => first | rfl | k_is)
